package gint

import "tessel/api"

// Quotient lets the tests ask what Xgcd takes for q of RoundDiv.
func Quotient(a, b api.G) api.G { return quotient(a, b) }
