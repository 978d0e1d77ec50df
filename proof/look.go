package proof

import "tessel/api"

// Is tells where an answer isn't what is wanted, as it lies there: want is as it must be answered.
func Is[V any](t T, what string, got, want V) {
	t.Helper()
	if !Alike(got, want) {
		t.Errorf("%s: %v, want %v", what, got, want)
	}
}

// Taken tells where a call is refused, or doesn't answer what is wanted.
func Taken[V any](t T, what string, got V, e api.Errno, want V) {
	t.Helper()
	if e != api.OK || !Alike(got, want) {
		t.Errorf("%s: %v, error %d, want %v", what, got, e, want)
	}
}

// Refused tells where a call isn't refused as it should be, or answers something beside the error.
func Refused[V any](t T, what string, got V, e, want api.Errno) {
	t.Helper()
	if e != want || !isZero(got) {
		t.Errorf("%s: %v, error %d, want error %d", what, got, e, want)
	}
}

// Must tells the answer of a call that may not be refused.
func Must[V any](t T) func(a V, e api.Errno) V {
	return func(a V, e api.Errno) V {
		t.Helper()
		if e != api.OK {
			t.Errorf("refused with error %d", e)
		}
		return a
	}
}
