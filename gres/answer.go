package gres

import "tessel/api"

// answer tells what made tells, or the error that is thrown within it.
func answer[A any](made func() A) (told A, e api.Errno) {
	defer func() {
		if thrown := recover(); thrown != nil {
			// Only errors are thrown: whatever else comes here is a fault of the program, which this doesn't hide.
			e = thrown.(api.Errno)
		}
	}()
	return made(), api.OK
}
