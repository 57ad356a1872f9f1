package settle

import "farebox/api"

// caught is a call's edge: what the call works out, or the error by which that was given up.
func caught[T any](work func() T) (answer T, e api.Errno) {
	defer func() {
		if told, is := recover().(api.Errno); is {
			e = told
		}
	}()
	return work(), api.OK
}

// giveUpIf gives a call up by an error, to be caught at its edge.
func giveUpIf(is bool, e api.Errno) {
	if is {
		panic(e)
	}
}

// look gives it up by an error that another call told.
func look(e api.Errno) { giveUpIf(e != api.OK, e) }

// must is an answer that there is only without an error.
func must[T any](answer T, e api.Errno) T {
	look(e)
	return answer
}
