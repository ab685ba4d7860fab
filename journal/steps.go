package journal

import "nostro/api"

// through goes through steps till one fails, and tells its error.
func through(steps ...func() api.Errno) api.Errno {
	for _, step := range steps {
		if err := step(); err != api.OK {
			return err
		}
	}
	return api.OK
}
