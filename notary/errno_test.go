package notary

import (
	"errors"
	"testing"

	"notary/api"
	"notary/value"
)

// wrapped is an error with another one behind it, as later layers may lay one around these.
type wrapped struct{ cause error }

func (w wrapped) Error() string { return "wrapped: " + w.cause.Error() }
func (w wrapped) Unwrap() error { return w.cause }

func TestErrnoFindsWhatIsWrapped(t *testing.T) {
	_, fault := value.Parse("[")
	for _, c := range []struct {
		err  error
		want api.Errno
	}{{errLong, api.ErrLong}, {fault, api.ErrJSON}, {&value.Fault{Cause: errors.New("x")}, api.ErrJSON}, {errObject, api.ErrObject}} {
		if got := errno(c.err); got != c.want {
			t.Errorf("errno(%v) = %d, want %d", c.err, got, c.want)
		}
		if got := errno(wrapped{c.err}); got != c.want {
			t.Errorf("errno of %v, wrapped = %d, want %d", c.err, got, c.want)
		}
	}
	if got := errno(nil); got != api.OK {
		t.Errorf("errno(nil) = %d", got)
	}
}
