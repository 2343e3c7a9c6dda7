package notary

import (
	"errors"

	"notary/api"
	"notary/value"
)

var (
	errLong   = errors.New("the text is too long")
	errObject = errors.New("the value is no object")
)

// errno is the one place where an error of the inside becomes a number.
func errno(err error) api.Errno {
	var fault *value.Fault
	switch {
	case err == nil:
		return api.OK
	case errors.Is(err, errLong):
		return api.ErrLong
	case errors.As(err, &fault):
		return api.ErrJSON
	default:
		return api.ErrObject
	}
}
