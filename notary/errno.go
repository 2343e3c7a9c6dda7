package notary

import (
	"errors"

	"notary/api"
	"notary/value"
)

var (
	errLong      = errors.New("the text is too long")
	errObject    = errors.New("the value is no object")
	errSignature = errors.New("a signature is missing or wrong")
	errConflict  = errors.New("the name is known with another key")
	errUnknown   = errors.New("what is asked for is not known")

	errKind  = errors.New("not there, or of another kind")
	errName  = errors.New("no name")
	errBelow = errors.New("a number below 0")
	errCount = errors.New("too few or too many members")
	errBoth  = errors.New("a name in both lists of keys")
	errOther = errors.New("of another server")

	errFails = errors.New("the source fails")
)

// memberFault says of which member something is wrong.
type memberFault struct {
	member string
	cause  error
}

func (f *memberFault) Error() string { return f.member + ": " + f.cause.Error() }

func (f *memberFault) Unwrap() error { return f.cause }

// documentFault says that an object is no document of keys, and why.
type documentFault struct{ cause error }

func (f *documentFault) Error() string { return "no document of keys: " + f.cause.Error() }

func (f *documentFault) Unwrap() error { return f.cause }

// eventFault says that an object is no event, and why.
type eventFault struct{ cause error }

func (f *eventFault) Error() string { return "no event: " + f.cause.Error() }

func (f *eventFault) Unwrap() error { return f.cause }

// serverFault says with which server's part of an event something is wrong.
type serverFault struct {
	server string
	cause  error
}

func (f *serverFault) Error() string { return "the server " + f.server + ": " + f.cause.Error() }

func (f *serverFault) Unwrap() error { return f.cause }

// outcome tells the server too, where the fault is one server's.
func outcome(err error) api.Outcome {
	var fault *serverFault
	if errors.As(err, &fault) {
		return api.Outcome{Code: errno(err), Server: fault.server}
	}
	return api.Outcome{Code: errno(err)}
}

// errno is the one place where an error of the inside becomes a number.
func errno(err error) api.Errno {
	var fault *value.Fault
	var noDocument *documentFault
	var noEvent *eventFault
	switch {
	case err == nil:
		return api.OK
	case errors.Is(err, errLong):
		return api.ErrLong
	case errors.As(err, &fault):
		return api.ErrJSON
	case errors.Is(err, errObject):
		return api.ErrObject
	case errors.As(err, &noDocument):
		return api.ErrDocument
	case errors.Is(err, errConflict):
		return api.ErrConflict
	case errors.As(err, &noEvent):
		return api.ErrEvent
	case errors.Is(err, errUnknown):
		return api.ErrUnknown
	default:
		return api.ErrSignature
	}
}
