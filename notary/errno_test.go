package notary

import (
	"errors"
	"testing"

	"notary/api"
	"notary/value"
)

// wrapped is an error with another one behind it, as later layers may lay one around these.
type wrapped struct{ cause error }

func (w wrapped) Error() string { return "wrapped: " + w.cause.Error() }
func (w wrapped) Unwrap() error { return w.cause }

func TestErrnoFindsWhatIsWrapped(t *testing.T) {
	_, fault := value.Parse("[")
	for _, c := range []struct {
		err  error
		want api.Errno
	}{{errLong, api.ErrLong}, {fault, api.ErrJSON}, {&value.Fault{Cause: errors.New("x")}, api.ErrJSON}, {errObject, api.ErrObject}, {&documentFault{errKind}, api.ErrDocument}, {errSignature, api.ErrSignature}, {&memberFault{"a", errSignature}, api.ErrSignature}, {errConflict, api.ErrConflict}, {&memberFault{"a", errConflict}, api.ErrConflict}, {errUnknown, api.ErrUnknown}, {&eventFault{&memberFault{"ts", errBelow}}, api.ErrEvent}, {&serverFault{"s", errSignature}, api.ErrSignature}, {&serverFault{"s", errUnknown}, api.ErrUnknown}} {
		if got := errno(c.err); got != c.want {
			t.Errorf("errno(%v) = %d, want %d", c.err, got, c.want)
		}
		if got := errno(wrapped{c.err}); got != c.want {
			t.Errorf("errno of %v, wrapped = %d, want %d", c.err, got, c.want)
		}
	}
	if got := errno(nil); got != api.OK {
		t.Errorf("errno(nil) = %d", got)
	}
}

func TestOutcomeTellsTheServer(t *testing.T) {
	for _, c := range []struct {
		err  error
		want api.Outcome
	}{{nil, api.Outcome{}}, {errLong, api.Outcome{Code: api.ErrLong}}, {&eventFault{errName}, api.Outcome{Code: api.ErrEvent}}, {&serverFault{"s", errUnknown}, api.Outcome{Code: api.ErrUnknown, Server: "s"}}, {wrapped{&serverFault{"t", wrapped{errSignature}}}, api.Outcome{Code: api.ErrSignature, Server: "t"}}} {
		if got := outcome(c.err); got != c.want {
			t.Errorf("outcome(%v) = %+v, want %+v", c.err, got, c.want)
		}
	}
}

func TestReadingTellsWhy(t *testing.T) {
	for _, c := range []struct {
		old, now string
		why      error
		tells    string
	}{
		{`"s"`, "1", errKind, "no document of keys: server_name: not there, or of another kind"},
		{`"s"`, `""`, errName, "no document of keys: server_name: no name"},
		{":5", ":-5", errBelow, "no document of keys: valid_until_ts: a number below 0"},
		{`"a":{"key":"K"}`, "", errCount, "no document of keys: verify_keys: too few or too many members"},
		{`"b"`, `""`, errName, "no document of keys: old_verify_keys: no name"},
		{`"b"`, `"a"`, errBoth, "no document of keys: a: a name in both lists of keys"},
		{":3", ":null", errKind, "no document of keys: b: expired_ts: not there, or of another kind"},
		{":5", ":6", errSignature, "a: a signature is missing or wrong"},
	} {
		_, err := readDocument(changed(t, c.old, c.now))
		if !errors.Is(err, c.why) || err.Error() != c.tells {
			t.Errorf("%q: %v, want %q", c.now, err, c.tells)
		}
	}
}

func TestLearningTellsWhy(t *testing.T) {
	k := newKnown()
	document, err := readDocument(exampleDocument)
	if err != nil || k.takeIn(document, exampleDocument, 0) != nil {
		t.Fatalf("the example is not taken in: %v", err)
	}
	document.Keys[1].Key = "X"
	if err := k.takeIn(document, "other", 0); !errors.Is(err, errConflict) || err.Error() != "k1: the name is known with another key" {
		t.Errorf("%v", err)
	}
	if text, err := k.lastDocument("t"); !errors.Is(err, errUnknown) || text != "" {
		t.Errorf("%q, %v", text, err)
	}
}
