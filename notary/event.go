package notary

import (
	"slices"

	"notary/value"
)

// signature is a string that stands in an event under the name of a key.
type signature struct{ id, text string }

// claim is what an event says of one server: that it has signed the message at ts, and the strings that it shows for it.
type claim struct {
	server     string
	ts         int64
	message    string
	signatures []signature
}

// readEvent tells what an event claims, in the order in which it is to be checked.
func readEvent(text string) ([]claim, error) {
	object, err := readObject(text)
	if err != nil {
		return nil, err
	}
	claims, err := claimsOf(object)
	if err != nil {
		return nil, &eventFault{err}
	}
	return claims, nil
}

func claimsOf(object value.Object) ([]claim, error) {
	servers, err := signersOf(object)
	if err != nil {
		return nil, err
	}
	ts, err := momentUnder(object, "ts")
	if err != nil {
		return nil, err
	}
	message := messageOf(object)
	var claims []claim
	for _, server := range servers {
		claims = append(claims, claim{server, ts, message, signaturesOf(object, server)})
	}
	return claims, nil
}

// signersOf are the servers that must have signed; one that is both origin and sender signs once.
func signersOf(object value.Object) ([]string, error) {
	origin, err := nameUnder(object, "origin")
	if err != nil {
		return nil, err
	}
	if _, there := object["sender"]; !there {
		return []string{origin}, nil
	}
	sender, err := nameUnder(object, "sender")
	if err != nil {
		return nil, err
	}
	return slices.Compact([]string{origin, sender}), nil
}

// signaturesOf passes over what is no string. The names are not held to a name's length: one that no document can bring is never known.
func signaturesOf(object value.Object, server string) []signature {
	var signatures []signature
	for id, v := range object.Child("signatures").Child(server).Members() {
		if text, ok := v.(value.String); ok {
			signatures = append(signatures, signature{id, string(text)})
		}
	}
	return signatures
}
