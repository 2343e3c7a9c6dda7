// Package notary: a notary of servers' keys: see DOC.md.
package notary

import (
	"notary/api"
	"notary/value"
)

// Canon writes a text as canonical JSON (P3).
func Canon(text string) (string, api.Errno) {
	v, err := readValue(text)
	if err != nil {
		return "", errno(err)
	}
	return value.Canon(v), api.OK
}

// Message is what is signed of an object (P4).
func Message(text string) (string, api.Errno) {
	object, err := readObject(text)
	if err != nil {
		return "", errno(err)
	}
	return messageOf(object), api.OK
}

// Signed puts a signature into an object (P5).
func Signed(text string, server string, id string, sig string) (string, api.Errno) {
	object, err := readObject(text)
	if err != nil {
		return "", errno(err)
	}
	object, err = withSignature(object, server, id, sig)
	if err != nil {
		return "", errno(err)
	}
	return value.Canon(object), api.OK
}

// Seal is the signature of a message by a key (P6).
func Seal(key string, message string) string {
	sum := mix(2166136261, key)
	sum = mix(sum, "\n")
	return hexDigits(mix(sum, message))
}

func readValue(text string) (value.Value, error) {
	if len(text) > api.MaxText {
		return nil, errLong
	}
	return value.Parse(text)
}

func readObject(text string) (value.Object, error) {
	v, err := readValue(text)
	if err != nil {
		return nil, err
	}
	if object, ok := v.(value.Object); ok {
		return object, nil
	}
	return nil, errObject
}

func messageOf(object value.Object) string {
	return value.Canon(object.Without("signatures", "unsigned"))
}

func withSignature(object value.Object, server, id, sig string) (value.Object, error) {
	for _, text := range []string{server, id, sig} {
		if err := value.CheckUTF8(text); err != nil {
			return nil, err
		}
	}
	signatures := object.Child("signatures")
	own := signatures.Child(server).With(id, value.String(sig))
	return object.With("signatures", signatures.With(server, own)), nil
}

func mix(sum uint32, text string) uint32 {
	for _, b := range []byte(text) {
		sum = (sum ^ uint32(b)) * 16777619
	}
	return sum
}

func hexDigits(sum uint32) string {
	const digits = "0123456789abcdef"
	var out [8]byte
	for i := range out {
		// The highest four bits come first.
		out[i] = digits[sum>>28]
		sum <<= 4
	}
	return string(out[:])
}
