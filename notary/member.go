package notary

import (
	"notary/api"
	"notary/value"
)

// isName tells whether a text can name a server or a key; bytes are counted, not runes.
func isName(text string) bool {
	return 1 <= len(text) && len(text) <= api.MaxName
}

func textUnder(object value.Object, member string) (string, error) {
	if text, ok := object[member].(value.String); ok {
		return string(text), nil
	}
	return "", &memberFault{member, errKind}
}

func nameUnder(object value.Object, member string) (string, error) {
	text, err := textUnder(object, member)
	if err != nil {
		return "", err
	}
	if !isName(text) {
		return "", &memberFault{member, errName}
	}
	return text, nil
}

func momentUnder(object value.Object, member string) (int64, error) {
	number, ok := object[member].(value.Number)
	if !ok {
		return 0, &memberFault{member, errKind}
	}
	if number < 0 {
		return 0, &memberFault{member, errBelow}
	}
	return int64(number), nil
}

func objectUnder(object value.Object, member string) (value.Object, error) {
	if child, ok := object[member].(value.Object); ok {
		return child, nil
	}
	return nil, &memberFault{member, errKind}
}
