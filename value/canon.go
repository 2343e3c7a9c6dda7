package value

import "strconv"

// Canon is the canonical JSON of a value.
func Canon(v Value) string {
	return string(appendValue(nil, v))
}

func appendValue(out []byte, v Value) []byte {
	switch v := v.(type) {
	case Null:
		out = append(out, "null"...)
	case Bool:
		out = strconv.AppendBool(out, bool(v))
	case Number:
		out = strconv.AppendInt(out, int64(v), 10)
	case String:
		out = appendString(out, string(v))
	case Array:
		out = appendArray(out, v)
	case Object:
		out = appendObject(out, v)
	}
	return out
}

func appendArray(out []byte, array Array) []byte {
	out = append(out, '[')
	for i, v := range array {
		if i > 0 {
			out = append(out, ',')
		}
		out = appendValue(out, v)
	}
	return append(out, ']')
}

func appendObject(out []byte, object Object) []byte {
	out = append(out, '{')
	first := true
	for key, v := range object.Members() {
		if !first {
			out = append(out, ',')
		}
		first = false
		out = appendString(out, key)
		out = append(out, ':')
		out = appendValue(out, v)
	}
	return append(out, '}')
}

func appendString(out []byte, text string) []byte {
	out = append(out, '"')
	for _, b := range []byte(text) {
		switch {
		case b == '"' || b == '\\':
			out = append(out, '\\', b)
		case b < 0x20:
			out = appendControl(out, b)
		default:
			out = append(out, b)
		}
	}
	return append(out, '"')
}

func appendControl(out []byte, b byte) []byte {
	switch b {
	case '\b':
		return append(out, `\b`...)
	case '\f':
		return append(out, `\f`...)
	case '\n':
		return append(out, `\n`...)
	case '\r':
		return append(out, `\r`...)
	case '\t':
		return append(out, `\t`...)
	}
	const hex = "0123456789abcdef"
	return append(out, '\\', 'u', '0', '0', hex[b>>4], hex[b&15])
}
