package notary

import (
	"slices"
	"strings"

	"notary/api"
	"notary/value"
)

// Read reads a document of keys (P7).
func Read(text string) (api.Document, api.Errno) {
	document, err := readDocument(text)
	if err != nil {
		return api.Document{}, errno(err)
	}
	return document, api.OK
}

func readDocument(text string) (api.Document, error) {
	object, err := readObject(text)
	if err != nil {
		return api.Document{}, err
	}
	document, err := documentOf(object)
	if err != nil {
		return api.Document{}, &documentFault{err}
	}
	if err := checkSignatures(object, document); err != nil {
		return api.Document{}, err
	}
	return document, nil
}

// documentOf takes the object at its word: the signatures are not looked at.
func documentOf(object value.Object) (api.Document, error) {
	server, err := nameUnder(object, "server_name")
	if err != nil {
		return api.Document{}, err
	}
	until, err := momentUnder(object, "valid_until_ts")
	if err != nil {
		return api.Document{}, err
	}
	inUse, err := keysInUse(object, until)
	if err != nil {
		return api.Document{}, err
	}
	old, err := oldKeys(object)
	if err != nil {
		return api.Document{}, err
	}
	keys, err := joinKeys(inUse, old)
	if err != nil {
		return api.Document{}, err
	}
	return api.Document{Server: server, Until: until, Keys: keys}, nil
}

func keysInUse(object value.Object, until int64) ([]api.Key, error) {
	keys, err := keysUnder(object, "verify_keys", func(id string, member value.Object) (api.Key, error) {
		key, err := textUnder(member, "key")
		return api.Key{ID: id, Key: key, Till: until}, err
	})
	if err != nil {
		return nil, err
	}
	if len(keys) < 1 || len(keys) > api.MaxKeys {
		return nil, &memberFault{"verify_keys", errCount}
	}
	return keys, nil
}

func oldKeys(object value.Object) ([]api.Key, error) {
	if _, there := object["old_verify_keys"]; !there {
		return nil, nil
	}
	return keysUnder(object, "old_verify_keys", func(id string, member value.Object) (api.Key, error) {
		key, err := textUnder(member, "key")
		if err != nil {
			return api.Key{}, err
		}
		till, err := momentUnder(member, "expired_ts")
		return api.Key{ID: id, Key: key, Old: true, Till: till}, err
	})
}

// keysUnder reads the list of keys that stands under name; one makes a key of its name and its object.
func keysUnder(object value.Object, name string, one func(string, value.Object) (api.Key, error)) ([]api.Key, error) {
	list, err := objectUnder(object, name)
	if err != nil {
		return nil, err
	}
	var keys []api.Key
	for id := range list.Members() {
		if !isName(id) {
			return nil, &memberFault{name, errName}
		}
		member, err := objectUnder(list, id)
		if err != nil {
			return nil, err
		}
		key, err := one(id, member)
		if err != nil {
			return nil, &memberFault{id, err}
		}
		keys = append(keys, key)
	}
	return keys, nil
}

// joinKeys puts both lists into one order; a name in both then stands beside itself.
func joinKeys(inUse, old []api.Key) ([]api.Key, error) {
	keys := slices.Concat(inUse, old)
	slices.SortFunc(keys, func(a, b api.Key) int { return strings.Compare(a.ID, b.ID) })
	for i := 1; i < len(keys); i++ {
		if keys[i].ID == keys[i-1].ID {
			return nil, &memberFault{keys[i].ID, errBoth}
		}
	}
	return keys, nil
}

// checkSignatures asks every key in use for its signature; old keys owe none.
func checkSignatures(object value.Object, document api.Document) error {
	message := messageOf(object)
	own := object.Child("signatures").Child(document.Server)
	for _, key := range document.Keys {
		if key.Old {
			continue
		}
		sig, err := textUnder(own, key.ID)
		if err != nil || sig != Seal(key.Key, message) {
			return &memberFault{key.ID, errSignature}
		}
	}
	return nil
}
