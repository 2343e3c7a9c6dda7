package notary

import (
	"math"
	"sync"

	"notary/api"
)

// knownKey is a key and the last moment at which it may have signed.
type knownKey struct {
	key  string
	till int64
}

// knownServer is what is known of one server. Its last document stays a text: it is handed on as it came, not as it was understood.
type knownServer struct {
	keys map[string]knownKey
	last string
}

// known is what is known of all servers, by their names. In vain: the last moment at which a server was asked for without success.
// The lock is there for servers that are asked for at once: they share the maps, though each has a place of its own in them.
type known struct {
	lock    sync.Mutex
	servers map[string]*knownServer
	inVain  map[string]int64
}

func newKnown() *known {
	return &known{servers: map[string]*knownServer{}, inVain: map[string]int64{}}
}

// takeIn takes a document in whole, or nothing of it; text is what it was read from.
func (k *known) takeIn(document api.Document, text string, now int64) error {
	k.lock.Lock()
	defer k.lock.Unlock()
	server, there := k.servers[document.Server]
	if !there {
		server = &knownServer{keys: map[string]knownKey{}}
	}
	if err := server.checkConflict(document.Keys); err != nil {
		return err
	}
	for _, key := range document.Keys {
		server.trust(key, lastMoment(key, now))
	}
	server.last = text
	k.servers[document.Server] = server
	return nil
}

// keyAt is the key of that name, if it may have signed at that moment.
func (k *known) keyAt(server, id string, at int64) (string, bool) {
	k.lock.Lock()
	defer k.lock.Unlock()
	s, there := k.servers[server]
	if !there {
		return "", false
	}
	key, there := s.keys[id]
	if !there || at > key.till {
		return "", false
	}
	return key.key, true
}

func (k *known) lastDocument(server string) (string, error) {
	k.lock.Lock()
	defer k.lock.Unlock()
	s, there := k.servers[server]
	if !there {
		return "", errUnknown
	}
	return s.last, nil
}

// wants tells whether a claim shows strings, but none under a key that may have signed at its moment. It locks for one key after the other: what is known of a key is never taken back.
func (k *known) wants(c claim) bool {
	for _, s := range c.signatures {
		if _, ok := k.keyAt(c.server, s.id, c.ts); ok {
			return false
		}
	}
	return len(c.signatures) > 0
}

// check is satisfied by one right string, whatever stands beside it.
func (k *known) check(c claim) error {
	if k.wants(c) {
		return &serverFault{c.server, errUnknown}
	}
	for _, s := range c.signatures {
		if key, ok := k.keyAt(c.server, s.id, c.ts); ok && s.text == Seal(key, c.message) {
			return nil
		}
	}
	return &serverFault{c.server, errSignature}
}

// askedInVain may forget the moment before: the server is asked for only when that one is long past, so that the new one is later.
func (k *known) askedInVain(server string, now int64) {
	k.lock.Lock()
	defer k.lock.Unlock()
	k.inVain[server] = now
}

// isTooSoon counts what has passed without a sign: between the ends of int64 lies more than an int64 holds.
func (k *known) isTooSoon(server string, now int64) bool {
	k.lock.Lock()
	defer k.lock.Unlock()
	moment, there := k.inVain[server]
	return there && (moment > now || uint64(now)-uint64(moment) < api.Wait)
}

// checkConflict holds a key's name to its first key for good: also when that key may sign no more.
func (s *knownServer) checkConflict(keys []api.Key) error {
	for _, key := range keys {
		if before, there := s.keys[key.ID]; there && before.key != key.Key {
			return &memberFault{key.ID, errConflict}
		}
	}
	return nil
}

func (s *knownServer) trust(key api.Key, till int64) {
	if before, there := s.keys[key.ID]; there {
		till = max(till, before.till)
	}
	s.keys[key.ID] = knownKey{key: key.Key, till: till}
}

// lastMoment is how long a document that is learned at now makes a key trusted. An old key's end is settled, so that no bound is needed.
func lastMoment(key api.Key, now int64) int64 {
	if key.Old {
		return key.Till
	}
	return min(key.Till, trustedTill(now))
}

func trustedTill(now int64) int64 {
	if now > math.MaxInt64-api.Trust {
		return math.MaxInt64
	}
	return now + api.Trust
}
