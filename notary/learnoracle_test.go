package notary

import (
	"math"
	"math/big"
	"math/rand/v2"
	"testing"

	"notary/api"
)

// learned is a document that was taken in, and when.
type learned struct {
	text     string
	document api.Document
	now      int64
}

// history tells what a notary must know, by going through all that it has taken in.
type history []learned

func (h *history) learn(text string, now int64) api.Errno {
	document, e := oracleRead(text)
	if e != api.OK {
		return e
	}
	for _, key := range document.Keys {
		for _, before := range h.keys(document.Server, key.ID) {
			if before.Key != key.Key {
				return api.ErrConflict
			}
		}
	}
	*h = append(*h, learned{text, document, now})
	return api.OK
}

// keys are all keys that came under that name, each with the bound of its document.
func (h history) keys(server, id string) []api.Key {
	var keys []api.Key
	for _, one := range h {
		for _, key := range one.document.Keys {
			if one.document.Server != server || key.ID != id {
				continue
			}
			bound := new(big.Int).Add(big.NewInt(one.now), big.NewInt(1000))
			if !key.Old && bound.Cmp(big.NewInt(key.Till)) < 0 {
				key.Till = bound.Int64()
			}
			keys = append(keys, key)
		}
	}
	return keys
}

func (h history) key(server, id string, at int64) (string, bool) {
	for _, key := range h.keys(server, id) {
		if at <= key.Till {
			return key.Key, true
		}
	}
	return "", false
}

func (h history) answer(server, name, id, key string) (string, api.Errno) {
	for i := len(h) - 1; i >= 0; i-- {
		if h[i].document.Server == server {
			message, _ := Message(h[i].text)
			return Signed(h[i].text, name, id, Seal(key, message))
		}
	}
	return "", api.ErrUnknown
}

func randomMoment(random *rand.Rand) int64 {
	offset := random.Int64N(1100)
	switch random.IntN(6) {
	case 0:
		return math.MaxInt64 - offset
	case 1:
		return math.MinInt64 + offset
	case 2:
		return api.MaxNumber - offset
	case 3:
		return -offset
	default:
		return offset
	}
}

// compare asks the notary for every key of every server that may be there, about the moments that matter.
func (h history) compare(t *testing.T, n *Notary, random *rand.Rand) {
	t.Helper()
	names := []string{"a", "b", "c", "d", "B", "é", "k1", "k10", "k2", "twenty bytes of name", "", "none"}
	server := names[random.IntN(len(names))]
	for _, id := range names {
		moments := []int64{randomMoment(random)}
		for _, key := range h.keys(server, id) {
			moments = append(moments, key.Till-1, key.Till, key.Till+1)
		}
		for _, at := range moments {
			want, there := h.key(server, id, at)
			if got, ok := n.Key(server, id, at); got != want || ok != there {
				t.Fatalf("Key(%q, %q, %d) = %q, %v, want %q, %v", server, id, at, got, ok, want, there)
			}
		}
	}
	want, code := h.answer(server, "a", "k1", "secret")
	if got, e := n.Answer(server); got != want || e != code {
		t.Fatalf("Answer(%q) = %q, %d, want %q, %d", server, got, e, want, code)
	}
}

func TestRandomLearningAsTheHistoryTells(t *testing.T) {
	t.Parallel()
	random := rand.New(rand.NewPCG(7, 8))
	var codes [9]int
	for range 300 {
		n := New("a", "k1", "secret", nil)
		var h history
		for range 40 {
			made := documents{random, []int{0, 0, 3}[random.IntN(3)]}
			text, now := made.signed(made.plain()), randomMoment(random)
			want := h.learn(text, now)
			if got := n.Learn(text, now); got != want {
				t.Fatalf("Learn(%q, %d) = %d, want %d", text, now, got, want)
			}
			codes[want]++
			h.compare(t, n, random)
		}
	}
	for e, least := range map[api.Errno]int{api.OK: 3000, api.ErrConflict: 1000, api.ErrDocument: 500, api.ErrSignature: 50} {
		if codes[e] < least {
			t.Errorf("%d of the texts answer %d, too few to tell: %v", codes[e], e, codes)
		}
	}
}
