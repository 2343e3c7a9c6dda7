package notary

import (
	"slices"
	"sync"
)

// reading is what came of reading one of several events: its claims, or why it is none.
type reading struct {
	claims []claim
	err    error
}

func readEvents(events []string) []reading {
	readings := make([]reading, len(events))
	for i, event := range events {
		readings[i].claims, readings[i].err = readEvent(event)
	}
	return readings
}

// wanted are the claims that want their server, by its name. All are gathered ahead of the asking: what comes in for one event must not hide that another wanted it too.
func (n *Notary) wanted(readings []reading) map[string][]claim {
	wanted := map[string][]claim{}
	for _, r := range readings {
		for _, c := range r.claims {
			if n.known.wants(c) {
				wanted[c.server] = append(wanted[c.server], c)
			}
		}
	}
	return wanted
}

// fetchAll asks for all servers at once. That they come in no order is not to be seen: none learns of another, and the counts are summed. The channel holds all counts, so that no worker waits for the sum.
func (n *Notary) fetchAll(wanted map[string][]claim, now int64, ask asking) int {
	counts := make(chan int, len(wanted))
	var workers sync.WaitGroup
	for server, claims := range wanted {
		workers.Add(1)
		go func() {
			defer workers.Done()
			counts <- n.fetch(server, now, ask, func() bool { return !slices.ContainsFunc(claims, n.known.wants) })
		}()
	}
	workers.Wait()
	close(counts)
	asked := 0
	for count := range counts {
		asked += count
	}
	return asked
}

// checkAll tells the first thing that is wrong with an event, by what is known.
func (k *known) checkAll(r reading) error {
	if r.err != nil {
		return r.err
	}
	for _, c := range r.claims {
		if err := k.check(c); err != nil {
			return err
		}
	}
	return nil
}
