package notary

import "notary/api"

// asking is how a source is asked for a server's document.
type asking func(source, server string) (string, error)

// answering is an asking to which the sources answer out of replies.
func answering(replies []api.Reply) asking {
	return func(source, server string) (string, error) {
		for _, reply := range replies {
			if reply.Source != source || reply.Server != server {
				continue
			}
			if reply.Fails {
				return "", errFails
			}
			return reply.Text, nil
		}
		return "", errFails
	}
}

// fetch asks for a server, one source behind the other, till enough says that what is known by now will do. It tells how many times a source was asked.
func (n *Notary) fetch(server string, now int64, ask asking, enough func() bool) int {
	if n.known.isTooSoon(server, now) {
		return 0
	}
	asked := 0
	for _, source := range n.sourcesFor(server) {
		asked++
		if err := n.learnFrom(source, server, now, ask); err == nil && enough() {
			return asked
		}
	}
	n.known.askedInVain(server, now)
	return asked
}

// sourcesFor begins with the server itself, which is then not asked again.
func (n *Notary) sourcesFor(server string) []string {
	sources := []string{server}
	for _, source := range n.sources {
		if source != server {
			sources = append(sources, source)
		}
	}
	return sources
}

// learnFrom takes in what a source tells of the server that it was asked for, and of no other.
func (n *Notary) learnFrom(source, server string, now int64, ask asking) error {
	text, err := ask(source, server)
	if err != nil {
		return err
	}
	document, err := readDocument(text)
	if err != nil {
		return err
	}
	if document.Server != server {
		return &documentFault{&memberFault{"server_name", errOther}}
	}
	return n.known.takeIn(document, text, now)
}
