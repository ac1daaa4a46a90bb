package session

import (
	"vademecum/api"
	"vademecum/disk"
	"vademecum/journal"
	"vademecum/keep"
	"vademecum/past"
	"vademecum/sent"
	"vademecum/talk"
)

// load makes the session that a disk's log tells of. What of the log can't be done goes from it, so that what is said next lies behind what was done.
func load(call string, d *disk.Disk, fuel int) (*Session, error) {
	log, records, err := journal.Open(d)
	if err != nil {
		return nil, fault{call: call, why: err}
	}
	t, done := replay(fuel, records)
	if done < len(records) {
		err = log.Compact(records[:done])
	}
	if err != nil {
		return nil, fault{call: call, why: err}
	}
	return &Session{disk: d, fuel: fuel, talk: *t, log: *log}, nil
}

// replay does what a log's records tell, up to the first that can't be read or done, and tells how many were done.
func replay(fuel int, records []string) (*talk.Talk, int) {
	var l []api.Record
	for _, b := range records {
		r, err := keep.Read(b)
		if err != nil {
			break
		}
		l = append(l, r)
	}
	return keep.Replay(fuel, l)
}

// note puts into the log what it has to hold of a line that was accepted.
func (s *Session) note(line string) error {
	x, err := sent.Parse(line)
	switch {
	case err != nil:
		return err
	case x.Kind == api.SCommit:
		return s.commit()
	case talk.Keeps(x):
		return s.log.Add(keep.Bytes(api.Record{Kind: api.RSentence, Text: line}))
	}
	return nil
}

// commit makes all that the log holds last.
func (s *Session) commit() error {
	if err := s.log.Add(keep.Bytes(api.Record{Kind: api.RCommit})); err != nil {
		return err
	}
	return s.log.Sync()
}

// relog makes the log one that begins with the present state. Only what can be done as Recover will do it takes the place of what is there.
func (s *Session) relog(p *past.Past) error {
	records, err := based(p)
	if err != nil {
		return err
	}
	if _, done := replay(s.fuel, records); done < len(records) {
		return api.ErrFuel
	}
	return s.log.Compact(records)
}

// based are the records of a log that begins with the present state.
func based(p *past.Past) ([]string, error) {
	lines, ok := keep.Base(p.Now())
	if !ok {
		return nil, api.ErrOpen
	}
	if len(lines) == 0 {
		lines = []string{""} // the state's number has to be told all the same
	}
	var records []string
	for _, line := range lines {
		if len(line) > api.MaxLine {
			return nil, api.ErrLarge
		}
		records = append(records, keep.Bytes(api.Record{Kind: api.RBase, N: p.State(), Text: line}))
	}
	return append(records, keep.Bytes(api.Record{Kind: api.RCommit})), nil
}
