package wal

import (
	"slices"

	"turnstile/api"
	"turnstile/disk"
	"turnstile/segment"
)

// Open: the log on a disk: its records behind the number after; what stands behind the first fault is taken off. The most blocks of a segment; ErrArg, ErrGap, the disk's errors.
func Open(d *disk.Disk, after uint64, blocks int) (*Wal, [][]byte, error) {
	switch {
	case d == nil:
		return nil, nil, api.ErrNil
	case after > api.MaxLsn || blocks < 1 || blocks > api.MaxBlocks:
		return nil, nil, api.ErrArg
	}
	s := &start{disk: d, after: after}
	for _, step := range []func() error{s.find, s.openGood, s.leaveOlder, s.removeOthers, s.readyEnd, s.makeSafe} {
		if err := step(); err != nil {
			return nil, nil, err
		}
	}
	w := &Wal{disk: d, blocks: blocks, firsts: s.firsts, last: s.last()}
	w.safe = w.Next() - 1
	return w, s.records, nil
}

// start is what Open has of the log so far.
type start struct {
	disk    *disk.Disk
	after   uint64
	firsts  []uint64           // the numbers of the segments on the disk, rising
	good    []*segment.Segment // the first ones of these
	records [][]byte           // those of the good ones
}

func (s *start) last() *segment.Segment {
	return s.good[len(s.good)-1]
}

// find learns which segments there are; ErrGap.
func (s *start) find() error {
	names, err := s.disk.Names()
	if err != nil {
		return err
	}
	// The names are in order, and with them the numbers, which all have as many digits there.
	for _, name := range names {
		if first, ok := segment.First(name); ok {
			s.firsts = append(s.firsts, first)
		}
	}
	if len(s.firsts) > 0 && s.firsts[0] > s.after+1 {
		return api.ErrGap
	}
	return nil
}

// openGood opens the segments up to the first one that isn't good.
func (s *start) openGood() error {
search:
	for i, first := range s.firsts {
		switch {
		case i == 0: // nothing is ahead of it that it would have to follow
		case !s.last().Whole(), s.last().Next() != first:
			break search
		}
		one, records, err := segment.Open(s.disk, first)
		if err != nil {
			return err
		}
		s.good = append(s.good, one)
		s.records = append(s.records, records...)
	}
	return nil
}

// leaveOlder leaves the records that the caller has; if the log ends ahead of the last one of these, no segment is good any more.
func (s *start) leaveOlder() error {
	if len(s.good) == 0 {
		return nil
	}
	if s.last().Next() <= s.after {
		s.good, s.records = nil, nil
		return nil
	}
	s.records = slices.Delete(s.records, 0, int(s.after+1-s.firsts[0]))
	return nil
}

// removeOthers removes the segments that aren't good. The greatest number goes first, so that whenever the power goes the next start finds the same ones good; and it is safe ahead of a cut, behind which one of them might be good.
func (s *start) removeOthers() error {
	others := s.firsts[len(s.good):]
	if len(others) == 0 {
		return nil
	}
	for _, first := range slices.Backward(others) {
		if err := s.disk.Remove(segment.Name(first)); err != nil {
			return err
		}
	}
	s.firsts = s.firsts[:len(s.good)]
	return s.disk.SyncNames()
}

// readyEnd lets the log end with a segment that takes records: the last good one, cut, or a new one.
func (s *start) readyEnd() error {
	if len(s.good) > 0 {
		return s.last().Cut()
	}
	first := s.after + 1
	one, err := segment.Create(s.disk, first)
	if err != nil {
		return err
	}
	s.firsts = append(s.firsts, first)
	s.good = append(s.good, one)
	return nil
}

func (s *start) makeSafe() error {
	for _, one := range s.good {
		if err := one.Sync(); err != nil {
			return err
		}
	}
	return s.disk.SyncNames()
}
