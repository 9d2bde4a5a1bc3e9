package wal

import "syngraph/api"

// The head is the first sector; the home sectors come behind it.
const (
	headSector = 0
	firstHome  = 1
)

// step is something that is done on the disk; it tells the disk's error.
type step func() api.Errno

// inOrder does one step behind the other, up to the first error.
func inOrder(steps ...step) api.Errno {
	for _, do := range steps {
		if e := do(); e != api.OK {
			return e
		}
	}
	return api.OK
}

// homeSector tells which of the disk's sectors is home sector i.
func homeSector(i int) int {
	return firstHome + i
}

// journalSector tells which of the disk's sectors is journal sector k.
func (w *Wal) journalSector(k int) int {
	return homeSector(w.Home()) + k
}

// commit puts changes into the journal, names them in the head, and makes them. Each part is flushed ahead of the next one, as a crash may lose any of what isn't: the head names nothing that the journal may not have, and names it till home has it.
func (w *Wal) commit(l []Change) api.Errno {
	return inOrder(
		w.writing(l, w.journalSector), w.disk.Flush,
		w.naming(l), w.disk.Flush,
		w.making(l),
	)
}

// repair makes the changes that the head names, from the journal. If the power goes in it, the head names them still.
func (w *Wal) repair() api.Errno {
	l, e := w.journaled()
	if e != api.OK || len(l) == 0 {
		return e
	}
	return inOrder(w.making(l))
}

// journaled tells the changes that the head names, as the journal has them.
func (w *Wal) journaled() ([]Change, api.Errno) {
	b, e := w.disk.Read(headSector)
	if e != api.OK {
		return nil, e
	}
	at, right := readHead(b, w.Home(), w.Room())
	if !right {
		return nil, api.ErrBad
	}
	l := make([]Change, len(at))
	for k, i := range at {
		b, e := w.disk.Read(w.journalSector(k))
		if e != api.OK {
			return nil, e
		}
		l[k] = Change{At: i, Data: b}
	}
	return l, api.OK
}

// making tells the step that brings changes home, and has the head name none of them any more.
func (w *Wal) making(l []Change) step {
	home := func(k int) int { return homeSector(l[k].At) }
	return func() api.Errno {
		return inOrder(
			w.writing(l, home), w.disk.Flush,
			w.naming(nil), w.disk.Flush,
		)
	}
}

// writing tells the step that writes each change's data to the sector that its place in the list has.
func (w *Wal) writing(l []Change, sector func(k int) int) step {
	return func() api.Errno {
		for k, c := range l {
			if e := w.disk.Write(sector(k), c.Data); e != api.OK {
				return e
			}
		}
		return api.OK
	}
}

// naming tells the step that writes the head with changes.
func (w *Wal) naming(l []Change) step {
	return func() api.Errno {
		return w.disk.Write(headSector, headOf(names(l), w.Size()))
	}
}
