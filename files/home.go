package files

import (
	"bytes"

	"syngraph/api"
	"syngraph/wal"
	"syngraph/wire"
)

// lengthSize is how many bytes the length of an image takes, ahead of it.
const lengthSize = 8

// homeOf tells the home sectors of a wal, one behind the other.
func homeOf(w *wal.Wal) ([]byte, api.Errno) {
	home := make([]byte, 0, w.Home()*w.Size())
	for i := range w.Home() {
		b, e := w.Read(i)
		if e != api.OK {
			return nil, e
		}
		home = append(home, b...)
	}
	return home, api.OK
}

// filesOn tells the files whose image stands in home; false, if that is of no right ones, or doesn't stand there as it should.
func filesOn(home []byte) (map[string][]byte, bool) {
	i := wire.NewIn(home[:lengthSize])
	n := i.Count(0, len(home)-lengthSize)
	image, behind := home[lengthSize:][:n], home[lengthSize+n:]
	if i.Bad() || !noughts(behind) {
		return nil, false
	}
	// Each image has some bytes: without any, home is all noughts.
	if len(image) == 0 {
		return map[string][]byte{}, true
	}
	return filesIn(image)
}

// noughts tells whether all bytes are noughts.
func noughts(b []byte) bool {
	for _, c := range b {
		if c != 0 {
			return false
		}
	}
	return true
}

// lay has an image stand in a wal's home, of which only those sectors are changed that have other bytes.
func lay(image []byte, w *wal.Wal) api.Errno {
	all := append(new(wire.Out).Int(len(image)).All(), image...)
	var l []wal.Change
	for i := range w.Home() {
		has, e := w.Read(i)
		if e != api.OK {
			return e
		}
		if b := sectorOf(all, i, w.Size()); !bytes.Equal(b, has) {
			l = append(l, wal.Change{At: i, Data: b})
		}
	}
	return w.Commit(l...)
}

// sectorOf tells what a sector of some bytes has, if all stand one behind the other from the first one on, and noughts behind them.
func sectorOf(all []byte, i, size int) []byte {
	b := make([]byte, size)
	copy(b, all[min(i*size, len(all)):])
	return b
}
