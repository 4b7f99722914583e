package row_test

import (
	"bytes"
	"testing"

	"omnibus/api"
	"omnibus/row"
)

func TestFieldsStandOneBehindTheOther(t *testing.T) {
	var r row.Row
	r.Put(5, 4)
	r.Put(0, 0)
	r.Bytes([]byte{0x80, 3})
	r.Bytes(nil)
	r.Put(row.Flag(true), 1)
	r.Put(row.Flag(false), 1)
	r.Put(1<<32-1, 32)
	want := append([]byte{0, 1, 0, 1, 1, 0, 0, 0, 0, 0, 0, 0, 0, 0, 0, 0, 0, 0, 1, 1, 1, 0}, bytes.Repeat([]byte{1}, 32)...)
	if !bytes.Equal(r.Bits, want) {
		t.Errorf("%v, wanted %v", r.Bits, want)
	}
}

func TestStuff(t *testing.T) {
	l := []byte{1, 1, 1, 1, 1, 1, 0}
	want := []byte{1, 1, 1, 1, 1, 0, 1, 0}
	// The stuff bit counts as soon as a bit behind it does.
	for n, taken := range []int{0, 1, 2, 3, 4, 5, 7, 8} {
		raw, k, e := row.Stuff(l, n)
		if e != api.OK || k != taken || !bytes.Equal(raw, want) {
			t.Errorf("%d: %v, %d, %d, wanted %v, %d", n, raw, k, e, want, taken)
		}
	}
}

func TestStuffRefuses(t *testing.T) {
	for _, x := range []struct {
		l    []byte
		n    int
		want api.Errno
	}{
		{[]byte{2}, 0, api.ErrArg},
		{[]byte{0}, -1, api.ErrArg},
		{[]byte{0}, 2, api.ErrShort},
	} {
		if raw, k, e := row.Stuff(x.l, x.n); len(raw) != 0 || k != 0 || e != x.want {
			t.Errorf("%v, %d: %v, %d, %d, wanted %d", x.l, x.n, raw, k, e, x.want)
		}
	}
}

func TestWire(t *testing.T) {
	room := []byte{0, 1, 0, 7, 7, 7, 7, 7, 7, 7, 7, 7, 7, 7, 7, 7}
	w := row.Wire(room[:3], 2)
	want := []byte{0, 1, 0, 1, 1, 1, 1, 1, 1, 1, 1, 1, 1}
	if !bytes.Equal(w.Bits, want) || len(w.Bits) != 3+row.Behind || w.Arb != 2 || w.Ack != 4 {
		t.Errorf("%v, wanted %v", w, want)
	}
	if room[3] != 7 {
		t.Errorf("spare room is written into: %v", room)
	}
}
