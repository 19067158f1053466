package frame_test

import (
	"bytes"
	"encoding/hex"
	"hash/crc32"
	"slices"
	"testing"

	"slackwater/api"
	"slackwater/frame"
)

// maxPayload stands here as a number, so that the tests hold it, too.
const maxPayload = 1 << 20

// dice throws the same numbers in each run.
type dice uint64

func (d *dice) next() uint64 {
	*d = *d*6364136223846793005 + 1442695040888963407
	x := uint64(*d)
	return x ^ x>>29
}

func (d *dice) below(n int) int { return int(d.next() >> 8 % uint64(n)) }

func (d *dice) bytes(n int) []byte {
	b := make([]byte, n)
	for i := range b {
		b[i] = byte(d.next() >> 40)
	}
	return b
}

// model is a frame by hash/crc32.
func model(kind byte, p []byte) []byte {
	n := len(p)
	b := []byte{0xa7, kind, byte(n >> 16), byte(n >> 8), byte(n)}
	sum := crc32.Checksum(append(bytes.Clone(b[1:]), p...), crc32.MakeTable(crc32.Castagnoli))
	b = append(b, byte(sum), byte(sum>>8), byte(sum>>16), byte(sum>>24))
	return append(b, p...)
}

func seal(t *testing.T, kind byte, p []byte) []byte {
	t.Helper()
	b, e := frame.Seal(kind, p)
	if e != api.OK {
		t.Fatalf("Seal of %d bytes: %d", len(p), e)
	}
	return b
}

func wantOpen(t *testing.T, b []byte, kind byte, p []byte, used int) {
	t.Helper()
	k, q, u, e := frame.Open(b)
	if k != kind || !bytes.Equal(q, p) || u != used || e != api.OK {
		t.Errorf("Open: %d, %d bytes, %d, error %d, want %d, %d bytes, %d", k, len(q), u, e, kind, len(p), used)
	}
}

func refuseOpen(t *testing.T, what string, b []byte, want api.Errno) {
	t.Helper()
	k, p, u, e := frame.Open(b)
	if k != 0 || len(p) != 0 || u != 0 || e != want {
		t.Errorf("Open of %s: %d, %x, %d, error %d, want %d", what, k, p, u, e, want)
	}
}

func TestP4_1Crc(t *testing.T) {
	text := []byte("123456789")
	if got := frame.Crc(0, text); got != 0xe3069283 {
		t.Errorf("Crc(0, %s): %x", text, got)
	}
	for i := range len(text) + 1 {
		if got := frame.Crc(frame.Crc(0, text[:i]), text[i:]); got != 0xe3069283 {
			t.Errorf("Crc of %s, then of %s: %x", text[:i], text[i:], got)
		}
	}
	for p, want := range map[string]uint32{"": 0, "a": 0xc1d04330, "\x00": 0x527d5351} {
		if got := frame.Crc(0, []byte(p)); got != want {
			t.Errorf("Crc(0, %q): %x, want %x", p, got, want)
		}
	}
	for _, sum := range []uint32{0, 1, 0x82f63b78, 0xffffffff} {
		if a, b := frame.Crc(sum, nil), frame.Crc(sum, []byte{}); a != sum || b != sum {
			t.Errorf("Crc of nothing behind %x: %x, %x", sum, a, b)
		}
	}
}

func TestP4_1CrcLikeTheLibrarys(t *testing.T) {
	d := dice(1)
	table := crc32.MakeTable(crc32.Castagnoli)
	for range 500 {
		sum, p := uint32(d.next()>>16), d.bytes(d.below(200))
		before := bytes.Clone(p)
		if got, want := frame.Crc(sum, p), crc32.Update(sum, table, p); got != want {
			t.Fatalf("Crc(%x, %x): %x, want %x", sum, p, got, want)
		}
		if !bytes.Equal(p, before) {
			t.Fatalf("Crc changed %x to %x", before, p)
		}
	}
}

func TestP4_1SealBytes(t *testing.T) {
	for _, c := range []struct {
		kind byte
		p    string
		want string
	}{
		{1, "a", "a701000001" + "8f916cfd" + "61"},
		{0, "", "a700000000" + "c74b6748"},
		{255, "\xa7\x00", "a7ff000002" + "05d0db57" + "a700"},
	} {
		if got := hex.EncodeToString(seal(t, c.kind, []byte(c.p))); got != c.want {
			t.Errorf("Seal(%d, %q): %s, want %s", c.kind, c.p, got, c.want)
		}
	}
}

func TestP4_1SealAndOpen(t *testing.T) {
	d := dice(2)
	for _, n := range []int{0, 1, 2, 9, 255, 256, 257, 65535, 65536, 70000, maxPayload - 1, maxPayload} {
		for _, kind := range []byte{0, 1, 0xa7, 255} {
			p := d.bytes(n)
			before := bytes.Clone(p)
			b := seal(t, kind, p)
			if !bytes.Equal(b, model(kind, p)) || !bytes.Equal(p, before) {
				t.Errorf("Seal of %d bytes isn't the frame, or changed them", n)
			}
			wantOpen(t, b, kind, p, n+9)
		}
	}
}

func TestP4_1SealLimit(t *testing.T) {
	for _, n := range []int{maxPayload + 1, maxPayload + 2, 1 << 24, 1<<24 + 1} {
		if b, e := frame.Seal(1, make([]byte, n)); len(b) != 0 || e != api.ErrLimit {
			t.Errorf("Seal of %d bytes: %d bytes, error %d", n, len(b), e)
		}
	}
	nilFrame, e := frame.Seal(7, nil)
	if empty := seal(t, 7, []byte{}); e != api.OK || !bytes.Equal(nilFrame, empty) {
		t.Errorf("Seal of nil: %x, %d, of an empty list: %x", nilFrame, e, empty)
	}
}

func TestP4_1OpenErrorsInTheirOrder(t *testing.T) {
	good := seal(t, 3, []byte("hello"))
	change := func(at int, c ...byte) []byte {
		b := bytes.Clone(good)
		copy(b[at:], c)
		return b
	}
	for _, c := range []struct {
		what string
		b    []byte
		want api.Errno
	}{
		{"nil", nil, api.ErrShort},
		{"nothing", []byte{}, api.ErrShort},
		{"one other byte", []byte{0xa6}, api.ErrForm},
		{"one byte 0", []byte{0}, api.ErrForm},
		{"another first byte", change(0, 0), api.ErrForm},
		{"another first byte, too great a number, another sum", change(0, 0xa8, 3, 0xff, 0xff, 0xff), api.ErrForm},
		{"the first byte alone", good[:1], api.ErrShort},
		{"eight bytes", good[:8], api.ErrShort},
		{"eight bytes, too great a number", []byte{0xa7, 3, 0xff, 0xff, 0xff, 0, 0, 0}, api.ErrShort},
		{"too great a number by one, nothing behind", change(2, 0x10, 0, 1)[:9], api.ErrLimit},
		{"too great a number by one", change(2, 0x10, 0, 1), api.ErrLimit},
		{"the greatest number", change(2, 0xff, 0xff, 0xff), api.ErrLimit},
		{"a number at the limit, not so many bytes", change(2, 0x10, 0, 0), api.ErrShort},
		{"one byte fewer, another sum", change(5, good[5]^1)[:13], api.ErrShort},
		{"a head alone", good[:9], api.ErrShort},
		{"another kind", change(1, 2), api.ErrSum},
		{"a lower number", change(4, 4), api.ErrSum},
		{"another sum's first byte", change(5, good[5]^1), api.ErrSum},
		{"another sum's last byte", change(8, good[8]^0x80), api.ErrSum},
		{"another payload", change(13, 'O'), api.ErrSum},
		{"the sum in the other order", change(5, good[8], good[7], good[6], good[5]), api.ErrSum},
	} {
		before := bytes.Clone(c.b)
		refuseOpen(t, c.what, c.b, c.want)
		if !bytes.Equal(c.b, before) {
			t.Errorf("Open of %s changed it", c.what)
		}
	}
}

func TestP4_1OpenTooLong(t *testing.T) {
	long := model(1, make([]byte, maxPayload+1))
	refuseOpen(t, "a frame of one byte more than may be", long, api.ErrLimit)
	full := model(1, make([]byte, maxPayload))
	wantOpen(t, full, 1, make([]byte, maxPayload), maxPayload+9)
	refuseOpen(t, "a full frame without its last byte", full[:len(full)-1], api.ErrShort)
}

func TestP4_1AnswersAreNewMemory(t *testing.T) {
	p := append(make([]byte, 0, 64), "payload"...)
	b := seal(t, 1, p)
	p[0] = 'X'
	wantOpen(t, b, 1, []byte("payload"), 16)
	before := bytes.Clone(b)
	_, q, _, _ := frame.Open(b)
	full := q[:cap(q)]
	for i := range full {
		full[i] = 0xee
	}
	if !bytes.Equal(b, before) {
		t.Errorf("Open's payload lies in the bytes: %x, was %x", b, before)
	}
	c, d := seal(t, 1, []byte("x")), seal(t, 1, []byte("x"))
	c[9] = 'y'
	if d[9] != 'x' {
		t.Error("two frames share memory")
	}
}

func TestP4_1RoomBehindIsLeftAlone(t *testing.T) {
	b := seal(t, 1, []byte("payload"))
	room := append(bytes.Clone(b), "behind"...)
	before := bytes.Clone(room)
	wantOpen(t, room[:len(b)], 1, []byte("payload"), len(b))
	refuseOpen(t, "all but the last byte, which stands in the room behind", room[:len(b)-1], api.ErrShort)
	frame.Scan(room[:len(b)])
	frame.Seal(1, room[9:16])
	frame.Crc(1, room[9:16])
	if !bytes.Equal(room, before) {
		t.Errorf("%x, was %x", room, before)
	}
}

func wantScan(t *testing.T, what string, b []byte, want []frame.Piece, used int) {
	t.Helper()
	before := bytes.Clone(b)
	got, n := frame.Scan(b)
	same := func(x, y frame.Piece) bool { return x.Kind == y.Kind && bytes.Equal(x.Body, y.Body) }
	if !slices.EqualFunc(got, want, same) || n != used {
		t.Errorf("Scan of %s: %v, %d, want %v, %d", what, got, n, want, used)
	}
	if !bytes.Equal(b, before) {
		t.Errorf("Scan of %s changed it", what)
	}
}

func TestP4_2Scan(t *testing.T) {
	a, b := seal(t, 1, []byte("one")), seal(t, 2, nil)
	pieces := []frame.Piece{{Kind: 1, Body: []byte("one")}, {Kind: 2}, {Kind: 1, Body: []byte("one")}}
	all := slices.Concat(a, b, a)
	wantScan(t, "nil", nil, nil, 0)
	wantScan(t, "nothing", []byte{}, nil, 0)
	wantScan(t, "one frame", a, pieces[:1], 12)
	wantScan(t, "whole frames", all, pieces, 33)
	wantScan(t, "two frames and a byte 0", all[:21:21], pieces[:2], 21)
	wantScan(t, "other bytes behind", append(bytes.Clone(all), "hello, world"...), pieces, 33)
	wantScan(t, "other bytes ahead", append([]byte{0}, all...), nil, 0)
	wantScan(t, "a byte a7 behind", append(bytes.Clone(all), 0xa7), pieces, 33)
	wantScan(t, "frames with a byte between", slices.Concat(a, []byte{0}, b), pieces[:1], 12)
	wantScan(t, "frames and a byte 0", slices.Concat(a, b, []byte{0}), pieces[:2], 21)
}

func TestP4_2TornTail(t *testing.T) {
	var all []byte
	var pieces []frame.Piece
	ends := []int{0}
	for i, p := range []string{"one", "", "three", "a7\xa7"} {
		all = append(all, seal(t, byte(i), []byte(p))...)
		pieces = append(pieces, frame.Piece{Kind: byte(i), Body: []byte(p)})
		ends = append(ends, len(all))
	}
	whole := 0
	for n := range len(all) + 1 {
		if whole+1 < len(ends) && ends[whole+1] == n {
			whole++
		}
		wantScan(t, "a torn tail", all[:n], pieces[:whole], ends[whole])
		// What Scan reads behind a list's end would be whole again here.
		wantScan(t, "a torn tail, copied", bytes.Clone(all[:n]), pieces[:whole], ends[whole])
	}
	if whole != 4 {
		t.Fatalf("%d frames", whole)
	}
}

// A fault ends the frames, though whole ones stand behind it.
func TestP4_2FaultBetween(t *testing.T) {
	a, b := seal(t, 1, []byte("one")), seal(t, 2, []byte("two"))
	for at := range b {
		c := bytes.Clone(b)
		c[at] ^= 0x10
		wantScan(t, "a fault between", slices.Concat(a, c, a), []frame.Piece{{Kind: 1, Body: []byte("one")}}, 12)
	}
}

func TestP4_2BodiesAreApart(t *testing.T) {
	all := slices.Concat(seal(t, 1, []byte("one")), seal(t, 2, []byte("two")), seal(t, 3, []byte("six")))
	before := bytes.Clone(all)
	pieces, _ := frame.Scan(all)
	if len(pieces) != 3 {
		t.Fatalf("%d pieces", len(pieces))
	}
	for i, want := range []string{"one", "two", "six"} {
		if string(pieces[i].Body) != want {
			t.Errorf("piece %d: %s, want %s", i, pieces[i].Body, want)
		}
		full := pieces[i].Body[:cap(pieces[i].Body)]
		for j := range full {
			full[j] = 0xee
		}
	}
	if !bytes.Equal(all, before) {
		t.Errorf("Scan's bodies lie in the bytes: %x, was %x", all, before)
	}
}

// scanModel goes from frame to frame by Open.
func scanModel(b []byte) ([]frame.Piece, int) {
	var pieces []frame.Piece
	at := 0
	for {
		k, p, n, e := frame.Open(b[at:])
		if e != api.OK {
			return pieces, at
		}
		pieces = append(pieces, frame.Piece{Kind: k, Body: p})
		at += n
	}
}

func TestP4_2ScanIsOpenByOpen(t *testing.T) {
	d := dice(3)
	for range 1500 {
		var b []byte
		for range d.below(5) {
			b = append(b, seal(t, byte(d.next()>>40), d.bytes(d.below(40)))...)
		}
		for range d.below(3) {
			if len(b) > 0 {
				b[d.below(len(b))] = byte(d.next() >> 40)
			}
		}
		b = append(b, d.bytes(d.below(12))...)
		pieces, used := scanModel(b)
		wantScan(t, "frames with faults", b, pieces, used)
	}
}

func TestP4_3OneOtherByte(t *testing.T) {
	for _, p := range []string{"", "a", "\x00", "hello, world"} {
		b := seal(t, 5, []byte(p))
		for _, tail := range [][]byte{nil, seal(t, 6, []byte("behind")), bytes.Repeat([]byte{0}, 300)} {
			all := append(bytes.Clone(b), tail...)
			for at := range b {
				for x := range 255 {
					c := bytes.Clone(all)
					c[at] ^= byte(x + 1)
					if _, _, used, e := frame.Open(c); e == api.OK && used == len(b) {
						t.Errorf("Open of %x, byte %d turned by %x: no error", all, at, x+1)
					}
				}
			}
		}
	}
}

func TestP4_3OneOtherByteOfAFullFrame(t *testing.T) {
	d := dice(4)
	b := seal(t, 5, d.bytes(maxPayload))
	places := []int{9, len(b) - 1}
	for range 30 {
		places = append(places, d.below(len(b)))
	}
	for _, at := range places {
		was := b[at]
		b[at] ^= 1 << d.below(8)
		if _, _, used, e := frame.Open(b); e == api.OK && used == len(b) {
			t.Errorf("byte %d turned: no error", at)
		}
		b[at] = was
	}
	wantOpen(t, b, 5, b[9:], len(b))
}

func TestP4_3WhateverStandsBehind(t *testing.T) {
	d := dice(5)
	for range 300 {
		kind, p := byte(d.next()>>40), d.bytes(d.below(60))
		b := seal(t, kind, p)
		used := len(b)
		wantOpen(t, append(b, d.bytes(d.below(40))...), kind, p, used)
	}
}

// Every call ends, and none panics, whatever the bytes; what is taken for a
// frame is one.
func TestR1AnyBytes(t *testing.T) {
	d := dice(6)
	for range 20000 {
		b := d.bytes(d.below(24))
		if len(b) > 4 && d.below(4) != 0 {
			copy(b, []byte{0xa7, 1, 0, 0, byte(d.below(16))})
		}
		k, p, used, e := frame.Open(b)
		if e == api.OK && !bytes.Equal(model(k, p), b[:used]) {
			t.Fatalf("Open of %x: %d, %x, %d", b, k, p, used)
		}
		if e != api.OK && (k != 0 || len(p) != 0 || used != 0) {
			t.Fatalf("Open of %x: %d, %x, %d beside error %d", b, k, p, used, e)
		}
		pieces, n := scanModel(b)
		wantScan(t, "any bytes", b, pieces, n)
	}
}
