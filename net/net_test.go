package net_test

import (
	"bytes"
	"math"
	"math/rand"
	"slices"
	"testing"

	"thermograph/api"
	"thermograph/net"
)

func want[T comparable](t *testing.T, what string, got, want T) {
	t.Helper()
	if got != want {
		t.Errorf("%s: got %v, want %v", what, got, want)
	}
}

func same(p api.Packet, from, to int, data string) bool {
	return p.From == from && p.To == to && string(p.Data) == data
}

// P2.1

func TestSend(t *testing.T) {
	n := net.New()
	want(t, "Len", n.Len(), 0)
	_, ok := n.At(0)
	want(t, "At", ok, false)
	want(t, "Send", n.Send(1, 2, []byte("a")), api.OK)
	want(t, "any numbers", n.Send(math.MinInt, math.MaxInt, nil), api.OK)
	want(t, "Len", n.Len(), 2)
	if p, ok := n.At(0); !ok || !same(p, 1, 2, "a") {
		t.Error(p, ok)
	}
	if p, ok := n.At(1); !ok || !same(p, math.MinInt, math.MaxInt, "") {
		t.Error(p, ok)
	}
}

func TestLongData(t *testing.T) {
	n := net.New()
	want(t, "longest", n.Send(0, 1, make([]byte, api.MaxFrame)), api.OK)
	want(t, "too long", n.Send(0, 1, make([]byte, api.MaxFrame+1)), api.ErrArg)
	want(t, "Len", n.Len(), 1)
}

func TestFull(t *testing.T) {
	n := net.New()
	for i := range api.MaxPackets {
		want(t, "Send", n.Send(i, 0, nil), api.OK)
	}
	want(t, "full", n.Send(0, 0, nil), api.ErrFull)
	want(t, "full", n.Double(0), api.ErrFull)
	want(t, "too long first", n.Send(0, 0, make([]byte, api.MaxFrame+1)), api.ErrArg)
	want(t, "none first", n.Double(api.MaxPackets), api.ErrNone)
	want(t, "Len", n.Len(), api.MaxPackets)
	want(t, "Drop", n.Drop(7), api.OK)
	want(t, "room again", n.Double(7), api.OK)
	want(t, "full again", n.Double(7), api.ErrFull)
	p, _ := n.At(api.MaxPackets - 1)
	want(t, "the double", p.From, 8)
}

// P2.2

func TestNoSuchPacket(t *testing.T) {
	for _, count := range []int{0, 3} {
		n := net.New()
		for range count {
			n.Send(1, 2, []byte("x"))
		}
		for _, i := range []int{-1, math.MinInt, count, count + 1, math.MaxInt} {
			p, ok := n.At(i)
			want(t, "At", ok, false)
			want(t, "At", same(p, 0, 0, ""), true)
			p, err := n.Take(i)
			want(t, "Take", err, api.ErrNone)
			want(t, "Take", same(p, 0, 0, ""), true)
			want(t, "Drop", n.Drop(i), api.ErrNone)
			want(t, "Double", n.Double(i), api.ErrNone)
		}
		want(t, "Len", n.Len(), count)
	}
}

func TestExample(t *testing.T) {
	n := net.New()
	want(t, "Send", n.Send(1, 2, []byte("a")), api.OK)
	want(t, "Send", n.Send(1, 3, []byte("b")), api.OK)
	want(t, "Double", n.Double(0), api.OK)
	want(t, "Len", n.Len(), 3)
	for _, c := range []struct {
		i, to int
		data  string
	}{{0, 2, "a"}, {1, 2, "a"}, {0, 3, "b"}} {
		p, err := n.Take(c.i)
		if err != api.OK || !same(p, 1, c.to, c.data) {
			t.Error(p, err)
		}
	}
	_, err := n.Take(0)
	want(t, "Take", err, api.ErrNone)
}

func TestMemoryIsApart(t *testing.T) {
	n := net.New()
	data := append(make([]byte, 0, 9), "abc"...)
	n.Send(1, 2, data)
	data[0] = 'x'
	n.Double(0)
	p, _ := n.At(0)
	want(t, "sent bytes", string(p.Data), "abc")
	p.Data[1] = 'x'
	_ = append(p.Data, 'y')
	q, _ := n.Take(1)
	want(t, "doubled bytes", string(q.Data), "abc")
	q.Data[2] = 'x'
	p, _ = n.Take(0)
	want(t, "bytes still there", string(p.Data), "abc")
	want(t, "spare bytes", string(data[:4]), "xbc\x00")
}

// P2.3, and all of the above against a plain list

func TestModel(t *testing.T) {
	r := rand.New(rand.NewSource(1))
	n := net.New()
	var m []api.Packet
	for step := range 20000 {
		i := r.Intn(len(m)+3) - 1
		there := i >= 0 && i < len(m)
		err := api.OK
		if !there {
			err = api.ErrNone
		}
		switch k := r.Intn(9); {
		case k < 3:
			p := api.Packet{From: r.Intn(9), To: r.Intn(9), Data: []byte{byte(step), byte(step >> 8)}}
			err = api.OK
			if len(m) == api.MaxPackets {
				err = api.ErrFull
			} else {
				m = append(m, p)
			}
			want(t, "Send", n.Send(p.From, p.To, p.Data), err)
		case k < 6:
			if there && len(m) == api.MaxPackets {
				err = api.ErrFull
			} else if there {
				m = append(m, m[i])
			}
			want(t, "Double", n.Double(i), err)
		case k < 8:
			p, got := n.Take(i)
			want(t, "Take", got, err)
			if there {
				want(t, "Take", same(p, m[i].From, m[i].To, string(m[i].Data)), true)
				m = slices.Delete(m, i, i+1)
			}
		default:
			want(t, "Drop", n.Drop(i), err)
			if there {
				m = slices.Delete(m, i, i+1)
			}
		}
		want(t, "Len", n.Len(), len(m))
		for i := range m {
			if p, ok := n.At(i); !ok || p.From != m[i].From || p.To != m[i].To || !bytes.Equal(p.Data, m[i].Data) {
				t.Fatalf("step %d: At(%d): got %v, want %v", step, i, p, m[i])
			}
		}
		if t.Failed() {
			t.Fatalf("step %d", step)
		}
	}
}
