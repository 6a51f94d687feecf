package own_test

import (
	"reflect"
	"testing"

	"gusset/api"
	"gusset/own"
)

// full is a message each of whose lists has two things, the second one with texts and lists of its own.
func full() api.Msg {
	text := api.Value{Kind: api.Text, S: "text"}
	return api.Msg{
		Kind: api.MsgPrepare, From: 1, To: 2, Tx: api.TxID{Node: 1, Inc: 2, Seq: 3}, Age: 4, Inc: 5, Client: 6, Seq: 7,
		Req:   api.Request{Kind: api.ReqTx, Ops: []api.Op{{Kind: api.OpAdd, A: 1}, {Kind: api.OpSet, A: 1, Val: text}}, V: 8, K: 9, To: 10},
		Ans:   api.Answer{E: api.ErrNone, At: 11, Vals: []api.Value{{Kind: api.Int, N: 12}, text}, List: []uint32{13, 14}},
		Wants: []api.Want{{V: 15, Mode: api.Shared}, {V: 16, Mode: api.Exclusive}},
		Verts: []api.Vertex{{ID: 17}, {
			ID: 18, There: true,
			Props:  []api.Prop{{Key: 1, Val: api.Value{Kind: api.Int, N: 19}}, {Key: 2, Val: text}},
			Halves: []api.Half{{Far: 20}, {Far: 21, Val: text}},
		}},
		Dirs:  []api.Entry{{V: 22, Owner: 1, Epoch: 23}, {V: 24, Owner: 2, Epoch: 25}},
		Nodes: []byte{1, 2}, Num: 26, Credit: 27, Hops: 28,
	}
}

// wreck writes over all lists of m.
func wreck(m api.Msg) {
	clear(m.Req.Ops)
	clear(m.Ans.Vals)
	clear(m.Ans.List)
	clear(m.Wants)
	for _, v := range m.Verts {
		clear(v.Props)
		clear(v.Halves)
	}
	clear(m.Verts)
	clear(m.Dirs)
	clear(m.Nodes)
}

// A copy is all of what it is a copy of, and neither changes with the other.
func TestMsg(t *testing.T) {
	first, second := full(), full()
	copies := []api.Msg{own.Msg(first), own.Msg(second)}
	wreck(first)
	wreck(copies[1])
	if !reflect.DeepEqual(copies[0], full()) || !reflect.DeepEqual(second, full()) {
		t.Fatalf("%v\n%v\nnot %v", copies[0], second, full())
	}
}

// What a message has none of its copy hasn't either; an empty list keeps nothing of where it was cut from.
func TestEmpty(t *testing.T) {
	if m := own.Msg(api.Msg{}); !reflect.DeepEqual(m, api.Msg{}) {
		t.Fatal(m)
	}
	m := full()
	m.Req.Ops, m.Ans.Vals, m.Ans.List, m.Wants = m.Req.Ops[:0], m.Ans.Vals[:0], m.Ans.List[:0], m.Wants[:0]
	m.Verts, m.Dirs, m.Nodes = m.Verts[1:], m.Dirs[:0], m.Nodes[:0]
	m.Verts[0].Props, m.Verts[0].Halves = m.Verts[0].Props[:0], m.Verts[0].Halves[:0]
	m = own.Msg(m)
	v := m.Verts[0]
	if m.Req.Ops != nil || m.Ans.Vals != nil || m.Ans.List != nil || m.Wants != nil || m.Dirs != nil || m.Nodes != nil || v.Props != nil || v.Halves != nil {
		t.Fatal(m)
	}
}
