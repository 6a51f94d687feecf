package wire

import (
	"gusset/api"
	"gusset/value"
)

// message goes through a Msg.
func (t *tape) message(m *api.Msg) {
	t.octet(&m.Kind)
	t.octet(&m.From)
	t.octet(&m.To)
	t.octet(&m.Tx.Node)
	t.number32(&m.Tx.Inc)
	t.number32(&m.Tx.Seq)
	t.number64(&m.Age)
	t.number32(&m.Inc)
	t.octet(&m.Client)
	t.number32(&m.Seq)
	t.request(&m.Req)
	t.answer(&m.Ans)
	each(t, &m.Wants, api.MaxList, func(w *api.Want) {
		t.number32(&w.V)
		t.octet(&w.Mode)
	})
	each(t, &m.Verts, 2*api.MaxOps, t.vertex)
	each(t, &m.Dirs, api.MaxNodes, func(d *api.Entry) {
		t.number32(&d.V)
		t.octet(&d.Owner)
		t.number32(&d.Epoch)
	})
	each(t, &m.Nodes, api.MaxNodes, t.octet)
	t.number64(&m.Num)
	t.number64(&m.Credit)
	t.signed(&m.Hops)
}

// request goes through a Request.
func (t *tape) request(r *api.Request) {
	t.octet(&r.Kind)
	each(t, &r.Ops, api.MaxOps, func(op *api.Op) {
		t.octet(&op.Kind)
		t.number32(&op.A)
		t.number32(&op.B)
		t.octet(&op.Key)
		t.value(&op.Val)
	})
	t.number32(&r.V)
	t.signed(&r.K)
	t.signed(&r.To)
}

// answer goes through an Answer.
func (t *tape) answer(a *api.Answer) {
	code := int(a.E)
	t.signed(&code)
	if t.reading {
		a.E = api.Errno(code)
	}
	t.signed(&a.At)
	each(t, &a.Vals, api.MaxOps, t.value)
	each(t, &a.List, api.MaxList, t.number32)
}

// vertex goes through a Vertex.
func (t *tape) vertex(v *api.Vertex) {
	t.number32(&v.ID)
	t.flag(&v.There)
	each(t, &v.Props, api.MaxKey+1, func(p *api.Prop) {
		t.octet(&p.Key)
		t.value(&p.Val)
	})
	each(t, &v.Halves, api.MaxHalves, func(h *api.Half) {
		t.number32(&h.Far)
		t.value(&h.Val)
	})
}

// value goes through a Value.
func (t *tape) value(v *api.Value) {
	if !t.reading && value.Check(*v) != api.OK {
		// A list further on that is too long goes ahead of it.
		t.formless = true
		return
	}
	t.octet(&v.Kind)
	switch v.Kind {
	case api.Int:
		t.signed64(&v.N)
	case api.Text:
		t.text(&v.S)
	}
	if value.Check(*v) != api.OK {
		t.giveUp(api.ErrForm)
	}
}
