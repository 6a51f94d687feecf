package cluster

import (
	"testing"

	"gusset/api"
)

// Each node is on a plate of its own, of MaxPages pages: so none is ever laid down anew but by a Checkpoint.
func TestPlates(t *testing.T) {
	c, e := New(api.MaxNodes, 1)
	if e != api.OK || len(c.plates) != api.MaxNodes {
		t.Fatal("New answers", e)
	}
	for i, p := range c.plates {
		if p.Len() != api.MaxPages || i > 0 && p == c.plates[0] {
			t.Fatal("the plate of", i, "has", p.Len(), "pages, or is another node's")
		}
	}
}
