/- commit: the document's Vote and Commit, walked. -/
import Derived.Test.YtklalpamcfkngaaR5
namespace Go.Proofs.Ytklalpamcfkngaa.Cm
open Go Go.RowKit
theorem yes_at {w : World} {B q : Nat} {F : Nat → Prop} {rv tv : Value} {CL : List RC} {TT : TL} (h : RefAt w B F q rv tv CL TT) {c : RC} (hc : c ∈ CL) {k j : Nat} (hk : (nodesL c.m)[k]? = some j) : w.cell? ⟨c.gy, k, none⟩ = some (.bool (c.m.v j)) ∧ w.frozen? ⟨c.gy, k, none⟩ = false := by
  have := (h.yes c hc).1
  refine ⟨?_, by simp [World.frozen?, this]⟩
  simp [World.cell?, this, boolsL, hk]
theorem did_at {w : World} {B q : Nat} {F : Nat → Prop} {rv tv : Value} {CL : List RC} {TT : TL} (h : RefAt w B F q rv tv CL TT) {c : RC} (hc : c ∈ CL) {k j : Nat} (hk : (nodesL c.m)[k]? = some j) : w.cell? ⟨c.gd, k, none⟩ = some (.bool (c.m.a j)) ∧ w.frozen? ⟨c.gd, k, none⟩ = false := by
  have := (h.did c hc).1
  refine ⟨?_, by simp [World.frozen?, this]⟩
  simp [World.cell?, this, boolsL, hk]
theorem row_free {w : World} {B q : Nat} {F : Nat → Prop} {CL : List RC} {TT : TL} {g n cap : Nat} {tv : Value} (h : RefAt w B F q (.slice (some ⟨g, 0, none⟩) n cap) tv CL TT) (o : Nat) : w.frozen? ⟨g, o, none⟩ = false := by
  obtain ⟨_, cur, h3⟩ := own_obj h.rrow (g := g) (by simp [Value.ownBlock])
  simp [World.frozen?, h3]
section
variable {w : World} {B q : Nat} {F : Nat → Prop} {rv tv : Value} {CL : List RC} {TT : TL} {t : TK}
set_option maxRecDepth 100000 in
set_option maxHeartbeats 2000000 in
theorem rvote_late (h : RefAt w B F q rv tv CL TT) {i : Nat} {c : RC} (hc : CL[i]? = some c) (ht : c.t = t) (hl : CL.length ≤ 1000000) (x : Int) (yes : Bool) {k j : Nat} (hp : placeOf (nodesI c.m) x = k) (hk : (nodesL c.m)[k]? = some j) {s : Int} (hs : c.m.s = s) (hs1 : s ≠ 1) :
    Calls Try.prog 20 #[.pointer (some ⟨q, 0, none⟩), .agg #[.int .u8 t.1, .int .u32 t.2.1, .int .u32 t.2.2], .int .u8 x, .bool yes] w fun e w' => e = .returned (if (yes && c.m.v j) = true then two s 0 else two 0 9) ∧ Below w.heap.size w w' := by
  have hb0 := Lib.hid ((Below.refl _ w).alloc (Nat.le_refl _) (.cells #[.int .u8 t.1, .int .u32 t.2.1, .int .u32 t.2.2] 33))
  have H1 := Lib.hid (And.intro (h.below hb0.out) (And.intro hc (And.intro ht (And.intro hp hk))))
  obtain ⟨g, cap, hrv, _⟩ := h.at hc
  have hil := (List.getElem?_eq_some_iff.1 hc).1
  have hkl : k < nl c.m := (List.getElem?_eq_some_iff.1 hk).1
  have hn4 := nl_le c.m
  have HRV := Lib.hid hrv
  have HS := Lib.hid hs
  have e1 : (s != 1) = true := by simpa using hs1
  clear h hc ht hp hrv hk hs hs1
  obtain ⟨L, hL⟩ : ∃ L, CL.length = L := ⟨_, rfl⟩
  have HL := Lib.hid hL
  rw [hL] at hl hil
  clear hL
  obtain ⟨vj, hvj⟩ : ∃ vj, c.m.v j = vj := ⟨_, rfl⟩
  rw [hvj]
  have HV := Lib.hid hvj
  clear hvj
  cases yes <;> cases vj
  all_goals
    go_enter Try.func20, Try.ntmps20
    go_wp2_with (first
      | (go_at_call 38; refine (run_hit H1.out.1 H1.out.2.1 H1.out.2.2.1 (by rw [HL.out]; exact hl)).mono ?_; rintro e w1 ⟨rfl, hb⟩; have H2 := Lib.hid (hb0.out.trans (hb.mono hb0.out.size)); have H3 := Lib.hid (H1.out.1.below hb); have q0 := H3.out.cells.1; obtain ⟨g', cap', e', ⟨⟨c0, c1, c2⟩, c3, c4, c5, c6⟩⟩ := H3.out.at H1.out.2.1; rw [HRV.out] at e'; cases e'; rw [HRV.out, HL.out] at q0; clear hb)
      | (go_at_call 39; refine (node_any c x _ (rd_nodes H3.out (List.mem_of_getElem? H1.out.2.1))).mono ?_; rw [H1.out.2.2.2.1]; rintro e w2 ⟨rfl, hb⟩; have H4 := Lib.hid (H2.out.trans (hb.mono H2.out.size)); have H5 := Lib.hid (H3.out.below hb); obtain ⟨g', cap', e', ⟨⟨d0, d1, d2⟩, d3, d4, d5, d6⟩⟩ := H5.out.at H1.out.2.1; rw [HRV.out] at e'; cases e'; rw [HS.out] at d6; have dy := (yes_at H5.out (List.mem_of_getElem? H1.out.2.1) H1.out.2.2.2.2).1; rw [HV.out] at dy; clear hb))
    go_ret2
    exact ⟨rfl, H4.out⟩
set_option maxRecDepth 100000 in
set_option maxHeartbeats 2000000 in
theorem rvote_no (h : RefAt w B F q rv tv CL TT) {i : Nat} {c : RC} (hc : CL[i]? = some c) (ht : c.t = t) (hl : CL.length ≤ 1000000) (x : Int) {k j : Nat} (hp : placeOf (nodesI c.m) x = k) (hk : (nodesL c.m)[k]? = some j) (hs : c.m.s = 1) :
    Calls Try.prog 20 #[.pointer (some ⟨q, 0, none⟩), .agg #[.int .u8 t.1, .int .u32 t.2.1, .int .u32 t.2.2], .int .u8 x, .bool false] w fun e w' => e = .returned (two 4 0) ∧ RDid w B F q (updS (CL.map prj) t { c.m with s := 4 }) TT w' := by
  have hb0 := Lib.hid ((Below.refl _ w).alloc (Nat.le_refl _) (.cells #[.int .u8 t.1, .int .u32 t.2.1, .int .u32 t.2.2] 33))
  have H1 := Lib.hid (And.intro (h.below hb0.out) (And.intro hc (And.intro ht (And.intro hp hk))))
  obtain ⟨g, cap, hrv, _⟩ := h.at hc
  have hil := (List.getElem?_eq_some_iff.1 hc).1
  have HRV := Lib.hid hrv
  have HS := Lib.hid hs
  clear h hc ht hp hrv hk hs
  obtain ⟨L, hL⟩ : ∃ L, CL.length = L := ⟨_, rfl⟩
  have HL := Lib.hid hL
  rw [hL] at hl hil
  clear hL
  go_enter Try.func20, Try.ntmps20
  go_wp2_with (first
    | (go_at_call 38; refine (run_hit H1.out.1 H1.out.2.1 H1.out.2.2.1 (by rw [HL.out]; exact hl)).mono ?_; rintro e w1 ⟨rfl, hb⟩; have H2 := Lib.hid (hb0.out.trans (hb.mono hb0.out.size)); have H3 := Lib.hid (H1.out.1.below hb); have q0 := H3.out.cells.1; obtain ⟨g', cap', e', ⟨⟨c0, c1, c2⟩, c3, c4, c5, c6⟩⟩ := H3.out.at H1.out.2.1; rw [HRV.out] at e'; cases e'; rw [HRV.out, HL.out] at q0; clear hb)
    | (go_at_call 39; refine (node_any c x _ (rd_nodes H3.out (List.mem_of_getElem? H1.out.2.1))).mono ?_; rw [H1.out.2.2.2.1]; rintro e w2 ⟨rfl, hb⟩; have H4 := Lib.hid (H2.out.trans (hb.mono H2.out.size)); have H5 := Lib.hid (H3.out.below hb); obtain ⟨g', cap', e', ⟨⟨d0, d1, d2⟩, d3, d4, d5, d6⟩⟩ := H5.out.at H1.out.2.1; rw [HRV.out] at e'; cases e'; rw [HS.out] at d6; have f6 := row_free (HRV.out ▸ H5.out) (i * 7 + 6); clear hb))
  go_ret2
  refine ⟨rfl, RDid.turn H4.out (refat_state H5.out H1.out.2.1 HRV.out 4) ?_⟩
  rw [set_upd H1.out.2.1 H1.out.1.keys, H1.out.2.2.1]
set_option maxRecDepth 100000 in
set_option maxHeartbeats 2000000 in
theorem rvote_yes (h : RefAt w B F q rv tv CL TT) {i : Nat} {c : RC} (hc : CL[i]? = some c) (ht : c.t = t) (hl : CL.length ≤ 1000000) (x : Int) {k j : Nat} (hp : placeOf (nodesI c.m) x = k) (hk : (nodesL c.m)[k]? = some j) (hs : c.m.s = 1) {a : Bool} (ha : allB c.m (tru c.m.v j) = a) :
    Calls Try.prog 20 #[.pointer (some ⟨q, 0, none⟩), .agg #[.int .u8 t.1, .int .u32 t.2.1, .int .u32 t.2.2], .int .u8 x, .bool true] w fun e w' => e = .returned (two (if a = true then 3 else 1) 0) ∧ RDid w B F q (updS (CL.map prj) t { c.m with v := tru c.m.v j }) TT w' := by
  have hb0 := Lib.hid ((Below.refl _ w).alloc (Nat.le_refl _) (.cells #[.int .u8 t.1, .int .u32 t.2.1, .int .u32 t.2.2] 33))
  have H1 := Lib.hid (And.intro (h.below hb0.out) (And.intro hc (And.intro ht (And.intro hp hk))))
  obtain ⟨g, cap, hrv, _⟩ := h.at hc
  have hil := (List.getElem?_eq_some_iff.1 hc).1
  have hkl : k < nl c.m := (List.getElem?_eq_some_iff.1 hk).1
  have hn4 := nl_le c.m
  have HRV := Lib.hid hrv
  have HS := Lib.hid hs
  have HA := Lib.hid ha
  have hgy : g ≠ c.gy := fun e => by
    obtain ⟨_, cur, h3⟩ := own_obj h.rrow (g := g) (by rw [hrv]; simp [Value.ownBlock])
    rw [e, (h.yes c (List.mem_of_getElem? hc)).1] at h3; cases h3
  clear h hc ht hp hrv hk hs ha
  obtain ⟨L, hL⟩ : ∃ L, CL.length = L := ⟨_, rfl⟩
  have HL := Lib.hid hL
  rw [hL] at hl hil
  clear hL
  cases a
  all_goals
    go_enter Try.func20, Try.ntmps20
    go_wp2_with (first
      | (go_at_call 38; refine (run_hit H1.out.1 H1.out.2.1 H1.out.2.2.1 (by rw [HL.out]; exact hl)).mono ?_; rintro e w1 ⟨rfl, hb⟩; have H2 := Lib.hid (hb0.out.trans (hb.mono hb0.out.size)); have H3 := Lib.hid (H1.out.1.below hb); have q0 := H3.out.cells.1; obtain ⟨g', cap', e', ⟨⟨c0, c1, c2⟩, c3, c4, c5, c6⟩⟩ := H3.out.at H1.out.2.1; rw [HRV.out] at e'; cases e'; rw [HRV.out, HL.out] at q0; clear hb)
      | (go_at_call 39; refine (node_any c x _ (rd_nodes H3.out (List.mem_of_getElem? H1.out.2.1))).mono ?_; rw [H1.out.2.2.2.1]; rintro e w2 ⟨rfl, hb⟩; have H4 := Lib.hid (H2.out.trans (hb.mono H2.out.size)); have H5 := Lib.hid (H3.out.below hb); obtain ⟨g', cap', e', ⟨⟨d0, d1, d2⟩, d3, d4, d5, d6⟩⟩ := H5.out.at H1.out.2.1; rw [HRV.out] at e'; cases e'; rw [HS.out] at d6; obtain ⟨dy, fy⟩ := yes_at H5.out (List.mem_of_getElem? H1.out.2.1) H1.out.2.2.2.2; have d44 := (World.cell?_setCell_far w2 ⟨c.gy, k, none⟩ ⟨g, i * 7 + 4, none⟩ (.bool true) (fun e => hgy e.symm)).trans d4; have H6 := Lib.hid (refat_yes H5.out H1.out.2.1 H1.out.2.2.2.2); clear hb)
      | (go_at_call 40; refine (every_any c.gy ((nodesL c.m).map (tru c.m.v j)) (nl c.m) _ (by simp [nl]) (by omega) (by have h7 := (H6.out.1.yes { c with m := { c.m with v := tru c.m.v j } } (List.mem_of_getElem? (i := i) (by rw [List.getElem?_set, if_pos rfl, if_pos (by rw [HL.out]; exact hil)]))).1; rw [List.map_map]; exact h7)).mono ?_; rw [show ((nodesL c.m).map (tru c.m.v j)).all id = _ from HA.out]; rintro e _ ⟨rfl, rfl⟩))
    go_ret2
    refine ⟨rfl, RDid.turn H4.out H6.out ?_⟩
    rw [set_upd H1.out.2.1 H1.out.1.keys, H1.out.2.2.1]
end
end Go.Proofs.Ytklalpamcfkngaa.Cm
