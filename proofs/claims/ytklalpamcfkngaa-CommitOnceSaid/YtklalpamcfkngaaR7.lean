/- commit: the document's Commit, Applied, State, walked. -/
import Derived.Test.YtklalpamcfkngaaR6
import Derived.Test.YtklalpamcfkngaaB2
namespace Go.Proofs.Ytklalpamcfkngaa.Cm
open Go Go.RowKit
section
variable {w : World} {B q : Nat} {F : Nat → Prop} {rv tv : Value} {CL : List RC} {TT : TL} {t : TK}
theorem rcommit_none (h : RefAt w B F q rv tv CL TT) (hn : ∀ c ∈ CL, eqK c.t t = false) (hl : CL.length ≤ 1000000) :
    Calls Try.prog 21 #[.pointer (some ⟨q, 0, none⟩), .agg #[.int .u8 t.1, .int .u32 t.2.1, .int .u32 t.2.2]] w fun e w' => e = .returned (.int .i64 6) ∧ Below w.heap.size w w' := by
  have hb0 := Lib.hid ((Below.refl _ w).alloc (Nat.le_refl _) (.cells #[.int .u8 t.1, .int .u32 t.2.1, .int .u32 t.2.2] 33))
  have H1 := Lib.hid (And.intro (h.below hb0.out) hn)
  clear h hn
  go_enter Try.func21, Try.ntmps21
  go_wp2_with (go_at_call 38; refine (run_miss H1.out.1 H1.out.2 hl).mono ?_; rintro e w1 ⟨rfl, hb⟩; have H2 := Lib.hid (hb0.out.trans (hb.mono hb0.out.size)); clear hb)
  go_ret
  exact ⟨rfl, H2.out⟩
theorem rcommit_nil (t : TK) (w : World) :
    Calls Try.prog 21 #[.pointer none, .agg #[.int .u8 t.1, .int .u32 t.2.1, .int .u32 t.2.2]] w fun e w' => e = .returned (.int .i64 6) ∧ Below w.heap.size w w' := by
  have hb0 := Lib.hid ((Below.refl _ w).alloc (Nat.le_refl _) (.cells #[.int .u8 t.1, .int .u32 t.2.1, .int .u32 t.2.2] 33))
  go_enter Try.func21, Try.ntmps21
  go_wp2_with (go_at_call 38; refine (run_nil t _).mono ?_; rintro e w1 ⟨rfl, hb⟩; have H2 := Lib.hid (hb0.out.trans (hb.mono hb0.out.size)); clear hb)
  go_ret
  exact ⟨rfl, H2.out⟩
theorem rappl_none (h : RefAt w B F q rv tv CL TT) (hn : ∀ c ∈ CL, eqK c.t t = false) (hl : CL.length ≤ 1000000) (x : Int) :
    Calls Try.prog 23 #[.pointer (some ⟨q, 0, none⟩), .agg #[.int .u8 t.1, .int .u32 t.2.1, .int .u32 t.2.2], .int .u8 x] w fun e w' => e = .returned (bi false 6) ∧ Below w.heap.size w w' := by
  have hb0 := Lib.hid ((Below.refl _ w).alloc (Nat.le_refl _) (.cells #[.int .u8 t.1, .int .u32 t.2.1, .int .u32 t.2.2] 33))
  have H1 := Lib.hid (And.intro (h.below hb0.out) hn)
  clear h hn
  go_enter Try.func23, Try.ntmps23
  go_wp2_with (go_at_call 38; refine (run_miss H1.out.1 H1.out.2 hl).mono ?_; rintro e w1 ⟨rfl, hb⟩; have H2 := Lib.hid (hb0.out.trans (hb.mono hb0.out.size)); clear hb)
  go_ret2
  exact ⟨rfl, H2.out⟩
theorem rappl_nil (t : TK) (x : Int) (w : World) :
    Calls Try.prog 23 #[.pointer none, .agg #[.int .u8 t.1, .int .u32 t.2.1, .int .u32 t.2.2], .int .u8 x] w fun e w' => e = .returned (bi false 6) ∧ Below w.heap.size w w' := by
  have hb0 := Lib.hid ((Below.refl _ w).alloc (Nat.le_refl _) (.cells #[.int .u8 t.1, .int .u32 t.2.1, .int .u32 t.2.2] 33))
  go_enter Try.func23, Try.ntmps23
  go_wp2_with (go_at_call 38; refine (run_nil t _).mono ?_; rintro e w1 ⟨rfl, hb⟩; have H2 := Lib.hid (hb0.out.trans (hb.mono hb0.out.size)); clear hb)
  go_ret2
  exact ⟨rfl, H2.out⟩
theorem rvote_nil (t : TK) (x : Int) (yes : Bool) (w : World) :
    Calls Try.prog 20 #[.pointer none, .agg #[.int .u8 t.1, .int .u32 t.2.1, .int .u32 t.2.2], .int .u8 x, .bool yes] w fun e w' => e = .returned (two 0 6) ∧ Below w.heap.size w w' := by
  have hb0 := Lib.hid ((Below.refl _ w).alloc (Nat.le_refl _) (.cells #[.int .u8 t.1, .int .u32 t.2.1, .int .u32 t.2.2] 33))
  go_enter Try.func20, Try.ntmps20
  go_wp2_with (go_at_call 38; refine (run_nil t _).mono ?_; rintro e w1 ⟨rfl, hb⟩; have H2 := Lib.hid (hb0.out.trans (hb.mono hb0.out.size)); clear hb)
  go_ret2
  exact ⟨rfl, H2.out⟩
theorem rstate_none (h : RefAt w B F q rv tv CL TT) (hn : ∀ c ∈ CL, eqK c.t t = false) (hl : CL.length ≤ 1000000) :
    Calls Try.prog 30 #[.pointer (some ⟨q, 0, none⟩), .agg #[.int .u8 t.1, .int .u32 t.2.1, .int .u32 t.2.2]] w fun e w' => e = .returned (.int .i64 0) ∧ Below w.heap.size w w' := by
  have hb0 := Lib.hid ((Below.refl _ w).alloc (Nat.le_refl _) (.cells #[.int .u8 t.1, .int .u32 t.2.1, .int .u32 t.2.2] 33))
  have H1 := Lib.hid (And.intro (h.below hb0.out) hn)
  clear h hn
  go_enter Try.func30, Try.ntmps30
  go_wp2_with (go_at_call 38; refine (run_miss H1.out.1 H1.out.2 hl).mono ?_; rintro e w1 ⟨rfl, hb⟩; have H2 := Lib.hid (hb0.out.trans (hb.mono hb0.out.size)); clear hb)
  go_ret
  exact ⟨rfl, H2.out⟩
theorem rstate_nil (t : TK) (w : World) :
    Calls Try.prog 30 #[.pointer none, .agg #[.int .u8 t.1, .int .u32 t.2.1, .int .u32 t.2.2]] w fun e w' => e = .returned (.int .i64 0) ∧ Below w.heap.size w w' := by
  have hb0 := Lib.hid ((Below.refl _ w).alloc (Nat.le_refl _) (.cells #[.int .u8 t.1, .int .u32 t.2.1, .int .u32 t.2.2] 33))
  go_enter Try.func30, Try.ntmps30
  go_wp2_with (go_at_call 38; refine (run_nil t _).mono ?_; rintro e w1 ⟨rfl, hb⟩; have H2 := Lib.hid (hb0.out.trans (hb.mono hb0.out.size)); clear hb)
  go_ret
  exact ⟨rfl, H2.out⟩
set_option maxRecDepth 100000 in
set_option maxHeartbeats 2000000 in
theorem rstate_some (h : RefAt w B F q rv tv CL TT) {i : Nat} {c : RC} (hc : CL[i]? = some c) (ht : c.t = t) (hl : CL.length ≤ 1000000) :
    Calls Try.prog 30 #[.pointer (some ⟨q, 0, none⟩), .agg #[.int .u8 t.1, .int .u32 t.2.1, .int .u32 t.2.2]] w fun e w' => e = .returned (.int .i64 c.m.s) ∧ Below w.heap.size w w' := by
  have hb0 := Lib.hid ((Below.refl _ w).alloc (Nat.le_refl _) (.cells #[.int .u8 t.1, .int .u32 t.2.1, .int .u32 t.2.2] 33))
  have H1 := Lib.hid (And.intro (h.below hb0.out) (And.intro hc (And.intro ht trivial)))
  obtain ⟨g, cap, hrv, _⟩ := h.at hc
  have hil := (List.getElem?_eq_some_iff.1 hc).1
  have hn4 := nl_le c.m
  have HRV := Lib.hid hrv
  clear h hc ht hrv 
  obtain ⟨L, hL⟩ : ∃ L, CL.length = L := ⟨_, rfl⟩
  have HL := Lib.hid hL
  rw [hL] at hl hil
  clear hL
  go_enter Try.func30, Try.ntmps30
  go_wp2_with (go_at_call 38; refine (run_hit H1.out.1 H1.out.2.1 H1.out.2.2.1 (by rw [HL.out]; exact hl)).mono ?_; rintro e w1 ⟨rfl, hb⟩; have H2 := Lib.hid (hb0.out.trans (hb.mono hb0.out.size)); have H3 := Lib.hid (H1.out.1.below hb); have q0 := H3.out.cells.1; obtain ⟨g', cap', e', ⟨⟨c0, c1, c2⟩, c3, c4, c5, c6⟩⟩ := H3.out.at H1.out.2.1; rw [HRV.out] at e'; cases e'; rw [HRV.out, HL.out] at q0; clear hb)
  go_ret
  exact ⟨rfl, H2.out⟩
set_option maxRecDepth 100000 in
set_option maxHeartbeats 2000000 in
theorem rcommit_dead (h : RefAt w B F q rv tv CL TT) {i : Nat} {c : RC} (hc : CL[i]? = some c) (ht : c.t = t) (hl : CL.length ≤ 1000000) (hs : c.m.s = 4) :
    Calls Try.prog 21 #[.pointer (some ⟨q, 0, none⟩), .agg #[.int .u8 t.1, .int .u32 t.2.1, .int .u32 t.2.2]] w fun e w' => e = .returned (.int .i64 9) ∧ Below w.heap.size w w' := by
  have hb0 := Lib.hid ((Below.refl _ w).alloc (Nat.le_refl _) (.cells #[.int .u8 t.1, .int .u32 t.2.1, .int .u32 t.2.2] 33))
  have H1 := Lib.hid (And.intro (h.below hb0.out) (And.intro hc (And.intro ht trivial)))
  obtain ⟨g, cap, hrv, _⟩ := h.at hc
  have hil := (List.getElem?_eq_some_iff.1 hc).1
  have hn4 := nl_le c.m
  have HRV := Lib.hid hrv
  have HS := Lib.hid hs
  clear h hc ht hrv hs
  obtain ⟨L, hL⟩ : ∃ L, CL.length = L := ⟨_, rfl⟩
  have HL := Lib.hid hL
  rw [hL] at hl hil
  clear hL
  go_enter Try.func21, Try.ntmps21
  go_wp2_with (go_at_call 38; refine (run_hit H1.out.1 H1.out.2.1 H1.out.2.2.1 (by rw [HL.out]; exact hl)).mono ?_; rintro e w1 ⟨rfl, hb⟩; have H2 := Lib.hid (hb0.out.trans (hb.mono hb0.out.size)); have H3 := Lib.hid (H1.out.1.below hb); have q0 := H3.out.cells.1; obtain ⟨g', cap', e', ⟨⟨c0, c1, c2⟩, c3, c4, c5, c6⟩⟩ := H3.out.at H1.out.2.1; rw [HRV.out] at e'; cases e'; rw [HRV.out, HL.out] at q0; rw [HS.out] at c6; clear hb)
  go_ret
  exact ⟨rfl, H2.out⟩
set_option maxRecDepth 100000 in
set_option maxHeartbeats 2000000 in
theorem rcommit_no (h : RefAt w B F q rv tv CL TT) {i : Nat} {c : RC} (hc : CL[i]? = some c) (ht : c.t = t) (hl : CL.length ≤ 1000000) {s : Int} (hs : c.m.s = s) (hs4 : s ≠ 4) (ha : allB c.m c.m.v = false) :
    Calls Try.prog 21 #[.pointer (some ⟨q, 0, none⟩), .agg #[.int .u8 t.1, .int .u32 t.2.1, .int .u32 t.2.2]] w fun e w' => e = .returned (.int .i64 9) ∧ Below w.heap.size w w' := by
  have hb0 := Lib.hid ((Below.refl _ w).alloc (Nat.le_refl _) (.cells #[.int .u8 t.1, .int .u32 t.2.1, .int .u32 t.2.2] 33))
  have H1 := Lib.hid (And.intro (h.below hb0.out) (And.intro hc (And.intro ht trivial)))
  obtain ⟨g, cap, hrv, _⟩ := h.at hc
  have hil := (List.getElem?_eq_some_iff.1 hc).1
  have hn4 := nl_le c.m
  have HRV := Lib.hid hrv
  have HS := Lib.hid hs
  have HA := Lib.hid ha
  have e4 : (s == 4) = false := by simpa using hs4
  clear h hc ht hrv hs ha hs4
  obtain ⟨L, hL⟩ : ∃ L, CL.length = L := ⟨_, rfl⟩
  have HL := Lib.hid hL
  rw [hL] at hl hil
  clear hL
  go_enter Try.func21, Try.ntmps21
  go_wp2_with (first
    | (go_at_call 38; refine (run_hit H1.out.1 H1.out.2.1 H1.out.2.2.1 (by rw [HL.out]; exact hl)).mono ?_; rintro e w1 ⟨rfl, hb⟩; have H2 := Lib.hid (hb0.out.trans (hb.mono hb0.out.size)); have H3 := Lib.hid (H1.out.1.below hb); have q0 := H3.out.cells.1; obtain ⟨g', cap', e', ⟨⟨c0, c1, c2⟩, c3, c4, c5, c6⟩⟩ := H3.out.at H1.out.2.1; rw [HRV.out] at e'; cases e'; rw [HRV.out, HL.out] at q0; rw [HS.out] at c6; clear hb)
    | (go_at_call 40; refine (every_any c.gy ((nodesL c.m).map c.m.v) (nl c.m) _ (by simp [nl]) (by omega) (by have h7 := (H3.out.yes c (List.mem_of_getElem? H1.out.2.1)).1; rw [List.map_map]; exact h7)).mono ?_; rw [show ((nodesL c.m).map c.m.v).all id = _ from HA.out]; rintro e _ ⟨rfl, rfl⟩))
  go_ret
  exact ⟨rfl, H2.out⟩
set_option maxRecDepth 100000 in
set_option maxHeartbeats 2000000 in
theorem rcommit_yes (h : RefAt w B F q rv tv CL TT) {i : Nat} {c : RC} (hc : CL[i]? = some c) (ht : c.t = t) (hl : CL.length ≤ 1000000) {s : Int} (hs : c.m.s = s) (hs4 : s ≠ 4) (ha : allB c.m c.m.v = true) :
    Calls Try.prog 21 #[.pointer (some ⟨q, 0, none⟩), .agg #[.int .u8 t.1, .int .u32 t.2.1, .int .u32 t.2.2]] w fun e w' => e = .returned (.int .i64 0) ∧ RDid w B F q (updS (CL.map prj) t { c.m with s := 3 }) TT w' := by
  have hb0 := Lib.hid ((Below.refl _ w).alloc (Nat.le_refl _) (.cells #[.int .u8 t.1, .int .u32 t.2.1, .int .u32 t.2.2] 33))
  have H1 := Lib.hid (And.intro (h.below hb0.out) (And.intro hc (And.intro ht trivial)))
  obtain ⟨g, cap, hrv, _⟩ := h.at hc
  have hil := (List.getElem?_eq_some_iff.1 hc).1
  have hn4 := nl_le c.m
  have HRV := Lib.hid hrv
  have HS := Lib.hid hs
  have HA := Lib.hid ha
  have e4 : (s == 4) = false := by simpa using hs4
  clear h hc ht hrv hs ha hs4
  obtain ⟨L, hL⟩ : ∃ L, CL.length = L := ⟨_, rfl⟩
  have HL := Lib.hid hL
  rw [hL] at hl hil
  clear hL
  go_enter Try.func21, Try.ntmps21
  go_wp2_with (first
    | (go_at_call 38; refine (run_hit H1.out.1 H1.out.2.1 H1.out.2.2.1 (by rw [HL.out]; exact hl)).mono ?_; rintro e w1 ⟨rfl, hb⟩; have H2 := Lib.hid (hb0.out.trans (hb.mono hb0.out.size)); have H3 := Lib.hid (H1.out.1.below hb); have q0 := H3.out.cells.1; obtain ⟨g', cap', e', ⟨⟨c0, c1, c2⟩, c3, c4, c5, c6⟩⟩ := H3.out.at H1.out.2.1; rw [HRV.out] at e'; cases e'; rw [HRV.out, HL.out] at q0; rw [HS.out] at c6; have f6 := row_free (HRV.out ▸ H3.out) (i * 7 + 6); clear hb)
    | (go_at_call 40; refine (every_any c.gy ((nodesL c.m).map c.m.v) (nl c.m) _ (by simp [nl]) (by omega) (by have h7 := (H3.out.yes c (List.mem_of_getElem? H1.out.2.1)).1; rw [List.map_map]; exact h7)).mono ?_; rw [show ((nodesL c.m).map c.m.v).all id = _ from HA.out]; rintro e _ ⟨rfl, rfl⟩))
  go_ret
  refine ⟨rfl, RDid.turn H2.out (refat_state H3.out H1.out.2.1 HRV.out 3) ?_⟩
  rw [set_upd H1.out.2.1 H1.out.1.keys, H1.out.2.2.1]
set_option maxRecDepth 100000 in
set_option maxHeartbeats 2000000 in
theorem rappl_arg (h : RefAt w B F q rv tv CL TT) {i : Nat} {c : RC} (hc : CL[i]? = some c) (ht : c.t = t) (hl : CL.length ≤ 1000000) (x : Int) (hp : placeOf (nodesI c.m) x = -1) :
    Calls Try.prog 23 #[.pointer (some ⟨q, 0, none⟩), .agg #[.int .u8 t.1, .int .u32 t.2.1, .int .u32 t.2.2], .int .u8 x] w fun e w' => e = .returned (bi false 1) ∧ Below w.heap.size w w' := by
  have hb0 := Lib.hid ((Below.refl _ w).alloc (Nat.le_refl _) (.cells #[.int .u8 t.1, .int .u32 t.2.1, .int .u32 t.2.2] 33))
  have H1 := Lib.hid (And.intro (h.below hb0.out) (And.intro hc (And.intro ht trivial)))
  obtain ⟨g, cap, hrv, _⟩ := h.at hc
  have hil := (List.getElem?_eq_some_iff.1 hc).1
  have hn4 := nl_le c.m
  have HRV := Lib.hid hrv
  have HP := Lib.hid hp
  clear h hc ht hrv hp
  obtain ⟨L, hL⟩ : ∃ L, CL.length = L := ⟨_, rfl⟩
  have HL := Lib.hid hL
  rw [hL] at hl hil
  clear hL
  go_enter Try.func23, Try.ntmps23
  go_wp2_with (first
    | (go_at_call 38; refine (run_hit H1.out.1 H1.out.2.1 H1.out.2.2.1 (by rw [HL.out]; exact hl)).mono ?_; rintro e w1 ⟨rfl, hb⟩; have H2 := Lib.hid (hb0.out.trans (hb.mono hb0.out.size)); have H3 := Lib.hid (H1.out.1.below hb); have q0 := H3.out.cells.1; obtain ⟨g', cap', e', ⟨⟨c0, c1, c2⟩, c3, c4, c5, c6⟩⟩ := H3.out.at H1.out.2.1; rw [HRV.out] at e'; cases e'; rw [HRV.out, HL.out] at q0; clear hb)
    | (go_at_call 39; refine (node_any c x _ (rd_nodes H3.out (List.mem_of_getElem? H1.out.2.1))).mono ?_; rw [HP.out]; rintro e w2 ⟨rfl, hb⟩; have H4 := Lib.hid (H2.out.trans (hb.mono H2.out.size)); have H5 := Lib.hid (H3.out.below hb); have q2 := H5.out.cells.1; rw [HRV.out, HL.out] at q2; obtain ⟨g', cap', e', ⟨⟨d0, d1, d2⟩, d3, d4, d5, d6⟩⟩ := H5.out.at H1.out.2.1; rw [HRV.out] at e'; cases e'; clear hb))
  go_ret2
  exact ⟨rfl, H4.out⟩
set_option maxRecDepth 100000 in
set_option maxHeartbeats 2000000 in
theorem rappl_no (h : RefAt w B F q rv tv CL TT) {i : Nat} {c : RC} (hc : CL[i]? = some c) (ht : c.t = t) (hl : CL.length ≤ 1000000) (x : Int) {k j : Nat} (hp : placeOf (nodesI c.m) x = k) (hk : (nodesL c.m)[k]? = some j) {s : Int} (hs : c.m.s = s) (hs3 : s ≠ 3) :
    Calls Try.prog 23 #[.pointer (some ⟨q, 0, none⟩), .agg #[.int .u8 t.1, .int .u32 t.2.1, .int .u32 t.2.2], .int .u8 x] w fun e w' => e = .returned (bi false 9) ∧ Below w.heap.size w w' := by
  have hb0 := Lib.hid ((Below.refl _ w).alloc (Nat.le_refl _) (.cells #[.int .u8 t.1, .int .u32 t.2.1, .int .u32 t.2.2] 33))
  have H1 := Lib.hid (And.intro (h.below hb0.out) (And.intro hc (And.intro ht (And.intro hp hk))))
  obtain ⟨g, cap, hrv, _⟩ := h.at hc
  have hil := (List.getElem?_eq_some_iff.1 hc).1
  have hn4 := nl_le c.m
  have HRV := Lib.hid hrv
  have hkl : k < nl c.m := (List.getElem?_eq_some_iff.1 hk).1
  have HS := Lib.hid hs
  have e3 : (s != 3) = true := by simpa using hs3
  clear h hc ht hrv hp hk hs hs3
  obtain ⟨L, hL⟩ : ∃ L, CL.length = L := ⟨_, rfl⟩
  have HL := Lib.hid hL
  rw [hL] at hl hil
  clear hL
  go_enter Try.func23, Try.ntmps23
  go_wp2_with (first
    | (go_at_call 38; refine (run_hit H1.out.1 H1.out.2.1 H1.out.2.2.1 (by rw [HL.out]; exact hl)).mono ?_; rintro e w1 ⟨rfl, hb⟩; have H2 := Lib.hid (hb0.out.trans (hb.mono hb0.out.size)); have H3 := Lib.hid (H1.out.1.below hb); have q0 := H3.out.cells.1; obtain ⟨g', cap', e', ⟨⟨c0, c1, c2⟩, c3, c4, c5, c6⟩⟩ := H3.out.at H1.out.2.1; rw [HRV.out] at e'; cases e'; rw [HRV.out, HL.out] at q0; clear hb)
    | (go_at_call 39; refine (node_any c x _ (rd_nodes H3.out (List.mem_of_getElem? H1.out.2.1))).mono ?_; rw [H1.out.2.2.2.1]; rintro e w2 ⟨rfl, hb⟩; have H4 := Lib.hid (H2.out.trans (hb.mono H2.out.size)); have H5 := Lib.hid (H3.out.below hb); have q2 := H5.out.cells.1; rw [HRV.out, HL.out] at q2; obtain ⟨g', cap', e', ⟨⟨d0, d1, d2⟩, d3, d4, d5, d6⟩⟩ := H5.out.at H1.out.2.1; rw [HRV.out] at e'; cases e'; rw [HS.out] at d6; clear hb))
  go_ret2
  exact ⟨rfl, H4.out⟩
set_option maxRecDepth 100000 in
set_option maxHeartbeats 2000000 in
theorem rappl_yes (h : RefAt w B F q rv tv CL TT) {i : Nat} {c : RC} (hc : CL[i]? = some c) (ht : c.t = t) (hl : CL.length ≤ 1000000) (x : Int) {k j : Nat} (hp : placeOf (nodesI c.m) x = k) (hk : (nodesL c.m)[k]? = some j) (hs : c.m.s = 3) {a : Bool} (ha : allB c.m (tru c.m.a j) = a) :
    Calls Try.prog 23 #[.pointer (some ⟨q, 0, none⟩), .agg #[.int .u8 t.1, .int .u32 t.2.1, .int .u32 t.2.2], .int .u8 x] w fun e w' => e = .returned (bi a 0) ∧ RDid w B F q (updS (CL.map prj) t { c.m with a := tru c.m.a j }) TT w' := by
  have hb0 := Lib.hid ((Below.refl _ w).alloc (Nat.le_refl _) (.cells #[.int .u8 t.1, .int .u32 t.2.1, .int .u32 t.2.2] 33))
  have H1 := Lib.hid (And.intro (h.below hb0.out) (And.intro hc (And.intro ht (And.intro hp hk))))
  obtain ⟨g, cap, hrv, _⟩ := h.at hc
  have hil := (List.getElem?_eq_some_iff.1 hc).1
  have hn4 := nl_le c.m
  have HRV := Lib.hid hrv
  have hkl : k < nl c.m := (List.getElem?_eq_some_iff.1 hk).1
  have HS := Lib.hid hs
  have HA := Lib.hid ha
  have hgd : g ≠ c.gd := fun e => by
    obtain ⟨_, cur, h3⟩ := own_obj h.rrow (g := g) (by rw [hrv]; simp [Value.ownBlock])
    rw [e, (h.did c (List.mem_of_getElem? hc)).1] at h3; cases h3
  have hqd : q ≠ c.gd := fun e => by
    have h3 := h.cell
    rw [e, (h.did c (List.mem_of_getElem? hc)).1] at h3; simp at h3
  clear h hc ht hrv hp hk hs ha
  obtain ⟨L, hL⟩ : ∃ L, CL.length = L := ⟨_, rfl⟩
  have HL := Lib.hid hL
  rw [hL] at hl hil
  clear hL
  go_enter Try.func23, Try.ntmps23
  go_wp2_with (first
    | (go_at_call 38; refine (run_hit H1.out.1 H1.out.2.1 H1.out.2.2.1 (by rw [HL.out]; exact hl)).mono ?_; rintro e w1 ⟨rfl, hb⟩; have H2 := Lib.hid (hb0.out.trans (hb.mono hb0.out.size)); have H3 := Lib.hid (H1.out.1.below hb); have q0 := H3.out.cells.1; obtain ⟨g', cap', e', ⟨⟨c0, c1, c2⟩, c3, c4, c5, c6⟩⟩ := H3.out.at H1.out.2.1; rw [HRV.out] at e'; cases e'; rw [HRV.out, HL.out] at q0; clear hb)
    | (go_at_call 39; refine (node_any c x _ (rd_nodes H3.out (List.mem_of_getElem? H1.out.2.1))).mono ?_; rw [H1.out.2.2.2.1]; rintro e w2 ⟨rfl, hb⟩; have H4 := Lib.hid (H2.out.trans (hb.mono H2.out.size)); have H5 := Lib.hid (H3.out.below hb); have q2 := H5.out.cells.1; rw [HRV.out, HL.out] at q2; obtain ⟨g', cap', e', ⟨⟨d0, d1, d2⟩, d3, d4, d5, d6⟩⟩ := H5.out.at H1.out.2.1; rw [HRV.out] at e'; cases e'; rw [HS.out] at d6; obtain ⟨dy, fy⟩ := did_at H5.out (List.mem_of_getElem? H1.out.2.1) H1.out.2.2.2.2; have d55 := (World.cell?_setCell_far w2 ⟨c.gd, k, none⟩ ⟨g, i * 7 + 5, none⟩ (.bool true) (fun e => hgd e.symm)).trans d5; have q22 := (World.cell?_setCell_far w2 ⟨c.gd, k, none⟩ ⟨q, 0, none⟩ (.bool true) (fun e => hqd e.symm)).trans q2; have H6 := Lib.hid (refat_did H5.out H1.out.2.1 H1.out.2.2.2.2); clear hb)
    | (go_at_call 40; refine (every_any c.gd ((nodesL c.m).map (tru c.m.a j)) (nl c.m) _ (by simp [nl]) (by omega) (by have h7 := (H6.out.1.did { c with m := { c.m with a := tru c.m.a j } } (List.mem_of_getElem? (i := i) (by rw [List.getElem?_set, if_pos rfl, if_pos (by rw [HL.out]; exact hil)]))).1; rw [List.map_map]; exact h7)).mono ?_; rw [show ((nodesL c.m).map (tru c.m.a j)).all id = _ from HA.out]; rintro e _ ⟨rfl, rfl⟩))
  go_ret2
  refine ⟨rfl, RDid.turn H4.out H6.out ?_⟩
  rw [set_upd H1.out.2.1 H1.out.1.keys, H1.out.2.2.1]
end
end Go.Proofs.Ytklalpamcfkngaa.Cm
