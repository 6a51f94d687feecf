/- commit: the document's Vote, walked. -/
import Derived.Test.YtklalpamcfkngaaR4
import Derived.Test.YtklalpamcfkngaaB7
namespace Go.Proofs.Ytklalpamcfkngaa.Cm
open Go Go.RowKit
def lookR (S : RL) (t : TK) : Option RunM := (S.find? fun e => eqK e.1 t).map (·.2)
def updS (S : RL) (t : TK) (m : RunM) : RL := S.map fun e => if eqK e.1 t then (e.1, m) else e
def prj (c : RC) : TK × RunM := (c.t, c.m)
/-- The document's book by what it holds. -/
def Rf (w : World) (B : Nat) (F : Nat → Prop) (q : Nat) (S : RL) (TT : TL) : Prop := ∃ rv tv CL, RefAt w B F q rv tv CL TT ∧ CL.map prj = S
theorem Rf.below {w w' : World} {B q : Nat} {F : Nat → Prop} {S : RL} {TT : TL} (h : Rf w B F q S TT) (hb : Below w.heap.size w w') : Rf w' B F q S TT := by
  obtain ⟨rv, tv, CL, h1, h2⟩ := h
  exact ⟨rv, tv, CL, h1.below hb, h2⟩
theorem Rf.on {w w' : World} {B q : Nat} {F G : Nat → Prop} {S : RL} {TT : TL} (h : Rf w B F q S TT) (ht : Turned G w w') (hF : ∀ k, F k → ¬ G k) : Rf w' B F q S TT := by
  obtain ⟨rv, tv, CL, h1, h2⟩ := h
  exact ⟨rv, tv, CL, h1.on ht hF, h2⟩
def RDid (w : World) (B : Nat) (F : Nat → Prop) (q : Nat) (S : RL) (TT : TL) (w' : World) : Prop := ∃ F', Rf w' B F' q S TT ∧ (∀ k, F' k → F k ∨ w.heap.size ≤ k) ∧ Turned F w w'
theorem RDid.same {w w' : World} {B q : Nat} {F : Nat → Prop} {S : RL} {TT : TL} (h : Rf w B F q S TT) (hb : Below w.heap.size w w') : RDid w B F q S TT w' := ⟨F, h.below hb, fun _ h => .inl h, below_any hb⟩
theorem RDid.turn {w w1 w' : World} {B q : Nat} {F : Nat → Prop} {S : RL} {TT : TL} {rv tv : Value} {CL : List RC} (hb : Below w.heap.size w w1) (h : RefAt w' B F q rv tv CL TT ∧ Turned F w1 w') (hS : CL.map prj = S) : RDid w B F q S TT w' :=
  ⟨F, ⟨rv, tv, CL, h.1, hS⟩, fun _ h => .inl h, (below_any (G := F) hb).then h.2⟩
theorem look_map (CL : List RC) (t : TK) : lookR (CL.map prj) t = (CL.find? fun c => eqK c.t t).map (·.m) := by
  unfold lookR
  induction CL with
  | nil => rfl
  | cons c CL ih =>
    rw [List.map_cons]
    by_cases h : eqK c.t t = true
    · rw [List.find?_cons_of_pos (by exact h), List.find?_cons_of_pos (by exact h)]; rfl
    · rw [List.find?_cons_of_neg (by exact h), List.find?_cons_of_neg (by exact h)]; exact ih
theorem look_case (CL : List RC) (t : TK) : (lookR (CL.map prj) t = none ∧ ∀ c ∈ CL, eqK c.t t = false) ∨ ∃ (i : Nat) (c : RC), CL[i]? = some c ∧ c.t = t ∧ lookR (CL.map prj) t = some c.m := by
  rw [look_map]
  cases h : CL.find? fun c => eqK c.t t with
  | none => exact .inl ⟨rfl, fun c hc => by have := List.find?_eq_none.1 h c hc; simpa using this⟩
  | some c =>
    obtain ⟨i, hi⟩ := List.getElem?_of_mem (List.mem_of_find?_eq_some h)
    have := List.find?_some h
    exact .inr ⟨i, c, hi, (eqK_iff _ _).1 this, rfl⟩
theorem set_upd : ∀ {CL : List RC} {i : Nat} {c : RC} (_ : CL[i]? = some c) (_ : (CL.map (·.t)).Nodup) (m' : RunM), (CL.set i { c with m := m' }).map prj = updS (CL.map prj) c.t m'
  | [], _, _, h, _, _ => by simp at h
  | x :: CL, 0, c, h, hn, m' => by
    simp at h; subst h
    rw [List.map_cons, List.nodup_cons] at hn
    have : ∀ e ∈ CL.map prj, eqK e.1 x.t = false := fun e he => by
      obtain ⟨d, hd, rfl⟩ := List.mem_map.1 he
      cases hq : eqK (prj d).1 x.t
      · rfl
      · rw [eqK_iff] at hq
        exact absurd (List.mem_map.2 ⟨d, hd, hq⟩) hn.1
    unfold updS
    rw [List.set_cons_zero, List.map_cons, List.map_cons, List.map_cons, if_pos (by exact (eqK_iff _ _).2 rfl)]
    refine List.cons_eq_cons.2 ⟨rfl, ?_⟩
    refine ((List.map_congr_left (g := id) (fun e he => ?_)).trans (List.map_id _)).symm
    simp [this e he]
  | x :: CL, i + 1, c, h, hn, m' => by
    rw [List.map_cons, List.nodup_cons] at hn
    have hc : CL[i]? = some c := by simpa using h
    have hne : eqK x.t c.t = false := by
      cases hq : eqK x.t c.t
      · rfl
      · rw [eqK_iff] at hq
        exact absurd (List.mem_map.2 ⟨c, List.mem_of_getElem? hc, hq.symm⟩) hn.1
    have ih := set_upd hc hn.2 m'
    unfold updS at ih ⊢
    rw [List.set_cons_succ, List.map_cons, List.map_cons, List.map_cons, ih]
    refine List.cons_eq_cons.2 ⟨?_, rfl⟩
    rw [if_neg (by rw [show (prj x).1 = x.t from rfl, hne]; decide)]
theorem place_nodes (m : RunM) (x : Int) (hx : 0 ≤ x) : (∃ k j : Nat, x = j ∧ j < 4 ∧ m.n j = true ∧ placeOf (nodesI m) x = k ∧ (nodesL m)[k]? = some j) ∨ (¬ (x < 4 ∧ m.n x.toNat = true) ∧ placeOf (nodesI m) x = -1) := by
  by_cases h : x < 4 ∧ m.n x.toNat = true
  · left
    have hm : x.toNat ∈ nodesL m := by simp only [nodesL, List.mem_filter, List.mem_range]; exact ⟨by omega, h.2⟩
    obtain ⟨k, hk⟩ := List.getElem?_of_mem hm
    have hnd : (nodesL m).Nodup := (List.nodup_range).filter _
    refine ⟨k, x.toNat, by omega, by omega, h.2, place_at (by simp [nodesI, hk]; omega) (fun j y hj hy => ?_), hk⟩
    rintro rfl
    simp only [nodesI, List.getElem?_map, Option.map_eq_some_iff] at hy
    obtain ⟨z, hz, hzy⟩ := hy
    have : z = y.toNat := by omega
    subst this
    have := (List.getElem?_inj (List.getElem?_eq_some_iff.1 hz).1 hnd).1 (hz.trans hk.symm)
    omega
  · refine .inr ⟨h, place_none (fun j y hj e => h ?_)⟩
    subst e
    simp only [nodesI, List.getElem?_map, Option.map_eq_some_iff] at hj
    obtain ⟨z, hz, rfl⟩ := hj
    have := nodes_lt (List.mem_of_getElem? hz)
    exact ⟨by omega, by simpa using this.2⟩
/-- Who has voted, or applied it, takes part. -/
def InvM (m : RunM) : Prop := ∀ i, i < 4 → (m.v i = true → m.n i = true) ∧ (m.a i = true → m.n i = true)
theorem all_eq4 (n v : Nat → Bool) (h : ∀ i, i < 4 → v i = true → n i = true) : (((List.range 4).filter n).map v).all id = eq4 v n := by
  have h0 := h 0 (by decide)
  have h1 := h 1 (by decide)
  have h2 := h 2 (by decide)
  have h3 := h 3 (by decide)
  clear h
  rw [show List.range 4 = [0, 1, 2, 3] from rfl]
  unfold eq4
  cases n0 : n 0 <;> cases n1 : n 1 <;> cases n2 : n 2 <;> cases n3 : n 3 <;> cases v0 : v 0 <;> cases v1 : v 1 <;> cases v2 : v 2 <;> cases v3 : v 3 <;> simp_all [List.filter]
def allB (m : RunM) (f : Nat → Bool) : Bool := ((nodesL m).map f).all id
theorem rd_nodes {w : World} {B q : Nat} {F : Nat → Prop} {rv tv : Value} {CL : List RC} {TT : TL} (h : RefAt w B F q rv tv CL TT) {c : RC} (hc : c ∈ CL) : Rd w (some ⟨c.gn, 0, none⟩) (nodesI c.m) := fun i x hx => by
  obtain ⟨ao, cap, e, _, h2⟩ := own_slice (h.nodes c hc).1
  simp only [Value.slice.injEq] at e
  obtain ⟨rfl, _, _⟩ := e
  obtain ⟨g, e2, h3, h4⟩ := h2 i (.int .u8 x) (by simp [u8s, hx])
  exact ⟨g, 0, e2, h3, by rw [Nat.zero_add]; exact h4⟩
section
variable {w : World} {B q : Nat} {F : Nat → Prop} {rv tv : Value} {CL : List RC} {TT : TL} {t : TK}
theorem run_miss (h : RefAt w B F q rv tv CL TT) (hn : ∀ c ∈ CL, eqK c.t t = false) (hl : CL.length ≤ 1000000) :
    Calls Try.prog 38 #[.pointer (some ⟨q, 0, none⟩), .agg #[.int .u8 t.1, .int .u32 t.2.1, .int .u32 t.2.2]] w fun e w' => e = .returned (.int .i64 (-1)) ∧ Below w.heap.size w w' :=
  run_any h (-1) CL.length (.inr ⟨hn, rfl, rfl⟩) hl
theorem run_hit (h : RefAt w B F q rv tv CL TT) {i : Nat} {c : RC} (hc : CL[i]? = some c) (ht : c.t = t) (hl : CL.length ≤ 1000000) :
    Calls Try.prog 38 #[.pointer (some ⟨q, 0, none⟩), .agg #[.int .u8 t.1, .int .u32 t.2.1, .int .u32 t.2.2]] w fun e w' => e = .returned (.int .i64 i) ∧ Below w.heap.size w w' :=
  run_any h i i (.inl ⟨i, c, hc, ht, rfl, rfl⟩) hl
theorem rvote_none (h : RefAt w B F q rv tv CL TT) (hn : ∀ c ∈ CL, eqK c.t t = false) (hl : CL.length ≤ 1000000) (x : Int) (yes : Bool) :
    Calls Try.prog 20 #[.pointer (some ⟨q, 0, none⟩), .agg #[.int .u8 t.1, .int .u32 t.2.1, .int .u32 t.2.2], .int .u8 x, .bool yes] w fun e w' => e = .returned (two 0 6) ∧ Below w.heap.size w w' := by
  have hb0 := Lib.hid ((Below.refl _ w).alloc (Nat.le_refl _) (.cells #[.int .u8 t.1, .int .u32 t.2.1, .int .u32 t.2.2] 33))
  have H1 := Lib.hid (And.intro (h.below hb0.out) hn)
  clear h hn
  go_enter Try.func20, Try.ntmps20
  go_wp2_with (go_at_call 38; refine (run_miss H1.out.1 H1.out.2 hl).mono ?_; rintro e w1 ⟨rfl, hb⟩; have H2 := Lib.hid (hb0.out.trans (hb.mono hb0.out.size)); clear hb)
  go_ret2
  exact ⟨rfl, H2.out⟩
set_option maxRecDepth 100000 in
theorem rvote_arg (h : RefAt w B F q rv tv CL TT) {i : Nat} {c : RC} (hc : CL[i]? = some c) (ht : c.t = t) (hl : CL.length ≤ 1000000) (x : Int) (yes : Bool) (hp : placeOf (nodesI c.m) x = -1) :
    Calls Try.prog 20 #[.pointer (some ⟨q, 0, none⟩), .agg #[.int .u8 t.1, .int .u32 t.2.1, .int .u32 t.2.2], .int .u8 x, .bool yes] w fun e w' => e = .returned (two 0 1) ∧ Below w.heap.size w w' := by
  have hb0 := Lib.hid ((Below.refl _ w).alloc (Nat.le_refl _) (.cells #[.int .u8 t.1, .int .u32 t.2.1, .int .u32 t.2.2] 33))
  have H1 := Lib.hid (And.intro (h.below hb0.out) (And.intro hc (And.intro ht hp)))
  obtain ⟨g, cap, hrv, _⟩ := h.at hc
  have hil := (List.getElem?_eq_some_iff.1 hc).1
  have HRV := Lib.hid hrv
  clear h hc ht hp hrv
  obtain ⟨L, hL⟩ : ∃ L, CL.length = L := ⟨_, rfl⟩
  have HL := Lib.hid hL
  rw [hL] at hl hil
  clear hL
  go_enter Try.func20, Try.ntmps20
  go_wp2_with (first
    | (go_at_call 38; refine (run_hit H1.out.1 H1.out.2.1 H1.out.2.2.1 (by rw [HL.out]; exact hl)).mono ?_; rintro e w1 ⟨rfl, hb⟩; have H2 := Lib.hid (hb0.out.trans (hb.mono hb0.out.size)); have H3 := Lib.hid (H1.out.1.below hb); have q0 := H3.out.cells.1; obtain ⟨g', cap', e', ⟨⟨c0, c1, c2⟩, c3, c4, c5, c6⟩⟩ := H3.out.at H1.out.2.1; rw [HRV.out] at e'; cases e'; rw [HRV.out, HL.out] at q0; clear hb)
    | (go_at_call 39; refine (node_any c x _ (rd_nodes H3.out (List.mem_of_getElem? H1.out.2.1))).mono ?_; rw [H1.out.2.2.2]; rintro e w2 ⟨rfl, hb⟩; have H4 := Lib.hid (H2.out.trans (hb.mono H2.out.size)); clear hb))
  go_ret2
  exact ⟨rfl, H4.out⟩
end
end Go.Proofs.Ytklalpamcfkngaa.Cm
