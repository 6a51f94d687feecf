/- span: Meet, walked. -/
import Derived.Test.YtgbhdccadelcfaaT3
namespace Go.Proofs.Ytgbhdccadelcfaa.Sp
open Go Go.RowKit
/-- What two sets have in common, as far as it is known. -/
structure MeetI (L K : SL) (i k : Nat) (R : SL) : Prop where
  can : Canon R
  mem : ∀ n, mem L n ∧ mem K n ↔ mem R n ∨ (mem (L.drop i) n ∧ mem (K.drop k) n)
  gap : ∀ r ∈ R, ∀ t ∈ L.drop i, ∀ u ∈ K.drop k, r.2 + 1 < max t.1 u.1
  len : R.length ≤ i + k
theorem meet_start (L K : SL) : MeetI L K 0 0 [] :=
  ⟨canon_nil, (fun n => by simp [mem_none]), (fun r hr => by cases hr), (by simp)⟩
def comm (a b : Int × Int) : Int × Int := (max a.1 b.1, min a.2 b.2)
def meetR (R : SL) (a b : Int × Int) : SL := if (comm a b).1 ≤ (comm a b).2 then R ++ [comm a b] else R
theorem meet_mem (R : SL) (a b : Int × Int) (n : Int) : mem (meetR R a b) n ↔ mem R n ∨ ((a.1 ≤ n ∧ n ≤ a.2) ∧ (b.1 ≤ n ∧ n ≤ b.2)) := by
  unfold meetR
  split
  · rw [mem_app, mem_cons, mem_none, or_false]
    refine or_congr Iff.rfl ?_
    simp only [comm]
    omega
  · rename_i h
    simp only [comm] at h
    constructor
    · exact .inl
    · rintro (h2 | h2)
      · exact h2
      · omega
theorem meet_step {L K : SL} {i k : Nat} {R : SL} {a b : Int × Int} (hL : Canon L) (hK : Canon K) (h : MeetI L K i k R) (ha : L[i]? = some a) (hb : K[k]? = some b) :
    Canon (meetR R a b) ∧ (a.2 < b.2 → MeetI L K (i + 1) k (meetR R a b)) ∧ (¬ a.2 < b.2 → MeetI L K i (k + 1) (meetR R a b)) := by
  obtain ⟨hi, ea⟩ := List.getElem?_eq_some_iff.1 ha
  obtain ⟨hk, eb⟩ := List.getElem?_eq_some_iff.1 hb
  have dL : L.drop i = a :: L.drop (i + 1) := by rw [List.drop_eq_getElem_cons hi, ea]
  have dK : K.drop k = b :: K.drop (k + 1) := by rw [List.drop_eq_getElem_cons hk, eb]
  have a0 := hL.2 a (List.mem_of_getElem? ha)
  have b0 := hK.2 b (List.mem_of_getElem? hb)
  have aL : ∀ t ∈ L.drop (i + 1), a.2 + 1 < t.1 := canon_cut hL (i + 1) a (by rw [List.take_succ_eq_append_getElem hi, ea]; exact List.mem_append_right _ (List.mem_singleton.2 rfl))
  have bK : ∀ t ∈ K.drop (k + 1), b.2 + 1 < t.1 := canon_cut hK (k + 1) b (by rw [List.take_succ_eq_append_getElem hk, eb]; exact List.mem_append_right _ (List.mem_singleton.2 rfl))
  have g0 : ∀ r ∈ R, r.2 + 1 < max a.1 b.1 := fun r hr => h.gap r hr a (by rw [dL]; exact List.mem_cons_self) b (by rw [dK]; exact List.mem_cons_self)
  have hc : Canon (meetR R a b) := by
    unfold meetR
    split
    · rename_i hh
      refine (canon_app _ _).2 ⟨h.can, canon_one (comm a b).1 (comm a b).2 (by simp only [comm]; omega) hh (by simp only [comm]; omega), fun s hs t ht => ?_⟩
      rw [List.mem_singleton] at ht
      subst ht
      exact g0 s hs
    · exact h.can
  have hin : ∀ r ∈ meetR R a b, r ∈ R ∨ r = comm a b := fun r hr => by
    unfold meetR at hr
    split at hr
    · rcases List.mem_append.1 hr with hr | hr
      · exact .inl hr
      · exact .inr (List.mem_singleton.1 hr)
    · exact .inl hr
  have hlen : (meetR R a b).length ≤ R.length + 1 := by unfold meetR; split <;> simp
  refine ⟨hc, fun hlt => ⟨hc, fun n => ?_, fun r hr t ht u hu => ?_, by have := h.len; omega⟩, fun hlt => ⟨hc, fun n => ?_, fun r hr t ht u hu => ?_, by have := h.len; omega⟩⟩
  · rw [h.mem n, meet_mem, dL, dK, mem_cons, mem_cons, or_assoc]
    refine or_congr Iff.rfl ?_
    constructor
    · rintro ⟨h1 | h1, h2 | h2⟩
      · exact .inl ⟨h1, h2⟩
      · obtain ⟨u, hu, h3⟩ := h2
        have := bK u hu
        omega
      · exact .inr ⟨h1, .inl h2⟩
      · exact .inr ⟨h1, .inr h2⟩
    · rintro (⟨h1, h2⟩ | ⟨h1, h2⟩)
      · exact ⟨.inl h1, .inl h2⟩
      · exact ⟨.inr h1, h2⟩
  · rcases hin r hr with hr | rfl
    · exact h.gap r hr t (by rw [dL]; exact List.mem_cons_of_mem _ ht) u hu
    · have := aL t ht
      simp only [comm]
      omega
  · rw [h.mem n, meet_mem, dL, dK, mem_cons, mem_cons, or_assoc]
    refine or_congr Iff.rfl ?_
    constructor
    · rintro ⟨h1 | h1, h2 | h2⟩
      · exact .inl ⟨h1, h2⟩
      · exact .inr ⟨.inl h1, h2⟩
      · obtain ⟨u, hu, h3⟩ := h1
        have := aL u hu
        omega
      · exact .inr ⟨.inr h1, h2⟩
    · rintro (⟨h1, h2⟩ | ⟨h1, h2⟩)
      · exact ⟨.inl h1, .inl h2⟩
      · exact ⟨h1, .inr h2⟩
  · rcases hin r hr with hr | rfl
    · exact h.gap r hr t ht u (by rw [dK]; exact List.mem_cons_of_mem _ hu)
    · have := bK u hu
      simp only [comm]
      omega
theorem meet_end {L K : SL} {i k : Nat} {R : SL} (h : MeetI L K i k R) (he : L.length ≤ i ∨ K.length ≤ k) : ∀ n, mem R n ↔ mem L n ∧ mem K n := by
  intro n
  rw [h.mem n]
  constructor
  · exact .inl
  · rintro (h1 | ⟨h1, h2⟩)
    · exact h1
    · rcases he with he | he
      · rw [List.drop_eq_nil_of_le he] at h1
        exact absurd h1 (mem_nil n)
      · rw [List.drop_eq_nil_of_le he] at h2
        exact absurd h2 (mem_nil n)
theorem two_new (w : World) (A B : Obj) : ((w.alloc A).alloc B).drew.heap[w.heap.size]? = some A ∧ ((w.alloc A).alloc B).drew.heap[w.heap.size + 1]? = some B ∧ ((w.alloc A).alloc B).drew.heap.size = w.heap.size + 2 ∧ Below w.heap.size w ((w.alloc A).alloc B).drew := by
  have h1 := heap_alloc_new (w.alloc A) B
  rw [World.size_alloc] at h1
  have h2 : ((w.alloc A).alloc B).heap[w.heap.size]? = some A := by rw [heap_alloc_old _ _ (by simp), heap_alloc_new]
  have h3 : Below w.heap.size w ((w.alloc A).alloc B) := ((Below.refl _ _).alloc (Nat.le_refl _) _).alloc (by simp) _
  exact ⟨h2, h1, by show ((w.alloc A).alloc B).heap.size = _; simp, ⟨h3.os, h3.tape, h3.output, h3.size, h3.block⟩⟩
theorem did_store {w w1 : World} {B p : Nat} {F : Nat → Prop} {v v' : Value} {L M : SL} (h : SpanAt w B F p v L) (hown : w1.ownsRow B 46 2 v' M.length (fl M)) (hg : w.grownBy w1 v.ownBlock) (hv' : ∀ g, v'.ownBlock = some g → v.ownBlock = some g ∨ w.heap.size ≤ g) (hM : Canon M) : Did w B F p M (w1.setCell ⟨p, 0, none⟩ v') := by
  have hb1 : w1.heap[p]? = some (.cells #[v] 66 (0, 0)) := (hg.block p (h.hi p h.fp) (fun e => set_apart h.at_ e.symm)).trans h.at_.1
  have hgs := grown_set w1 p 0 v'
  have hne : v'.ownBlock ≠ some p := fun e => by
    rcases hv' p e with h2 | h2
    · exact set_apart h.at_ h2
    · have := h.hi p h.fp; omega
  refine ⟨v', (fun j => F j ∨ v'.ownBlock = some j), ⟨⟨by rw [set_block hb1]; rfl, own_on hown (fun g e => hgs.block g (World.ownsRow.lt hown g e).2 (fun e2 => hne (by rw [e]; exact e2)))⟩, hM, Nat.le_trans h.base (Nat.le_trans hg.size hgs.size), .inl h.fp, fun g e => .inr e, fun j hj => ?_, fun j hj => ?_⟩, ?_, ?_⟩
  · rcases hj with hj | hj
    · exact Nat.lt_of_lt_of_le (h.hi j hj) (Nat.le_trans hg.size hgs.size)
    · exact Nat.lt_of_lt_of_le (World.ownsRow.lt hown j hj).2 hgs.size
  · rcases hj with hj | hj
    · exact h.low j hj
    · exact (World.ownsRow.lt hown j hj).1
  · intro j hj
    rcases hj with hj | hj
    · exact .inl hj
    · exact (hv' j hj).imp (fun e => h.fv j e) id
  · exact (Turned.of_grown hg (fun k e => h.fv k e)).trans (Turned.of_grown hgs (fun k e => by injection e with e; subst e; exact h.fp)) (fun j hj => .inl hj)
theorem grown_of {W3 X w3 : World} {r : Option Nat} (h : W3.grownBy w3 r) (h1 : W3.heap = X.heap) (h2 : W3.os = X.os) (h3 : W3.tape = X.tape) (h4 : W3.output = X.output) : X.grownBy w3 r :=
  ⟨h.os.trans h2, h.tape.trans h3, h.output.trans h4, by rw [← h1]; exact h.size, fun k hk hr => (h.block k (by rw [h1]; exact hk) hr).trans (by rw [h1])⟩
theorem meet_store {W2 w3 : World} {B p g3 c3 : Nat} {F : Nat → Prop} {v : Value} {R : SL} {c : Int × Int} {o : Obj} (h : SpanAt W2 B F p v R) (hg : (W2.alloc o).grownBy w3 v.ownBlock) (hown : w3.ownsRow B 46 2 (.slice (some ⟨g3, 0, none⟩) (R.length + 1) c3) (R.length + 1) (fl R ++ fl [c])) (hat : v.ownBlock = some g3 ∨ W2.heap.size ≤ g3) (hM : Canon (R ++ [c])) :
    Did W2 B F p (R ++ [c]) (w3.setCell ⟨p, 0, none⟩ (.slice (some ⟨g3, 0, none⟩) (R.length + 1) c3)) := by
  refine did_store h (M := R ++ [c]) (by rw [fl_app, List.length_append]; exact hown) ((World.grownBy_alloc W2 o v.ownBlock).trans hg) (fun g e => ?_) hM
  have e' : g3 = g := by simpa [Value.ownBlock] using e
  subst e'
  exact hat
/-- Behind the append: the set's own block is as it was. -/
theorem meet_after {W2 W3 w3 : World} {B p N : Nat} {F : Nat → Prop} {v : Value} {R : SL} {o : Obj} (h : SpanAt W2 B F p v R) (hF : ∀ k, F k → k < N) (hg : W3.grownBy w3 v.ownBlock) (hW : W3.heap = (W2.alloc o).heap) :
    w3.heap[p]? = some (.cells #[v] 66 (0, 0)) ∧ w3.cell? ⟨p, 0, none⟩ = some v ∧ w3.frozen? ⟨p, 0, none⟩ = false ∧ ∀ z cs, N ≤ z → W2.heap[z]? = some cs → w3.heap[z]? = some cs := by
  have h1 : w3.heap[p]? = some (.cells #[v] 66 (0, 0)) := (hg.block p (by rw [hW]; simp; have := h.hi p h.fp; omega) (fun e => set_apart h.at_ e.symm)).trans (by rw [hW, heap_alloc_old _ _ (h.hi p h.fp)]; exact h.at_.1)
  refine ⟨h1, cell1 h1, free1 h1, fun z cs hz hc => ?_⟩
  have hl := (Array.getElem?_eq_some_iff.1 hc).1
  exact (hg.block z (by rw [hW]; simp; omega) (fun e => by have := hF z (h.fv z e.symm); omega)).trans (by rw [hW, heap_alloc_old _ _ hl]; exact hc)
def MeetR (w : World) (L K : SL) (e : Ending) (w' : World) : Prop :=
  ∃ R, e = .returned (.tuple #[.pointer (some ⟨w.heap.size, 0, none⟩), .int .i64 0]) ∧ SetIs w.heap.size w w' w.heap.size R ∧ (∀ n, mem R n ↔ mem L n ∧ mem K n) ∧ R.length ≤ L.length + K.length
set_option maxRecDepth 100000 in
set_option maxHeartbeats 1000000 in
theorem meet_any {n0 p q : Nat} {w0 w : World} {L K : SL} (h : SetIs n0 w0 w p L) (g : SetIs n0 w0 w q K) (hL : L.length ≤ 500) (hK : K.length ≤ 500) :
    Calls Try.prog 24 #[.pointer (some ⟨p, 0, none⟩), .pointer (some ⟨q, 0, none⟩)] w (MeetR w L K) := by
  obtain ⟨i0, hi0, hz0, hz1, hz2⟩ := info_parts info46
  have HZ := Lib.hid (And.intro hi0 (And.intro hz0 (And.intro hz1 hz2)))
  clear hi0 hz0 hz1 hz2
  obtain ⟨v1, F1, h1, _⟩ := h
  obtain ⟨v2, F2, h2, _⟩ := g
  have H1 := Lib.hid h1
  have H2 := Lib.hid h2
  obtain ⟨ao, c1, ev1, hnc1, _⟩ := own_slice h1.at_.2
  obtain ⟨bo, c2, ev2, hnc2, _⟩ := own_slice h2.at_.2
  subst ev1
  subst ev2
  clear h1 h2
  go_enter Try.func24, Try.ntmps24
  go_wp2_with (go_at_call 9; refine (is_new w).mono ?_; rintro e w1 ⟨rfl, s⟩; have S1 := Lib.hid s; clear s)
  go_loopw [7, 8] (fun u u2 wr => ∃ i k : Nat, i ≤ L.length ∧ k ≤ K.length ∧ u = .int .i64 i ∧ u2 = .int .i64 k ∧ Hid (∃ R, MeetI L K i k R ∧ SetIs w.heap.size w wr w.heap.size R)) (fun u u2 _ => L.length + K.length - (intOf u).toNat - (intOf u2).toNat)
  case atStart => exact ⟨0, 0, by omega, by omega, rfl, rfl, Lib.hid ⟨[], meet_start L K, S1.out⟩⟩
  case round =>
    obtain ⟨i, k, hi, hk, rfl, rfl, HA⟩ := hrel
    obtain ⟨R, hR, hS⟩ := HA.out
    have HR := Lib.hid hR
    have HS := Lib.hid hS
    have hb := hS.ahead
    have s1 := H1.out.below hb
    have s2 := H2.out.below hb
    have d1 := cell1 s1.at_.1
    have d2 := cell1 s2.at_.1
    have HB := Lib.hid hb
    clear hR hS HA
    by_cases hli : i < L.length
    · by_cases hlk : k < K.length
      · obtain ⟨a, ha⟩ : ∃ a, L[i]? = some a := ⟨_, List.getElem?_eq_getElem hli⟩
        obtain ⟨b, hb'⟩ : ∃ b, K[k]? = some b := ⟨_, List.getElem?_eq_getElem hlk⟩
        obtain ⟨g1, rfl⟩ : ∃ g1, ao = some ⟨g1, 0, none⟩ := by
          obtain ⟨g1, c1', cur, e, _⟩ := own_block s1.at_.2 (by omega)
          simp only [Value.slice.injEq] at e
          exact ⟨g1, e.1⟩
        obtain ⟨g2, rfl⟩ : ∃ g2, bo = some ⟨g2, 0, none⟩ := by
          obtain ⟨g2, c1', cur, e, _⟩ := own_block s2.at_.2 (by omega)
          simp only [Value.slice.injEq] at e
          exact ⟨g2, e.1⟩
        obtain ⟨l1, l2⟩ := row_at s1.at_.2 ha
        obtain ⟨l3, l4⟩ := row_at s2.at_.2 hb'
        have HM := Lib.hid (And.intro ha (And.intro hb' (meet_step H1.out.can H2.out.can HR.out ha hb')))
        have z1 : p < wr.heap.size := s1.hi _ s1.fp
        have z2 : q < wr.heap.size := s2.hi _ s2.fp
        have z3 : g1 < wr.heap.size := s1.hi _ (s1.fv g1 rfl)
        have z4 : g2 < wr.heap.size := s2.hi _ (s2.fv g2 rfl)
        clear ha hb' s1 s2 hb
        have HL : Hid (w.heap.size < wr.heap.size) := Lib.hid (by
          obtain ⟨v, F, hv, _⟩ := HS.out
          exact hv.hi _ hv.fp)
        go_wp2_with fail
        go_region
        · obtain ⟨e1, e2, e3, e4⟩ := two_new wr (.cells #[.int .u32 a.1, .int .u32 a.2] 46) (.cells #[.int .u32 b.1, .int .u32 b.2] 46)
          generalize ((wr.alloc (.cells #[.int .u32 a.1, .int .u32 a.2] 46)).alloc (.cells #[.int .u32 b.1, .int .u32 b.2] 46)).drew = W at e1 e2 e3 e4 ⊢
          have ha0 : W.heap[wr.heap.size]? = some (.cells #[.int .u32 a.1, .int .u32 a.2] 46 (0, 0)) := by first | exact e1 | exact e2
          have hb0 : W.heap[wr.heap.size + 1]? = some (.cells #[.int .u32 b.1, .int .u32 b.2] 46 (0, 0)) := by first | exact e1 | exact e2
          obtain ⟨y1, y2⟩ := near_cells3 ha0
          obtain ⟨y3, y4⟩ := near_cells3 hb0
          have ws : W.heap.size = wr.heap.size + 2 := e3
          have wl : w.heap.size < wr.heap.size := HL.out
          obtain ⟨v, F, hv0, hvb0⟩ := HS.out
          have HV0 := Lib.hid hv0
          have HW := Lib.hid e4
          have HVB0 := Lib.hid hvb0
          have HAB := Lib.hid (And.intro ha0 hb0)
          have HRL := Lib.hid HR.out.len
          have hrl : R.length ≤ 1000 := by have := HR.out.len; omega
          obtain ⟨c, hc⟩ : ∃ c, c = comm a b := ⟨_, rfl⟩
          have x1 : (if a.1 < b.1 then b.1 else a.1) = c.1 := by rw [max_if, hc]; rfl
          have x2 : (if b.2 < a.2 then b.2 else a.2) = c.2 := by rw [min_if, hc]; rfl
          have HC := Lib.hid hc
          clear e1 e2 e3 e4 ha0 hb0 hc l1 l2 l3 l4 d1 d2 hv0 hvb0
          by_cases hcc : c.1 ≤ c.2
          · have hRc : meetR R a b = R ++ [c] := by unfold meetR; rw [← HC.out, if_pos hcc]
            have HRC := Lib.hid hRc
            have hbc := (Below.refl W.heap.size W).alloc (Nat.le_refl _) (.cells #[.int .u32 c.1, .int .u32 c.2] 46)
            have hv2 := (HV0.out.below HW.out).below hbc
            obtain ⟨fo, fc, efv, _⟩ := own_slice hv2.at_.2
            have o4 : ((W.alloc (.cells #[.int .u32 c.1, .int .u32 c.2] 46)).alloc (.cells #[.int .u32 c.1, .int .u32 c.2] 46)).cell? ⟨w.heap.size, 0, none⟩ = some v := cell1 (hv2.below ((Below.refl _ _).alloc (Nat.le_refl _) _)).at_.1
            have o0 := cell1 hv2.at_.1
            have o1 := free1 (i := 0) hv2.at_.1
            obtain ⟨o2, o3⟩ := near_cells3 (heap_alloc_new W (.cells #[.int .u32 c.1, .int .u32 c.2] 46))
            rw [ws] at o2 o3
            have HV2 := Lib.hid hv2
            have HNW := Lib.hid (show ∀ j u, (fl [c])[j]? = some u → ((W.alloc (.cells #[.int .u32 c.1, .int .u32 c.2] 46)).alloc (.cells #[.int .u32 c.1, .int .u32 c.2] 46)).cell? ((⟨wr.heap.size + 3, 0, none⟩ : Addr).add j) = some u from fun j u hu => by
              have := news2 (W.alloc (.cells #[.int .u32 c.1, .int .u32 c.2] 46)) c.1 c.2 j u hu
              rwa [World.size_alloc, ws] at this)
            have HO := Lib.hid (World.ownsRow.alloc hv2.at_.2 (.cells #[.int .u32 c.1, .int .u32 c.2] 46))
            have HKA := Lib.hid (show (W.alloc (.cells #[.int .u32 c.1, .int .u32 c.2] 46)).heap[wr.heap.size]? = some (.cells #[.int .u32 a.1, .int .u32 a.2] 46 (0, 0)) ∧ (W.alloc (.cells #[.int .u32 c.1, .int .u32 c.2] 46)).heap[wr.heap.size + 1]? = some (.cells #[.int .u32 b.1, .int .u32 b.2] 46 (0, 0)) from ⟨(heap_alloc_old _ _ (by omega)).trans HAB.out.1, (heap_alloc_old _ _ (by omega)).trans HAB.out.2⟩)
            have HSZ := Lib.hid (show (W.alloc (.cells #[.int .u32 c.1, .int .u32 c.2] 46)).heap.size = wr.heap.size + 3 by simp [ws])
            subst efv
            clear hv2 hRc hbc
            go_upto_region 9 with fail
            go_region_law (refine step_append_lies _ (by rfl) (.tmp 69) (.tmp 71) 37 (by rfl) w.heap.size 46 i0 _ 2 8 Try.underlying37 HZ.out.1 HZ.out.2.1 HZ.out.2.2.1 HZ.out.2.2.2 (by rfl) (by decide) _ R.length (fl R) (by rfl) HO.out ⟨wr.heap.size + 3, 0, none⟩ 1 1 (fl [c]) (by rfl) (by rfl) HNW.out (fl_one _) (by decide) (by unfold maxLen; omega) (by omega) (by simp; omega) (wr.heap.size + 4) (by simp; omega) ?_; intro g3 c3 w3 hown3 hgrow3 hat3 _; obtain ⟨u0, u1, u2, uk⟩ := meet_after (N := wr.heap.size) (o := (.cells #[.int .u32 c.1, .int .u32 c.2] 46)) HV2.out (fun k hk => HV0.out.hi k hk) hgrow3 rfl; have k1 := (near_cells3 (uk _ _ (by omega) HKA.out.1)).2; have k2 := (near_cells3 (uk _ _ (by omega) HKA.out.2)).2; have H5 := Lib.hid (meet_store (c := c) HV2.out (grown_of hgrow3 rfl rfl rfl rfl) hown3 (by rw [HSZ.out]; rcases hat3 with e | e; exact .inl e; exact .inr (by omega)) (by rw [← HRC.out]; exact HM.out.2.2.1)); clear hown3 hgrow3 hat3 u0 uk)
            all_goals
              have HST := Lib.hid (show SetIs w.heap.size w (w3.setCell ⟨w.heap.size, 0, none⟩ (.slice (some ⟨g3, 0, none⟩) (R.length + 1) c3)) w.heap.size (meetR R a b) by
                rw [HRC.out]
                exact did_is HV2.out H5.out (HVB0.out.trans ((HW.out.mono HV0.out.base).trans (((Below.refl W.heap.size W).alloc (Nat.le_refl _) (.cells #[.int .u32 c.1, .int .u32 c.2] 46)).mono (Nat.le_trans HV0.out.base HW.out.size)))))
              clear HNW HO HKA HSZ o0 o1 o2 o3 o4 y1 y2 y3 y4 x1 x2 HC HRC H5 HV0 HW HVB0 HAB HRL HV2 z1 z2 z3 z4 S1 H1 H2 HR HS HB HL
              by_cases hab : a.2 < b.2
              · have HLT := Lib.hid hab
                go_wp2_with fail
                refine ⟨⟨i + 1, k, by omega, by omega, rfl, rfl, Lib.hid ⟨_, HM.out.2.2.2.1 HLT.out, HST.out⟩⟩, by simp [intOf]; omega⟩
              · have HLT := Lib.hid hab
                go_wp2_with fail
                refine ⟨⟨i, k + 1, by omega, by omega, rfl, rfl, Lib.hid ⟨_, HM.out.2.2.2.2 (by have := HLT.out; omega), HST.out⟩⟩, by simp [intOf]; omega⟩
          · have hRc : meetR R a b = R := by unfold meetR; rw [← HC.out, if_neg hcc]
            have hST : SetIs w.heap.size w (W.alloc (.cells #[.int .u32 c.1, .int .u32 c.2] 46)) w.heap.size (meetR R a b) := by
              rw [hRc]
              exact (HS.out.below HW.out).below ((Below.refl W.heap.size W).alloc (Nat.le_refl _) (.cells #[.int .u32 c.1, .int .u32 c.2] 46))
            have HST := Lib.hid hST
            clear hRc hST
            go_upto_region 10 with fail
            by_cases hab : a.2 < b.2
            · have HLT := Lib.hid hab
              go_wp2_with fail
              refine ⟨⟨i + 1, k, by omega, by omega, rfl, rfl, Lib.hid ⟨_, HM.out.2.2.2.1 HLT.out, HST.out⟩⟩, by simp [intOf]; omega⟩
            · have HLT := Lib.hid hab
              go_wp2_with fail
              refine ⟨⟨i, k + 1, by omega, by omega, rfl, rfl, Lib.hid ⟨_, HM.out.2.2.2.2 (by have := HLT.out; omega), HST.out⟩⟩, by simp [intOf]; omega⟩
        · obtain ⟨e1, e2, e3, e4⟩ := two_new wr (.cells #[.int .u32 b.1, .int .u32 b.2] 46) (.cells #[.int .u32 a.1, .int .u32 a.2] 46)
          generalize ((wr.alloc (.cells #[.int .u32 b.1, .int .u32 b.2] 46)).alloc (.cells #[.int .u32 a.1, .int .u32 a.2] 46)).drew = W at e1 e2 e3 e4 ⊢
          have ha0 : W.heap[wr.heap.size + 1]? = some (.cells #[.int .u32 a.1, .int .u32 a.2] 46 (0, 0)) := by first | exact e1 | exact e2
          have hb0 : W.heap[wr.heap.size]? = some (.cells #[.int .u32 b.1, .int .u32 b.2] 46 (0, 0)) := by first | exact e1 | exact e2
          obtain ⟨y1, y2⟩ := near_cells3 ha0
          obtain ⟨y3, y4⟩ := near_cells3 hb0
          have ws : W.heap.size = wr.heap.size + 2 := e3
          have wl : w.heap.size < wr.heap.size := HL.out
          obtain ⟨v, F, hv0, hvb0⟩ := HS.out
          have HV0 := Lib.hid hv0
          have HW := Lib.hid e4
          have HVB0 := Lib.hid hvb0
          have HAB := Lib.hid (And.intro ha0 hb0)
          have HRL := Lib.hid HR.out.len
          have hrl : R.length ≤ 1000 := by have := HR.out.len; omega
          obtain ⟨c, hc⟩ : ∃ c, c = comm a b := ⟨_, rfl⟩
          have x1 : (if a.1 < b.1 then b.1 else a.1) = c.1 := by rw [max_if, hc]; rfl
          have x2 : (if b.2 < a.2 then b.2 else a.2) = c.2 := by rw [min_if, hc]; rfl
          have HC := Lib.hid hc
          clear e1 e2 e3 e4 ha0 hb0 hc l1 l2 l3 l4 d1 d2 hv0 hvb0
          by_cases hcc : c.1 ≤ c.2
          · have hRc : meetR R a b = R ++ [c] := by unfold meetR; rw [← HC.out, if_pos hcc]
            have HRC := Lib.hid hRc
            have hbc := (Below.refl W.heap.size W).alloc (Nat.le_refl _) (.cells #[.int .u32 c.1, .int .u32 c.2] 46)
            have hv2 := (HV0.out.below HW.out).below hbc
            obtain ⟨fo, fc, efv, _⟩ := own_slice hv2.at_.2
            have o4 : ((W.alloc (.cells #[.int .u32 c.1, .int .u32 c.2] 46)).alloc (.cells #[.int .u32 c.1, .int .u32 c.2] 46)).cell? ⟨w.heap.size, 0, none⟩ = some v := cell1 (hv2.below ((Below.refl _ _).alloc (Nat.le_refl _) _)).at_.1
            have o0 := cell1 hv2.at_.1
            have o1 := free1 (i := 0) hv2.at_.1
            obtain ⟨o2, o3⟩ := near_cells3 (heap_alloc_new W (.cells #[.int .u32 c.1, .int .u32 c.2] 46))
            rw [ws] at o2 o3
            have HV2 := Lib.hid hv2
            have HNW := Lib.hid (show ∀ j u, (fl [c])[j]? = some u → ((W.alloc (.cells #[.int .u32 c.1, .int .u32 c.2] 46)).alloc (.cells #[.int .u32 c.1, .int .u32 c.2] 46)).cell? ((⟨wr.heap.size + 3, 0, none⟩ : Addr).add j) = some u from fun j u hu => by
              have := news2 (W.alloc (.cells #[.int .u32 c.1, .int .u32 c.2] 46)) c.1 c.2 j u hu
              rwa [World.size_alloc, ws] at this)
            have HO := Lib.hid (World.ownsRow.alloc hv2.at_.2 (.cells #[.int .u32 c.1, .int .u32 c.2] 46))
            have HKA := Lib.hid (show (W.alloc (.cells #[.int .u32 c.1, .int .u32 c.2] 46)).heap[wr.heap.size + 1]? = some (.cells #[.int .u32 a.1, .int .u32 a.2] 46 (0, 0)) ∧ (W.alloc (.cells #[.int .u32 c.1, .int .u32 c.2] 46)).heap[wr.heap.size]? = some (.cells #[.int .u32 b.1, .int .u32 b.2] 46 (0, 0)) from ⟨(heap_alloc_old _ _ (by omega)).trans HAB.out.1, (heap_alloc_old _ _ (by omega)).trans HAB.out.2⟩)
            have HSZ := Lib.hid (show (W.alloc (.cells #[.int .u32 c.1, .int .u32 c.2] 46)).heap.size = wr.heap.size + 3 by simp [ws])
            subst efv
            clear hv2 hRc hbc
            go_upto_region 9 with fail
            go_region_law (refine step_append_lies _ (by rfl) (.tmp 69) (.tmp 71) 37 (by rfl) w.heap.size 46 i0 _ 2 8 Try.underlying37 HZ.out.1 HZ.out.2.1 HZ.out.2.2.1 HZ.out.2.2.2 (by rfl) (by decide) _ R.length (fl R) (by rfl) HO.out ⟨wr.heap.size + 3, 0, none⟩ 1 1 (fl [c]) (by rfl) (by rfl) HNW.out (fl_one _) (by decide) (by unfold maxLen; omega) (by omega) (by simp; omega) (wr.heap.size + 4) (by simp; omega) ?_; intro g3 c3 w3 hown3 hgrow3 hat3 _; obtain ⟨u0, u1, u2, uk⟩ := meet_after (N := wr.heap.size) (o := (.cells #[.int .u32 c.1, .int .u32 c.2] 46)) HV2.out (fun k hk => HV0.out.hi k hk) hgrow3 rfl; have k1 := (near_cells3 (uk _ _ (by omega) HKA.out.1)).2; have k2 := (near_cells3 (uk _ _ (by omega) HKA.out.2)).2; have H5 := Lib.hid (meet_store (c := c) HV2.out (grown_of hgrow3 rfl rfl rfl rfl) hown3 (by rw [HSZ.out]; rcases hat3 with e | e; exact .inl e; exact .inr (by omega)) (by rw [← HRC.out]; exact HM.out.2.2.1)); clear hown3 hgrow3 hat3 u0 uk)
            all_goals
              have HST := Lib.hid (show SetIs w.heap.size w (w3.setCell ⟨w.heap.size, 0, none⟩ (.slice (some ⟨g3, 0, none⟩) (R.length + 1) c3)) w.heap.size (meetR R a b) by
                rw [HRC.out]
                exact did_is HV2.out H5.out (HVB0.out.trans ((HW.out.mono HV0.out.base).trans (((Below.refl W.heap.size W).alloc (Nat.le_refl _) (.cells #[.int .u32 c.1, .int .u32 c.2] 46)).mono (Nat.le_trans HV0.out.base HW.out.size)))))
              clear HNW HO HKA HSZ o0 o1 o2 o3 o4 y1 y2 y3 y4 x1 x2 HC HRC H5 HV0 HW HVB0 HAB HRL HV2 z1 z2 z3 z4 S1 H1 H2 HR HS HB HL
              by_cases hab : a.2 < b.2
              · have HLT := Lib.hid hab
                go_wp2_with fail
                refine ⟨⟨i + 1, k, by omega, by omega, rfl, rfl, Lib.hid ⟨_, HM.out.2.2.2.1 HLT.out, HST.out⟩⟩, by simp [intOf]; omega⟩
              · have HLT := Lib.hid hab
                go_wp2_with fail
                refine ⟨⟨i, k + 1, by omega, by omega, rfl, rfl, Lib.hid ⟨_, HM.out.2.2.2.2 (by have := HLT.out; omega), HST.out⟩⟩, by simp [intOf]; omega⟩
          · have hRc : meetR R a b = R := by unfold meetR; rw [← HC.out, if_neg hcc]
            have hST : SetIs w.heap.size w (W.alloc (.cells #[.int .u32 c.1, .int .u32 c.2] 46)) w.heap.size (meetR R a b) := by
              rw [hRc]
              exact (HS.out.below HW.out).below ((Below.refl W.heap.size W).alloc (Nat.le_refl _) (.cells #[.int .u32 c.1, .int .u32 c.2] 46))
            have HST := Lib.hid hST
            clear hRc hST
            go_upto_region 10 with fail
            by_cases hab : a.2 < b.2
            · have HLT := Lib.hid hab
              go_wp2_with fail
              refine ⟨⟨i + 1, k, by omega, by omega, rfl, rfl, Lib.hid ⟨_, HM.out.2.2.2.1 HLT.out, HST.out⟩⟩, by simp [intOf]; omega⟩
            · have HLT := Lib.hid hab
              go_wp2_with fail
              refine ⟨⟨i, k + 1, by omega, by omega, rfl, rfl, Lib.hid ⟨_, HM.out.2.2.2.2 (by have := HLT.out; omega), HST.out⟩⟩, by simp [intOf]; omega⟩
      · obtain rfl : k = K.length := by omega
        have hfin := Lib.hid (meet_end HR.out (by omega))
        have HRL := Lib.hid HR.out.len
        clear s1 s2 hb
        go_wp2_with fail
        go_ret2
        exact ⟨R, rfl, HS.out, hfin.out, by have := HRL.out; omega⟩
    · obtain rfl : i = L.length := by omega
      have hfin := Lib.hid (meet_end HR.out (by omega))
      have HRL := Lib.hid HR.out.len
      clear s1 s2 hb
      go_wp2_with fail
      go_ret2
      exact ⟨R, rfl, HS.out, hfin.out, by have := HRL.out; omega⟩
end Go.Proofs.Ytgbhdccadelcfaa.Sp
