/- session: strings.Clone, slices.Clone, own.Value, own.list, own.Answer, walked. -/
import Derived.Test.YteikhbfdegmffaaA2
import Derived.Test.YteikhbfdegmffaaShelf
namespace Go.Proofs.Yteikhbfdegmffaa.Se
open Go Go.RowKit
theorem clone_any (s : ByteArray) (w : World) (h : s.size ≤ 281474976710656) : Calls Try.prog 25 #[.string s] w fun e w' => e = .returned (.string s) ∧ Below w.heap.size w w' := by
  have HC := Lib.hid (Try.stringslite_Clone s w h)
  clear h
  go_enter Try.func25, Try.ntmps25
  go_wp2_with (go_at_call 26; refine HC.out.mono ?_; rintro e w1 ⟨rfl, hb⟩; have H1 := Lib.hid hb; clear hb)
  go_ret
  exact ⟨rfl, H1.out⟩
abbrev val (k n : Int) (s : ByteArray) : Value := .agg #[.int .u8 k, .int .i64 n, .string s]
theorem size59 : (Try.prog.info? 59).map (·.size) = some 3 := by kernel_rfl
theorem three {w : World} {b : Nat} {c0 c1 c2 : Value} {t : TypeId} (u0 u1 u2 : Value) (h : w.heap[b]? = some (.cells #[c0, c1, c2] t (0, 0))) :
    w.cell? ⟨b, 0, none⟩ = some c0 ∧ w.frozen? ⟨b, 0, none⟩ = false ∧
    (w.setCell ⟨b, 0, none⟩ u0).cell? ⟨b, 1, none⟩ = some c1 ∧ (w.setCell ⟨b, 0, none⟩ u0).frozen? ⟨b, 1, none⟩ = false ∧
    ((w.setCell ⟨b, 0, none⟩ u0).setCell ⟨b, 1, none⟩ u1).cell? ⟨b, 2, none⟩ = some c2 ∧ ((w.setCell ⟨b, 0, none⟩ u0).setCell ⟨b, 1, none⟩ u1).frozen? ⟨b, 2, none⟩ = false ∧
    (((w.setCell ⟨b, 0, none⟩ u0).setCell ⟨b, 1, none⟩ u1).setCell ⟨b, 2, none⟩ u2).heap[b]? = some (.cells #[u0, u1, u2] t (0, 0)) := by
  have h1 := set_block (i := 0) (v := u0) h
  have h2 := set_block (i := 1) (v := u1) h1
  have h3 := set_block (i := 2) (v := u2) h2
  exact ⟨by simp [World.cell?, h], free4 h, by simp [World.cell?, h1], free4 h1, by simp [World.cell?, h2], free4 h2, h3.trans rfl⟩
set_option maxHeartbeats 1000000 in
theorem val_own (k n : Int) (s : ByteArray) (w : World) (h : s.size ≤ 281474976710656) : Calls Try.prog 22 #[val k n s] w fun e w' => e = .returned (val k n s) ∧ Below w.heap.size w w' := by
  obtain ⟨A, hA⟩ : ∃ A, A = (w.alloc (.cells #[.int .u8 k, .int .i64 n, .string s] 59)).alloc (.cells #[.int .u8 0, .int .i64 0, .string ⟨#[]⟩] 59) := ⟨_, rfl⟩
  have kA : A.heap[w.heap.size]? = some (.cells #[.int .u8 k, .int .i64 n, .string s] 59 (0, 0)) := by rw [hA]; exact (heap_alloc_old _ _ (by simp)).trans (heap_alloc_new _ _)
  have kZ : A.heap[w.heap.size + 1]? = some (.cells #[.int .u8 0, .int .i64 0, .string ⟨#[]⟩] 59 (0, 0)) := by rw [hA]; exact heap_alloc2_new _ _ _
  have hb : Below w.heap.size w A := by rw [hA]; exact ((Below.refl _ w).alloc (Nat.le_refl _) _).alloc (by simp) _
  have HC := Lib.hid (clone_any s A h)
  have K := Lib.hid (And.intro kA (And.intro kZ hb))
  clear h kA kZ hb
  subst hA
  go_enter Try.func22, Try.ntmps22
  go_wp2_with (go_at_call 25; refine HC.out.mono ?_; rintro e w1 ⟨rfl, hb1⟩; have q0 := (hb1.block w.heap.size (by simp; omega)).trans K.out.1; have q1 := (hb1.block (w.heap.size + 1) (by simp)).trans K.out.2.1; have H1 := Lib.hid (And.intro q0 (And.intro q1 (K.out.2.2.trans (hb1.mono (by simp; omega))))); have c2 : w1.cell? ⟨w.heap.size, 2, none⟩ = some (.string s) := (by simp [World.cell?, q0]); have z2 := free4 (i := 2) q0; have p0 := (set_block (i := 2) (v := .string s) q0).trans rfl; have r1 := ((grown_set w1 w.heap.size 2 (.string s)).block (w.heap.size + 1) (Array.getElem?_eq_some_iff.1 q1).1 (by simp)).trans q1; have P0 := Lib.hid (show (w1.setCell ⟨w.heap.size, 2, none⟩ (.string s)).heap[w.heap.size]? = some (.cells #[.int .u8 k, .int .i64 n, .string s] 59 (0, 0)) from p0); have m0 : (w1.setCell ⟨w.heap.size, 2, none⟩ (.string s)).cell? ⟨w.heap.size, 0, none⟩ = some (.int .u8 k) := (by simp [World.cell?, P0.out]); have m1 : (w1.setCell ⟨w.heap.size, 2, none⟩ (.string s)).cell? ⟨w.heap.size, 1, none⟩ = some (.int .i64 n) := (by simp [World.cell?, P0.out]); have m2 : (w1.setCell ⟨w.heap.size, 2, none⟩ (.string s)).cell? ⟨w.heap.size, 2, none⟩ = some (.string s) := (by simp [World.cell?, P0.out]); obtain ⟨k0, f0, k1, f1, k2, f2, hend⟩ := three (.int .u8 k) (.int .i64 n) (.string s) r1; have HEnd := Lib.hid hend; clear hb1 q0 q1 p0 r1 hend)
  have hg : (w1.setCell ⟨w.heap.size, 2, none⟩ (.string s)).grownBy ((((w1.setCell ⟨w.heap.size, 2, none⟩ (.string s)).setCell ⟨w.heap.size + 1, 0, none⟩ (.int .u8 k)).setCell ⟨w.heap.size + 1, 1, none⟩ (.int .i64 n)).setCell ⟨w.heap.size + 1, 2, none⟩ (.string s)) (some (w.heap.size + 1)) := ((grown_set _ _ 0 _).trans (grown_set _ _ 1 _)).trans (grown_set _ _ 2 _)
  have hb4 := (H1.out.2.2.grown (grown_set w1 w.heap.size 2 (.string s)) H1.out.2.2.size (fun g e => by have := Option.some.inj e; omega))
  refine bodyPost_ret (v := val k n s) (results_cell_row rfl _ _ (w.heap.size + 1) 59 _ (0, 0) _ rfl HEnd.out Try.underlying59 rfl size59) rfl ?_
  exact ⟨rfl, hb4.grown hg hb4.size (fun g e => by have := Option.some.inj e; omega)⟩
/-- A list in memory of its own, or none. -/
def LaidV (w : World) (E sz : Nat) (n : Nat) (cs : List Value) (e : Ending) (w' : World) : Prop :=
  ∃ ao c, e = .returned (.slice ao n c) ∧ (ao = none → n = 0 ∧ c = 0) ∧ w'.ownsRow w.heap.size E sz (.slice ao n c) n cs ∧ Below w.heap.size w w'
theorem own_mono {W : World} {B B' e s k : Nat} {v : Value} {cs : List Value} (h : W.ownsRow B e s v k cs) (hB : B' ≤ B) : W.ownsRow B' e s v k cs := by
  rcases h with ⟨h0, h1 | ⟨g, cap, cur, h2, h3, h4⟩⟩
  · exact ⟨h0, .inl h1⟩
  · exact ⟨h0, .inr ⟨g, cap, cur, h2, Nat.le_trans hB h3, h4⟩⟩
set_option maxHeartbeats 1000000 in
theorem cloneV (ad : Addr) (n c : Nat) (cs : List Value) (w : World) (hl : cs.length = n * 3) (hr : RdC w (some ad) cs) (h1 : ∀ u ∈ cs, u.oneCell' = true) (hL : n * 32 ≤ 140737488355328) : Calls Try.prog 23 #[.slice (some ad) n c] w (LaidV w 59 3 n cs) := by
  obtain ⟨i0, hi0, hz0, hz1, hz2⟩ := info_parts info59
  have HO := Lib.hid (lit0 w w.heap.size 59 3 (Nat.le_refl _))
  have hb := Lib.hid ((Below.refl w.heap.size w).alloc (Nat.le_refl _) (.cells #[] 59))
  have HR := Lib.hid (hr.below hb.out)
  have hq : ∀ w, (binOp .eql 25 (.slice (some ad) n c) (.slice none 0 0)).run Try.prog w = .ok (.bool false) w := fun w => Lib.run_eql_slice_nil (P := Try.prog) w 25 59 (some ad) n c 0 0 Try.underlying25
  clear hr
  go_enter Try.func23, Try.ntmps23
  go_wp2_with (at_builtin; refine wpList_lay rfl (.tmp 5) (.tmp 6) 25 rfl w.heap.size 59 i0 _ 3 32 Try.underlying25 hi0 hz0 hz1 hz2 rfl (by decide) (by decide) _ rfl HO.out (some ad) n c cs rfl (fun e => by cases e) hl HR.out h1 hL (by simp) ?_; intro ao' c' w3 hn hown hgrow; have H3 := Lib.hid (And.intro hn (And.intro hown (hb.out.grown hgrow hb.out.size (fun k hk => (World.ownsRow.lt HO.out k hk).1)))); clear hn hown hgrow)
  go_ret
  exact ⟨ao', c', rfl, H3.out.1, H3.out.2.1, H3.out.2.2⟩
set_option maxHeartbeats 1000000 in
theorem listV (ao : Option Addr) (n c : Nat) (cs : List Value) (w : World) (hno : ao = none → n = 0 ∧ c = 0) (hl : cs.length = n * 3) (hr : RdC w ao cs) (h1 : ∀ u ∈ cs, u.oneCell' = true) (hL : n * 32 ≤ 140737488355328) : Calls Try.prog 20 #[.slice ao n c] w (LaidV w 59 3 n cs) := by
  by_cases h0 : n = 0
  · subst h0
    obtain rfl : cs = [] := List.eq_nil_of_length_eq_zero (by rw [hl, Nat.zero_mul])
    clear hno hl hr h1 hL
    go_enter Try.func20, Try.ntmps20
    go_wp2_with fail
    go_ret
    exact ⟨none, 0, rfl, fun _ => ⟨rfl, rfl⟩, World.ownsRow_nil _ _ _ _, Below.refl _ _⟩
  · obtain ⟨ad, rfl⟩ : ∃ ad, ao = some ad := by
      cases ao with
      | none => exact absurd (hno rfl).1 h0
      | some ad => exact ⟨ad, rfl⟩
    have HC := Lib.hid (cloneV ad n c cs w hl hr h1 hL)
    have hx : ¬ ((n : Int) = 0) := by omega
    clear hno hl hr h1 hL
    go_enter Try.func20, Try.ntmps20
    go_wp2_with (go_at_call 23; refine HC.out.mono ?_; rintro e w3 ⟨ao', c', rfl, ha, hb, hc⟩; have H3 := Lib.hid (And.intro ha (And.intro hb hc)); clear ha hb hc)
    go_ret
    exact ⟨ao', c', rfl, H3.out.1, H3.out.2.1, H3.out.2.2⟩
set_option maxHeartbeats 1000000 in
theorem cloneN (ad : Addr) (n c : Nat) (cs : List Value) (w : World) (hl : cs.length = n * 1) (hr : RdC w (some ad) cs) (h1 : ∀ u ∈ cs, u.oneCell' = true) (hL : n * 4 ≤ 140737488355328) : Calls Try.prog 24 #[.slice (some ad) n c] w (LaidV w 23 1 n cs) := by
  obtain ⟨i0, hi0, hz0, hz1, hz2⟩ := info_parts info23
  have HO := Lib.hid (lit0 w w.heap.size 23 1 (Nat.le_refl _))
  have hb := Lib.hid ((Below.refl w.heap.size w).alloc (Nat.le_refl _) (.cells #[] 23))
  have HR := Lib.hid (hr.below hb.out)
  have hq : ∀ w, (binOp .eql 26 (.slice (some ad) n c) (.slice none 0 0)).run Try.prog w = .ok (.bool false) w := fun w => Lib.run_eql_slice_nil (P := Try.prog) w 26 23 (some ad) n c 0 0 Try.underlying26
  clear hr
  go_enter Try.func24, Try.ntmps24
  go_wp2_with (at_builtin; refine wpList_lay rfl (.tmp 5) (.tmp 6) 26 rfl w.heap.size 23 i0 _ 1 4 Try.underlying26 hi0 hz0 hz1 hz2 rfl (by decide) (by decide) _ rfl HO.out (some ad) n c cs rfl (fun e => by cases e) hl HR.out h1 hL (by simp) ?_; intro ao' c' w3 hn hown hgrow; have H3 := Lib.hid (And.intro hn (And.intro hown (hb.out.grown hgrow hb.out.size (fun k hk => (World.ownsRow.lt HO.out k hk).1)))); clear hn hown hgrow)
  go_ret
  exact ⟨ao', c', rfl, H3.out.1, H3.out.2.1, H3.out.2.2⟩
set_option maxHeartbeats 1000000 in
theorem listN (ao : Option Addr) (n c : Nat) (cs : List Value) (w : World) (hno : ao = none → n = 0 ∧ c = 0) (hl : cs.length = n * 1) (hr : RdC w ao cs) (h1 : ∀ u ∈ cs, u.oneCell' = true) (hL : n * 4 ≤ 140737488355328) : Calls Try.prog 21 #[.slice ao n c] w (LaidV w 23 1 n cs) := by
  by_cases h0 : n = 0
  · subst h0
    obtain rfl : cs = [] := List.eq_nil_of_length_eq_zero (by rw [hl, Nat.zero_mul])
    clear hno hl hr h1 hL
    go_enter Try.func21, Try.ntmps21
    go_wp2_with fail
    go_ret
    exact ⟨none, 0, rfl, fun _ => ⟨rfl, rfl⟩, World.ownsRow_nil _ _ _ _, Below.refl _ _⟩
  · obtain ⟨ad, rfl⟩ : ∃ ad, ao = some ad := by
      cases ao with
      | none => exact absurd (hno rfl).1 h0
      | some ad => exact ⟨ad, rfl⟩
    have HC := Lib.hid (cloneN ad n c cs w hl hr h1 hL)
    have hx : ¬ ((n : Int) = 0) := by omega
    clear hno hl hr h1 hL
    go_enter Try.func21, Try.ntmps21
    go_wp2_with (go_at_call 24; refine HC.out.mono ?_; rintro e w3 ⟨ao', c', rfl, ha, hb, hc⟩; have H3 := Lib.hid (And.intro ha (And.intro hb hc)); clear ha hb hc)
    go_ret
    exact ⟨ao', c', rfl, H3.out.1, H3.out.2.1, H3.out.2.2⟩
/-- What is stored already may be stored once more. -/
theorem cell_same {w : World} {g i : Nat} {v : Value} (h : w.cell? ⟨g, i, none⟩ = some v) : w.setCell ⟨g, i, none⟩ v = w := by
  unfold World.cell? at h
  simp only at h
  split at h
  · rename_i c e f hg
    simp only [Option.isSome_none, Bool.false_eq_true, if_false] at h
    have hh : w.heap.modify g (fun
        | .cells c elem frozen => .cells (if (⟨g, i, none⟩ : Addr).spot.isSome then c else c.setIfInBounds (⟨g, i, none⟩ : Addr).off v) elem frozen
        | o => o) = w.heap := by
      apply Array.ext_getElem?
      intro k
      rw [Array.getElem?_modify]
      by_cases e1 : g = k
      · subst e1
        rw [if_pos rfl, hg]
        simp only [Option.map_some, Option.isSome_none, Bool.false_eq_true, if_false]
        congr 2
        apply Array.ext_getElem?
        intro m
        rw [Array.getElem?_setIfInBounds]
        by_cases e2 : i = m
        · subst e2
          rw [if_pos rfl, h]
          simp [(Array.getElem?_eq_some_iff.1 h).1]
        · rw [if_neg e2]
      · rw [if_neg e1]
    exact congrArg (fun h => ({ w with heap := h } : World)) hh
  · simp at h
theorem frozen_below {B g i : Nat} {w w' : World} (h : Below B w w') (hg : g < B) : w'.frozen? ⟨g, i, none⟩ = w.frozen? ⟨g, i, none⟩ := by
  simp [World.frozen?, h.block g hg]
theorem keepS {w' : World} {A : Addr} {x : Option Value} {g q : Nat} {v : Value} {H : World → Prop} (h : (w'.cell? A = x ∧ w'.cell? ⟨g, q, none⟩ = some v ∧ w'.frozen? ⟨g, q, none⟩ = false) ∧ H w') :
    ((w'.setCell ⟨g, q, none⟩ v).cell? A = x ∧ (w'.setCell ⟨g, q, none⟩ v).cell? ⟨g, q, none⟩ = some v ∧ (w'.setCell ⟨g, q, none⟩ v).frozen? ⟨g, q, none⟩ = false) ∧ H (w'.setCell ⟨g, q, none⟩ v) := by
  rw [cell_same h.1.2.1]; exact h
/-- Behind the lists: both laid anew. -/
structure LaidI (w : World) (a : An) (vo : Option Addr) (vc : Nat) (lo : Option Addr) (lc : Nat) (wr : World) : Prop where
  st : LayI w a.E a.At (.slice vo a.V.length vc) (.slice lo a.L.length lc) wr
  v : wr.ownsRow (w.heap.size + 2) 59 3 (.slice vo a.V.length vc) a.V.length (flV a.V)
  l : wr.ownsRow (w.heap.size + 2) 23 1 (.slice lo a.L.length lc) a.L.length (flN a.L)
  nv : vo = none → a.V.length = 0 ∧ vc = 0
  nl : lo = none → a.L.length = 0 ∧ lc = 0
theorem LaidI.below {w wr w' : World} {a : An} {vo lo : Option Addr} {vc lc : Nat} (h : LaidI w a vo vc lo lc wr) (hb : Below wr.heap.size wr w') : LaidI w a vo vc lo lc w' :=
  ⟨h.st.turn (Z := fun _ => False) (below_any hb) (fun _ => False.elim), own_on h.v (fun g e => hb.block g (World.ownsRow.lt h.v g e).2), own_on h.l (fun g e => hb.block g (World.ownsRow.lt h.l g e).2), h.nv, h.nl⟩
theorem LaidI.at3 {w wr : World} {a : An} {vo lo : Option Addr} {vc lc : Nat} (h : LaidI w a vo vc lo lc wr) {j : Nat} {t : VT} (ht : a.V[j]? = some t) : ∃ g, vo = some ⟨g, 0, none⟩ ∧ wr.cell? ⟨g, j * 3, none⟩ = some (.int .u8 t.1) ∧ wr.cell? ⟨g, j * 3 + 1, none⟩ = some (.int .i64 t.2.1) ∧ wr.cell? ⟨g, j * 3 + 2, none⟩ = some (.string t.2.2) ∧ (∀ i, wr.frozen? ⟨g, i, none⟩ = false) ∧ a.V.length ≤ vc := by
  rcases h.v.2 with ⟨h0, h1⟩ | ⟨g, cap', cur, h0, h1, h2, h3, h4⟩
  · rw [List.eq_nil_of_length_eq_zero h1] at ht; simp at ht
  · injection h0 with h0 _ hc
    subst h0; subst hc
    have h0 := h.v.cells (g := g) rfl _ _ (flV_at ht 0 (by omega))
    have h1' := h.v.cells (g := g) rfl _ _ (flV_at ht 1 (by omega))
    have h2' := h.v.cells (g := g) rfl _ _ (flV_at ht 2 (by omega))
    rw [Go.WideShapes.add_plain, Nat.zero_add] at h0 h1' h2'
    exact ⟨g, rfl, h0, h1', h2', fun i => by simp [World.frozen?, h2], h3⟩
set_option maxRecDepth 100000 in
set_option maxHeartbeats 1000000 in
theorem own_any (a : An) (p : Pl) (w : World) (h : AnAt w a p) : Calls Try.prog 16 #[a.val p] w fun e w' => OwnOf a w e w' := by
  obtain ⟨E, At, V, L⟩ := a
  obtain ⟨vo, vc, lo, lc⟩ := p
  have H := Lib.hid h
  clear h
  unfold An.val
  simp only
  have S1 := Lib.hid (LayI.start w E At (.slice vo V.length vc) (.slice lo L.length lc))
  obtain ⟨W, hW⟩ : ∃ W, W = (w.alloc (.cells #[.int .i64 E, .int .i64 At, .slice vo V.length vc, .slice lo L.length lc] 28)).alloc (.cells #[.int .i64 0, .int .i64 0, .slice none 0 0, .slice none 0 0] 28) := ⟨_, rfl⟩
  have HW := Lib.hid hW
  rw [← hW] at S1
  clear hW
  go_enter Try.func16, Try.ntmps16
  go_upto_region 1 with fail
  rw [← HW.out]
  clear HW
  have HCV := Lib.hid (fun W' (hb : Below W.heap.size W W') => listV vo V.length vc (flV V) W' H.out.nv (flV_len V) ((H.out.v.below S1.out.b).below hb) (flV_one V) H.out.ok.v)
  have HCN := Lib.hid (fun W' (hb : Below W.heap.size W W') => listN lo L.length lc (flN L) W' H.out.nl (by rw [flN_len, Nat.mul_one]) ((H.out.l.below S1.out.b).below hb) (flN_one L) H.out.ok.l)
  have s2 := S1.out.cells.2.2.1
  have s3 := S1.out.cells.2.2.2.1
  go_region_law (first
    | (go_simp; go_at_call 20; refine (HCV.out _ (by first | exact (Below.refl _ _).drew | exact Below.refl _ _)).mono ?_; rintro e w1 ⟨vo', vc', rfl, hn, hown, hb⟩; have hb' : Below W.heap.size W w1 := (Below.refl _ W).drew.trans hb; have H1 := Lib.hid (S1.out.turn (below_any hb') (fun _ => False.elim)); have V1 := Lib.hid (And.intro hn (And.intro hown hb')); have t2 := H1.out.cells.2.2.1; have t3 := H1.out.cells.2.2.2.1; clear hn hown hb hb')
    | (go_simp; go_at_call 21; refine (HCN.out _ V1.out.2.2).mono ?_; rintro e w2 ⟨lo', lc', rfl, hn, hown, hb⟩; have H2 := Lib.hid (H1.out.turn (below_any hb) (fun _ => False.elim)); have L2 := Lib.hid (And.intro hn (And.intro hown hb)); obtain ⟨_, _, u2, u3, uz⟩ := H2.out.cells; have H3 := Lib.hid (H2.out.set2 (.slice vo' V.length vc')); obtain ⟨_, _, _, v3, vz⟩ := H3.out.cells; clear hn hown hb))
  all_goals
    have l0 := S1.out.lt
    have l1 := H1.out.lt
    have V2 := own_mono V1.out.2.1 (B' := w.heap.size + 2) (by show _ ≤ W.heap.size; omega)
    have V5 := own_off (own_off (own_on V2 (fun g e => L2.out.2.2.block g (World.ownsRow.lt V2 g e).2)) (grown_set w2 w.heap.size 2 (.slice vo' V.length vc')) (by omega)) (grown_set _ w.heap.size 3 (.slice lo' L.length lc')) (by omega)
    have L5 := own_off (own_off (own_mono L2.out.2.1 (B' := w.heap.size + 2) (by omega)) (grown_set w2 w.heap.size 2 (.slice vo' V.length vc')) (by omega)) (grown_set _ w.heap.size 3 (.slice lo' L.length lc')) (by omega)
    have HI : Hid (LaidI w ⟨E, At, V, L⟩ vo' vc' lo' lc' ((w2.setCell ⟨w.heap.size, 2, none⟩ (.slice vo' V.length vc')).setCell ⟨w.heap.size, 3, none⟩ (.slice lo' L.length lc'))) := Lib.hid ⟨H3.out.set3 _, V5, L5, V1.out.1, L2.out.1⟩
    have y2 := HI.out.st.cells.2.2.1
    clear V5 L5 V2 H3 V1 L2 H1 H2 s2 s3 t2 t3 u2 u3 uz v3 vz HCV HCN S1 l0 l1
    obtain ⟨W9, hW9⟩ : ∃ W9, (w2.setCell ⟨w.heap.size, 2, none⟩ (.slice vo' V.length vc')).setCell ⟨w.heap.size, 3, none⟩ (.slice lo' L.length lc') = W9 := ⟨_, rfl⟩
    rw [hW9] at HI y2 ⊢
    clear hW9
    go_wp2_with fail
    clear y2
    obtain ⟨n, hn⟩ : ∃ n, V.length = n := ⟨_, rfl⟩
    have HN := Lib.hid hn
    have hn2 : n ≤ 4398046511104 := by have := H.out.ok.v; simp only at this; omega
    rw [hn]
    clear hn
    go_loopw [15] (fun u wr => ∃ j : Nat, j ≤ n ∧ u = .int .i64 j ∧ Hid (LaidI w ⟨E, At, V, L⟩ vo' vc' lo' lc' wr)) (fun u _ => n - (intOf u).toNat)
    case atStart => exact ⟨0, by omega, rfl, HI⟩
    case round =>
      obtain ⟨j, hj, rfl, HA⟩ := hrel
      clear HI
      have x2 := HA.out.st.cells.2.2.1
      simp only [HN.out] at x2
      by_cases hlt : j < n
      · obtain ⟨t, ht⟩ : ∃ t, V[j]? = some t := ⟨_, List.getElem?_eq_getElem (by have := HN.out; omega)⟩
        obtain ⟨g, rfl, xa, xb, xs, xz, _⟩ := HA.out.at3 ht
        have HC := Lib.hid (fun w' => val_own t.1 t.2.1 t.2.2 w' (H.out.ok.s t (List.mem_of_getElem? ht)))
        have HT := Lib.hid ht
        have j1 : (j : Int) < (n : Int) := by omega
        have hl1 : w.heap.size < wr.heap.size := by have := HA.out.st.lt; omega
        have hl2 : g < wr.heap.size := World.block_lt_of_cell? wr _ xs
        clear ht
        go_wp2_with fail
        go_region_law (first
          | (go_simp; go_at_call 22; refine (HC.out _).mono ?_; rintro e w' ⟨rfl, hbb⟩; have hb' : Below wr.heap.size wr w' := (Below.refl _ wr).drew.trans hbb; have y2 := (hb'.cell (p := ⟨w.heap.size, 2, none⟩) hl1).trans x2; have ya := (hb'.cell (p := ⟨g, j * 3, none⟩) hl2).trans xa; have yb := (hb'.cell (p := ⟨g, j * 3 + 1, none⟩) hl2).trans xb; have ys := (hb'.cell (p := ⟨g, j * 3 + 2, none⟩) hl2).trans xs; have ea := cell_same ya; have eb := cell_same yb; have es := cell_same ys; have yz : ∀ i, w'.frozen? ⟨g, i, none⟩ = false := (fun i => (frozen_below hb' hl2).trans (xz i)); have HB := Lib.hid (HA.out.below hb'); clear hbb hb'))
        all_goals
          go_wp2_with fail
          go_roundw
          case rel => exact ⟨j + 1, by omega, by go_num, HB⟩
          case measure => simp [intOf]; omega
      · obtain rfl : j = n := by omega
        obtain ⟨m0, m1, m2, m3, _⟩ := HA.out.st.cells
        obtain ⟨k0, f0, k1, f1, k2, f2, k3, f3, hend⟩ := four (.int .i64 E) (.int .i64 At) (.slice vo' V.length vc') (.slice lo' L.length lc') HA.out.st.kz
        have HEnd := Lib.hid hend
        simp only at m0 m1 m2 m3
        clear hend x2
        go_wp2_with fail
        obtain ⟨e1, e2, e3⟩ := laid_end (a := ⟨E, At, V, L⟩) HA.out.st H.out.ok HA.out.v HA.out.l HA.out.nv HA.out.nl
        exact bodyPost_ret (v := .agg #[.int .i64 E, .int .i64 At, .slice vo' V.length vc', .slice lo' L.length lc']) (results_cell_row rfl _ _ (w.heap.size + 1) 28 _ (0, 0) _ rfl HEnd.out Try.underlying28 rfl size28) rfl ⟨⟨vo', vc', lo', lc'⟩, rfl, e1, e2, e3⟩
end Go.Proofs.Yteikhbfdegmffaa.Se
