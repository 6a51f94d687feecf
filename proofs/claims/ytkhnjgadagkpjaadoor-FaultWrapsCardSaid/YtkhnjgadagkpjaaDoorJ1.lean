/- fault: Is of nil and of OK, Text of nil; what the laws' regions call, said of any world behind. -/
import Derived.Test.YtkhnjgadagkpjaaDoorH3
import Derived.RangeFuncBox
import Derived.RangeFuncWrites
namespace Go.Proofs.YtkhnjgadagkpjaaDoor.Flt
open Go Go.RowKit Go.Stop Go.Shelf
theorem text_nil (w : World) : Calls Tryd.prog 11 #[.nilIface] w fun e w' => e = .returned (.string { data := #[] }) ∧ w = w' := by
  go_enter Tryd.func11, Tryd.ntmps11
  go_wp2_with fail
  go_ret
  exact ⟨rfl, rfl⟩
section
attribute [local go_sem] Oper.semAt_some
set_option maxRecDepth 100000 in
set_option maxHeartbeats 2000000 in
theorem is_nil (c : Int) (w : World) :
    Calls Tryd.prog 9 #[.nilIface, .int .i64 c] w fun e w' => e = .returned (.bool (c == 0)) ∧ Below w.heap.size w w' := by
  refine (callsIn_wide (n := 3)).1 ?_
  refine callsIn_of_wp_marks Tryd.func9 rfl trivial ?_ rfl
  simp only [Tryd.ntmps9, List.size_toArray, List.length_cons, List.length_nil, Nat.reduceAdd, Nat.reduceSub, Array.replicate_succ, Array.replicate_zero, List.push_toArray, List.append_toArray, List.nil_append, List.cons_append]
  gi_wp2
  have hb : Below w.heap.size w ((w.alloc (.cells #[.int .i64 c] 30)).alloc (.cells #[.bool (c == 0)] 4)) := ((Below.refl _ w).alloc (Nat.le_refl _) _).alloc (by simp) _
  have hc : ((w.alloc (.cells #[.int .i64 c] 30)).alloc (.cells #[.bool (c == 0)] 4)).cell? ⟨w.heap.size + 1, 0, none⟩ = some (.bool (c == 0)) := (new_at _ _ (by simp) _ _).1
  refine ⟨.bool (c == 0), by simp [results, Tryd.results9, go_sem, hc], rfl, hb⟩
set_option maxRecDepth 100000 in
set_option maxHeartbeats 2000000 in
theorem is_zero (t : TypeId) (x : Value) (w : World) :
    Calls Tryd.prog 9 #[.iface t x, .int .i64 0] w fun e w' => e = .returned (.bool false) ∧ Below w.heap.size w w' := by
  refine (callsIn_wide (n := 3)).1 ?_
  refine callsIn_of_wp_marks Tryd.func9 rfl trivial ?_ rfl
  simp only [Tryd.ntmps9, List.size_toArray, List.length_cons, List.length_nil, Nat.reduceAdd, Nat.reduceSub, Array.replicate_succ, Array.replicate_zero, List.push_toArray, List.append_toArray, List.nil_append, List.cons_append]
  gi_wp2
  have hb : Below w.heap.size w ((w.alloc (.cells #[.int .i64 0] 30)).alloc (.cells #[.bool false] 4)) := ((Below.refl _ w).alloc (Nat.le_refl _) _).alloc (by simp) _
  have hc : ((w.alloc (.cells #[.int .i64 0] 30)).alloc (.cells #[.bool false] 4)).cell? ⟨w.heap.size + 1, 0, none⟩ = some (.bool false) := (new_at _ _ (by simp) _ _).1
  refine ⟨.bool false, by simp [results, Tryd.results9, go_sem, hc], rfl, hb⟩
end
/-- The links stand in a row of a block of their own. -/
def RowL (w : World) (g : Nat) (X : Nat → Int × Int) (n : Nat) : Prop := g < w.heap.size ∧ ∀ j u, (lflat (lst X n))[j]? = some u → w.cell? ⟨g, j, none⟩ = some u
/-- What is known where the law's own error has been built. -/
structure Kit (w9 : World) (v : Value) (ao : Option Addr) (n : Nat) (X : Nat → Int × Int) (r : Int) : Prop where
  ch : Chain w9 v (lst X n) r
  er : ErrT w9
  pw : ∀ w', Below w9.heap.size w9 w' → Pow w'
  at2 : At2 w9 ao X n
  n1 : 1 ≤ n
  n30 : n ≤ 30
  ir : ∀ i, i < n → InR (X i)
  r0 : -9223372036854775808 ≤ r
  r1 : r ≤ 9223372036854775807
  rz : (r == 0) = false
section
variable {w9 wc : World} {v : Value} {ao : Option Addr} {n : Nat} {X : Nat → Int × Int} {r : Int} {A : Prop}
theorem Kit.k8 (k : Kit w9 v ao n X r) (hs : A ∧ Hid (Below w9.heap.size w9 wc)) : Calls Tryd.prog 8 #[v] wc fun e w' => e = .returned (.int .i64 r) ∧ Below wc.heap.size wc w' :=
  code_any v (lst X n) r wc (k.ch.on hs.2.out (Nat.le_refl _)) (k.er.on hs.2.out)
theorem Kit.k10 (k : Kit w9 v ao n X r) (hs : A ∧ Hid (Below w9.heap.size w9 wc)) : Calls Tryd.prog 10 #[v] wc fun e w' => ∃ g c, e = .returned (.slice (some ⟨g, 0, none⟩) n c) ∧ RowL w' g X n ∧ Below wc.heap.size wc w' :=
  (links_any v (lst X n) r wc (k.ch.on hs.2.out (Nat.le_refl _)) (by rw [lst_length]; have := k.n30; omega)).mono (by
    rintro e w' ⟨v', rfl, ho, hb⟩
    obtain ⟨g, c, e, _, hg, hc⟩ := row_links ho (by rw [lst_length]; exact k.n1)
    rw [lst_length] at e
    subst e
    exact ⟨g, c, rfl, ⟨hg, hc⟩, hb⟩)
theorem turned_row {g c : Nat} (n1 : 1 ≤ n) (n30 : n ≤ 1000) (hR : RowL wc g X n) : Calls Tryd.prog 13 #[.slice (some ⟨g, 0, none⟩) n c] wc fun e w' => ∃ g c, e = .returned (.slice (some ⟨g, 0, none⟩) n c) ∧ RowL w' g X n ∧ Below wc.heap.size wc w' := by
  have h := turned g c (lst X n) wc hR.1 (by rw [lst_length]; omega) hR.2
  rw [lst_length] at h
  refine h.mono ?_
  rintro e w' ⟨v', rfl, ho, hb⟩
  obtain ⟨g, c, e, _, hg, hc⟩ := row_links (L := lst X n) (by rw [lst_length]; exact ho) (by rw [lst_length]; exact n1)
  rw [lst_length] at e
  subst e
  exact ⟨g, c, rfl, ⟨hg, hc⟩, hb⟩
theorem rowl_cells {w : World} {g : Nat} (h : RowL w g X n) (i : Nat) (hi : i < n) : w.cell? ⟨g, i * 2, none⟩ = some (.int .i64 (X i).1) ∧ w.cell? ⟨g, i * 2 + 1, none⟩ = some (.int .u32 (X i).2) := by
  have e : lst X n = (lst X n).take i ++ X i :: (lst X n).drop (i + 1) := by
    conv => lhs; rw [← List.take_append_drop i (lst X n), lst_drop X n i hi]
  have hl : ((lst X n).take i).length = i := by rw [List.length_take, lst_length]; omega
  have ha := lflat_at ((lst X n).take i) ((lst X n).drop (i + 1)) (X i)
  rw [← e, hl] at ha
  exact ⟨h.2 _ _ ha.1, h.2 _ _ ha.2⟩
theorem Kit.k12 {g c c' : Nat} (k : Kit w9 v ao n X r) (hs : A ∧ Hid (Below w9.heap.size w9 wc)) (hR : RowL wc g X n) : Calls Tryd.prog 12 #[.slice (some ⟨g, 0, none⟩) n c, .slice ao n c'] wc fun e w' => e = .returned (.bool true) ∧ Below wc.heap.size wc w' := by
  obtain ⟨b, off, rfl, _, _, _⟩ := k.at2 0 k.n1
  exact same_links g c b off c' n X wc (by have := k.n30; unfold maxLen; omega) (rowl_cells hR) (fun i hi => at2_cells (k.at2.on hs.2.out (Nat.le_refl _)) hi)
theorem Kit.k11 {T : ByteArray} (k : Kit w9 v ao n X r) (hs : A ∧ Hid (Below w9.heap.size w9 wc)) (hT : T = chainT (lst X n) r) : Calls Tryd.prog 11 #[v] wc fun e w' => e = .returned (.string T) ∧ Below wc.heap.size wc w' := by
  have hp : ∀ w, Below wc.heap.size wc w → Pow w := fun w h => k.pw w (hs.2.out.trans (h.mono hs.2.out.size))
  rw [hT]
  exact text_any v (lst X n) r wc (k.ch.on hs.2.out (Nat.le_refl _)) (by rw [lst_length]; have := k.n30; omega)
    (fun l hl => by obtain ⟨i, hi, rfl⟩ := lst_mem hl; exact told_any wc _ (k.ir i hi) hp) (saysI_any wc r k.r0 k.r1 hp) k.r0 k.r1 (k.er.on hs.2.out)
theorem Kit.k14 {T : ByteArray} {c : Nat} (k : Kit w9 v ao n X r) (hs : A ∧ Hid (Below w9.heap.size w9 wc)) (hT : T = chainT (lst X n) r) : Calls Tryd.prog 14 #[.agg #[.slice ao n c, .int .i64 r]] wc fun e w' => e = .returned (.string T) ∧ Below wc.heap.size wc w' := by
  rw [hT]
  exact ref_text ao n c X r wc (by have := k.n30; omega) (k.at2.on hs.2.out (Nat.le_refl _)) k.ir k.r0 k.r1
theorem Kit.k9 {z : Bool} {c : Int} (k : Kit w9 v ao n X r) (hs : A ∧ Hid (Below w9.heap.size w9 wc)) (hz : (r == c) = z) : Calls Tryd.prog 9 #[v, .int .i64 c] wc fun e w' => e = .returned (.bool z) ∧ Below wc.heap.size wc w' := by
  subst hz
  by_cases h0 : c = 0
  · subst h0
    obtain ⟨t, x, rfl⟩ := chain_some k.ch
    rw [k.rz]
    exact is_zero t x wc
  · exact is_chain v (lst X n) r c wc (k.ch.on hs.2.out (Nat.le_refl _)) (by simpa using h0)
/-- Three cells stay, whatever is called. -/
theorem three_on {wn : World} {p q1 q2 : Addr} {u u1 u2 : Value} (h : (wc.cell? p = some u ∧ wc.cell? q1 = some u1 ∧ wc.cell? q2 = some u2) ∧ Hid (Below w9.heap.size w9 wc)) (hb : Below wc.heap.size wc wn) :
    (wn.cell? p = some u ∧ wn.cell? q1 = some u1 ∧ wn.cell? q2 = some u2) ∧ Hid (Below w9.heap.size w9 wn) :=
  ⟨⟨(hb.cell (World.block_lt_of_cell? wc p h.1.1)).trans h.1.1, (hb.cell (World.block_lt_of_cell? wc q1 h.1.2.1)).trans h.1.2.1, (hb.cell (World.block_lt_of_cell? wc q2 h.1.2.2)).trans h.1.2.2⟩, Lib.hid (h.2.out.trans (hb.mono h.2.out.size))⟩
end
end Go.Proofs.YtkhnjgadagkpjaaDoor.Flt
