/- ghost: strings.Clone, graph's own, walked. -/
import Derived.Test.YtgjjfodogkcmmaaG6
import Derived.Test.YtgjjfodogkcmmaaShelf
namespace Go.Proofs.Ytgjjfodogkcmmaa.Gh
open Go Go.RowKit Ytgjjfodogkcmmaa.So Ytgjjfodogkcmmaa.Vl
theorem clone_any (s : ByteArray) (w : World) (h : s.size ≤ 281474976710656) : Calls Try.prog 83 #[.string s] w fun e w' => e = .returned (.string s) ∧ Below w.heap.size w w' := by
  have HC := Lib.hid (Try.stringslite_Clone s w h)
  clear h
  go_enter Try.func83, Try.ntmps83
  go_wp2_with (go_at_call 86; refine HC.out.mono ?_; rintro e w1 ⟨rfl, hb⟩; have H1 := Lib.hid hb; clear hb)
  go_ret
  exact ⟨rfl, H1.out⟩
theorem size74 : (Try.prog.info? 74).map (·.size) = some 3 := by kernel_rfl
theorem three {w : World} {b : Nat} {c0 c1 c2 : Value} {t : TypeId} (u0 u1 u2 : Value) (h : w.heap[b]? = some (.cells #[c0, c1, c2] t (0, 0))) :
    w.cell? ⟨b, 0, none⟩ = some c0 ∧ w.frozen? ⟨b, 0, none⟩ = false ∧
    (w.setCell ⟨b, 0, none⟩ u0).cell? ⟨b, 1, none⟩ = some c1 ∧ (w.setCell ⟨b, 0, none⟩ u0).frozen? ⟨b, 1, none⟩ = false ∧
    ((w.setCell ⟨b, 0, none⟩ u0).setCell ⟨b, 1, none⟩ u1).cell? ⟨b, 2, none⟩ = some c2 ∧ ((w.setCell ⟨b, 0, none⟩ u0).setCell ⟨b, 1, none⟩ u1).frozen? ⟨b, 2, none⟩ = false ∧
    (((w.setCell ⟨b, 0, none⟩ u0).setCell ⟨b, 1, none⟩ u1).setCell ⟨b, 2, none⟩ u2).heap[b]? = some (.cells #[u0, u1, u2] t (0, 0)) := by
  have h1 := set_block (i := 0) (v := u0) h
  have h2 := set_block (i := 1) (v := u1) h1
  have h3 := set_block (i := 2) (v := u2) h2
  exact ⟨by simp [World.cell?, h], free4 h, by simp [World.cell?, h1], free4 h1, by simp [World.cell?, h2], free4 h2, h3.trans rfl⟩
set_option maxHeartbeats 1000000 in
theorem own_any (k n : Int) (s : ByteArray) (w : World) (h : s.size ≤ 281474976710656) : Calls Try.prog 74 #[val k n s] w fun e w' => e = .returned (val k n s) ∧ Below w.heap.size w w' := by
  obtain ⟨A, hA⟩ : ∃ A, A = (w.alloc (.cells #[.int .u8 k, .int .i64 n, .string s] 74)).alloc (.cells #[.int .u8 0, .int .i64 0, .string ⟨#[]⟩] 74) := ⟨_, rfl⟩
  have kA : A.heap[w.heap.size]? = some (.cells #[.int .u8 k, .int .i64 n, .string s] 74 (0, 0)) := by rw [hA]; exact (heap_alloc_old _ _ (by simp)).trans (heap_alloc_new _ _)
  have kZ : A.heap[w.heap.size + 1]? = some (.cells #[.int .u8 0, .int .i64 0, .string ⟨#[]⟩] 74 (0, 0)) := by rw [hA]; exact heap_alloc2_new _ _ _
  have hb : Below w.heap.size w A := by rw [hA]; exact ((Below.refl _ w).alloc (Nat.le_refl _) _).alloc (by simp) _
  have HC := Lib.hid (clone_any s A h)
  have K := Lib.hid (And.intro kA (And.intro kZ hb))
  clear h kA kZ hb
  subst hA
  go_enter Try.func74, Try.ntmps74
  go_wp2_with (go_at_call 83; refine HC.out.mono ?_; rintro e w1 ⟨rfl, hb1⟩; have q0 := (hb1.block w.heap.size (by simp; omega)).trans K.out.1; have q1 := (hb1.block (w.heap.size + 1) (by simp)).trans K.out.2.1; have H1 := Lib.hid (And.intro q0 (And.intro q1 (K.out.2.2.trans (hb1.mono (by simp; omega))))); have c2 : w1.cell? ⟨w.heap.size, 2, none⟩ = some (.string s) := (by simp [World.cell?, q0]); have z2 := free4 (i := 2) q0; have p0 := (set_block (i := 2) (v := .string s) q0).trans rfl; have r1 := ((grown_set w1 w.heap.size 2 (.string s)).block (w.heap.size + 1) (Array.getElem?_eq_some_iff.1 q1).1 (by simp)).trans q1; have P0 := Lib.hid (show (w1.setCell ⟨w.heap.size, 2, none⟩ (.string s)).heap[w.heap.size]? = some (.cells #[.int .u8 k, .int .i64 n, .string s] 74 (0, 0)) from p0); have m0 : (w1.setCell ⟨w.heap.size, 2, none⟩ (.string s)).cell? ⟨w.heap.size, 0, none⟩ = some (.int .u8 k) := (by simp [World.cell?, P0.out]); have m1 : (w1.setCell ⟨w.heap.size, 2, none⟩ (.string s)).cell? ⟨w.heap.size, 1, none⟩ = some (.int .i64 n) := (by simp [World.cell?, P0.out]); have m2 : (w1.setCell ⟨w.heap.size, 2, none⟩ (.string s)).cell? ⟨w.heap.size, 2, none⟩ = some (.string s) := (by simp [World.cell?, P0.out]); obtain ⟨k0, f0, k1, f1, k2, f2, hend⟩ := three (.int .u8 k) (.int .i64 n) (.string s) r1; have HEnd := Lib.hid hend; clear hb1 q0 q1 p0 r1 hend)
  have hg : (w1.setCell ⟨w.heap.size, 2, none⟩ (.string s)).grownBy ((((w1.setCell ⟨w.heap.size, 2, none⟩ (.string s)).setCell ⟨w.heap.size + 1, 0, none⟩ (.int .u8 k)).setCell ⟨w.heap.size + 1, 1, none⟩ (.int .i64 n)).setCell ⟨w.heap.size + 1, 2, none⟩ (.string s)) (some (w.heap.size + 1)) := ((grown_set _ _ 0 _).trans (grown_set _ _ 1 _)).trans (grown_set _ _ 2 _)
  have hb4 := (H1.out.2.2.grown (grown_set w1 w.heap.size 2 (.string s)) H1.out.2.2.size (fun g e => by have := Option.some.inj e; omega))
  refine bodyPost_ret (v := val k n s) (results_cell_row rfl _ _ (w.heap.size + 1) 74 _ (0, 0) _ rfl HEnd.out Try.underlying74 rfl size74) rfl ?_
  exact ⟨rfl, hb4.grown hg hb4.size (fun g e => by have := Option.some.inj e; omega)⟩
end Go.Proofs.Ytgjjfodogkcmmaa.Gh
