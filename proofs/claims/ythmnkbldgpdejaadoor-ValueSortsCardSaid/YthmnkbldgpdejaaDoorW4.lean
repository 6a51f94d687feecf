/- The walks of cmp. -/
import Derived.Test.YthmnkbldgpdejaaDoorW3
import Derived.Test.YthmnkbldgpdejaaDoorOrd
import Derived.WalkLawsBesides
import Derived.OpenShut
import Derived.StillTailTactics
namespace Go.Proofs.YthmnkbldgpdejaaDoor.Val
open Go Go.RowKit
set_option maxHeartbeats 400000 in
theorem nan9 (s : ByteArray) (w : World) :
    Calls Tryd.prog 30 #[.string s] w fun e w' => e = .returned (.bool false) ∧ w = w' := by
  go_enter Tryd.func30, Tryd.ntmps30
  go_wp2
  go_ret
  exact ⟨rfl, rfl⟩
set_option maxHeartbeats 400000 in
theorem compare9 (s t : ByteArray) (w : World) :
    Calls Tryd.prog 21 #[.string s, .string t] w fun e w' => e = .returned (.int .i64 (cmpS s.data.toList t.data.toList)) ∧ w = w' := by
  rcases ltB_tri s.data.toList t.data.toList with ⟨p, q, r⟩ | ⟨p, q, r⟩ | ⟨p, q, r⟩
  · have fin : cmpS s.data.toList t.data.toList = -1 := by unfold cmpS; rw [p]; rfl
    have Fin := Lib.hid fin
    have p' : Op.bytesLess s.toList t.toList = true := by rw [ByteArray.toList_eq, ByteArray.toList_eq]; exact p
    clear fin p q r
    go_enter Tryd.func21, Tryd.ntmps21
    go_wp2_with (go_at_call 30; refine (nan9 _ _).mono ?_; rintro e w' ⟨rfl, rfl⟩)
    go_ret
    exact ⟨ret_int Fin.out.symm, rfl⟩
  · have fin : cmpS s.data.toList t.data.toList = 1 := by unfold cmpS; rw [p, q]; rfl
    have Fin := Lib.hid fin
    have p' : Op.bytesLess s.toList t.toList = false := by rw [ByteArray.toList_eq, ByteArray.toList_eq]; exact p
    have r' : (s.toList == t.toList) = false := by rw [ByteArray.toList_eq, ByteArray.toList_eq, beq_eq_false_iff_ne]; exact r
    clear fin p q r
    go_enter Tryd.func21, Tryd.ntmps21
    go_wp2_with (go_at_call 30; refine (nan9 _ _).mono ?_; rintro e w' ⟨rfl, rfl⟩)
    go_ret
    exact ⟨ret_int Fin.out.symm, rfl⟩
  · have fin : cmpS s.data.toList t.data.toList = 0 := by unfold cmpS; rw [p, q]; rfl
    have Fin := Lib.hid fin
    have p' : Op.bytesLess s.toList t.toList = false := by rw [ByteArray.toList_eq, ByteArray.toList_eq]; exact p
    have r' : (s.toList == t.toList) = true := by rw [ByteArray.toList_eq, ByteArray.toList_eq, beq_iff_eq]; exact r
    clear fin p q r
    go_enter Tryd.func21, Tryd.ntmps21
    go_wp2_with (go_at_call 30; refine (nan9 _ _).mono ?_; rintro e w' ⟨rfl, rfl⟩)
    go_ret
    exact ⟨ret_int Fin.out.symm, rfl⟩
set_option maxHeartbeats 400000 in
theorem compare5 (s t : Int) (w : World) :
    Calls Tryd.prog 19 #[.int .u8 s, .int .u8 t] w fun e w' => e = .returned (.int .i64 (cmpI s t)) ∧ w = w' := by
  have h : s < t ∨ t < s ∨ s = t := by omega
  rcases h with h | h | h
  · have Fin := Lib.hid (show cmpI s t = -1 by unfold cmpI; rw [if_pos h])
    go_enter Tryd.func19, Tryd.ntmps19
    go_wp2
    go_ret
    exact ⟨ret_int Fin.out.symm, rfl⟩
  · have Fin := Lib.hid (show cmpI s t = 1 by unfold cmpI; rw [if_neg (by omega), if_pos h])
    go_enter Tryd.func19, Tryd.ntmps19
    go_wp2
    go_ret
    exact ⟨ret_int Fin.out.symm, rfl⟩
  · subst h
    have Fin := Lib.hid (cmpI_self s)
    go_enter Tryd.func19, Tryd.ntmps19
    go_wp2
    go_ret
    exact ⟨ret_int Fin.out.symm, rfl⟩
set_option maxHeartbeats 400000 in
theorem compare2 (s t : Int) (w : World) :
    Calls Tryd.prog 20 #[.int .i64 s, .int .i64 t] w fun e w' => e = .returned (.int .i64 (cmpI s t)) ∧ w = w' := by
  have h : s < t ∨ t < s ∨ s = t := by omega
  rcases h with h | h | h
  · have Fin := Lib.hid (show cmpI s t = -1 by unfold cmpI; rw [if_pos h])
    go_enter Tryd.func20, Tryd.ntmps20
    go_wp2
    go_ret
    exact ⟨ret_int Fin.out.symm, rfl⟩
  · have Fin := Lib.hid (show cmpI s t = 1 by unfold cmpI; rw [if_neg (by omega), if_pos h])
    go_enter Tryd.func20, Tryd.ntmps20
    go_wp2
    go_ret
    exact ⟨ret_int Fin.out.symm, rfl⟩
  · subst h
    have Fin := Lib.hid (cmpI_self s)
    go_enter Tryd.func20, Tryd.ntmps20
    go_wp2
    go_ret
    exact ⟨ret_int Fin.out.symm, rfl⟩
theorem or_of {x y z r : Int} (h : orI x y z = r) : orI x y z = r := h
set_option maxHeartbeats 400000 in
theorem or3 (B : Nat) (x y z : Int) (w : World) (h0 : w.cell? ⟨B, 0, none⟩ = some (.int .i64 x)) (h1 : w.cell? ⟨B, 1, none⟩ = some (.int .i64 y)) (h2 : w.cell? ⟨B, 2, none⟩ = some (.int .i64 z)) :
    Calls Tryd.prog 18 #[.slice (some ⟨B, 0, none⟩) 3 3] w fun e w' => e = .returned (.int .i64 (orI x y z)) ∧ w = w' := by
  by_cases hx : x = 0
  · by_cases hy : y = 0
    · have Fin := Lib.hid (show orI x y z = z by unfold orI; rw [if_pos hx, if_pos hy])
      have a : (x != 0) = false := by simp [hx]
      have b : (y != 0) = false := by simp [hy]
      clear hx hy
      by_cases hz : z = 0
      · have c : (z != 0) = false := by simp [hz]
        have Hz := Lib.hid hz
        clear hz
        go_enter Tryd.func18, Tryd.ntmps18
        go_wp2
        refine wp_loop_rounds 4 ?_
        repeat any_goals (rw [rounds_succ]; go_wp2)
        go_ret
        exact ⟨ret_int (Hz.out.symm.trans Fin.out.symm), rfl⟩
      · have c : (z != 0) = true := by rw [bne_iff_ne]; exact hz
        clear hz
        go_enter Tryd.func18, Tryd.ntmps18
        go_wp2
        refine wp_loop_rounds 4 ?_
        repeat any_goals (rw [rounds_succ]; go_wp2)
        go_ret
        exact ⟨ret_int Fin.out.symm, rfl⟩
    · have Fin := Lib.hid (show orI x y z = y by unfold orI; rw [if_pos hx, if_neg hy])
      have a : (x != 0) = false := by simp [hx]
      have b : (y != 0) = true := by rw [bne_iff_ne]; exact hy
      clear hx hy
      go_enter Tryd.func18, Tryd.ntmps18
      go_wp2
      refine wp_loop_rounds 4 ?_
      repeat any_goals (rw [rounds_succ]; go_wp2)
      go_ret
      exact ⟨ret_int Fin.out.symm, rfl⟩
  · have Fin := Lib.hid (show orI x y z = x by unfold orI; rw [if_neg hx])
    have a : (x != 0) = true := by rw [bne_iff_ne]; exact hx
    clear hx
    go_enter Tryd.func18, Tryd.ntmps18
    go_wp2
    refine wp_loop_rounds 4 ?_
    repeat any_goals (rw [rounds_succ]; go_wp2)
    go_ret
    exact ⟨ret_int Fin.out.symm, rfl⟩
theorem bcell {W w1 : World} (hb : Below W.heap.size W w1) : (∀ b o, b < W.heap.size → w1.cell? ⟨b, o, none⟩ = W.cell? ⟨b, o, none⟩) ∧ (∀ b o, b < W.heap.size → w1.frozen? ⟨b, o, none⟩ = W.frozen? ⟨b, o, none⟩) :=
  ⟨fun b o h => hb.cell (p := ⟨b, o, none⟩) h, fun b o h => hb.frozen (p := ⟨b, o, none⟩) h⟩
theorem quiet_of {P : Program} {f : FuncId} {args : Array Value} {w : World} {v : Value} (h : Calls P f args w fun e w' => e = .returned v ∧ w = w') : Calls P f args w fun e w' => e = .returned v ∧ w' = w := h.mono fun _ _ ⟨a, b⟩ => ⟨a, b.symm⟩
theorem check_ok (k n : Int) (s : ByteArray) (w : World) (hs : s.size ≤ maxLen) (h : Hid (formB k n s.data.toList = true)) :
    Calls Tryd.prog 10 #[val k n s] w fun e w' => e = .returned (.int .i64 0) ∧ Below w.heap.size w w' := by
  rw [← chk_yes h.out]; exact check_any k n s w hs
theorem check_bad (k n : Int) (s : ByteArray) (w : World) (hs : s.size ≤ maxLen) (h : Hid (formB k n s.data.toList = false)) :
    Calls Tryd.prog 10 #[val k n s] w fun e w' => e = .returned (.int .i64 3) ∧ Below w.heap.size w w' := by
  rw [← chk_no h.out]; exact check_any k n s w hs
set_option maxRecDepth 100000 in
set_option maxHeartbeats 400000 in
theorem cmp_form (k n k' n' : Int) (s s' : ByteArray) (w : World) (hs : s.size ≤ maxLen) (hs' : s'.size ≤ maxLen) (h : Hid (formB k n s.data.toList = true)) (h' : Hid (formB k' n' s'.data.toList = true)) :
    Calls Tryd.prog 8 #[val k n s, val k' n' s'] w fun e w' => e = .returned (.tuple #[.int .i64 (cmpV k n s.data.toList k' n' s'.data.toList), .int .i64 0]) ∧ Below w.heap.size w w' := by
  go_enter Tryd.func8, Tryd.ntmps8
  go_wp2_with fail
  refine (check_ok _ _ _ _ (by assumption) (by assumption)).mono ?_
  rintro e w1 ⟨rfl, hb1⟩
  obtain ⟨hc1, hf1⟩ := bcell hb1
  have z1 := hb1.size
  go_wp2_with fail
  refine (check_ok _ _ _ _ (by assumption) (by assumption)).mono ?_
  rintro e w2 ⟨rfl, hb2⟩
  obtain ⟨hc2, hf2⟩ := bcell hb2
  have z2 := hb2.size
  simp only [World.size_alloc] at z1
  have hB : Below w.heap.size w w2 := ((box_below w _).alloc (by simp) _).trans ((hb1.trans (hb2.mono (by simp; omega))).mono (by simp; omega))
  clear hb1 hb2
  go_wp2_with fail
  have c0 : w2.cell? ⟨w.heap.size, 0, none⟩ = some (.int .u8 k) := by
    rw [hc2 _ _ (by omega), hc1 _ _ (by first | (simp; done) | (simp; omega))]
    simp [go_sem]
  have c1 : w2.cell? ⟨w.heap.size, 1, none⟩ = some (.int .i64 n) := by
    rw [hc2 _ _ (by omega), hc1 _ _ (by first | (simp; done) | (simp; omega))]
    simp [go_sem]
  have c2 : w2.cell? ⟨w.heap.size, 2, none⟩ = some (.string s) := by
    rw [hc2 _ _ (by omega), hc1 _ _ (by first | (simp; done) | (simp; omega))]
    simp [go_sem]
  have d0 : w2.cell? ⟨w.heap.size + 1, 0, none⟩ = some (.int .u8 k') := by
    rw [hc2 _ _ (by omega), hc1 _ _ (by first | (simp; done) | (simp; omega))]
    simp [go_sem]
  have d1 : w2.cell? ⟨w.heap.size + 1, 1, none⟩ = some (.int .i64 n') := by
    rw [hc2 _ _ (by omega), hc1 _ _ (by first | (simp; done) | (simp; omega))]
    simp [go_sem]
  have d2 : w2.cell? ⟨w.heap.size + 1, 2, none⟩ = some (.string s') := by
    rw [hc2 _ _ (by omega), hc1 _ _ (by first | (simp; done) | (simp; omega))]
    simp [go_sem]
  clear hc1 hf1 hc2 hf2 z1 z2
  refine wp_region_still_tail 15 (by kernel_rfl) (by kernel_rfl) ?_
  have hB3 : Below w.heap.size w w2.drew := hB.drew
  change wpStill _ _ w2.drew (fun a' => wpList _ _ _ _ a' w2.drew) _ _
  have e0 : w2.drew.cell? ⟨w.heap.size, 0, none⟩ = some (.int .u8 k) := by simp [c0]
  have e1 : w2.drew.cell? ⟨w.heap.size, 1, none⟩ = some (.int .i64 n) := by simp [c1]
  have e2 : w2.drew.cell? ⟨w.heap.size, 2, none⟩ = some (.string s) := by simp [c2]
  have f0 : w2.drew.cell? ⟨w.heap.size + 1, 0, none⟩ = some (.int .u8 k') := by simp [d0]
  have f1 : w2.drew.cell? ⟨w.heap.size + 1, 1, none⟩ = some (.int .i64 n') := by simp [d1]
  have f2 : w2.drew.cell? ⟨w.heap.size + 1, 2, none⟩ = some (.string s') := by simp [d2]
  clear c0 c1 c2 d0 d1 d2 hB
  generalize w2.drew = w3 at *
  simp only [List.take_succ_cons, List.take_zero, List.drop_succ_cons, List.drop_zero]
  still_step
  still_step
  still_step
  still_step
  still_call (quiet_of (compare5 _ _ _))
  iterate 4 still_step
  still_call (quiet_of (compare2 _ _ _))
  iterate 4 still_step
  still_call (quiet_of (compare9 _ _ _))
  refine wpStill_nil ?_
  go_wp2_with fail
  refine (or3 _ _ _ _ _ (by simp [go_sem]; rfl) (by simp [go_sem]; rfl) (by simp [go_sem]; rfl)).mono ?_
  rintro e w4 ⟨rfl, rfl⟩
  go_wp2_with fail
  go_ret2
  exact ⟨rfl, hB3.alloc hB3.size _⟩
set_option maxHeartbeats 400000 in
theorem cmp_bad1 (k n k' n' : Int) (s s' : ByteArray) (w : World) (hs : s.size ≤ maxLen) (h : Hid (formB k n s.data.toList = false)) :
    Calls Tryd.prog 8 #[val k n s, val k' n' s'] w fun e w' => e = .returned (.tuple #[.int .i64 0, .int .i64 3]) ∧ Below w.heap.size w w' := by
  go_enter Tryd.func8, Tryd.ntmps8
  go_wp2_with fail
  refine (check_bad _ _ _ _ (by assumption) (by assumption)).mono ?_
  rintro e w1 ⟨rfl, hb1⟩
  have z1 := hb1.size
  simp only [World.size_alloc] at z1
  have hB : Below w.heap.size w w1 := ((box_below w _).alloc (by simp) _).trans (hb1.mono (by simp; omega))
  go_wp2_with fail
  go_ret2
  exact ⟨rfl, hB⟩
set_option maxHeartbeats 400000 in
theorem cmp_bad2 (k n k' n' : Int) (s s' : ByteArray) (w : World) (hs : s.size ≤ maxLen) (hs' : s'.size ≤ maxLen) (h : Hid (formB k n s.data.toList = true)) (h' : Hid (formB k' n' s'.data.toList = false)) :
    Calls Tryd.prog 8 #[val k n s, val k' n' s'] w fun e w' => e = .returned (.tuple #[.int .i64 0, .int .i64 3]) ∧ Below w.heap.size w w' := by
  go_enter Tryd.func8, Tryd.ntmps8
  go_wp2_with fail
  refine (check_ok _ _ _ _ (by assumption) (by assumption)).mono ?_
  rintro e w1 ⟨rfl, hb1⟩
  obtain ⟨hc1, hf1⟩ := bcell hb1
  have z1 := hb1.size
  go_wp2_with fail
  refine (check_bad _ _ _ _ (by assumption) (by assumption)).mono ?_
  rintro e w2 ⟨rfl, hb2⟩
  simp only [World.size_alloc] at z1
  have hB : Below w.heap.size w w2 := ((box_below w _).alloc (by simp) _).trans ((hb1.trans (hb2.mono (by simp; omega))).mono (by simp; omega))
  go_wp2_with fail
  go_ret2
  exact ⟨rfl, hB⟩
/-- Cmp's two results. -/
def cmpR (k n : Int) (s : List UInt8) (k' n' : Int) (s' : List UInt8) : Int × Int := if formB k n s && formB k' n' s' then (cmpV k n s k' n' s', 0) else (0, 3)
theorem cmp_any (k n k' n' : Int) (s s' : ByteArray) (w : World) (hs : s.size ≤ maxLen) (hs' : s'.size ≤ maxLen) :
    Calls Tryd.prog 8 #[val k n s, val k' n' s'] w fun e w' => e = .returned (.tuple #[.int .i64 (cmpR k n s.data.toList k' n' s'.data.toList).1, .int .i64 (cmpR k n s.data.toList k' n' s'.data.toList).2]) ∧ Below w.heap.size w w' := by
  unfold cmpR
  cases h : formB k n s.data.toList
  · exact cmp_bad1 k n k' n' s s' w hs (Lib.hid h)
  · cases h' : formB k' n' s'.data.toList
    · exact cmp_bad2 k n k' n' s s' w hs hs' (Lib.hid h) (Lib.hid h')
    · exact cmp_form k n k' n' s s' w hs hs' (Lib.hid h) (Lib.hid h')
end Go.Proofs.YthmnkbldgpdejaaDoor.Val
