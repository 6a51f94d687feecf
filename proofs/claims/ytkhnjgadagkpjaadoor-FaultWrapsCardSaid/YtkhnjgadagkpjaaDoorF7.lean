/- fault's law: links turned into the reference's. -/
import Derived.Test.YtkhnjgadagkpjaaDoorF6
namespace Go.Proofs.YtkhnjgadagkpjaaDoor.Flt
open Go Go.RowKit Go.Stop
theorem info42 : (Tryd.prog.info? 42).map (fun i => (i.zero, i.size, i.bytes)) = some (some (.agg #[.int .i64 0, .int .u32 0]), 2, 16) := by kernel_rfl
theorem lflat_len (L : List (Int × Int)) : (lflat L).length = L.length * 2 := by
  induction L with
  | nil => rfl
  | cons l L ih => simp [lflat] at *; omega
theorem lflat_at (K M : List (Int × Int)) (l : Int × Int) : (lflat (K ++ l :: M))[K.length * 2]? = some (.int .i64 l.1) ∧ (lflat (K ++ l :: M))[K.length * 2 + 1]? = some (.int .u32 l.2) := by
  have e : lflat (K ++ l :: M) = lflat K ++ (.int .i64 l.1 :: .int .u32 l.2 :: lflat M) := by simp [lflat]
  have hl := lflat_len K
  rw [e]
  constructor
  · rw [List.getElem?_append_right (by omega), hl]; simp
  · rw [List.getElem?_append_right (by omega), hl]; simp
set_option maxHeartbeats 1000000 in
theorem turned (b c : Nat) (L : List (Int × Int)) (w : World) (hb : b < w.heap.size) (hL : L.length ≤ 1000)
    (hc : ∀ j u, (lflat L)[j]? = some u → w.cell? ⟨b, j, none⟩ = some u) :
    Calls Tryd.prog 13 #[.slice (some ⟨b, 0, none⟩) L.length c] w fun e w' => ∃ v', e = .returned v' ∧ w'.ownsRow w.heap.size 42 2 v' L.length (lflat L) ∧ Below w.heap.size w w' := by
  obtain ⟨i0, hi, hz0, hz1, hz2⟩ := info_parts info42
  have HC := Lib.hid hc
  clear hc
  go_enter Tryd.func13, Tryd.ntmps13
  go_wp2_with fail
  go_loopw [3, 8] (fun v i wr => ∃ K M : List (Int × Int), L = K ++ M ∧ i = .int .i64 K.length ∧ wr.ownsRow w.heap.size 42 2 v K.length (lflat K) ∧ Below w.heap.size w wr) (fun _ i _ => L.length - (intOf i).toNat)
  case atStart => exact ⟨[], L, rfl, rfl, World.ownsRow_nil _ _ _ _, Below.refl _ _⟩
  case round =>
    obtain ⟨K, M, hKM, rfl, hown, hB⟩ := hrel
    have HO := Lib.hid hown
    have HB := Lib.hid hB
    have zB := hB.size
    cases M with
    | nil =>
      have hz : L.length = K.length := by rw [hKM]; simp
      clear hown hB
      go_wp2_with fail
      go_ret
      rw [List.append_nil] at hKM
      subst hKM
      exact ⟨_, rfl, HO.out, HB.out⟩
    | cons l M =>
      have hz : K.length < L.length := by rw [hKM]; simp
      have hk := lflat_at K M l
      rw [← hKM] at hk
      have c0 := (HB.out.cell (p := ⟨b, K.length * 2, none⟩) hb).trans (HC.out _ _ hk.1)
      have c1 := (HB.out.cell (p := ⟨b, K.length * 2 + 1, none⟩) hb).trans (HC.out _ _ hk.2)
      have HK := Lib.hid hKM
      clear hk hown hB hKM
      generalize hN : L.length = N at *
      go_wp2_with (at_builtin; refine wpList_append_own _ rfl (.tmp 12) (.tmp 14) 22 rfl w.heap.size 42 i0 _ 2 16 Tryd.underlying22 hi hz0 hz1 hz2 rfl (by decide) _ K.length (lflat K) rfl ((HO.out.alloc _).alloc _) ⟨wr.heap.size + 1, 0, none⟩ 1 1 [.int .i64 l.1, .int .u32 l.2] rfl rfl (by simpa using lnew l.1 l.2 (wr.alloc (.cells #[.int .i64 l.1, .int .u32 l.2] 53)) _) (lone l.1 l.2) (by unfold maxLen; omega) (by omega) (by simp; omega) ?_; intro v3 w3 hown3 hgrow3 _)
      have hB3 : Below w.heap.size w w3 := ((HB.out.alloc zB _).alloc (by simp; omega) _).grown hgrow3 (by simp; omega) (fun k hk => (HO.out.lt k hk).1)
      go_roundw
      case rel => exact ⟨K ++ [l], M, by simpa using HK.out, by first | (simp; done) | rfl | go_num, by rw [lflat_app, List.length_append]; exact hown3, hB3⟩
      case measure => simp [intOf]; omega
set_option maxHeartbeats 400000 in
theorem turned_nil (w : World) : Calls Tryd.prog 13 #[.slice none 0 0] w fun e w' => e = .returned (.slice none 0 0) ∧ w = w' := by
  go_enter Tryd.func13, Tryd.ntmps13
  go_wp2_with fail
  refine wp_loop_rounds 1 ?_
  rw [rounds_succ]
  go_wp2_with fail
  go_ret
  exact ⟨rfl, rfl⟩
end Go.Proofs.YtkhnjgadagkpjaaDoor.Flt
