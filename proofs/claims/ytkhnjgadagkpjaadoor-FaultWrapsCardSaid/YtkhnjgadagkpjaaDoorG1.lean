/- fault: down through the links; the list of one error, cloned; the roots' closure made. -/
import Derived.Test.YtkhnjgadagkpjaaDoorF9
import Derived.Deep.AppendLies
import Derived.OwnWalk
import Derived.Lib.SliceRun
namespace Go.Proofs.YtkhnjgadagkpjaaDoor.Flt
open Go Go.RowKit Go.Stop
set_option maxRecDepth 100000 in
set_option maxHeartbeats 1000000 in
theorem down_links (v : Value) (L : List (Int × Int)) (r : Int) (w : World) (h : Chain w v L r) :
    Calls Tryd.prog 36 #[v] w fun e w' => e = .returned (.iface 30 (.int .i64 r)) ∧ w = w' := by
  have H := Lib.hid h
  clear h
  have a1 := is48
  have a2 := no48
  go_enter Tryd.func36, Tryd.ntmps36
  go_wp2_with fail
  go_loopg [0] L.length (fun k u wr => w = wr ∧ ∃ M : List (Int × Int), M.length = k ∧ Hid (Chain w u M r))
  case atStart => exact ⟨rfl, L, rfl, H⟩
  case round =>
    obtain ⟨rfl, M, hM, HC⟩ := hrel
    have HM := Lib.hid hM
    clear hM H
    have hc := HC.out
    clear HC
    cases M with
    | nil =>
      obtain rfl := hc
      go_wp2_with fail
      go_ret
      exact ⟨rfl, rfl⟩
    | cons l M =>
      obtain ⟨p, u, rfl, hp, hc⟩ := hc
      obtain ⟨c0, c1, c2⟩ := cells3 hp
      have HC := Lib.hid hc
      clear hc hp
      go_wp2_with fail
      go_roundg M.length
      case measure => have := HM.out; simp at this; omega
      case rel => exact ⟨rfl, M, rfl, HC⟩
theorem info27 : (Tryd.prog.info? 27).map (fun i => (i.zero, i.size, i.bytes)) = some (some .nilIface, 1, 16) := by kernel_rfl
theorem info_parts1 {P : Program} {t : TypeId} {z : Value} {s b : Nat} (h : (P.info? t).map (fun i => (i.zero, i.size, i.bytes)) = some (some z, s, b)) : ∃ i, P.info? t = some i ∧ i.zero = some z ∧ i.size = s ∧ i.bytes = b := by
  obtain ⟨i, h1, h2⟩ := Option.map_eq_some_iff.1 h
  simp only [Prod.mk.injEq] at h2
  exact ⟨i, h1, h2.1, h2.2.1, h2.2.2⟩
set_option maxHeartbeats 1000000 in
theorem clone_one (b : Nat) (t : TypeId) (x : Value) (w : World) (hb : b < w.heap.size) (hc : w.cell? ⟨b, 0, none⟩ = some (.iface t x)) :
    Calls Tryd.prog 35 #[.slice (some ⟨b, 0, none⟩) 1 1] w fun e w' => ∃ g c, e = .returned (.slice (some ⟨g, 0, none⟩) 1 c) ∧ w'.ownsRow w.heap.size 27 1 (.slice (some ⟨g, 0, none⟩) 1 c) 1 [.iface t x] ∧ Below w.heap.size w w' := by
  obtain ⟨i0, hi, hz0, hz1, hz2⟩ := info_parts1 info27
  have hnil := fun w => Lib.run_eql_slice_nil (P := Tryd.prog) w 69 27 (some ⟨b, 0, none⟩) 1 1 0 0 Tryd.underlying69
  have hc1 : (w.alloc (.cells #[] 27)).cell? ⟨b, 0, none⟩ = some (.iface t x) := (World.cell?_alloc_past _ b 0 hb).trans hc
  have hO : (w.alloc (.cells #[] 27)).ownsRow w.heap.size 27 1 (.slice (some ⟨w.heap.size, 0, none⟩) 0 0) 0 [] := World.ownsRow_lit (base := w.heap.size) (e := 27) (size := 1) w #[] 0 (Nat.le_refl _) (Nat.zero_le _) rfl
  have HC := Lib.hid hc1
  clear hc hc1
  go_enter Tryd.func35, Tryd.ntmps35
  go_wp2_with (at_builtin; refine wpList_append_lies _ rfl (.tmp 5) (.tmp 6) 69 rfl w.heap.size 27 i0 _ 1 16 Tryd.underlying69 hi hz0 hz1 hz2 rfl (by decide) _ 0 [] rfl hO ⟨b, 0, none⟩ 1 1 [.iface t x] rfl rfl (fun j u hu => by cases j with | zero => simp at hu; subst hu; exact HC.out | succ j => simp at hu) (fun u hu => by simp at hu; subst hu; rfl) (by decide) (by unfold maxLen; omega) (by omega) (by simp) (w.heap.size + 1) (by simp) ?_; intro g c w' ho hg _ _)
  go_ret
  exact ⟨g, c, by simp, by simpa using ho, ((Below.refl w.heap.size w).alloc (Nat.le_refl _) _).grown hg (by simp) (fun k hk => (World.ownsRow.lt hO k hk).1)⟩
theorem roots_made (b : Nat) (w : World) :
    Calls Tryd.prog 20 #[.slice (some ⟨b, 0, none⟩) 1 1] w fun e w' => e = .returned (.func (.func 34) #[] #[.pointer (some ⟨w.heap.size, 0, none⟩)]) ∧ w' = w.alloc (.cells #[.slice (some ⟨b, 0, none⟩) 1 1] 69) := by
  go_enter Tryd.func20, Tryd.ntmps20
  go_wp2_with fail
  go_ret
  exact ⟨rfl, rfl⟩
end Go.Proofs.YtkhnjgadagkpjaaDoor.Flt
