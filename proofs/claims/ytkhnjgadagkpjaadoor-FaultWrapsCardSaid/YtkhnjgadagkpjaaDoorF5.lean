/- fault: Links of a chain, the walk down. -/
import Derived.Test.YtkhnjgadagkpjaaDoorF4
namespace Go.Proofs.YtkhnjgadagkpjaaDoor.Flt
open Go Go.RowKit Go.Stop
set_option maxRecDepth 100000 in
set_option maxHeartbeats 1000000 in
theorem own_links (v : Value) (L : List (Int × Int)) (r : Int) (w0 w : World) (B : Nat) (h : Chain w0 v L r) (hb : Below w0.heap.size w0 w) (hbox : Boxed w B 33 (.slice none 0 0)) (hB : w0.heap.size ≤ B) (hL : L.length ≤ 1000) :
    Calls Tryd.prog 31 #[v, .func (.func 22) #[] #[.pointer (some ⟨B, 0, none⟩)]] w fun e w' => e = .returned (.iface 30 (.int .i64 r)) ∧
      ∃ v', Boxed w' B 33 v' ∧ w'.ownsRow w0.heap.size 53 2 v' L.length (lflat L) ∧ Below w0.heap.size w0 w' := by
  have H := Lib.hid h
  clear h
  have a1 := is48
  have a2 := no48
  have a3 := no76
  go_enter Tryd.func31, Tryd.ntmps31
  go_wp2_with fail
  go_loopg [0] L.length (fun k u wr => ∃ K M : List (Int × Int), M.length = k ∧ L = K ++ M ∧ Hid (Chain w0 u M r) ∧ (∃ v', Boxed wr B 33 v' ∧ wr.ownsRow w0.heap.size 53 2 v' K.length (lflat K)) ∧ Below w0.heap.size w0 wr)
  case atStart => exact ⟨[], L, rfl, rfl, H, ⟨_, hbox, World.ownsRow_nil _ _ _ _⟩, hb⟩
  case round =>
    obtain ⟨K, M, hM, hKM, HC, ⟨v', hbx, hown⟩, hbl⟩ := hrel
    have HM := Lib.hid hM
    have HK := Lib.hid hKM
    have HX := Lib.hid hbx
    have HO := Lib.hid hown
    have HB := Lib.hid hbl
    clear hM H hKM hbx hown hbl
    have hc := HC.out
    clear HC
    cases M with
    | nil =>
      obtain rfl := hc
      go_wp2_with fail
      go_ret
      have e1 := HK.out
      rw [List.append_nil] at e1
      subst e1
      exact ⟨rfl, v', HX.out, HO.out, HB.out⟩
    | cons l M =>
      obtain ⟨p, u, rfl, hp, hc⟩ := hc
      have zp : p < w0.heap.size := (Array.getElem?_eq_some_iff.1 hp).1
      have hp1 := (HB.out.block p zp).trans hp
      obtain ⟨c0, c1, c2⟩ := cells3 hp1
      have HC := Lib.hid hc
      have HP := Lib.hid hp1
      clear hc hp hp1
      go_wp2_with fail
      refine (tell_link p l.1 l.2 u B w0.heap.size v' K _ HP.out HX.out HO.out HB.out.size hB (by have := HK.out; rw [this] at hL; simp at hL; omega)).mono ?_
      rintro e w1 ⟨rfl, v2, hbx, hown, hbl⟩
      have c2' := (hbl.cell (p := ⟨p, 2, none⟩) zp).trans c2
      have HX2 := Lib.hid hbx
      have HO2 := Lib.hid hown
      have HB2 := Lib.hid (HB.out.trans hbl)
      clear hbx hown hbl c0 c1 c2
      go_wp2_with fail
      go_roundg M.length
      case measure => have := HM.out; simp at this; omega
      case rel => exact ⟨K ++ [l], M, rfl, by rw [HK.out]; simp, HC, ⟨v2, HX2.out, HO2.out⟩, HB2.out⟩
set_option maxHeartbeats 400000 in
/-- Links: of a chain its links, the outermost first, in a row of the call's own. -/
theorem links_any (v : Value) (L : List (Int × Int)) (r : Int) (w : World) (h : Chain w v L r) (hL : L.length ≤ 1000) :
    Calls Tryd.prog 10 #[v] w fun e w' => ∃ v', e = .returned v' ∧ w'.ownsRow w.heap.size 53 2 v' L.length (lflat L) ∧ Below w.heap.size w w' := by
  have H := Lib.hid (descend_of _ _ r (w.alloc (.cells #[.slice none 0 0] 33)) _ (own_links v L r w (w.alloc (.cells #[.slice none 0 0] 33)) w.heap.size h ((Below.refl _ w).alloc (Nat.le_refl _) _) (Boxed.new w 33 _) (Nat.le_refl _) hL))
  clear h
  go_enter Tryd.func10, Tryd.ntmps10
  go_wp2_with fail
  refine H.out.mono ?_
  rintro e w1 ⟨rfl, w0, ⟨v', hbx, hown, hbl⟩, hb⟩
  have hbx2 := hbx.kept (row := none) ⟨hb.os, hb.tape, hb.output, hb.size, fun i hi _ => hb.block i hi⟩ (by simp)
  have HO := Lib.hid (hown.kept (row := none) ⟨hb.os, hb.tape, hb.output, hb.size, fun i hi _ => hb.block i hi⟩ (by cases v'.ownBlock <;> simp))
  have HB := Lib.hid (hbl.trans (hb.mono hbl.size))
  have hc := hbx2.cell
  clear hown hbl hb hbx hbx2
  go_wp2_with fail
  go_ret
  exact ⟨v', rfl, HO.out, HB.out⟩
end Go.Proofs.YtkhnjgadagkpjaaDoor.Flt
