/- fault: Text of a chain, walked. -/
import Derived.Test.YtkhnjgadagkpjaaDoorG5
namespace Go.Proofs.YtkhnjgadagkpjaaDoor.Flt
open Go Go.RowKit Go.Stop Go.Shelf
/-- What the text wants to know of a link. -/
def Told (w0 : World) (l : Int × Int) : Prop := SaysI w0 l.1 ∧ SaysU w0 l.2 ∧ (-9223372036854775808 ≤ l.1 ∧ l.1 ≤ 9223372036854775807) ∧ (0 ≤ l.2 ∧ l.2 ≤ 4294967295)
theorem linksT_size (L : List (Int × Int)) (h : ∀ l ∈ L, (linkT l).size ≤ 60) : (linksT L).size ≤ 60 * L.length := by
  suffices hs : ∀ (L : List (Int × Int)) (s : ByteArray), (∀ l ∈ L, (linkT l).size ≤ 60) → (L.foldl (fun s l => s ++ linkT l) s).size ≤ s.size + 60 * L.length by
    have := hs L { data := #[] } h
    have e : ({ data := #[] } : ByteArray).size = 0 := rfl
    unfold linksT
    omega
  intro L
  induction L with
  | nil => intro s _; simp
  | cons x L ih =>
    intro s h
    have h1 := ih (s ++ linkT x) (fun l hl => h l (List.mem_cons_of_mem _ hl))
    have h2 := h x (by simp)
    rw [List.foldl_cons, List.length_cons]
    rw [ByteArray.size_append] at h1
    omega
set_option maxRecDepth 100000 in
set_option maxHeartbeats 2000000 in
theorem own_text (v : Value) (L : List (Int × Int)) (r : Int) (w0 w : World) (b : Nat) (h : Chain w0 v L r) (hb : Below w0.heap.size w0 w) (hbld : Bld b { data := #[] } w) (hB : w0.heap.size ≤ b) (hL : L.length ≤ 1000) (hT : ∀ l ∈ L, Told w0 l) :
    Calls Tryd.prog 31 #[v, .func (.func 23) #[] #[.pointer (some ⟨b, 0, none⟩)]] w fun e w' => e = .returned (.iface 30 (.int .i64 r)) ∧ Bld b (linksT L) w' ∧ Below w0.heap.size w0 w' := by
  have H := Lib.hid h
  have HT := Lib.hid hT
  clear h hT
  have a1 := is48
  have a2 := no48
  have a3 := no76
  go_enter Tryd.func31, Tryd.ntmps31
  go_wp2_with fail
  go_loopg [0] L.length (fun k u wr => ∃ K M : List (Int × Int), M.length = k ∧ L = K ++ M ∧ Hid (Chain w0 u M r) ∧ Bld b (linksT K) wr ∧ Below w0.heap.size w0 wr)
  case atStart => exact ⟨[], L, rfl, rfl, H, hbld, hb⟩
  case round =>
    obtain ⟨K, M, hM, hKM, HC, hbx, hbl⟩ := hrel
    have HM := Lib.hid hM
    have HK := Lib.hid hKM
    have HX := Lib.hid hbx
    have HB := Lib.hid hbl
    clear hM H hKM hbx hbl
    have hc := HC.out
    clear HC
    cases M with
    | nil =>
      obtain rfl := hc
      go_wp2_with fail
      go_ret
      have e1 := HK.out
      rw [List.append_nil] at e1
      subst e1
      exact ⟨rfl, HX.out, HB.out⟩
    | cons l M =>
      obtain ⟨p, u, rfl, hp, hc⟩ := hc
      have zp : p < w0.heap.size := (Array.getElem?_eq_some_iff.1 hp).1
      have hp1 := (HB.out.block p zp).trans hp
      obtain ⟨c0, c1, c2⟩ := cells3 hp1
      have HC := Lib.hid hc
      have HP := Lib.hid hp1
      clear hc hp hp1
      go_wp2_with fail
      refine (tell_text p b l.1 l.2 u (linksT K) w0 _ HP.out (by omega) HX.out (HT.out l (by rw [HK.out]; simp)).1 (HT.out l (by rw [HK.out]; simp)).2.1 HB.out HB.out.size ?_ ?_ ?_ ?_ ?_).mono ?_
      · have := (HT.out l (by rw [HK.out]; simp)).2.2.1; exact num_size _ this.1 this.2
      · have := (HT.out l (by rw [HK.out]; simp)).2.2.2; exact num_size _ (by omega) (by omega)
      · have h1 : K.length ≤ 1000 := by have := HK.out; rw [this] at hL; simp at hL; omega
        have := linksT_size K (fun q hq => by
          have := (HT.out q (by rw [HK.out]; simp [hq])).2.2
          exact linkT_size q this.1.1 this.1.2 this.2.1 this.2.2)
        omega
      · exact (HT.out l (by rw [HK.out]; simp)).2.2.2.1
      · exact (HT.out l (by rw [HK.out]; simp)).2.2.2.2
      rintro e w1 ⟨rfl, hbx, hbl⟩
      have c2' := (hbl.cell (p := ⟨p, 2, none⟩) (by simp; omega)).trans c2
      have HX2 := Lib.hid hbx
      have HB2 := Lib.hid (HB.out.trans (hbl.mono hB))
      clear hbx hbl c0 c1 c2
      go_wp2_with fail
      go_roundg M.length
      case measure => have := HM.out; simp at this; omega
      case rel => exact ⟨K ++ [l], M, rfl, by rw [HK.out]; simp, HC, by rw [linksT_snoc]; exact HX2.out, HB2.out⟩
set_option maxRecDepth 100000 in
set_option maxHeartbeats 2000000 in
/-- Text: of a chain. -/
theorem text_any (v : Value) (L : List (Int × Int)) (r : Int) (w : World) (h : Chain w v L r) (hL : L.length ≤ 1000) (hT : ∀ l ∈ L, Told w l) (hr : SaysI w r) (r0 : -9223372036854775808 ≤ r) (r1 : r ≤ 9223372036854775807) (hg : ErrT w) :
    Calls Tryd.prog 11 #[v] w fun e w' => e = .returned (.string (chainT L r)) ∧ Below w.heap.size w w' := by
  have hn := num_size r r0 r1
  have hsz := linksT_size L (fun q hq => by
    have := (hT q hq).2.2
    exact linkT_size q this.1.1 this.1.2 this.2.1 this.2.2)
  have hbx : Bld w.heap.size { data := #[] } (w.alloc (.cells #[.pointer none, .slice none 0 0] 59)) := Lib.fresh_isBuilder 59 5 w
  have H := Lib.hid (descend_of _ _ r (w.alloc (.cells #[.pointer none, .slice none 0 0] 59)) _ (own_text v L r w (w.alloc (.cells #[.pointer none, .slice none 0 0] 59)) w.heap.size h ((Below.refl _ w).alloc (Nat.le_refl _) _) hbx (Nat.le_refl _) hL hT))
  have HR := Lib.hid hr
  have HG := Lib.hid hg
  obtain ⟨t, x, rfl⟩ := chain_some h
  have e0 : chainT L r = linksT L ++ ({ data := #[101, 114, 114, 111, 114, 32] } ++ num r) := by unfold chainT; rw [ByteArray.append_assoc]
  rw [e0]
  have HE := fun w1 h1 => errText w w1 r hr h1 hn
  have hz : ({ data := #[101, 114, 114, 111, 114, 32] } ++ num r : ByteArray).size ≤ 30 := by
    rw [ByteArray.size_append]
    have : ({ data := #[101, 114, 114, 111, 114, 32] } : ByteArray).size = 6 := rfl
    omega
  generalize ({ data := #[101, 114, 114, 111, 114, 32] } ++ num r : ByteArray) = er at *
  generalize linksT L = ls at *
  have HEE := Lib.hid HE
  clear h hT hr hg hbx HE
  go_enter Tryd.func11, Tryd.ntmps11
  go_wp2_with fail
  refine H.out.mono ?_
  rintro e w1 ⟨rfl, w2, ⟨hbx, hbl⟩, hb⟩
  have HX := Lib.hid (hbx.on hb)
  have HB := Lib.hid (hbl.trans (hb.mono hbl.size))
  have HG1 := Lib.hid (HG.out.on HB.out)
  clear hbx hbl hb H
  go_wp2_with fail
  refine (numberOf_errno r _ HG1.out).mono ?_
  rintro e w3 ⟨rfl, hb⟩
  have HX3 := Lib.hid (HX.out.on hb)
  have HB3 := Lib.hid (HB.out.trans (hb.mono HB.out.size))
  clear hb
  go_wp2_with fail
  refine (HEE.out _ HB3.out).mono ?_
  rintro e w4 ⟨rfl, hb⟩
  have HX4 := Lib.hid (HX3.out.on hb)
  have HB4 := Lib.hid (HB3.out.trans (hb.mono HB3.out.size))
  clear hb
  go_wp2_with fail
  refine (write_string w.heap.size ls er _ HX4.out (by omega)).mono ?_
  rintro e w5 ⟨rfl, hx5, hb⟩
  have HX5 := Lib.hid hx5
  have HB5 := Lib.hid (HB4.out.trans hb)
  clear hx5 hb
  go_wp2_with fail
  refine (string_of w.heap.size (ls ++ er) _ HX5.out).mono ?_
  rintro e w6 ⟨rfl, hb⟩
  have HB6 := Lib.hid (HB5.out.trans hb)
  clear hb
  go_wp2_with fail
  go_ret
  exact ⟨rfl, HB6.out⟩
end Go.Proofs.YtkhnjgadagkpjaaDoor.Flt
