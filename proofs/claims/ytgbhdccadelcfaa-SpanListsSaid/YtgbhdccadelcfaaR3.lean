/- span: the document's edges, walked. -/
import Derived.Test.YtgbhdccadelcfaaR2
namespace Go.Proofs.Ytgbhdccadelcfaa.Sp
open Go Go.RowKit
def RefIs (n0 : Nat) (w : World) (p : Nat) (D : DL) : Prop := ∃ F v, RefAt w n0 p F v D
theorem RefIs.below {n0 p : Nat} {w w' : World} {D : DL} (h : RefIs n0 w p D) (hb : Below w.heap.size w w') : RefIs n0 w' p D := by
  obtain ⟨F, v, h⟩ := h
  exact ⟨F, v, h.below hb⟩
/-- Sets of the document's, by their pointers from an address on. -/
def Sets (n0 : Nat) (w : World) (ao : Option Addr) (Ps : List (Nat × DL)) : Prop :=
  ∀ i q, Ps[i]? = some q → (∃ b off, ao = some ⟨b, off, none⟩ ∧ b < w.heap.size ∧ w.cell? ⟨b, off + i, none⟩ = some (.pointer (some ⟨q.1, 0, none⟩))) ∧ RefIs n0 w q.1 q.2
theorem Sets.on {n0 : Nat} {w w' : World} {ao : Option Addr} {Ps : List (Nat × DL)} (h : Sets n0 w ao Ps) (hb : Below w.heap.size w w') : Sets n0 w' ao Ps := fun i q hq => by
  obtain ⟨⟨b, off, h1, h2, h3⟩, h4⟩ := h i q hq
  exact ⟨⟨b, off, h1, Nat.lt_of_lt_of_le h2 hb.size, (hb.cell (p := ⟨b, off + i, none⟩) h2).trans h3⟩, h4.below hb⟩
def edge1 (l : List Int) (d : Int × Int × Bool) : List Int := if d.2.1 = 4294967295 then ins l d.1 else ins (ins l d.1) (d.2.1 + 1)
def edgesL (Ps : List (Nat × DL)) : List Int := Ps.foldl (fun l q => q.2.foldl edge1 l) [0]
def InD (D : DL) : Prop := ∀ d ∈ D, 0 ≤ d.1 ∧ d.1 ≤ d.2.1 ∧ d.2.1 ≤ 4294967295
theorem edge1_len (l : List Int) (d : Int × Int × Bool) : (edge1 l d).length ≤ l.length + 2 := by
  unfold edge1
  have h1 := ins_len l d.1
  have h2 := ins_len (ins l d.1) (d.2.1 + 1)
  split <;> omega
theorem edgeD_len (D : DL) (l : List Int) : (D.foldl edge1 l).length ≤ l.length + 2 * D.length := by
  induction D generalizing l with
  | nil => simp
  | cons d D ih =>
    have h1 := ih (edge1 l d)
    have h2 := edge1_len l d
    simp only [List.foldl_cons, List.length_cons]
    omega
/-- How many deeds there are together. -/
def total (Ps : List (Nat × DL)) : Nat := (Ps.map fun q => q.2.length).sum
theorem total_next (Ps : List (Nat × DL)) (i : Nat) (q : Nat × DL) (h : Ps[i]? = some q) : total (Ps.take (i + 1)) = total (Ps.take i) + q.2.length := by
  rw [take_next h]
  simp [total]
theorem total_take (Ps : List (Nat × DL)) (i : Nat) : total (Ps.take i) ≤ total Ps := by
  have e : total Ps = total (Ps.take i) + total (Ps.drop i) := by
    have h : total Ps = total (Ps.take i ++ Ps.drop i) := by rw [List.take_append_drop]
    rw [h]
    unfold total
    rw [List.map_append, List.sum_append]
  omega
def edgesT (Ps : List (Nat × DL)) (i : Nat) : List Int := edgesL (Ps.take i)
theorem edgesT_next (Ps : List (Nat × DL)) (i : Nat) (q : Nat × DL) (h : Ps[i]? = some q) : edgesT Ps (i + 1) = q.2.foldl edge1 (edgesT Ps i) := by
  unfold edgesT edgesL
  rw [take_next h, List.foldl_append]
  rfl
theorem edgesT_len (Ps : List (Nat × DL)) (i : Nat) : (edgesT Ps i).length ≤ 1 + 2 * total (Ps.take i) := by
  induction i with
  | zero => simp [edgesT, edgesL]
  | succ i ih =>
    by_cases hi : i < Ps.length
    · have h := List.getElem?_eq_getElem hi
      rw [edgesT_next Ps i _ h, total_next Ps i _ h]
      have := edgeD_len Ps[i].2 (edgesT Ps i)
      omega
    · have e1 : Ps.take (i + 1) = Ps.take i := by rw [List.take_of_length_le (by omega), List.take_of_length_le (by omega)]
      unfold edgesT at ih ⊢
      rw [e1]
      exact ih
/-- A list of numbers in memory, as what is returned. -/
def NumAt (w0 w : World) (v : Value) (l : List Int) : Prop := ∃ ao c, v = .slice ao l.length c ∧ l.length ≤ c ∧ Rd1 w ao l ∧ Below w0.heap.size w0 w
def EdR (w : World) (Ps : List (Nat × DL)) (e : Ending) (w' : World) : Prop := ∃ v, e = .returned v ∧ NumAt w w' v (edgesL Ps)
theorem NumAt.on {w0 w w' : World} {v : Value} {l : List Int} (h : NumAt w0 w v l) (hb : Below w.heap.size w w') : NumAt w0 w' v l := by
  obtain ⟨ao, c, h1, h2, h3, h4⟩ := h
  exact ⟨ao, c, h1, h2, h3.on hb (Nat.le_refl _), h4.trans (hb.mono h4.size)⟩
theorem insert_at {w0 w : World} {v : Value} {l : List Int} (n : Int) (h : NumAt w0 w v l) (hL : l.length ≤ 1000) : Calls Try.prog 42 #[v, .int .u32 n] w fun e w' => ∃ v', e = .returned v' ∧ NumAt w0 w' v' (ins l n) := by
  obtain ⟨ao, c, rfl, h2, h3, h4⟩ := h
  refine (insert_num ao c l n w h3 h2 hL).mono ?_
  rintro e w' ⟨ao', c', rfl, k1, k2, k3⟩
  exact ⟨_, rfl, ao', c', rfl, k1, k2, h4.trans (k3.mono h4.size)⟩
theorem near_cellsD {w : World} {z : Nat} {x y : Int} {c : Bool} {t : TypeId} (h : w.heap[z]? = some (.cells #[.int .u32 x, .int .u32 y, .bool c] t (0, 0))) : w.cell? ⟨z, 0, none⟩ = some (.int .u32 x) ∧ w.cell? ⟨z, 1, none⟩ = some (.int .u32 y) := by simp [World.cell?, h]
theorem keepD {w w' : World} {z : Nat} {o : Obj} (h : w.heap[z]? = some o) (hb : Below w.heap.size w w') : w'.heap[z]? = some o := (hb.block z (Array.getElem?_eq_some_iff.1 h).1).trans h
theorem insert_atB {w0 w : World} {v : Value} {l : List Int} (n : Int) (h : NumAt w0 w v l) {w1 : World} (_hb : Below w1.heap.size w1 w) (hL : l.length ≤ 1000) : Calls Try.prog 42 #[v, .int .u32 n] w fun e w' => ∃ v', e = .returned v' ∧ NumAt w0 w' v' (ins l n) ∧ Below w.heap.size w w' := by
  obtain ⟨ao, c, rfl, h2, h3, h4⟩ := h
  refine (insert_num ao c l n w h3 h2 hL).mono ?_
  rintro e w' ⟨ao', c', rfl, k1, k2, k3⟩
  exact ⟨_, rfl, ⟨ao', c', rfl, k1, k2, h4.trans (k3.mono h4.size)⟩, k3⟩
set_option maxRecDepth 100000 in
set_option maxHeartbeats 1000000 in
theorem edges_any (n0 : Nat) (ao : Option Addr) (c : Nat) (Ps : List (Nat × DL)) (w : World) (h : Sets n0 w ao Ps) (hd : ∀ q ∈ Ps, InD q.2) (hT : total Ps ≤ 200) (hP : Ps.length ≤ 10) :
    Calls Try.prog 32 #[.slice ao Ps.length c] w (EdR w Ps) := by
  have H := Lib.hid (And.intro h hd)
  have HT := Lib.hid hT
  obtain ⟨m, hm⟩ : ∃ m, Ps.length = m := ⟨_, rfl⟩
  rw [hm] at hP ⊢
  have HM := Lib.hid hm
  have H0 : Hid (NumAt w (w.alloc (.cells #[.int .u32 0] 23)) (.slice (some ⟨w.heap.size, 0, none⟩) 1 1) (edgesT Ps 0)) := Lib.hid ⟨_, 1, rfl, Nat.le_refl _, (fun i x hx => by
    have hn := heap_alloc_new w (.cells #[.int .u32 0] 23)
    refine ⟨w.heap.size, 0, rfl, (Array.getElem?_eq_some_iff.1 hn).1, ?_⟩
    match i, hx with
    | 0, hx =>
      simp [edgesT, edgesL] at hx
      subst hx
      generalize w.alloc (.cells #[.int .u32 0] 23) = w1 at hn ⊢
      simp [World.cell?, hn]
    | i + 1, hx => simp [edgesT, edgesL] at hx), (Below.refl _ _).alloc (Nat.le_refl _) _⟩
  clear h hd hT hm
  go_enter Try.func32, Try.ntmps32
  go_wp2_with fail
  go_loopw [11, 3] (fun u lv wr => ∃ i : Nat, i ≤ m ∧ u = .int .i64 i ∧ Hid (NumAt w wr lv (edgesT Ps i))) (fun u _ _ => m - (intOf u).toNat)
  case atStart => exact ⟨0, by omega, rfl, H0⟩
  case round =>
    obtain ⟨i, hi, rfl, HA⟩ := hrel
    clear H0
    by_cases hlt : i < m
    · obtain ⟨q, hq⟩ : ∃ q, Ps[i]? = some q := ⟨_, List.getElem?_eq_getElem (by have := HM.out; omega)⟩
      have hlen := edgesT_len Ps i
      have hnx := edgesT_next Ps i q hq
      have htn := total_next Ps i q hq
      have htt := total_take Ps (i + 1)
      have hb : Below w.heap.size w wr := by obtain ⟨_, _, _, _, _, h⟩ := HA.out; exact h
      obtain ⟨⟨b, off, rfl, hbl, hc⟩, F, v, hR⟩ := (H.out.1.on hb) i q hq
      have c0 := cell1 hR.blk
      obtain ⟨do_, dc, ev, hdg⟩ := ref_slice hR
      subst ev
      have HR := Lib.hid hR
      have HD := Lib.hid (H.out.2 q (List.mem_of_getElem? hq))
      have HDG := Lib.hid hdg
      have hDl : q.2.length ≤ 200 := by have := HT.out; omega
      have HE := Lib.hid (And.intro hnx (show (edgesT Ps i).length + 2 * q.2.length ≤ 500 by have := HT.out; omega))
      generalize edgesT Ps i = E0 at HA HE
      clear hq hlen hnx htn htt hb hR hdg
      obtain ⟨p, D⟩ := q
      simp only at c0 hDl
      go_wp2_with fail
      go_loopw [20, 3] (fun u lv wx => ∃ j : Nat, j ≤ D.length ∧ u = .int .i64 j ∧ Hid (NumAt w wx lv ((D.take j).foldl edge1 E0) ∧ Below wr.heap.size wr wx)) (fun u _ _ => D.length - (intOf u).toNat)
      case atStart => exact ⟨0, by omega, rfl, Lib.hid ⟨HA.out, Below.refl _ _⟩⟩
      case round =>
        obtain ⟨j, hj, rfl, HJ⟩ := hrel
        have hR2 := HR.out.below HJ.out.2
        by_cases hlt2 : j < D.length
        · obtain ⟨g, rfl⟩ := HDG.out (by omega)
          obtain ⟨d, hd⟩ : ∃ d, D[j]? = some d := ⟨_, List.getElem?_eq_getElem hlt2⟩
          obtain ⟨d1, d2, d3⟩ := deed_at hR2.row hd
          obtain ⟨z0, z1, z2⟩ := HD.out d (List.mem_of_getElem? hd)
          have hl : ((D.take j).foldl edge1 E0).length ≤ 500 := by
            have h1 := edgeD_len (D.take j) E0
            have h2 := HE.out.2
            rw [List.length_take] at h1
            omega
          have hN := HJ.out.1
          have hnx : (D.take (j + 1)).foldl edge1 E0 = edge1 ((D.take j).foldl edge1 E0) d := by rw [take_next hd, List.foldl_append]; rfl
          have HNX := Lib.hid hnx
          generalize (D.take j).foldl edge1 E0 = E1 at hN HNX hl
          have hN1 := hN.on ((Below.refl wr.heap.size wr).alloc (Nat.le_refl _) (.cells #[.int .u32 d.1, .int .u32 d.2.1, .bool d.2.2] 33))
          have HN1 := Lib.hid hN1
          have hl2 : (ins E1 d.1).length ≤ 501 := by have := ins_len E1 d.1; omega
          have HB1 := Lib.hid (HJ.out.2.alloc HJ.out.2.size (.cells #[.int .u32 d.1, .int .u32 d.2.1, .bool d.2.2] 33))
          have hzz := heap_alloc_new wr (.cells #[.int .u32 d.1, .int .u32 d.2.1, .bool d.2.2] 33)
          have HZZ := Lib.hid hzz
          obtain ⟨lo, lc, elv, _, hrd, hbw⟩ := hN
          subst elv
          clear hd hnx hN1 hR2 hzz hrd hbw
          by_cases hmx : d.2.1 = 4294967295
          · have HX := Lib.hid (show edge1 E1 d = ins E1 d.1 by unfold edge1; rw [if_pos hmx])
            have HMX := Lib.hid hmx
            have hq : (d.2.1 != 4294967295) = false := by rw [hmx]; rfl
            clear hmx
            go_wp2_with (go_at_call 42; refine (insert_atB d.1 HN1.out HB1.out (by omega)).mono ?_; rintro e w5 ⟨v5, rfl, h5, hb5⟩; have H5 := Lib.hid (And.intro h5 hb5); obtain ⟨y1, y2⟩ := near_cellsD (keepD HZZ.out hb5); clear h5 hb5)
            exact ⟨⟨j + 1, by omega, rfl, Lib.hid ⟨by rw [HNX.out, HX.out]; exact H5.out.1, HB1.out.trans (H5.out.2.mono HB1.out.size)⟩⟩, by simp [intOf]; omega⟩
          · have HX := Lib.hid (show edge1 E1 d = ins (ins E1 d.1) (d.2.1 + 1) by unfold edge1; rw [if_neg hmx])
            have hq : (d.2.1 != 4294967295) = true := by simpa using hmx
            have hw : IntKind.u32.wrap (d.2.1 + 1) = d.2.1 + 1 := by simp [IntKind.wrap, IntKind.bits, IntKind.signed]; omega
            clear hmx
            go_wp2_with (first
              | (go_at_call 42; have hh := H5; clear hh; refine (insert_atB (d.2.1 + 1) H5.out.1 H5.out.2 (by omega)).mono ?_; rintro e w6 ⟨v6, rfl, h6, hb6⟩; have H6 := Lib.hid (And.intro h6 (H5.out.2.trans (hb6.mono H5.out.2.size))); clear h6 hb6)
              | (go_at_call 42; refine (insert_atB d.1 HN1.out HB1.out (by omega)).mono ?_; rintro e w5 ⟨v5, rfl, h5, hb5⟩; have H5 := Lib.hid (And.intro h5 hb5); obtain ⟨y1, y2⟩ := near_cellsD (keepD HZZ.out hb5); clear h5 hb5))
            exact ⟨⟨j + 1, by omega, rfl, Lib.hid ⟨by rw [HNX.out, HX.out]; exact H6.out.1, HB1.out.trans (H6.out.2.mono HB1.out.size)⟩⟩, by simp [intOf]; omega⟩
        · obtain rfl : j = D.length := by omega
          have hN := HJ.out.1
          rw [List.take_length] at hN
          have HN := Lib.hid hN
          clear hN hR2
          go_wp2_with fail
          go_roundw
          case measure => simp [intOf]; omega
          case rel => exact ⟨i + 1, by omega, rfl, Lib.hid (by rw [HE.out.1]; exact HN.out)⟩
    · obtain rfl : i = m := by omega
      have hA := HA.out
      unfold edgesT at hA
      rw [List.take_of_length_le (by rw [HM.out]; exact Nat.le_refl _)] at hA
      have HF := Lib.hid hA
      clear hA
      go_wp2_with fail
      go_ret
      exact ⟨_, rfl, HF.out⟩
end Go.Proofs.Ytgbhdccadelcfaa.Sp
