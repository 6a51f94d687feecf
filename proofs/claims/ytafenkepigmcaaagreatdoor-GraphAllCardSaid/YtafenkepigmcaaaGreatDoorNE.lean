/- graph: touched, walked. -/
import Derived.Test.YtafenkepigmcaaaGreatDoorND
namespace Go.Proofs.YtafenkepigmcaaaGreatDoor.Gr
open Go Go.RowKit YtafenkepigmcaaaGreatDoor.So
theorem touch_len (os : List Ox) : (touchG os).length ≤ 2 * os.length := by
  induction os with
  | nil => simp [touchG]
  | cons o os ih =>
    have e : touchG (o :: os) = (if o.B = 0 then [o.A] else [o.A, o.B]) ++ touchG os := rfl
    rw [e, List.length_append, List.length_cons]
    split <;> simp only [List.length_cons, List.length_nil] <;> omega
theorem touch_take {os : List Ox} {i : Nat} {o : Ox} (h : os[i]? = some o) : touchG (os.take (i + 1)) = touchG (os.take i) ++ (if o.B = 0 then [o.A] else [o.A, o.B]) := by rw [List.take_add_one, h]; exact touchG_snoc _ _
/-- The vertices that may change, as they are. -/
def TouPost (w : World) (G : GV) (os : List Ox) (e : Ending) (w' : World) : Prop := ∃ (l : List Vr) (v : Value), e = .returned v ∧ l.map Vr.id = touchG os ∧ Noted w G l v w'
set_option maxRecDepth 100000 in
set_option maxHeartbeats 4000000 in
theorem touched_any (g n : Nat) (F : Nat → Prop) (G : GV) (os : List Ox) (ao : Option Addr) (cap : Nat) (w : World) (h : Gp w n F g G) (hn : n ≤ 1000000000000) (hP : ∀ e ∈ G, e.2.1.length ≤ 12) (hO : RdO w ao os) (hok : ∀ o ∈ os, o.ok) (hl : os.length ≤ 1000) :
    Calls Tryz.prog 85 #[.pointer (some ⟨g, 0, none⟩), .slice ao os.length cap] w (TouPost w G os) := by
  have HX := Lib.hid (And.intro h (And.intro hO (And.intro hok (And.intro hl (And.intro hn hP)))))
  have hl' : (os.length : Int) ≤ 1000 := by omega
  obtain ⟨N, hN⟩ : ∃ N, os.length = N := ⟨_, rfl⟩
  rw [hN] at hl' ⊢
  have HN := Lib.hid hN
  obtain ⟨i0, hi0, hz0, hz1, hz2⟩ := info_parts info51
  have HII := Lib.hid (And.intro hi0 (And.intro hz0 (And.intro hz1 hz2)))
  clear h hO hok hl hn hP hN hi0 hz0 hz1 hz2
  go_enter Tryz.func85, Tryz.ntmps85
  go_wp2_with fail
  go_loopw [5, 10] (fun uv u wr => ∃ i : Nat, u = .int .i64 i ∧ i ≤ N ∧ Hid (∃ l : List Vr, l.map Vr.id = touchG (os.take i) ∧ Noted w G l uv wr)) (fun _ u _ => N + 1 - (intOf u).toNat)
  case atStart => exact ⟨0, rfl, Nat.zero_le _, Lib.hid ⟨[], rfl, World.ownsRow_nil _ _ _ _, (fun t ht => by cases ht), .refl _ _⟩⟩
  case round =>
    obtain ⟨i, rfl, hi, HI⟩ := hrel
    by_cases hiN : i < N
    · have hil : i < os.length := by have := HN.out; omega
      obtain ⟨⟨kd, A, B, key, ⟨k, m, s⟩⟩, ho⟩ : ∃ o, os[i]? = some o := ⟨_, List.getElem?_eq_getElem hil⟩
      obtain ⟨l, hids, hno⟩ := HI.out
      obtain ⟨b, off, rfl, hb, q0, q1, q2, q3, q4, q5, q6⟩ := (HX.out.2.1.on (K := fun _ => False) (below_any hno.bel) (fun _ _ h => h)) i _ ho
      simp only at q0 q1 q2 q3 q4 q5 q6
      have hoko := HX.out.2.2.1 _ (List.mem_of_getElem? ho)
      have HO := Lib.hid (And.intro ho hoko)
      have hll : l.length ≤ 2000 := by
        have h1 : (l.map Vr.id).length = (touchG (os.take i)).length := by rw [hids]
        have h2 := touch_len (os.take i)
        rw [List.length_map] at h1
        rw [List.length_take] at h2
        have := HX.out.2.2.2.1
        omega
      obtain ⟨nl, hnl⟩ : ∃ nl, l.length = nl := ⟨_, rfl⟩
      obtain ⟨a5, c5, rfl⟩ := row_slice hno.row
      rw [hnl] at hll ⊢
      have HNl := Lib.hid hnl
      have HNo := Lib.hid (And.intro hids hno)
      have hi1 : i + 1 ≤ N := hiN
      clear ho hoko hi hil hids hno hnl HI
      go_upto_region 5 with fail
      obtain ⟨z, hz⟩ : ∃ z, wr.heap.size = z := ⟨_, rfl⟩
      obtain ⟨W, hW⟩ : ∃ W, wr.alloc (.cells #[.int .u8 kd, .int .u32 A, .int .u32 B, .int .u8 key, .int .u8 k, .int .i64 m, .string s] 75) = W := ⟨_, rfl⟩
      have hzb := heap_alloc_new wr (.cells #[.int .u8 kd, .int .u32 A, .int .u32 B, .int .u8 key, .int .u8 k, .int .i64 m, .string s] 75)
      have bW := (Below.refl wr.heap.size wr).alloc (Nat.le_refl _) (.cells #[.int .u8 kd, .int .u32 A, .int .u32 B, .int .u8 key, .int .u8 k, .int .i64 m, .string s] 75)
      rw [hW] at hzb bW ⊢
      rw [hz] at hzb ⊢
      have HW := Lib.hid (And.intro (HNo.out.2.below bW) hzb)
      obtain ⟨x0, x1, x2, x3, x4, x5, x6⟩ := bo hzb
      clear hW hzb bW q0 q1 q2 q3 q4 q5 q6 hb hz
      have HWn := Lib.hid (show Noted w G l (.slice a5 nl c5) W from by have := HW.out.1; rw [HNl.out] at this; exact this)
      by_cases hB0 : B = 0
      · have HB0 := Lib.hid hB0
        subst hB0
        have HV3 := Lib.hid (vertex_any g n F G A W ((HX.out.1.below HWn.out.bel)) HX.out.2.2.2.2.1 HX.out.2.2.2.2.2 HO.out.2.hA)
        go_wp2_with fail
        refine HV3.out.mono ?_
        rintro e w3 ⟨th3, pv, hv, rfl, hvx, hb3⟩
        obtain ⟨po3, np3, cp3, ho3, nl3, cl3, rfl, rfl⟩ := hvx.slices
        have hk3 := (hb3.block z (Array.getElem?_eq_some_iff.1 HW.out.2).1).trans HW.out.2
        have HR3 := Lib.hid (show w3.ownsRow w.heap.size 51 4 (.slice a5 nl c5) nl (vCells l) from by have := (HWn.out.below hb3).row; rwa [HNl.out] at this)
        have H3 := Lib.hid (And.intro hvx (And.intro hb3 hk3))
        have hsz3 : w.heap.size ≤ w3.heap.size := (HWn.out.below hb3).bel.size
        clear hvx hb3 hk3 HV3
        go_wp2_with (at_builtin; refine wpList_append_lies _ rfl (.tmp 14) (.tmp 19) 28 rfl w.heap.size 51 i0 _ 4 56 Tryz.underlying28 HII.out.1 HII.out.2.1 HII.out.2.2.1 HII.out.2.2.2 rfl (by decide) (.slice a5 nl c5) nl (vCells l) rfl (HR3.out.alloc _) ⟨w3.heap.size, 0, none⟩ 1 1 [.int .u32 A, .bool th3, .slice po3 np3 cp3, .slice ho3 nl3 cl3] rfl (by first | rfl | simp) (vNew A th3 _ _ w3 51) (vOne A th3 _ _ _ _ _ _) (by decide) (by unfold maxLen; omega) (by omega) (by simp; omega) (w3.heap.size + 1) (by simp) ?_; intro g4 cap3 w4 hown4 hgrow4 _ _; have hk4 := (hgrow4.block z (by have := (Array.getElem?_eq_some_iff.1 H3.out.2.2).1; simp; omega) (far_row H3.out.2.2 (by decide) HR3.out)).trans ((heap_alloc_old w3 (.cells #[.int .u32 A, .bool th3, .slice po3 np3 cp3, .slice ho3 nl3 cl3] 51) (Array.getElem?_eq_some_iff.1 H3.out.2.2).1).trans H3.out.2.2); have HN3 := Lib.hid (Noted.more (v' := .slice (some ⟨g4, 0, none⟩) (nl + 1) cap3) (t := ⟨A, th3, .slice po3 np3 cp3, .slice ho3 nl3 cl3⟩) HWn.out H3.out.2.1 H3.out.1 hgrow4 (by rw [HNl.out]; exact hown4)); have HK3 := Lib.hid hk4; obtain ⟨t0, t1, t2, t3, t4, t5, t6⟩ := bo hk4; clear hown4 hgrow4 hk4)
        go_roundw
        case rel => exact ⟨i + 1, by go_num, hi1, Lib.hid ⟨_, by rw [touch_take HO.out.1]; simp [HNo.out.1], HN3.out⟩⟩
        case measure => simp [intOf] <;> omega
      · have hBb : (B == 0) = false := by simpa using hB0
        have HB0 := Lib.hid hB0
        clear hB0
        have HV3 := Lib.hid (vertex_any g n F G A W ((HX.out.1.below HWn.out.bel)) HX.out.2.2.2.2.1 HX.out.2.2.2.2.2 HO.out.2.hA)
        go_wp2_with fail
        refine HV3.out.mono ?_
        rintro e w3 ⟨th3, pv, hv, rfl, hvx, hb3⟩
        obtain ⟨po3, np3, cp3, ho3, nl3, cl3, rfl, rfl⟩ := hvx.slices
        have hk3 := (hb3.block z (Array.getElem?_eq_some_iff.1 HW.out.2).1).trans HW.out.2
        have HR3 := Lib.hid (show w3.ownsRow w.heap.size 51 4 (.slice a5 nl c5) nl (vCells l) from by have := (HWn.out.below hb3).row; rwa [HNl.out] at this)
        have H3 := Lib.hid (And.intro hvx (And.intro hb3 hk3))
        have hsz3 : w.heap.size ≤ w3.heap.size := (HWn.out.below hb3).bel.size
        clear hvx hb3 hk3 HV3
        go_wp2_with (at_builtin; refine wpList_append_lies _ rfl (.tmp 14) (.tmp 19) 28 rfl w.heap.size 51 i0 _ 4 56 Tryz.underlying28 HII.out.1 HII.out.2.1 HII.out.2.2.1 HII.out.2.2.2 rfl (by decide) (.slice a5 nl c5) nl (vCells l) rfl (HR3.out.alloc _) ⟨w3.heap.size, 0, none⟩ 1 1 [.int .u32 A, .bool th3, .slice po3 np3 cp3, .slice ho3 nl3 cl3] rfl (by first | rfl | simp) (vNew A th3 _ _ w3 51) (vOne A th3 _ _ _ _ _ _) (by decide) (by unfold maxLen; omega) (by omega) (by simp; omega) (w3.heap.size + 1) (by simp) ?_; intro g4 cap3 w4 hown4 hgrow4 _ _; have hk4 := (hgrow4.block z (by have := (Array.getElem?_eq_some_iff.1 H3.out.2.2).1; simp; omega) (far_row H3.out.2.2 (by decide) HR3.out)).trans ((heap_alloc_old w3 (.cells #[.int .u32 A, .bool th3, .slice po3 np3 cp3, .slice ho3 nl3 cl3] 51) (Array.getElem?_eq_some_iff.1 H3.out.2.2).1).trans H3.out.2.2); have HN3 := Lib.hid (Noted.more (v' := .slice (some ⟨g4, 0, none⟩) (nl + 1) cap3) (t := ⟨A, th3, .slice po3 np3 cp3, .slice ho3 nl3 cl3⟩) HWn.out H3.out.2.1 H3.out.1 hgrow4 (by rw [HNl.out]; exact hown4)); have HK3 := Lib.hid hk4; obtain ⟨t0, t1, t2, t3, t4, t5, t6⟩ := bo hk4; clear hown4 hgrow4 hk4)
        have HNl1 := Lib.hid (show (l ++ [(⟨A, th3, .slice po3 np3 cp3, .slice ho3 nl3 cl3⟩ : Vr)]).length = nl + 1 from by rw [List.length_append, HNl.out]; rfl)
        have HV5 := Lib.hid (vertex_any g n F G B w4 ((HX.out.1.below HN3.out.bel)) HX.out.2.2.2.2.1 HX.out.2.2.2.2.2 HO.out.2.hB)
        go_wp2_with fail
        refine HV5.out.mono ?_
        rintro e w5 ⟨th5, pv, hv, rfl, hvx, hb3⟩
        obtain ⟨po5, np5, cp5, ho5, nl5, cl5, rfl, rfl⟩ := hvx.slices
        have hk3 := (hb3.block z (Array.getElem?_eq_some_iff.1 HK3.out).1).trans HK3.out
        have HR5 := Lib.hid (show w5.ownsRow w.heap.size 51 4 (.slice (some ⟨g4, 0, none⟩) (nl + 1) cap3) (nl + 1) (vCells (l ++ [(⟨A, th3, .slice po3 np3 cp3, .slice ho3 nl3 cl3⟩ : Vr)])) from by have := (HN3.out.below hb3).row; rwa [HNl1.out] at this)
        have H5 := Lib.hid (And.intro hvx (And.intro hb3 hk3))
        have hsz5 : w.heap.size ≤ w5.heap.size := (HN3.out.below hb3).bel.size
        clear hvx hb3 hk3 HV5
        go_wp2_with (at_builtin; refine wpList_append_lies _ rfl (.tmp 24) (.tmp 29) 28 rfl w.heap.size 51 i0 _ 4 56 Tryz.underlying28 HII.out.1 HII.out.2.1 HII.out.2.2.1 HII.out.2.2.2 rfl (by decide) (.slice (some ⟨g4, 0, none⟩) (nl + 1) cap3) (nl + 1) (vCells (l ++ [(⟨A, th3, .slice po3 np3 cp3, .slice ho3 nl3 cl3⟩ : Vr)])) rfl (HR5.out.alloc _) ⟨w5.heap.size, 0, none⟩ 1 1 [.int .u32 B, .bool th5, .slice po5 np5 cp5, .slice ho5 nl5 cl5] rfl (by first | rfl | simp) (vNew B th5 _ _ w5 51) (vOne B th5 _ _ _ _ _ _) (by decide) (by unfold maxLen; omega) (by omega) (by simp; omega) (w5.heap.size + 1) (by simp) ?_; intro g6 cap5 w6 hown4 hgrow4 _ _; have hk4 := (hgrow4.block z (by have := (Array.getElem?_eq_some_iff.1 H5.out.2.2).1; simp; omega) (far_row H5.out.2.2 (by decide) HR5.out)).trans ((heap_alloc_old w5 (.cells #[.int .u32 B, .bool th5, .slice po5 np5 cp5, .slice ho5 nl5 cl5] 51) (Array.getElem?_eq_some_iff.1 H5.out.2.2).1).trans H5.out.2.2); have HN5 := Lib.hid (Noted.more (v' := .slice (some ⟨g6, 0, none⟩) ((nl + 1) + 1) cap5) (t := ⟨B, th5, .slice po5 np5 cp5, .slice ho5 nl5 cl5⟩) HN3.out H5.out.2.1 H5.out.1 hgrow4 (by rw [HNl1.out]; exact hown4)); have HK5 := Lib.hid hk4; obtain ⟨t0, t1, t2, t3, t4, t5, t6⟩ := bo hk4; clear hown4 hgrow4 hk4)
        go_roundw
        case rel => exact ⟨i + 1, by go_num, hi1, Lib.hid ⟨_, by rw [touch_take HO.out.1]; simp [HNo.out.1, HB0.out], HN5.out⟩⟩
        case measure => simp [intOf] <;> omega
    · have hiE : N = i := by omega
      subst hiE
      obtain ⟨l, hids, hno⟩ := HI.out
      rw [show os.take N = os by rw [← HN.out]; exact List.take_length] at hids
      have HE := Lib.hid (show TouPost w G os (.returned u5) wr from ⟨l, _, rfl, hids, hno⟩)
      clear hids hno HI hi
      go_wp2_with fail
      go_ret
      exact HE.out
end Go.Proofs.YtafenkepigmcaaaGreatDoor.Gr
/- graph: a vertex that was noted is held again. -/
namespace Go.Proofs.YtafenkepigmcaaaGreatDoor.Gr
open Go Go.RowKit YtafenkepigmcaaaGreatDoor.So
/-- What a graph's vertex has is well told. -/
theorem gp_in {w : World} {n g : Nat} {F : Nat → Prop} {G : GV} (h : Gp w n F g G) {v : Int} {P L : EL Av} (hx : getE G v = some (P, L)) : (∀ e ∈ P, In8 e.1 ∧ e.2.ok) ∧ (∀ e ∈ L, In32 e.1 ∧ e.2.ok) ∧ RiseE P ∧ RiseE L := by
  obtain ⟨mp, me, bp, be, h⟩ := h
  obtain ⟨h1, h2⟩ := h.mine _ (mem_of_get hx)
  exact ⟨fun e he => ⟨wf_vals h1.1 he, h1.2 e he⟩, fun e he => ⟨wf_vals h2.1 he, h2.2 e he⟩, rise_vals h1.1, rise_vals h2.1⟩
theorem own_block_ao {ao : Option Addr} {n cap : Nat} {ad : Addr} (h : ao = some ad) : (Value.slice ao n cap).ownBlock = some ad.block := by subst h; rfl
/-- A vertex that was noted goes in as it was. -/
theorem hold_vr (g n N : Nat) (F0 F : Nat → Prop) (G H : GV) (t : Vr) (B : Nat) (w0 w1 wr : World) (h0 : Gp w0 n F0 g G) (h : Gp wr N F g H) (hN : N < maxLen) (hv : In32 t.id) (ht : VxR w1 B t (getE G t.id)) (hb : ∀ e ∈ G, e.2.1.length ≤ 12 ∧ e.2.2.length ≤ 40) (hN40 : 40 ≤ N)
    (hF0 : ∀ k, F0 k → k < B) (hF : ∀ k, F k → F0 k ∨ w1.heap.size ≤ k) (htu : Turned F0 w1 wr) :
    Calls Tryz.prog 70 #[.pointer (some ⟨g, 0, none⟩), .agg #[.int .u32 t.id, .bool t.th, t.pv, t.hv]] wr fun e w' => e = .returned (.tuple #[]) ∧ Done wr F (N + 1) g (holdG H t.id (getE G t.id)) w' := by
  cases hx : getE G t.id with
  | none =>
    rw [hx] at ht
    obtain ⟨h1, h2, h3⟩ := ht
    rw [h1, h2, h3]
    exact (hold_out g N F H t.id wr h hv).mono fun e w' hh => ⟨hh.1, hh.2.mono (by omega)⟩
  | some x =>
    obtain ⟨P, L⟩ := x
    rw [hx] at ht
    obtain ⟨h1, h2, h3⟩ := ht
    have hl := hb _ (mem_of_get hx)
    obtain ⟨okp, okl, rp, rl⟩ := gp_in h0 hx
    have h2' := row_turned h2 htu (fun k hk hf => by have := row_lt h2 hk; have := hF0 k hf; omega)
    have h3' := row_turned h3 htu (fun k hk hf => by have := row_lt h3 hk; have := hF0 k hf; omega)
    obtain ⟨po, cp, e1, r1, o1⟩ := row_rd h2' rfl
    obtain ⟨ho, cl, e2, r2, o2⟩ := row_rd h3' rfl
    rw [h1, e1, e2]
    rw [e1] at h2 o1
    rw [e2] at h3 o2
    refine hold_some g N N F H t.id po ho cp cl P L wr h (Nat.le_refl _) (by have := hl.1; simp only at this; omega) (by have := hl.2; simp only at this; omega) hN hv ⟨r1, r2, fun ad e _ hf => ?_, fun ad e _ hf => ?_, okp, okl, rp, rl⟩
    · have := row_lt h2 (own_block_ao e)
      rcases hF _ hf with q | q
      · have := hF0 _ q; omega
      · omega
    · have := row_lt h3 (own_block_ao e)
      rcases hF _ hf with q | q
      · have := hF0 _ q; omega
      · omega
/-- Of vertices that stand in a row the cells of each. -/
theorem vCells_at {l : List Vr} {i : Nat} {t : Vr} (h : l[i]? = some t) : (vCells l)[i * 4]? = some (.int .u32 t.id) ∧ (vCells l)[i * 4 + 1]? = some (.bool t.th) ∧ (vCells l)[i * 4 + 2]? = some t.pv ∧ (vCells l)[i * 4 + 3]? = some t.hv := by
  induction l generalizing i with
  | nil => simp at h
  | cons a l ih =>
    have ec : vCells (a :: l) = .int .u32 a.id :: .bool a.th :: a.pv :: a.hv :: vCells l := by simp [vCells]
    rw [ec]
    cases i with
    | zero => simp at h; subst h; simp
    | succ i =>
      simp at h
      have := ih h
      rw [show (i + 1) * 4 = i * 4 + 1 + 1 + 1 + 1 by omega, show i * 4 + 1 + 1 + 1 + 1 + 1 = (i * 4 + 1) + 1 + 1 + 1 + 1 by omega, show i * 4 + 1 + 1 + 1 + 1 + 2 = (i * 4 + 2) + 1 + 1 + 1 + 1 by omega, show i * 4 + 1 + 1 + 1 + 1 + 3 = (i * 4 + 3) + 1 + 1 + 1 + 1 by omega]
      simp only [List.getElem?_cons_succ]
      exact this
theorem row_cell {w : World} {B et s n : Nat} {ao : Option Addr} {cap : Nat} {xs : List Value} (h : w.ownsRow B et s (.slice ao n cap) n xs) {k : Nat} {u : Value} (hu : xs[k]? = some u) : ∃ g, ao = some ⟨g, 0, none⟩ ∧ B ≤ g ∧ g < w.heap.size ∧ w.cell? ⟨g, k, none⟩ = some u := by
  rcases h.2 with ⟨e, h0⟩ | ⟨g', cap', cur, e, h1, h2, h3, h4, h5, h6⟩
  · have hl := h.1
    rw [h0] at hl
    have : xs = [] := List.eq_nil_of_length_eq_zero (by simpa using hl)
    rw [this] at hu
    simp at hu
  · simp only [Value.slice.injEq] at e
    obtain ⟨rfl, _, _⟩ := e
    refine ⟨g', rfl, h1, (Array.getElem?_eq_some_iff.1 h2).1, ?_⟩
    rw [← h6, List.getElem?_take] at hu
    split at hu
    · simp only [World.cell?, h2]
      simpa using hu
    · cases hu
end Go.Proofs.YtafenkepigmcaaaGreatDoor.Gr
/- graph: transact, walked. -/
namespace Go.Proofs.YtafenkepigmcaaaGreatDoor.Gr
open Go Go.RowKit YtafenkepigmcaaaGreatDoor.So
theorem touch_in {os : List Ox} (h : ∀ o ∈ os, o.ok) : ∀ x ∈ touchG os, In32 x := by
  intro x hx
  obtain ⟨o, ho, hm⟩ := List.mem_flatMap.1 hx
  have := h o ho
  split at hm
  · simp at hm; rw [hm]; exact this.hA
  · simp at hm; rcases hm with rfl | rfl
    · exact this.hA
    · exact this.hB
/-- What a transaction is answered, and leaves. -/
def TxPost (w : World) (F : Nat → Prop) (n g : Nat) (G : GV) (os : List Ox) (e : Ending) (w' : World) : Prop :=
  (badG G os = none ∧ ∃ a c, e = .returned (.agg #[.int .i64 0, .int .i64 0, .slice a (valG G os).length c, .slice none 0 0]) ∧ RunAt w F n g (stG G os) (valG G os) (.slice a (valG G os).length c) w') ∨
  (∃ (i : Nat) (c : Int), badG G os = some (i, c) ∧ i < os.length ∧ e = .returned (.agg #[.int .i64 c, .int .i64 i, .slice none 0 0, .slice none 0 0]) ∧ Done w F n g G w')
theorem size39 : (Tryz.prog.info? 39).map (·.size) = some 4 := by kernel_rfl
theorem Gp.turned {w w' : World} {n g : Nat} {F K : Nat → Prop} {G : GV} (h : Gp w n F g G) (ht : Turned K w w') (hK : ∀ k, F k → ¬ K k) : Gp w' n F g G := h.on ht hK
/-- Between two that are held again. -/
structure Back (w1 : World) (F0 : Nat → Prop) (m g : Nat) (H : GV) (p : Nat) (o : Obj) (wr : World) : Prop where
  gr : ∃ F', Gp wr m F' g H ∧ (∀ k, F' k → F0 k ∨ w1.heap.size ≤ k) ∧ ¬ F' p
  tur : Turned F0 w1 wr
  err : wr.heap[p]? = some o
  pw : w1.heap.size ≤ p
theorem Back.below {w1 wr w' : World} {F0 : Nat → Prop} {m g p : Nat} {H : GV} {o : Obj} (h : Back w1 F0 m g H p o wr) (hb : Below wr.heap.size wr w') : Back w1 F0 m g H p o w' := by
  obtain ⟨F', h1, h2, h3⟩ := h.gr
  exact ⟨⟨F', h1.below hb, h2, h3⟩, h.tur.then (turned_low hb), (hb.block p (Array.getElem?_eq_some_iff.1 h.err).1).trans h.err, h.pw⟩
theorem Back.done {w1 wr w' : World} {F0 F' : Nat → Prop} {m m' g p : Nat} {H H' : GV} {o : Obj} (h : Back w1 F0 m g H p o wr) (h2 : ∀ k, F' k → F0 k ∨ w1.heap.size ≤ k) (h3 : ¬ F' p) (hd : Done wr F' m' g H' w') : Back w1 F0 m' g H' p o w' := by
  obtain ⟨F2, d1, d2, d3⟩ := hd
  have hp := (Array.getElem?_eq_some_iff.1 h.err).1
  refine ⟨⟨F2, d1, fun k hk => ?_, fun hf => ?_⟩, h.tur.trans d3 h2, (d3.block p hp h3).trans h.err, h.pw⟩
  · rcases d2 k hk with e | e
    · exact h2 k e
    · exact .inr (Nat.le_trans h.tur.size e)
  · rcases d2 p hf with e | e
    · exact h3 e
    · omega
set_option maxRecDepth 100000 in
set_option maxHeartbeats 4000000 in
theorem transact_any (g n : Nat) (F : Nat → Prop) (G : GV) (os : List Ox) (ao : Option Addr) (cap : Nat) (w : World) (h : Gp w n F g G) (h40 : 40 ≤ n) (hn : n ≤ 100000000000) (hB : ∀ e ∈ G, e.2.1.length ≤ 12 ∧ e.2.2.length ≤ 40) (hO : RdO w ao os) (hF : ∀ ad, ao = some ad → ¬ F ad.block) (hok : ∀ o ∈ os, o.ok) (hz : ∀ o ∈ os, o.B = 0 → ¬ o.kd = 5 ∧ ¬ o.kd = 6) (hl : os.length ≤ 1000) (hE : Flt.ErrT w) (hE0 : ¬ F 0) :
    Calls Tryz.prog 51 #[.pointer (some ⟨g, 0, none⟩), .slice ao os.length cap] w (TxPost w F (n + 4 * os.length) g G os) := by
  obtain ⟨z, hzz⟩ : ∃ z, w.heap.size = z := ⟨_, rfl⟩
  obtain ⟨W, hW⟩ : ∃ W, w.alloc (.cells #[.int .i64 0, .int .i64 0, .slice none 0 0, .slice none 0 0] 39) = W := ⟨_, rfl⟩
  have bW := (Below.refl w.heap.size w).alloc (Nat.le_refl _) (.cells #[.int .i64 0, .int .i64 0, .slice none 0 0, .slice none 0 0] 39)
  have kW := heap_alloc_new w (.cells #[.int .i64 0, .int .i64 0, .slice none 0 0, .slice none 0 0] 39)
  rw [hW, hzz] at kW
  rw [hW] at bW
  have hFz : ∀ k, F k → k < z := fun k hk => hzz ▸ gp_lt h k hk
  have HX := Lib.hid (And.intro h (And.intro bW (And.intro kW hFz)))
  have HO := Lib.hid (And.intro (hO.on (K := fun _ => False) (below_any bW) (fun _ _ h => h)) (And.intro hF (And.intro hok (And.intro hz hl))))
  have HB := Lib.hid (And.intro hB (And.intro hE (And.intro hE0 (And.intro h40 hn))))
  have HZ := Lib.hid hzz
  have HT := Lib.hid (touched_any g n F G os ao cap W (h.below bW) (by omega) (fun e he => (hB e he).1) HO.out.1 hok hl)
  obtain ⟨N, hN⟩ : ∃ N, os.length = N := ⟨_, rfl⟩
  have HN := Lib.hid hN
  rw [hN] at HT ⊢
  clear h bW kW hFz hO hF hok hz hl hB hE hE0 h40 hn hN
  go_enter Tryz.func51, Tryz.ntmps51
  go_wp2_with fail
  clear hW hzz
  refine HT.out.mono ?_
  rintro e w1 ⟨l, v, rfl, hids, hno⟩
  obtain ⟨a5, c5, rfl⟩ := row_slice hno.row
  have HNo := Lib.hid (And.intro hids hno)
  have HR := Lib.hid (run_any g n F G os ao cap w1 ((HX.out.1.below HX.out.2.1).below hno.bel) (HO.out.1.on (K := fun _ => False) (below_any hno.bel) (fun _ _ h => h)) HO.out.2.1 HO.out.2.2.1 HO.out.2.2.2.2 (by have := HB.out.2.2.2.2; have := HO.out.2.2.2.2; unfold maxLen; omega))
  rw [HN.out] at HR
  clear hids hno HT
  go_wp2_with fail
  have hk1 := (HNo.out.2.bel.block z (Array.getElem?_eq_some_iff.1 HX.out.2.2.1).1).trans HX.out.2.2.1
  have HK1 := Lib.hid hk1
  have hll : l.length ≤ 2 * os.length := by
    have h1 : (l.map Vr.id).length = (touchG os).length := by rw [HNo.out.1]
    rw [List.length_map] at h1
    have := touch_len os
    omega
  obtain ⟨nl, hnl⟩ : ∃ nl, l.length = nl := ⟨_, rfl⟩
  rw [hnl] at hll ⊢
  have HNl := Lib.hid (And.intro hnl hll)
  have hnl2 : nl ≤ 2000 := by have := HO.out.2.2.2.2; omega
  clear hk1 hnl hll
  refine HR.out.mono ?_
  rintro e w3 (⟨hbad, vv, rfl, hrun⟩ | ⟨i, c, A, p, F', hbad, hi, rfl, hp1, hp2, hg3, hF3, ht3, hp3⟩)
  · obtain ⟨a6, c6, rfl⟩ := row_slice hrun.row
    have hk3 := (hrun.tur.block z (Array.getElem?_eq_some_iff.1 HK1.out).1 (fun hf => by have := HX.out.2.2.2 _ hf; omega)).trans HK1.out
    have HRun := Lib.hid (And.intro hbad hrun)
    obtain ⟨p0, f0, p1, f1, p2, f2, p3, f3, hend⟩ := four (.int .i64 0) (.int .i64 0) (.slice a6 (valG G os).length c6) (.slice none 0 0) hk3
    have HEnd := Lib.hid hend
    have HK3 := Lib.hid hk3
    clear hbad hrun hk3 hend
    obtain ⟨nv, hnv⟩ : ∃ nv, (valG G os).length = nv := ⟨_, rfl⟩
    rw [hnv] at HEnd p3 f3 ⊢
    have HNv := Lib.hid hnv
    clear hnv
    go_wp2_with fail
    refine bodyPost_ret (v := .agg #[.int .i64 0, .int .i64 0, .slice a6 nv c6, .slice none 0 0]) (results_cell_row rfl _ _ z 39 _ (0, 0) _ rfl HEnd.out Tryz.underlying39 rfl size39) rfl ?_
    have t4 := four_turned w3 z (.int .i64 0) (.int .i64 0) (.slice a6 nv c6) (.slice none 0 0)
    obtain ⟨F', g1, g2, g3⟩ := HRun.out.2.gr
    have hw1 : w.heap.size < w1.heap.size := by have := (Array.getElem?_eq_some_iff.1 HK1.out).1; have := HZ.out; omega
    have hzF' : ∀ k, F' k → k ≠ z := fun k hk e => by
      rcases g2 k hk with q | q
      · have := HX.out.2.2.2 _ q; omega
      · have := HZ.out; omega
    refine .inl ⟨HRun.out.1, a6, c6, by rw [HNv.out], ?_⟩
    refine ⟨⟨F', (g1.turned t4 hzF').mono (by have := HN.out; omega), fun k hk => ?_, g3⟩, ?_, ?_⟩
    · rcases g2 k hk with q | q
      · exact .inl q
      · exact .inr (by omega)
    · have tA : Turned F w w3 := ((turned_low HX.out.2.1).then (turned_low HNo.out.2.bel)).then HRun.out.2.tur
      exact tA.trans t4 (fun k hk => .inr (by have := HZ.out; omega))
    · rw [← HNv.out] at t4 ⊢
      exact row_base (row_turned HRun.out.2.row t4 (fun g hg e => far_row HK3.out (by decide) HRun.out.2.row (by rw [hg, e]))) (by omega)
  · have HBk0 := Lib.hid (show Back w1 F (n + 2 * N) g (backG G (stG G (os.take i)) []) p _ w3 from ⟨⟨F', hg3, hF3, hp3⟩, ht3, hp2, hp1⟩)
    have Hbad := Lib.hid (And.intro hbad hi)
    clear hbad hi hp1 hp2 hg3 hF3 ht3 hp3
    go_wp2_with fail
    go_loopw [25] (fun u wr => ∃ j : Nat, u = .int .i64 j ∧ j ≤ nl ∧ Hid (Back w1 F (n + 2 * N + j) g (backG G (stG G (os.take i)) ((touchG os).take j)) p (.cells #[.int .i64 i, .int .u32 A, .iface 35 (.int .i64 c)] 188 (0, 0)) wr)) (fun u _ => nl + 1 - (intOf u).toNat)
    case atStart => exact ⟨0, rfl, Nat.zero_le _, HBk0⟩
    case round =>
      obtain ⟨j, rfl, hj, HI⟩ := hrel
      by_cases hjn : j < nl
      · have hjl : j < l.length := by have := HNl.out.1; omega
        obtain ⟨⟨id, th, pv, hv⟩, ht⟩ : ∃ t, l[j]? = some t := ⟨_, List.getElem?_eq_getElem hjl⟩
        have hvx := HNo.out.2.has _ (List.mem_of_getElem? ht)
        obtain ⟨po, np, cp, ho, nh, ch, e1, e2⟩ := hvx.slices
        simp only at e1 e2
        subst e1
        subst e2
        obtain ⟨v0, v1, v2, v3⟩ := vCells_at ht
        obtain ⟨gv, rfl, hg1, hg2, y0⟩ := row_cell HNo.out.2.row v0
        obtain ⟨_, e3, _, _, y1⟩ := row_cell HNo.out.2.row v1
        obtain ⟨_, e4, _, _, y2⟩ := row_cell HNo.out.2.row v2
        obtain ⟨_, e5, _, _, y3⟩ := row_cell HNo.out.2.row v3
        cases e3; cases e4; cases e5
        have hbl := HI.out.tur.block gv hg2 (fun hf => by have := gp_lt HX.out.1 _ hf; have := HX.out.2.1.size; omega)
        have hc : ∀ q, wr.cell? ⟨gv, q, none⟩ = w1.cell? ⟨gv, q, none⟩ := fun q => by simp [World.cell?, hbl]
        have x0 := (hc _).trans y0
        have x1 := (hc _).trans y1
        have x2 := (hc _).trans y2
        have x3 := (hc _).trans y3
        simp only at x0 x1 x2 x3
        have hid : (touchG os)[j]? = some id := by rw [← HNo.out.1, List.getElem?_map, ht]; rfl
        have HT := Lib.hid (And.intro hvx (And.intro hid (And.intro ht hjl)))
        have hj1 : j + 1 ≤ nl := hjn
        clear hvx v0 v1 v2 v3 y0 y1 y2 y3 hbl hc hg1 hg2 ht hid hjl
        go_upto_region 8 with fail
        obtain ⟨W8, hW8⟩ : ∃ W8, wr.alloc (.cells #[.int .u32 id, .bool th, .slice po np cp, .slice ho nh ch] 51) = W8 := ⟨_, rfl⟩
        have b8 := (Below.refl wr.heap.size wr).alloc (Nat.le_refl _) (.cells #[.int .u32 id, .bool th, .slice po np cp, .slice ho nh ch] 51)
        have n8 := heap_alloc_new wr (.cells #[.int .u32 id, .bool th, .slice po np cp, .slice ho nh ch] 51)
        obtain ⟨z8, hz8⟩ : ∃ z8, wr.heap.size = z8 := ⟨_, rfl⟩
        rw [hW8] at b8 n8 ⊢
        rw [hz8] at n8 ⊢
        obtain ⟨s0, s1, s2, s3⟩ := bx n8
        have HB8 := Lib.hid (HI.out.below b8)
        clear hW8 b8 n8 hz8 HI x0 x1 x2 x3
        obtain ⟨F8, g8, f8, p8⟩ := HB8.out.gr
        have HC := Lib.hid (hold_vr g n (n + 2 * N + j) F F8 G _ ⟨id, th, .slice po np cp, .slice ho nh ch⟩ W.heap.size w w1 W8 HX.out.1 g8 (by have := HB.out.2.2.2.2; have := HO.out.2.2.2.2; have := HN.out; unfold maxLen; omega) (touch_in HO.out.2.2.1 _ (List.mem_of_getElem? HT.out.2.1)) HT.out.1 HB.out.1 (by have := HB.out.2.2.2.1; omega) (fun k hk => Nat.lt_of_lt_of_le (gp_lt HX.out.1 k hk) HX.out.2.1.size) f8 HB8.out.tur)
        go_wp2_with fail
        refine HC.out.mono ?_
        rintro e w9 ⟨rfl, hd⟩
        have HD := Lib.hid (HB8.out.done f8 p8 hd)
        clear hd g8 f8 p8
        go_wp2_with fail
        go_roundw
        case rel => exact ⟨j + 1, by go_num, hj1, Lib.hid (by rw [List.take_add_one, HT.out.2.1]; simpa [backG_snoc, Nat.add_assoc] using HD.out)⟩
        case measure => simp [intOf] <;> omega
      · have hjE : nl = j := by omega
        subst hjE
        have htk : (touchG os).take nl = touchG os := by
          have h1 : (l.map Vr.id).length = (touchG os).length := by rw [HNo.out.1]
          rw [List.length_map, HNl.out.1] at h1
          rw [h1]; exact List.take_length
        have hbk := HI.out
        rw [htk, back_all HX.out.1.rise os (os.take i) (fun o ho => List.mem_of_mem_take ho) HO.out.2.2.2.1] at hbk
        have HBk := Lib.hid hbk
        have hlow : Turned F w wr := ((turned_low HX.out.2.1).then (turned_low HNo.out.2.bel)).then hbk.tur
        have hch : Flt.Chain wr (.iface 185 (.pointer (some ⟨p, 0, none⟩))) [((i : Int), A)] c := ⟨p, _, rfl, hbk.err, rfl⟩
        have hEr : Flt.ErrT wr := by
          have h0 := World.block_lt_of_cell? _ _ HB.out.2.1
          have := hlow.block 0 h0 HB.out.2.2.1
          unfold Flt.ErrT
          rw [← HB.out.2.1]
          simp [World.cell?, this]
        have hkz := (hbk.tur.block z (Array.getElem?_eq_some_iff.1 HK1.out).1 (fun hf => by have := HX.out.2.2.2 _ hf; omega)).trans HK1.out
        have HLow := Lib.hid (And.intro hlow (And.intro hch hkz))
        have HCo := Lib.hid (Flt.code_any _ _ c wr hch hEr)
        clear htk hbk hlow hch hEr hkz HI hj hjn
        go_wp2_with fail
        refine HCo.out.mono ?_
        rintro e w5 ⟨rfl, hb5⟩
        have HLi := Lib.hid (Flt.links_any _ _ c w5 (Flt.Chain.on hb5 (Nat.le_refl _) HLow.out.2.1) (by simp))
        have H5 := Lib.hid hb5
        clear hb5
        go_wp2_with fail
        refine HLi.out.mono ?_
        rintro e w6 ⟨v', rfl, ho6, hb6⟩
        obtain ⟨ar, cr, rfl⟩ := row_slice ho6
        obtain ⟨gl, rfl, _, _, r0⟩ := row_cell (k := 0) (u := .int .i64 (i : Int)) ho6 (by simp [Flt.lflat])
        have HB6 := Lib.hid (show Below wr.heap.size wr w6 from H5.out.trans (hb6.mono H5.out.size))
        have hk6 := (HB6.out.block z (Array.getElem?_eq_some_iff.1 HLow.out.2.2).1).trans HLow.out.2.2
        obtain ⟨p0, f0, p1, f1, p2, f2, p3, f3, hend⟩ := four (.int .i64 c) (.int .i64 i) (.slice none 0 0) (.slice none 0 0) hk6
        have HEnd := Lib.hid hend
        clear ho6 hb6 hk6 hend
        go_wp2_with fail
        refine bodyPost_ret (v := .agg #[.int .i64 c, .int .i64 i, .slice none 0 0, .slice none 0 0]) (results_cell_row rfl _ _ z 39 _ (0, 0) _ rfl HEnd.out Tryz.underlying39 rfl size39) rfl ?_
        have t4 := four_turned w6 z (.int .i64 c) (.int .i64 i) (.slice none 0 0) (.slice none 0 0)
        obtain ⟨F2, g1, g2, g3⟩ := HBk.out.gr
        have hw1 : w.heap.size < w1.heap.size := by have := (Array.getElem?_eq_some_iff.1 HK1.out).1; have := HZ.out; omega
        have hzF' : ∀ k, F2 k → k ≠ z := fun k hk e => by
          rcases g2 k hk with q | q
          · have := HX.out.2.2.2 _ q; omega
          · have := HZ.out; omega
        refine .inr ⟨i, c, Hbad.out.1, by have := Hbad.out.2; have := HN.out; omega, rfl, F2, ((g1.below HB6.out).turned t4 hzF').mono (by have := HNl.out.2; have := HN.out; omega), fun k hk => ?_, ?_⟩
        · rcases g2 k hk with q | q
          · exact .inl q
          · exact .inr (by omega)
        · exact (HLow.out.1.then (turned_low HB6.out)).trans t4 (fun k hk => .inr (by have := HZ.out; omega))
end Go.Proofs.YtafenkepigmcaaaGreatDoor.Gr
