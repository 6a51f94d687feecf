/- plate: the law on a second cut of power, walked. -/
import Derived.Test.YtjfbgihjgnbeeaaV4
import Derived.Deep.CutBlock
import Derived.Deep.DeepCutAuto
namespace Go.Proofs.Ytjfbgihjgnbeeaa.Pl
open Go Go.RowKit
attribute [local go_sem ↓] Go.wp_at_zero Go.wp_at_succ
def stepW (s : PSt) (o : OpV) : PSt := wrote s (o.ix % 8) (pageOf (o.bs.take 64))
/-- The plate behind k writes of a script. -/
def more (s : PSt) (L : List OpV) (k : Nat) : PSt := (L.take k).foldl stepW s
theorem more_succ {s : PSt} {L : List OpV} {k : Nat} {o : OpV} (h : L[k]? = some o) : more s L (k + 1) = stepW (more s L k) o := by
  simp [more, List.take_add_one, h]
theorem more_fine {s : PSt} {n : Nat} (h : Fine s n) (L : List OpV) : ∀ k : Nat, Fine (more s L k) (n + k)
  | 0 => by simpa [more] using h
  | k + 1 => by
    cases e : L[k]? with
    | none =>
      have ih := more_fine h L k
      have : more s L (k + 1) = more s L k := by simp [more, List.take_add_one, e]
      rw [this]
      obtain ⟨h1, h2, h3, h4, h5⟩ := ih
      exact ⟨h1, h2, h3, by omega, by omega⟩
    | some o =>
      rw [more_succ e]
      exact (more_fine h L k).wrote _ _
theorem more_lead {p : Int → Array Value} {s : PSt} (h : Lead p s) (L : List OpV) : ∀ k : Nat, Lead p (more s L k)
  | 0 => by simpa [more] using h
  | k + 1 => by
    cases e : L[k]? with
    | none =>
      have : more s L (k + 1) = more s L k := by simp [more, List.take_add_one, e]
      rw [this]
      exact more_lead h L k
    | some o =>
      rw [more_succ e]
      exact (more_lead h L k).wrote _ _
def moreIf (all : Bool) (s : PSt) (L : List OpV) (k : Nat) : PSt := if all then more s L k else s
theorem more_op (s : PSt) (L : List OpV) : ∀ k : Nat, (more s L k).op.length ≤ s.op.length + k
  | 0 => by simp [more]
  | k + 1 => by
    have ih := more_op s L k
    cases e : L[k]? with
    | none =>
      have : more s L (k + 1) = more s L k := by simp [more, List.take_add_one, e]
      rw [this]; omega
    | some o =>
      rw [more_succ e]
      simp only [stepW, wrote, List.length_append, List.length_singleton]
      omega
/-- What is kept, when the first k places have been set. -/
def kc (all : Bool) (k : Nat) : List Value := if all then List.replicate k (.int .u8 1) ++ List.replicate (20 - k) (.int .u8 0) else List.replicate 20 (.int .u8 0)
theorem kc_len (all : Bool) {k : Nat} (hk : k ≤ 20) : (kc all k).length = 20 := by cases all <;> simp [kc]; omega
theorem kc_set {k : Nat} (hk : k < 20) : (kc true k).toArray.setIfInBounds k (.int .u8 1) = (kc true (k + 1)).toArray := by
  apply Array.ext_getElem?
  intro i
  rw [Array.getElem?_setIfInBounds]
  simp only [kc, if_true, List.size_toArray, List.length_append, List.length_replicate, List.getElem?_toArray, List.getElem?_append, List.getElem?_replicate]
  by_cases h1 : k = i
  · subst h1
    have : k < k + (20 - k) := by omega
    simp [this]
  · rw [if_neg h1]
    by_cases h2 : i < k
    · simp [h2, show i < k + 1 by omega]
    · simp only [h2, show ¬ i < k + 1 by omega, if_false]
      by_cases h3 : i < 20
      · rw [if_pos (by omega), if_pos (by omega)]
      · rw [if_neg (by omega), if_neg (by omega)]
theorem kc_byte (all : Bool) (k : Nat) : ∀ x ∈ kc all k, IsByte x := by
  intro x hx
  cases all with
  | true =>
    simp only [kc, if_true] at hx
    rcases List.mem_append.1 hx with hx | hx
    · exact ⟨1, (List.mem_replicate.1 hx).2, by decide, by decide⟩
    · exact ⟨0, (List.mem_replicate.1 hx).2, by decide, by decide⟩
  | false => exact ⟨0, (List.mem_replicate.1 hx).2, by decide, by decide⟩
theorem wy_ones {j : Nat} (hj : j < 20) : wy (kc true 20) j = 1 := by
  have : (kc true 20)[j]? = some (.int .u8 1) := by
    rw [show kc true 20 = List.replicate 20 (Value.int .u8 1) from by simp only [kc, if_true, Nat.sub_self, List.replicate_zero, List.append_nil], List.getElem?_replicate, if_pos hj]
  simp [wy, this]
theorem wy_zeros {j : Nat} : wy (kc false 20) j = 0 := by
  by_cases hj : j < 20
  · have : (kc false 20)[j]? = some (.int .u8 0) := by
      rw [show kc false 20 = List.replicate 20 (Value.int .u8 0) from rfl, List.getElem?_replicate, if_pos hj]
    simp [wy, this]
  · have : (kc false 20)[j]? = none := by
      rw [show kc false 20 = List.replicate 20 (Value.int .u8 0) from rfl, List.getElem?_replicate, if_neg hj]
    simp [wy, this]
theorem kc_src {W : World} {z : Nat} {all : Bool} (h : W.heap[z]? = some (.cells (kc all 20).toArray 5 (0, 0))) : Src W (some ⟨z, 0, none⟩) (kc all 20) :=
  ⟨fun _ => ⟨_, rfl, fun j v hv => by
    rw [Go.WideShapes.add_plain, Nat.zero_add, cell_of_row _ _ j _ 5 (0, 0) h]
    simpa using hv⟩, kc_byte all 20⟩
def Z20 : Array Value := (List.replicate 20 (Value.int .u8 0)).toArray
theorem make20 (w : World) : (Instr.makeSlice 31 (.int .i64 20) (.int .i64 20)).run Try.prog w = .ok (.slice (some ⟨w.heap.size, 0, none⟩) 20 20) (w.alloc (.cells Z20 5)) := by
  obtain ⟨i, hi, hz, hs, hb⟩ := info_parts info5
  have h := run_make (P := Try.prog) w 31 5 i _ Try.underlying31 hi hz .i64 .i64 20 20 (by omega) (Int.le_refl _) (by rw [hb]; decide) (by decide)
  rw [hs] at h
  exact h.trans (by
    have : madeCells (Value.int .u8 0).cells ((20 : Int).toNat * 1) = Z20 := by kernel_rfl
    first | rw [this]; rfl | rfl)
/-- Between two rounds of the loop that sets what is kept. -/
def KpI (w : World) (B b bm b' bm' m : Nat) (s s' : PSt) (all : Bool) (z k : Nat) (W : World) : Prop :=
  W.heap[z]? = some (.cells (kc all k).toArray 5 (0, 0)) ∧ Pq B b bm m b' bm' m (fun i => i = z) s s' W ∧ Below w.heap.size w W
theorem KpI.set {w W : World} {B b bm b' bm' m z k : Nat} {s s' : PSt} (h : KpI w B b bm b' bm' m s s' true z k W) (hk : k < 20) (hz : w.heap.size ≤ z) : KpI w B b bm b' bm' m s s' true z (k + 1) (W.setCell ⟨z, k, none⟩ (.int .u8 1)) := by
  obtain ⟨h1, h2, h3⟩ := h
  refine ⟨?_, h2.set (grown_set W z k _) rfl, h3.grown (grown_set W z k _) h3.size (fun i hi => by injection hi with hi; omega)⟩
  rw [set_block h1, kc_set hk]
theorem KpI.skip {w W : World} {B b bm b' bm' m z k : Nat} {s s' : PSt} (h : KpI w B b bm b' bm' m s s' false z k W) : KpI w B b bm b' bm' m s s' false z (k + 1) W := h
theorem three_on {w9 wc wn : World} {p q r : Addr} {u v x : Value} (h : (wc.cell? p = some u ∧ wc.cell? q = some v ∧ wc.cell? r = some x) ∧ Hid (Below w9.heap.size w9 wc)) (hb : Below wc.heap.size wc wn) : (wn.cell? p = some u ∧ wn.cell? q = some v ∧ wn.cell? r = some x) ∧ Hid (Below w9.heap.size w9 wn) :=
  ⟨⟨(hb.cell (World.block_lt_of_cell? wc _ h.1.1)).trans h.1.1, (hb.cell (World.block_lt_of_cell? wc _ h.1.2.1)).trans h.1.2.1, (hb.cell (World.block_lt_of_cell? wc _ h.1.2.2)).trans h.1.2.2⟩, Lib.hid (h.2.out.trans (hb.mono h.2.out.size))⟩
/-- Between two rounds of the loop that writes. -/
def AgI (w : World) (B b bm b' bm' : Nat) (s0 : PSt) (all : Bool) (M : List OpV) (k : Nat) (W : World) : Prop :=
  Pq B b bm (30 + k) b' bm' (30 + k) (fun _ => False) (more s0 M k) (moreIf all s0 M k) W ∧ Below w.heap.size w W
set_option maxRecDepth 100000 in
set_option maxHeartbeats 4000000 in
theorem again_any (ao : Option Addr) (n c : Nat) (L : List OpV) (am : Option Addr) (nm cm : Nat) (M : List OpV) (ak : Option Addr) (lk ck : Nat) (ks : List Value) (all : Bool) (w : World)
    (hn : L.length = n) (hc : n ≤ maxLen) (hA : OpsAt w ao L) (hr : ∀ o ∈ L, 0 ≤ o.kd ∧ o.kd ≤ 255 ∧ -9223372036854775808 ≤ o.ix ∧ o.ix ≤ 9223372036854775807)
    (hnm : M.length = nm) (hcm : nm ≤ maxLen) (hAm : OpsAt w am M) (hrm : ∀ o ∈ M, 0 ≤ o.kd ∧ o.kd ≤ 255 ∧ -9223372036854775808 ≤ o.ix ∧ o.ix ≤ 9223372036854775807)
    (hlk : ks.length = lk) (hck : lk ≤ ck) (hmk : ck ≤ maxLen) (hsk : Src w ak ks) (hnk : ak = none → ck = 0) (h47 : lk ≤ 140737488351232) :
    Calls Try.prog 5 #[.slice ao n c, .slice am nm cm, .slice ak lk ck, .bool all] w fun e w' => e = .returned (.bool true) ∧ Below w.heap.size w w' := by
  have HN := Lib.hid (And.intro hn hc)
  have HA := Lib.hid hA
  have HR := Lib.hid hr
  have HNM := Lib.hid hnm
  have HAM := Lib.hid hAm
  have HRM := Lib.hid hrm
  have HK := Lib.hid (And.intro hlk (And.intro hck (And.intro hmk (And.intro hsk hnk))))
  have H47 := Lib.hid h47
  clear h47
  unfold maxLen at hcm
  clear hn hc hA hr hnm hAm hrm hlk hck hmk hsk hnk
  go_enter Try.func5, Try.ntmps5
  go_wp2_with fail
  refine (awake_any w).mono ?_
  rintro e w1 ⟨rfl, hB1⟩
  have HB1 := Lib.hid hB1
  have HW1 := Lib.hid hB1.size
  clear hB1
  go_wp2_with fail
  refine (some_any ao n c L w1 HN.out.1 HN.out.2 (HA.out.below HB1.out) HR.out).mono ?_
  rintro e w2 hS
  obtain ⟨b, bm, rfl, hP2, hB2⟩ := pt_some hS
  have HP2 := Lib.hid hP2
  have HB2 := Lib.hid (HB1.out.trans (hB2.mono HB1.out.size))
  clear hS hP2 hB2
  go_wp2_with fail
  refine (some_any ao n c L w2 HN.out.1 HN.out.2 (HA.out.below HB2.out) HR.out).mono ?_
  rintro e w3 hS
  obtain ⟨b', bm', rfl, hP3, hB3⟩ := pt_some hS
  have HP3 := Lib.hid (pq_made HP2.out hB3 hP3)
  have HB3 := Lib.hid (HB2.out.trans (hB3.mono HB2.out.size))
  clear hS hP3 hB3 HP2 HB2
  go_upto_block 0 with fail
  go_cut [13, 14, 15] from 42 to 81 (fun _ _ _ wx => Hid (AgI w w1.heap.size b bm b' bm' (ends L) all M (min nm 20) wx))
  case first =>
    have HI := Lib.hid (show AgI w w1.heap.size b bm b' bm' (ends L) all M 0 w3 from ⟨by simpa [more, moreIf] using HP3.out, HB3.out⟩)
    clear HP3 HB3
    go_wp2_with fail
    go_loopw [42] (fun i wr => ∃ k : Nat, k ≤ 20 ∧ k ≤ nm ∧ i = .int .i64 k ∧ Hid (AgI w w1.heap.size b bm b' bm' (ends L) all M k wr)) (fun i _ => 21 - (intOf i).toNat)
    case atStart => exact ⟨0, by omega, by omega, rfl, HI⟩
    case round =>
      obtain ⟨k, hk, hkn, rfl, HIk⟩ := hrel
      clear HI
      by_cases hlt : k < nm
      · have ho : M[k]? = some (M[k]'(by rw [HNM.out]; exact hlt)) := List.getElem?_eq_getElem _
        generalize M[k]'(by rw [HNM.out]; exact hlt) = o at ho
        obtain ⟨b0, off, bo, m, c', rfl, hb0, c0, c1, c2, hbs, hmc, hcm', hsrc, hno⟩ := HAM.out k o ho
        have HO := Lib.hid ho
        have hkd := HRM.out o (List.mem_of_getElem? ho)
        have hBk := HIk.out.2
        replace c0 := (hBk.cell (p := ⟨b0, off + k * 3, none⟩) hb0).trans c0
        replace c1 := (hBk.cell (p := ⟨b0, off + k * 3 + 1, none⟩) hb0).trans c1
        replace c2 := (hBk.cell (p := ⟨b0, off + k * 3 + 2, none⟩) hb0).trans c2
        have hB2 : Below wr.heap.size wr (wr.alloc (.cells #[.int .u8 o.kd, .int .i64 o.ix, .slice bo m c'] 33)) := (Below.refl _ _).alloc (Nat.le_refl _) _
        have HP2 := Lib.hid (HIk.out.1.new hB2)
        have HG2 := Lib.hid (show False ∨ (wr.heap.size ≤ wr.heap.size ∧ wr.heap.size < (wr.alloc (.cells #[.int .u8 o.kd, .int .i64 o.ix, .slice bo m c'] 33)).heap.size) from .inr ⟨Nat.le_refl _, by simp⟩)
        have HBw2 := Lib.hid (hBk.trans (hB2.mono hBk.size))
        have e0 : (wr.alloc (.cells #[.int .u8 o.kd, .int .i64 o.ix, .slice bo m c'] 33)).cell? ⟨wr.heap.size, 0, none⟩ = some (.int .u8 o.kd) := by rw [World.cell?_alloc_new]; rfl
        have e1 : (wr.alloc (.cells #[.int .u8 o.kd, .int .i64 o.ix, .slice bo m c'] 33)).cell? ⟨wr.heap.size, 1, none⟩ = some (.int .i64 o.ix) := by rw [World.cell?_alloc_new]; rfl
        have e2 : (wr.alloc (.cells #[.int .u8 o.kd, .int .i64 o.ix, .slice bo m c'] 33)).cell? ⟨wr.heap.size, 2, none⟩ = some (.slice bo m c') := by rw [World.cell?_alloc_new]; rfl
        obtain ⟨q, hq⟩ : ∃ q : Nat, q = min m 64 := ⟨_, rfl⟩
        have hqm : (if (64 : Int) < (m : Int) then (64 : Int) else (m : Int)) = (q : Int) := by split <;> omega
        have hq0 : (0 : Int) ≤ (q : Int) := by omega
        have hq1 : (q : Int) ≤ (c' : Int) := by omega
        have hql : (o.bs.take 64).length = q := by rw [List.length_take, hbs]; omega
        have hq64 : q ≤ 64 := by omega
        have hqn : bo = none → q = 0 ∧ c' = 0 := fun e => by have := hno e; omega
        have HQL := Lib.hid hql
        have HBY := Lib.hid hsrc.2
        have HT := Lib.hid (show ∀ W, (W.cell? ⟨wr.heap.size, 1, none⟩ = some (.int .i64 o.ix) ∧ Hid (Below w.heap.size w W)) → Calls Try.prog 15 #[.slice bo q c'] W (TwinR q (o.bs.take 64) W) from fun W hW =>
          twin_any bo q c' _ W hql (by omega) ((hsrc.on (below_grown hW.2.out) (fun _ _ => by simp)).take 64) hqn)
        obtain ⟨ki, hki⟩ : ∃ ki : Nat, o.ix % 8 = (ki : Int) := ⟨(o.ix % 8).toNat, by omega⟩
        have hk8 : ki < 8 := by omega
        have hw8 := wrap8 o.ix
        rw [hki] at hw8
        have HKI := Lib.hid hki
        clear hq hql hqn hbs hno hB2 hBk hsrc hki
        by_cases h20 : k < 20
        · have d20 : decide ((20 : Int) ≤ (k : Int)) = false := by simp; omega
          go_wp2_with fail
          clear c0 c1 c2
          generalize (wr.alloc (.cells #[.int .u8 o.kd, .int .i64 o.ix, .slice bo m c'] 33)) = wa at *
          generalize wr.heap.size = z at *
          cases all with
          | true =>
            go_region_held3 (fun w' => w'.cell? ⟨z, 1, none⟩ = some (.int .i64 o.ix) ∧ Hid (Below w.heap.size w w'))
              (first | exact ⟨e1, HBw2⟩ | exact ⟨e1, Lib.hid HBw2.out.drew⟩ | exact Y6 | exact Y5 | exact Y4 | exact Y3)
              (first
                | (have hh := N5; clear hh; go_at_call 16; refine (pq_write HP5.out.swap ((more_fine (fine_ends L) M k)) (by omega) (by omega) ki hk8 g5 q cc5 (o.bs.take 64) HQL.out hq64 HS5.out).mono ?_; rintro e w6 ⟨rfl, hP6, hB6, hS6⟩; have HP6 := Lib.hid hP6.swap; have Y6 : w6.cell? ⟨z, 1, none⟩ = some (.int .i64 o.ix) ∧ Hid (Below w.heap.size w w6) := ⟨(World.cell?_of_block (hS6 z HG2.out)).trans Y5.1, Lib.hid (Y5.2.out.trans (hB6.mono HW1.out))⟩; clear hP6 hB6 hS6)
                | (have hh := N4; clear hh; go_at_call 15; refine (HT.out _ (by assumption)).mono ?_; rintro e w5 ⟨g5, cc5, rfl, hO5, hB5⟩; have HS5 := Lib.hid (own_src hO5 (fun x hx => HBY.out x (List.mem_of_mem_take hx))); have HP5 := Lib.hid (HP4.out.below hB5); have Y5 := Two.on (w9 := w) (by assumption) hB5; clear hO5 hB5; have N5 := True.intro)
                | (go_at_call 16; refine (pq_write HP3.out ((more_fine (fine_ends L) M k)) (by omega) (by omega) ki hk8 g3 q cc3 (o.bs.take 64) HQL.out hq64 HS3.out).mono ?_; rintro e w4 ⟨rfl, hP4, hB4, hS4⟩; have HP4 := Lib.hid hP4; have Y4 : w4.cell? ⟨z, 1, none⟩ = some (.int .i64 o.ix) ∧ Hid (Below w.heap.size w w4) := ⟨(World.cell?_of_block (hS4 z HG2.out)).trans Y3.1, Lib.hid (Y3.2.out.trans (hB4.mono HW1.out))⟩; clear hP4 hB4 hS4; have N4 := True.intro)
                | (go_at_call 15; refine (HT.out _ (by assumption)).mono ?_; rintro e w3 ⟨g3, cc3, rfl, hO3, hB3⟩; have HS3 := Lib.hid (own_src hO3 (fun x hx => HBY.out x (List.mem_of_mem_take hx))); have HP3 := Lib.hid (HP2.out.below ((Below.refl wa.heap.size wa).drew.trans (show Below wa.heap.size wa.drew w3 from hB3))); have Y3 := Two.on (w9 := w) (by assumption) hB3; clear hO3 hB3))
            have HR6 := Lib.hid (show AgI w w1.heap.size b bm b' bm' (ends L) true M (k + 1) w6 from ⟨by
              have e : more (ends L) M (k + 1) = wrote (more (ends L) M k) ki (pageOf (o.bs.take 64)) := by rw [more_succ HO.out, stepW, HKI.out]
              have := HP6.out.less (H := fun _ => False) (fun _ h => h.elim)
              show Pq _ b bm (30 + k + 1) b' bm' (30 + k + 1) _ (more (ends L) M (k + 1)) (more (ends L) M (k + 1)) w6
              rw [e]
              exact this, Y6.2.out⟩)
            clear HP2 HP3 HP4 HP5 HP6 Y3 Y4 Y5 Y6 HS3 HS5 N4 N5 HT e0 e1 e2
            rename_i hHeld
            clear hHeld
            go_wp2_with fail
            go_roundw
            case rel => exact ⟨k + 1, by omega, by omega, by go_num, HR6⟩
            case measure => simp [intOf]; omega
          | false =>
            refine wp_region_held_drew (S := (fun w' => w'.cell? ⟨z, 1, none⟩ = some (.int .i64 o.ix) ∧ Hid (Below w.heap.size w w'))) (by kernel_rfl) ⟨e1, Lib.hid HBw2.out.drew⟩ (fun hHeld => ?_)
            refine wpAnyH_take (i := 0) (oi := { dst := some 56, op := Op.move (Operand.tmp 9), type := 24, pos := "law.go:188", after := #[], guard := none }) (v := ?_) rfl (by kernel_rfl) (by kernel_rfl) (by kernel_rfl) (fun _ _ _ h => h) (Or.inl ⟨by rfl, ?_⟩) (by assumption) ?_
            rotate_left
            focus (intro w' hSw; (try dsimp only at hSw); go_simp; try with_reducible rfl)
            try simp only [Act.put, List.setIfInBounds_toArray, List.set_cons_zero, List.set_cons_succ]
            refine wpAnyH_take (i := 1) (oi := { dst := some 57, op := Op.fieldAddr 33 (Operand.tmp 14) 1, type := 0, pos := "law.go:188", after := #[], guard := none }) (v := ?_) rfl (by kernel_rfl) (by kernel_rfl) (by kernel_rfl) (fun _ _ _ h => h) (Or.inl ⟨by rfl, ?_⟩) (by assumption) ?_
            rotate_left
            focus (intro w' hSw; (try dsimp only at hSw); go_simp; try with_reducible rfl)
            try simp only [Act.put, List.setIfInBounds_toArray, List.set_cons_zero, List.set_cons_succ]
            refine wpAnyH_take (i := 2) (oi := { dst := some 58, op := Op.load 3 (Operand.tmp 57), type := 3, pos := "law.go:188", after := #[{ on := 1, ground := Ground.data }], guard := none }) (v := ?_) rfl (by kernel_rfl) (by kernel_rfl) (by kernel_rfl) (fun _ _ _ h => h) (Or.inl ⟨by rfl, ?_⟩) (by assumption) ?_
            rotate_left
            focus (intro w' hSw; (try dsimp only at hSw); go_simp; try with_reducible rfl)
            try simp only [Act.put, List.setIfInBounds_toArray, List.set_cons_zero, List.set_cons_succ]
            refine wpAnyH_take (i := 3) (oi := { dst := some 59, op := Op.convert 3 46 (Operand.tmp 58), type := 46, pos := "law.go:188", after := #[{ on := 2, ground := Ground.data }], guard := none }) (v := ?_) rfl (by kernel_rfl) (by kernel_rfl) (by kernel_rfl) (fun _ _ _ h => h) (Or.inl ⟨by rfl, ?_⟩) (by assumption) ?_
            rotate_left
            focus (intro w' hSw; (try dsimp only at hSw); go_simp; try with_reducible rfl)
            try simp only [Act.put, List.setIfInBounds_toArray, List.set_cons_zero, List.set_cons_succ]
            refine wpAnyH_take (i := 4) (oi := { dst := some 60, op := Op.binOp BinOp.rem 46 (Operand.tmp 59) (Operand.const (Value.int IntKind.u64 8)) 46, type := 46, pos := "law.go:188", after := #[{ on := 3, ground := Ground.data }], guard := none }) (v := ?_) rfl (by kernel_rfl) (by kernel_rfl) (by kernel_rfl) (fun _ _ _ h => h) (Or.inl ⟨by rfl, ?_⟩) (by assumption) ?_
            rotate_left
            focus (intro w' hSw; (try dsimp only at hSw); go_simp; try with_reducible rfl)
            try simp only [Act.put, List.setIfInBounds_toArray, List.set_cons_zero, List.set_cons_succ]
            refine wpAnyH_take (i := 5) (oi := { dst := some 61, op := Op.convert 46 3 (Operand.tmp 60), type := 3, pos := "law.go:188", after := #[{ on := 4, ground := Ground.data }], guard := none }) (v := ?_) rfl (by kernel_rfl) (by kernel_rfl) (by kernel_rfl) (fun _ _ _ h => h) (Or.inl ⟨by rfl, ?_⟩) (by assumption) ?_
            rotate_left
            focus (intro w' hSw; (try dsimp only at hSw); go_simp; try with_reducible rfl)
            try simp only [Act.put, List.setIfInBounds_toArray, List.set_cons_zero, List.set_cons_succ]
            refine wpAnyH_take (i := 6) (oi := { dst := some 62, op := Op.move (Operand.tmp 15), type := 31, pos := "law.go:188", after := #[], guard := none }) (v := ?_) rfl (by kernel_rfl) (by kernel_rfl) (by kernel_rfl) (fun _ _ _ h => h) (Or.inl ⟨by rfl, ?_⟩) (by assumption) ?_
            rotate_left
            focus (intro w' hSw; (try dsimp only at hSw); go_simp; try with_reducible rfl)
            try simp only [Act.put, List.setIfInBounds_toArray, List.set_cons_zero, List.set_cons_succ]
            refine wpAnyH_ready (rs := [7]) (by kernel_rfl) (by simp) ?_
            refine AllReadyH.cons (o := { dst := some 63, op := Op.call { callee := Callee.value (Operand.func 15), args := #[Operand.tmp 62], argTypes := #[31] }, type := 31, pos := "law.go:188", after := #[{ on := 6, ground := Ground.data }], guard := none }) rfl (fun K hK => ?_) AllReadyH.nil
            go_simp
            go_at_call 15; refine (HT.out wa.drew ⟨e1, Lib.hid HBw2.out.drew⟩).mono ?_; rintro e w3 ⟨g3, cc3, rfl, hO3, hB3⟩; have HS3 := Lib.hid (own_src hO3 (fun x hx => HBY.out x (List.mem_of_mem_take hx))); have HP3 := Lib.hid (HP2.out.below ((Below.refl wa.heap.size wa).drew.trans (show Below wa.heap.size wa.drew w3 from hB3))); have Y3 := Two.on (w9 := w) (wc := wa.drew) (p := ⟨z, 1, none⟩) (v := .int .i64 o.ix) ⟨e1, Lib.hid HBw2.out.drew⟩ hB3; clear hO3 hB3
            refine hK.out _ _ Y3 (fun hHeld => ?_)
            clear hK K
            try simp only [Act.put, List.setIfInBounds_toArray, List.set_cons_zero, List.set_cons_succ]
            refine wpAnyH_ready (rs := [8]) (by kernel_rfl) (by simp) ?_
            refine AllReadyH.cons (o := { dst := some 64, op := Op.call { callee := Callee.value (Operand.func 16), args := #[Operand.tmp 56, Operand.tmp 61, Operand.tmp 63], argTypes := #[24, 3, 31] }, type := 25, pos := "law.go:188", after := #[{ on := 0, ground := Ground.data }, { on := 5, ground := Ground.data }, { on := 7, ground := Ground.data }, { on := 7, ground := Ground.chain }], guard := none }) rfl (fun K hK => ?_) AllReadyH.nil
            go_simp
            go_at_call 16; refine (pq_write HP3.out ((more_fine (fine_ends L) M k)) (by omega) (by omega) ki hk8 g3 q cc3 (o.bs.take 64) HQL.out hq64 HS3.out).mono ?_; rintro e w4 ⟨rfl, hP4, hB4, hS4⟩; have HP4 := Lib.hid hP4; have Y4 : w4.cell? ⟨z, 1, none⟩ = some (.int .i64 o.ix) ∧ Hid (Below w.heap.size w w4) := ⟨(World.cell?_of_block (hS4 z HG2.out)).trans Y3.1, Lib.hid (Y3.2.out.trans (hB4.mono HW1.out))⟩; clear hP4 hB4 hS4
            refine hK.out _ _ Y4 (fun hHeld => ?_)
            clear hK K
            try simp only [Act.put, List.setIfInBounds_toArray, List.set_cons_zero, List.set_cons_succ]
            refine wpAnyH_take (i := 9) (oi := { dst := some 65, op := Op.binOp BinOp.neq 25 (Operand.tmp 64) (Operand.const (Value.int IntKind.i64 0)) 25, type := 4, pos := "law.go:188", after := #[{ on := 8, ground := Ground.data }], guard := none }) (v := ?_) rfl (by kernel_rfl) (by kernel_rfl) (by kernel_rfl) (fun _ _ _ h => h) (Or.inl ⟨by rfl, ?_⟩) (by assumption) ?_
            rotate_left
            focus (intro w' hSw; (try dsimp only at hSw); go_simp; try with_reducible rfl)
            try simp only [Act.put, List.setIfInBounds_toArray, List.set_cons_zero, List.set_cons_succ]
            refine wpAnyH_take (i := 10) (oi := { dst := some 66, op := Op.move (Operand.tmp 65), type := 4, pos := "law.go:188", after := #[{ on := 9, ground := Ground.data }, { on := 8, ground := Ground.chain }], guard := none }) (v := ?_) rfl (by kernel_rfl) (by kernel_rfl) (by kernel_rfl) (fun _ _ _ h => h) (Or.inl ⟨by rfl, ?_⟩) (by assumption) ?_
            rotate_left
            focus (intro w' hSw; (try dsimp only at hSw); go_simp; try with_reducible rfl)
            try simp only [Act.put, List.setIfInBounds_toArray, List.set_cons_zero, List.set_cons_succ]
            refine wpAnyH_take (i := 11) (oi := { dst := some 67, op := Op.move (Operand.tmp 3), type := 4, pos := "law.go:188", after := #[{ on := 10, ground := Ground.guard }], guard := some (10, false) }) (v := ?_) rfl (by kernel_rfl) (by kernel_rfl) (by kernel_rfl) (fun _ _ _ h => h) (Or.inl ⟨by rfl, ?_⟩) (by assumption) ?_
            rotate_left
            focus (intro w' hSw; (try dsimp only at hSw); go_simp; try with_reducible rfl)
            try simp only [Act.put, List.setIfInBounds_toArray, List.set_cons_zero, List.set_cons_succ]
            refine wpAnyH_take (i := 12) (oi := { dst := some 68, op := Op.move (Operand.tmp 67), type := 4, pos := "law.go:188", after := #[{ on := 11, ground := Ground.data }, { on := 10, ground := Ground.chain }, { on := 10, ground := Ground.guard }], guard := some (10, false) }) (v := ?_) rfl (by kernel_rfl) (by kernel_rfl) (by kernel_rfl) (fun _ _ _ h => h) (Or.inl ⟨by rfl, ?_⟩) (by assumption) ?_
            rotate_left
            focus (intro w' hSw; (try dsimp only at hSw); go_simp; try with_reducible rfl)
            try simp only [Act.put, List.setIfInBounds_toArray, List.set_cons_zero, List.set_cons_succ]
            refine wpAnyH_take (i := 13) (oi := { dst := some 69, op := Op.move (Operand.tmp 11), type := 24, pos := "law.go:188", after := #[{ on := 12, ground := Ground.guard }], guard := some (12, true) }) (v := undef) rfl (by kernel_rfl) (by kernel_rfl) (by kernel_rfl) (fun _ _ _ h => h) (Or.inr ⟨by rfl, rfl⟩) (by assumption) ?_
            try simp only [Act.put, List.setIfInBounds_toArray, List.set_cons_zero, List.set_cons_succ]
            refine wpAnyH_take (i := 14) (oi := { dst := some 70, op := Op.fieldAddr 33 (Operand.tmp 14) 1, type := 0, pos := "law.go:188", after := #[{ on := 12, ground := Ground.guard }], guard := some (12, true) }) (v := undef) rfl (by kernel_rfl) (by kernel_rfl) (by kernel_rfl) (fun _ _ _ h => h) (Or.inr ⟨by rfl, rfl⟩) (by assumption) ?_
            try simp only [Act.put, List.setIfInBounds_toArray, List.set_cons_zero, List.set_cons_succ]
            refine wpAnyH_take (i := 15) (oi := { dst := some 71, op := Op.load 3 (Operand.tmp 70), type := 3, pos := "law.go:188", after := #[{ on := 14, ground := Ground.data }, { on := 12, ground := Ground.guard }], guard := some (12, true) }) (v := undef) rfl (by kernel_rfl) (by kernel_rfl) (by kernel_rfl) (fun _ _ _ h => h) (Or.inr ⟨by rfl, rfl⟩) (by assumption) ?_
            try simp only [Act.put, List.setIfInBounds_toArray, List.set_cons_zero, List.set_cons_succ]
            refine wpAnyH_take (i := 16) (oi := { dst := some 72, op := Op.convert 3 46 (Operand.tmp 71), type := 46, pos := "law.go:188", after := #[{ on := 15, ground := Ground.data }, { on := 12, ground := Ground.guard }], guard := some (12, true) }) (v := undef) rfl (by kernel_rfl) (by kernel_rfl) (by kernel_rfl) (fun _ _ _ h => h) (Or.inr ⟨by rfl, rfl⟩) (by assumption) ?_
            try simp only [Act.put, List.setIfInBounds_toArray, List.set_cons_zero, List.set_cons_succ]
            refine wpAnyH_take (i := 17) (oi := { dst := some 73, op := Op.binOp BinOp.rem 46 (Operand.tmp 72) (Operand.const (Value.int IntKind.u64 8)) 46, type := 46, pos := "law.go:188", after := #[{ on := 16, ground := Ground.data }, { on := 12, ground := Ground.guard }], guard := some (12, true) }) (v := undef) rfl (by kernel_rfl) (by kernel_rfl) (by kernel_rfl) (fun _ _ _ h => h) (Or.inr ⟨by rfl, rfl⟩) (by assumption) ?_
            try simp only [Act.put, List.setIfInBounds_toArray, List.set_cons_zero, List.set_cons_succ]
            refine wpAnyH_take (i := 18) (oi := { dst := some 74, op := Op.convert 46 3 (Operand.tmp 73), type := 3, pos := "law.go:188", after := #[{ on := 17, ground := Ground.data }, { on := 12, ground := Ground.guard }], guard := some (12, true) }) (v := undef) rfl (by kernel_rfl) (by kernel_rfl) (by kernel_rfl) (fun _ _ _ h => h) (Or.inr ⟨by rfl, rfl⟩) (by assumption) ?_
            try simp only [Act.put, List.setIfInBounds_toArray, List.set_cons_zero, List.set_cons_succ]
            refine wpAnyH_take (i := 19) (oi := { dst := some 75, op := Op.move (Operand.tmp 15), type := 31, pos := "law.go:188", after := #[{ on := 12, ground := Ground.guard }], guard := some (12, true) }) (v := undef) rfl (by kernel_rfl) (by kernel_rfl) (by kernel_rfl) (fun _ _ _ h => h) (Or.inr ⟨by rfl, rfl⟩) (by assumption) ?_
            try simp only [Act.put, List.setIfInBounds_toArray, List.set_cons_zero, List.set_cons_succ]
            refine wpAnyH_take (i := 20) (oi := { dst := some 76, op := Op.call { callee := Callee.value (Operand.func 15), args := #[Operand.tmp 75], argTypes := #[31] }, type := 31, pos := "law.go:188", after := #[{ on := 19, ground := Ground.data }, { on := 12, ground := Ground.chain }, { on := 12, ground := Ground.guard }], guard := some (12, true) }) (v := undef) rfl (by kernel_rfl) (by kernel_rfl) (by kernel_rfl) (fun _ _ _ h => h) (Or.inr ⟨by rfl, rfl⟩) (by assumption) ?_
            try simp only [Act.put, List.setIfInBounds_toArray, List.set_cons_zero, List.set_cons_succ]
            refine wpAnyH_take (i := 21) (oi := { dst := some 77, op := Op.call { callee := Callee.value (Operand.func 16), args := #[Operand.tmp 69, Operand.tmp 74, Operand.tmp 76], argTypes := #[24, 3, 31] }, type := 25, pos := "law.go:188", after := #[{ on := 13, ground := Ground.data }, { on := 18, ground := Ground.data }, { on := 20, ground := Ground.data }, { on := 20, ground := Ground.chain }, { on := 12, ground := Ground.guard }], guard := some (12, true) }) (v := undef) rfl (by kernel_rfl) (by kernel_rfl) (by kernel_rfl) (fun _ _ _ h => h) (Or.inr ⟨by rfl, rfl⟩) (by assumption) ?_
            try simp only [Act.put, List.setIfInBounds_toArray, List.set_cons_zero, List.set_cons_succ]
            refine wpAnyH_take (i := 22) (oi := { dst := some 78, op := Op.binOp BinOp.neq 25 (Operand.tmp 77) (Operand.const (Value.int IntKind.i64 0)) 25, type := 4, pos := "law.go:188", after := #[{ on := 21, ground := Ground.data }, { on := 12, ground := Ground.guard }], guard := some (12, true) }) (v := undef) rfl (by kernel_rfl) (by kernel_rfl) (by kernel_rfl) (fun _ _ _ h => h) (Or.inr ⟨by rfl, rfl⟩) (by assumption) ?_
            try simp only [Act.put, List.setIfInBounds_toArray, List.set_cons_zero, List.set_cons_succ]
            refine wpAnyH_take (i := 23) (oi := { dst := some 79, op := Op.pick (Operand.tmp 68) (Operand.tmp 78) (Operand.const (Value.bool false)), type := 4, pos := "law.go:188", after := #[{ on := 12, ground := Ground.data }, { on := 22, ground := Ground.data }, { on := 10, ground := Ground.guard }], guard := some (10, false) }) (v := ?_) rfl (by kernel_rfl) (by kernel_rfl) (by kernel_rfl) (fun _ _ _ h => h) (Or.inl ⟨by rfl, ?_⟩) (by assumption) ?_
            rotate_left
            focus (intro w' hSw; (try dsimp only at hSw); go_simp; try with_reducible rfl)
            try simp only [Act.put, List.setIfInBounds_toArray, List.set_cons_zero, List.set_cons_succ]
            refine wpAnyH_take (i := 24) (oi := { dst := some 80, op := Op.pick (Operand.tmp 66) (Operand.const (Value.bool true)) (Operand.tmp 79), type := 4, pos := "law.go:188", after := #[{ on := 10, ground := Ground.data }, { on := 23, ground := Ground.data }], guard := none }) (v := ?_) rfl (by kernel_rfl) (by kernel_rfl) (by kernel_rfl) (fun _ _ _ h => h) (Or.inl ⟨by rfl, ?_⟩) (by assumption) ?_
            rotate_left
            focus (intro w' hSw; (try dsimp only at hSw); go_simp; try with_reducible rfl)
            try simp only [Act.put, List.setIfInBounds_toArray, List.set_cons_zero, List.set_cons_succ]
            refine wpAnyH_done (by kernel_rfl) ?_ _
            have HR4 := Lib.hid (show AgI w w1.heap.size b bm b' bm' (ends L) false M (k + 1) w4 from ⟨by
              have e : more (ends L) M (k + 1) = wrote (more (ends L) M k) ki (pageOf (o.bs.take 64)) := by rw [more_succ HO.out, stepW, HKI.out]
              have := HP4.out.less (H := fun _ => False) (fun _ h => h.elim)
              show Pq _ b bm (30 + k + 1) b' bm' (30 + k + 1) _ (more (ends L) M (k + 1)) (ends L) w4
              rw [e]
              exact this.roomy, Y4.2.out⟩)
            clear HP2 HP3 HP4 Y3 Y4 HS3 HT e0 e1 e2 hHeld
            go_wp2_with fail
            go_roundw
            case rel => exact ⟨k + 1, by omega, by omega, by go_num, HR4⟩
            case measure => simp [intOf]; omega
        · have d20 : decide ((20 : Int) ≤ (k : Int)) = true := by simp; omega
          obtain rfl : k = 20 := by omega
          have hmin : min nm 20 = 20 := by omega
          have HE := Lib.hid (show AgI w w1.heap.size b bm b' bm' (ends L) all M (min nm 20) (wr.alloc (.cells #[.int .u8 o.kd, .int .i64 o.ix, .slice bo m c'] 33)) from by
            rw [hmin]
            exact ⟨HP2.out.less (fun _ h => h.elim), HBw2.out⟩)
          go_wp2_with fail
          go_meet
          case rel => exact HE
      · obtain rfl : k = nm := by omega
        have hmin : min k 20 = k := by omega
        go_wp2_with fail
        go_meet
        case rel => rw [hmin]; exact HIk
  case rest =>
    obtain ⟨hPc, hBc⟩ := hcut.out
    have hK : min nm 20 ≤ 20 := by omega
    generalize min nm 20 = K at *
    have HFp := Lib.hid (more_fine (fine_ends L) M K)
    have HLp := Lib.hid (more_lead (lead_ends L) M K)
    have HOp := Lib.hid (show (more (ends L) M K).op.length ≤ 20 from by have := more_op (ends L) M K; rw [(ends_ok L).2.2.2.1] at this; simpa using Nat.le_trans this (by simpa using hK))
    have HFq := Lib.hid (show (moreIf all (ends L) M K).N = 8 ∧ (moreIf all (ends L) M K).off = false from by
      cases all
      · exact ⟨(ends_ok L).1, (ends_ok L).2.1⟩
      · exact ⟨HFp.out.1, HFp.out.2.1⟩)
    have hb0 : Below wc.heap.size wc (wc.alloc (.cells Z20 5)) := (Below.refl _ _).alloc (Nat.le_refl _) _
    have HKI := Lib.hid (show KpI w w1.heap.size b bm b' bm' 50 (more (ends L) M K) (moreIf all (ends L) M K) all wc.heap.size 0 (wc.alloc (.cells Z20 5)) from by
      refine ⟨?_, ?_, hBc.trans (hb0.mono hBc.size)⟩
      · rw [show kc all 0 = List.replicate 20 (Value.int .u8 0) from by cases all <;> rfl]
        exact heap_alloc_new wc _
      · have := (hPc.below hb0).less (H := fun _ => False) (fun _ h => h)
        obtain ⟨v, F, n1, v', F', n1', h1, h2, h3, h4, h5, h6, h7, h8⟩ := hPc
        exact ⟨v, F, n1, v', F', n1', h1.below hb0, by omega, h3.below hb0, by omega, h5, fun k hk e => by have := h1.hi k hk; omega, fun k hk e => by have := h3.hi k hk; omega, fun k hk => by subst hk; simp⟩)
    have hzB := hBc.size
    clear hcut hPc hBc hb0
    have hmk := make20 wc
    go_wp2_with fail
    clear hmk
    generalize (wc.alloc (.cells Z20 5)) = wm at *
    generalize wc.heap.size = z at *
    go_wp2_with fail
    go_loopw [85] (fun u wr => ∃ k : Nat, k ≤ 20 ∧ u = .int .i64 k ∧ Hid (KpI w w1.heap.size b bm b' bm' 50 (more (ends L) M K) (moreIf all (ends L) M K) all z k wr)) (fun u _ => 20 - (intOf u).toNat)
    case atStart => exact ⟨0, by omega, rfl, HKI⟩
    case round =>
      obtain ⟨k, hk, rfl, HKk⟩ := hrel
      clear HKI
      by_cases hlt : k < 20
      · have hk20 : (k : Int) < 20 := by omega
        cases all with
        | false =>
          go_wp2_with fail
          go_roundw
          case rel => exact ⟨k + 1, by omega, by go_num, Lib.hid HKk.out.skip⟩
          case measure => simp [intOf]; omega
        | true =>
          have hcl : ∃ x, wr.cell? ⟨z, k, none⟩ = some x := by
            have h1 := HKk.out.1
            rw [cell_of_row _ _ k _ 5 (0, 0) h1]
            exact ⟨_, Array.getElem?_eq_getElem (by rw [List.size_toArray, kc_len true (by omega)]; omega)⟩
          obtain ⟨x, hcx⟩ := hcl
          have hfz : wr.frozen? ⟨z, k, none⟩ = false := free6 HKk.out.1
          have HK1 := Lib.hid (HKk.out.set hlt hzB)
          go_wp2_with fail
          go_roundw
          case rel => exact ⟨k + 1, by omega, by go_num, HK1⟩
          case measure => simp [intOf]; omega
      · obtain rfl : k = 20 := by omega
        clear hlt hk
        have HPk := Lib.hid HKk.out.2.1
        have HBk := Lib.hid HKk.out.2.2
        have HSk := Lib.hid (kc_src HKk.out.1)
        clear HKk
        generalize hsp : more (ends L) M K = sP at *
        generalize hsq : moreIf all (ends L) M K = sQ at *
        go_wp2_with fail
        refine (pq_arm HPk.out HFp.out.2.1 1 (by decide) (by decide)).mono ?_
        rintro e w4 ⟨rfl, hP4, hB4, hS4⟩
        have HP4 := Lib.hid hP4
        have HS4 := Lib.hid (HSk.out.same hS4 rfl)
        have HB4 := Lib.hid (HBk.out.trans (hB4.mono HW1.out))
        clear hP4 hB4 hS4 HPk HSk HBk
        go_wp2_with fail
        refine (pq_flush HP4.out HFp.out.2.1 (by have := HFp.out.2.2.2.2; simp only; omega)).mono ?_
        rintro e w5 ⟨rfl, hP5, hB5, hS5⟩
        rw [flushed_cut] at hP5
        rw [show An 1 = 11 from rfl]
        have HP5 := Lib.hid hP5
        have HS5 := Lib.hid (HS4.out.same hS5 rfl)
        have HB5 := Lib.hid (HB4.out.trans (hB5.mono HW1.out))
        clear hP5 hB5 hS5 HP4 HS4 HB4
        go_wp2_with fail
        refine (fate_any (some ⟨z, 0, none⟩) 20 20 (kc all 20) w5 (kc_len all (Nat.le_refl _)) (by decide) HS5.out (fun e => by cases e)).mono ?_
        rintro e w6 ⟨g6, c6, rfl, hO6, hB6⟩
        have HP6 := Lib.hid (HP5.out.new hB6)
        have HG6 := Lib.hid (show g6 = z ∨ (w5.heap.size ≤ g6 ∧ g6 < w6.heap.size) from .inr (World.ownsRow.lt hO6 g6 rfl))
        have HS6 := Lib.hid (own_src hO6 (kc_byte all 20))
        have HB6 := Lib.hid (HB5.out.trans (hB6.mono HB5.out.size))
        clear hO6 hB6 HP5 HS5 HB5
        go_wp2_with fail
        refine (pq_restart HP6.out rfl HLp.out.cut (by show sP.op.length ≤ 1000; have := HOp.out; omega) (by omega) g6 20 c6 (kc all 20) (kc_len all (Nat.le_refl _)) (by decide) HS6.out HG6.out).mono ?_
        rintro e w7 ⟨rfl, ⟨s7, hW7, hP7⟩, hB7, _⟩
        have HW7 := Lib.hid hW7
        have hpg7 : s7.pg = sQ.pg := by
          cases all with
          | true =>
            rw [← hsq, show moreIf true (ends L) M K = more (ends L) M K from rfl, hsp]
            exact hW7.ones HLp.out.cut (fun j hj => wy_ones (by have := HOp.out; have hj' : j < sP.op.length := hj; omega))
          | false =>
            rw [← hsq, show moreIf false (ends L) M K = ends L from rfl]
            exact hW7.zeros (fun j hj => wy_zeros)
        have HPG7 := Lib.hid hpg7
        have HP7 := Lib.hid (hP7.less (H := fun _ => False) (fun _ h => h.elim))
        have HB7 := Lib.hid (HB6.out.trans (hB7.mono HW1.out))
        clear hW7 hP7 hB7 hpg7 HP6 HS6 HB6 HG6
        go_wp2_with fail
        refine (pq_pages HP7.out HW7.out.2.1 (HW7.out.1.trans HFp.out.1)).mono ?_
        rintro e w8 ⟨g8, c8, rfl, hc8, hS8, hP8, hB8⟩
        have HP8 := Lib.hid hP8.swap
        have HS8 := Lib.hid hS8
        have HB8 := Lib.hid (HB7.out.trans (hB8.mono HB7.out.size))
        clear hS8 hP8 hB8 HP7 HB7
        generalize (fun j => False ∨ (w7.heap.size ≤ j ∧ j < w8.heap.size)) = G8 at *
        go_wp2_with fail
        refine (pq_pages HP8.out HFq.out.2 HFq.out.1).mono ?_
        rintro e w9 ⟨g9, c9, rfl, hc9, hS9, hP9, hB9⟩
        have HS89 := Lib.hid ((HS8.out.on (Same.of_below hB9 HP8.out.fits)).more (H := fun j => G8 j ∨ (w8.heap.size ≤ j ∧ j < w9.heap.size)) (fun _ h => .inl h))
        have HP9 := Lib.hid hP9.swap
        have HS9 := Lib.hid hS9
        have HB9 := Lib.hid (HB8.out.trans (hB9.mono HB8.out.size))
        clear hS9 hP9 hB9 HP8 HB8 HS8
        generalize (fun j => G8 j ∨ (w8.heap.size ≤ j ∧ j < w9.heap.size)) = G9 at *
        go_wp2_with fail
        refine (pq_arm HP9.out HW7.out.2.1 1 (by decide) (by decide)).mono ?_
        rintro e w10 ⟨rfl, hP10, hB10, hS10⟩
        have HP10 := Lib.hid hP10
        have HT10 := Lib.hid (And.intro (HS89.out.on hS10) (HS9.out.on hS10))
        have HB10 := Lib.hid (HB9.out.trans (hB10.mono HW1.out))
        clear hP10 hB10 hS10 HP9 HS89 HS9 HB9
        go_wp2_with fail
        refine (pq_flush HP10.out HW7.out.2.1 (by have := HFp.out.2.2.2.2; have e := HW7.out.2.2.2.2.1; simp only [cutOf] at e ⊢; omega)).mono ?_
        rintro e w11 ⟨rfl, hP11, hB11, hS11⟩
        rw [flushed_cut] at hP11
        rw [show An 1 = 11 from rfl]
        have HP11 := Lib.hid hP11
        have HT11 := Lib.hid (And.intro (HT10.out.1.on hS11) (HT10.out.2.on hS11))
        have HB11 := Lib.hid (HB10.out.trans (hB11.mono HW1.out))
        clear hP11 hB11 hS11 HP10 HT10 HB10
        go_wp2_with fail
        refine (fate_any ak lk ck ks w11 HK.out.1 H47.out (HK.out.2.2.2.1.below HB11.out) (fun e => by have := HK.out.2.2.2.2 e; have := HK.out.2.1; omega)).mono ?_
        rintro e w12 ⟨g12, c12, rfl, hO12, hB12⟩
        have HP12 := Lib.hid (HP11.out.new hB12)
        have HT12 := Lib.hid (And.intro ((HT11.out.1.on (Same.of_below hB12 HP11.out.fits)).more (H := fun j => G9 j ∨ (w11.heap.size ≤ j ∧ j < w12.heap.size)) (fun _ h => .inl h)) ((HT11.out.2.on (Same.of_below hB12 HP11.out.fits)).more (H := fun j => G9 j ∨ (w11.heap.size ≤ j ∧ j < w12.heap.size)) (fun _ h => .inl h)))
        have HG12 := Lib.hid (show (fun j => G9 j ∨ (w11.heap.size ≤ j ∧ j < w12.heap.size)) g12 from .inr (World.ownsRow.lt hO12 g12 rfl))
        have HS12 := Lib.hid (own_src hO12 HK.out.2.2.2.1.2)
        have HB12 := Lib.hid (HB11.out.trans (hB12.mono HB11.out.size))
        clear hO12 hB12 HP11 HT11 HB11
        generalize (fun j => G9 j ∨ (w11.heap.size ≤ j ∧ j < w12.heap.size)) = G12 at *
        go_wp2_with fail
        have hL7 : Lead s7.pg (cutOf s7) := by
          show Hist s7.pg s7.op s7.pg
          rw [HW7.out.2.2.2.1]; rfl
        refine (pq_restart HP12.out rfl hL7 (by show s7.op.length ≤ 1000; rw [HW7.out.2.2.2.1]; decide) (by omega) g12 lk c12 ks HK.out.1 (by have := H47.out; omega) HS12.out HG12.out).mono ?_
        rintro e w13 ⟨rfl, ⟨s13, hW13, hP13⟩, hB13, hS13⟩
        have hpg13 : s13.pg = s7.pg := by
          obtain ⟨_, _, _, _, _, L', e1, e2⟩ := hW13
          have e3 : L' = [] := List.map_eq_nil_iff.1 (e1.trans (show (cutOf s7).op = [] from HW7.out.2.2.2.1))
          rw [e2, e3]; rfl
        have HPG13 := Lib.hid hpg13
        have HW13 := Lib.hid hW13
        have HP13 := Lib.hid hP13
        have HT13 := Lib.hid (And.intro (HT12.out.1.on hS13) (HT12.out.2.on hS13))
        have HB13 := Lib.hid (HB12.out.trans (hB13.mono HW1.out))
        clear hW13 hP13 hB13 hS13 hpg13 HP12 HT12 HB12 HS12 HG12 hL7
        go_wp2_with fail
        refine (pq_pages HP13.out HW13.out.2.1 (HW13.out.1.trans (HW7.out.1.trans HFp.out.1))).mono ?_
        rintro e w14 ⟨g14, c14, rfl, hc14, hS14, hP14, hB14⟩
        rw [HPG13.out] at hS14
        have HT14 := Lib.hid (And.intro ((HT13.out.1.on (Same.of_below hB14 HP13.out.fits)).more (H := fun j => G12 j ∨ (w13.heap.size ≤ j ∧ j < w14.heap.size)) (fun _ h => .inl h)) ((HT13.out.2.on (Same.of_below hB14 HP13.out.fits)).more (H := fun j => G12 j ∨ (w13.heap.size ≤ j ∧ j < w14.heap.size)) (fun _ h => .inl h)))
        have HS14 := Lib.hid hS14
        have HG14 := Lib.hid hP14.fits
        have HB14 := Lib.hid (HB13.out.trans (hB14.mono HB13.out.size))
        clear hS14 hP14 hB14 HP13 HT13 HB13
        have HP14 := HG14.out
        clear HG14
        have HG14 := Lib.hid (show ∀ j, (fun j => G12 j ∨ (w13.heap.size ≤ j ∧ j < w14.heap.size)) j → j < w14.heap.size from HP14)
        clear HP14
        generalize (fun j => G12 j ∨ (w13.heap.size ≤ j ∧ j < w14.heap.size)) = G14 at *
        go_wp2_with fail
        go_loopw [148] (fun u wr => ∃ j : Nat, j ≤ 8 ∧ u = .int .i64 j ∧ Hid (Below w14.heap.size w14 wr)) (fun u _ => 8 - (intOf u).toNat)
        case atStart => exact ⟨0, by omega, rfl, Lib.hid (Below.refl _ _)⟩
        case round =>
          obtain ⟨j, hj, rfl, HBr⟩ := hrel
          by_cases hlt : j < 8
          · have hs9 : Same G14 w14 wr := Same.of_below HBr.out HG14.out
            obtain ⟨p1, _, hc1, hb1⟩ := (HT14.out.1.on hs9).2.2 j hlt
            obtain ⟨p2, _, hc2, hb2⟩ := (HT14.out.2.on hs9).2.2 j hlt
            obtain ⟨p3, _, hc3, hb3⟩ := (HS14.out.on hs9).2.2 j hlt
            have i1 := HT14.out.1.2.1 j
            have i2 := HT14.out.2.2.1 j
            have HQ := Lib.hid (show ∀ W, ((W.cell? ⟨g8, j, none⟩ = some (.slice (some ⟨p1, 0, none⟩) 64 64) ∧ W.cell? ⟨g9, j, none⟩ = some (.slice (some ⟨p2, 0, none⟩) 64 64) ∧ W.cell? ⟨g14, j, none⟩ = some (.slice (some ⟨p3, 0, none⟩) 64 64)) ∧ Hid (Below wr.heap.size wr W)) →
                Calls Try.prog 22 #[.slice (some ⟨p1, 0, none⟩) 64 64, .slice (some ⟨p2, 0, none⟩) 64 64] W fun e w' => e = .returned (.bool true) ∧ Below W.heap.size W w' from fun W hW =>
              same_pages ((hW.2.out.block p1 (block_lt hb1)).trans hb1) ((hW.2.out.block p2 (block_lt hb2)).trans hb2) i1 i2 (by rw [HPG7.out]) 64 64)
            have HQ3 := Lib.hid (show ∀ W, ((W.cell? ⟨g8, j, none⟩ = some (.slice (some ⟨p1, 0, none⟩) 64 64) ∧ W.cell? ⟨g9, j, none⟩ = some (.slice (some ⟨p2, 0, none⟩) 64 64) ∧ W.cell? ⟨g14, j, none⟩ = some (.slice (some ⟨p3, 0, none⟩) 64 64)) ∧ Hid (Below wr.heap.size wr W)) →
                Calls Try.prog 22 #[.slice (some ⟨p1, 0, none⟩) 64 64, .slice (some ⟨p3, 0, none⟩) 64 64] W fun e w' => e = .returned (.bool true) ∧ Below W.heap.size W w' from fun W hW =>
              same_pages ((hW.2.out.block p1 (block_lt hb1)).trans hb1) ((hW.2.out.block p3 (block_lt hb3)).trans hb3) i1 i1 rfl 64 64)
            have Y := Lib.hid (show ((wr.cell? ⟨g8, j, none⟩ = some (.slice (some ⟨p1, 0, none⟩) 64 64) ∧ wr.cell? ⟨g9, j, none⟩ = some (.slice (some ⟨p2, 0, none⟩) 64 64) ∧ wr.cell? ⟨g14, j, none⟩ = some (.slice (some ⟨p3, 0, none⟩) 64 64)) ∧ Hid (Below wr.heap.size wr wr)) from ⟨⟨hc1, hc2, hc3⟩, Lib.hid (Below.refl _ _)⟩)
            clear hs9 hb1 hb2 hb3 i1 i2
            have hj8 : (j : Int) < 8 := by omega
            go_wp2_with fail
            go_region_held3 (fun w' => (w'.cell? ⟨g8, j, none⟩ = some (.slice (some ⟨p1, 0, none⟩) 64 64) ∧ w'.cell? ⟨g9, j, none⟩ = some (.slice (some ⟨p2, 0, none⟩) 64 64) ∧ w'.cell? ⟨g14, j, none⟩ = some (.slice (some ⟨p3, 0, none⟩) 64 64)) ∧ Hid (Below wr.heap.size wr w'))
              (first | exact three_on (by assumption) bM2 | exact three_on (by assumption) bM | exact Y.out | exact ⟨⟨hc1, hc2, hc3⟩, Lib.hid (Below.refl _ _).drew⟩)
              (first
                | (have hh := N1; clear hh; go_at_call 22; refine (HQ3.out _ (by assumption)).mono ?_; rintro e w21 ⟨rfl, bM2⟩)
                | (go_at_call 22; refine (HQ.out _ (by assumption)).mono ?_; rintro e w20 ⟨rfl, bM⟩; have N1 := True.intro))
            have b20 : Below wr.heap.size wr w20 := ((Below.refl wr.heap.size wr).drew).trans (show Below wr.heap.size wr.drew w20 from bM)
            have HB21 := Lib.hid (HBr.out.trans ((b20.trans (bM2.mono b20.size)).mono HBr.out.size))
            clear bM bM2 b20 N1 Y HQ HQ3
            rename_i hHeld
            clear hHeld
            go_wp2_with fail
            go_roundw
            case rel => exact ⟨j + 1, by omega, by go_num, HB21⟩
            case measure => simp [intOf]; omega
          · obtain rfl : j = 8 := by omega
            go_wp2_with fail
            go_ret
            exact ⟨rfl, HB14.out.trans (HBr.out.mono HB14.out.size)⟩
end Go.Proofs.Ytjfbgihjgnbeeaa.Pl
