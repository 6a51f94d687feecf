/- graph: hold of any vertex, walked. -/
import Derived.Test.YtafenkepigmcaaaGreatDoorNC
namespace Go.Proofs.YtafenkepigmcaaaGreatDoor.Gr
open Go Go.RowKit YtafenkepigmcaaaGreatDoor.So
/-- From an address on keys with their values stand. -/
def RdE (q : IntKind) (w : World) (ao : Option Addr) (E : EL Av) : Prop :=
  ∀ (i : Nat) (e : Int × Av), E[i]? = some e → ∃ b off, ao = some ⟨b, off, none⟩ ∧ b < w.heap.size ∧ w.cell? ⟨b, off + i * 4, none⟩ = some (.int q e.1) ∧ w.cell? ⟨b, off + i * 4 + 1, none⟩ = some (.int .u8 e.2.k) ∧ w.cell? ⟨b, off + i * 4 + 2, none⟩ = some (.int .i64 e.2.n) ∧ w.cell? ⟨b, off + i * 4 + 3, none⟩ = some (.string e.2.s)
theorem RdE.on {q : IntKind} {w w' : World} {ao : Option Addr} {E : EL Av} {K : Nat → Prop} (h : RdE q w ao E) (ht : Turned K w w') (hK : ∀ ad, ao = some ad → E ≠ [] → ¬ K ad.block) : RdE q w' ao E := by
  intro i e hi
  obtain ⟨b, off, rfl, hb, h0, h1, h2, h3⟩ := h i e hi
  have hbl := ht.block b hb (hK _ rfl (by intro e'; rw [e'] at hi; simp at hi))
  have hc : ∀ k, w'.cell? ⟨b, k, none⟩ = w.cell? ⟨b, k, none⟩ := fun k => by simp [World.cell?, hbl]
  exact ⟨b, off, rfl, Nat.lt_of_lt_of_le hb ht.size, (hc _).trans h0, (hc _).trans h1, (hc _).trans h2, (hc _).trans h3⟩
theorem RdE.far {q : IntKind} {w w' : World} {ao : Option Addr} {E : EL Av} {K : Nat → Prop} (h : RdE q w ao E) (ht : Turned K w w') (hK : ∀ k, K k → w.heap.size ≤ k) : RdE q w' ao E := by
  intro i e hi
  obtain ⟨b, off, rfl, hb, h0, h1, h2, h3⟩ := h i e hi
  have hbl := ht.block b hb (fun hk => by have := hK b hk; omega)
  have hc : ∀ k, w'.cell? ⟨b, k, none⟩ = w.cell? ⟨b, k, none⟩ := fun k => by simp [World.cell?, hbl]
  exact ⟨b, off, rfl, Nat.lt_of_lt_of_le hb ht.size, (hc _).trans h0, (hc _).trans h1, (hc _).trans h2, (hc _).trans h3⟩
theorem eCells_at {q : IntKind} {E : EL Av} {i : Nat} {e : Int × Av} (h : E[i]? = some e) : (eCells q E)[i * 4]? = some (.int q e.1) ∧ (eCells q E)[i * 4 + 1]? = some (.int .u8 e.2.k) ∧ (eCells q E)[i * 4 + 2]? = some (.int .i64 e.2.n) ∧ (eCells q E)[i * 4 + 3]? = some (.string e.2.s) := by
  induction E generalizing i with
  | nil => simp at h
  | cons a E ih =>
    have ec : eCells q (a :: E) = .int q a.1 :: .int .u8 a.2.k :: .int .i64 a.2.n :: .string a.2.s :: eCells q E := by simp [eCells]
    rw [ec]
    cases i with
    | zero => simp at h; subst h; simp
    | succ i =>
      simp at h
      have := ih h
      rw [show (i + 1) * 4 = i * 4 + 1 + 1 + 1 + 1 by omega, show i * 4 + 1 + 1 + 1 + 1 + 1 = (i * 4 + 1) + 1 + 1 + 1 + 1 by omega, show i * 4 + 1 + 1 + 1 + 1 + 2 = (i * 4 + 2) + 1 + 1 + 1 + 1 by omega, show i * 4 + 1 + 1 + 1 + 1 + 3 = (i * 4 + 3) + 1 + 1 + 1 + 1 by omega]
      simp only [List.getElem?_cons_succ]
      exact this
/-- A row of the call's own is read from its first cell on. -/
theorem row_rd {q : IntKind} {w : World} {B et n : Nat} {v : Value} {E : EL Av} (h : w.ownsRow B et 4 v n (eCells q E)) (hn : n = E.length) : ∃ ao cap, v = .slice ao n cap ∧ RdE q w ao E ∧ ∀ ad, ao = some ad → B ≤ ad.block ∧ ad.block < w.heap.size ∧ v.ownBlock = some ad.block := by
  rcases h.2 with ⟨rfl, h0⟩ | ⟨g, cap, cur, rfl, h1, h2, h3, h4, h5, h6⟩
  · refine ⟨none, 0, by rw [h0], fun i e hi => ?_, fun ad e => by cases e⟩
    have : E = [] := List.eq_nil_of_length_eq_zero (by omega)
    rw [this] at hi; simp at hi
  · have hg := (Array.getElem?_eq_some_iff.1 h2).1
    refine ⟨_, cap, rfl, fun i e hi => ⟨g, 0, rfl, hg, ?_⟩, fun ad e => by cases e; exact ⟨h1, hg, rfl⟩⟩
    obtain ⟨c0, c1, c2, c3⟩ := eCells_at (q := q) hi
    have cc : ∀ (k : Nat) (u : Value), (eCells q E)[k]? = some u → w.cell? ⟨g, 0 + k, none⟩ = some u := fun k u hu => by
      rw [← h6, List.getElem?_take] at hu
      split at hu
      · simp only [World.cell?, h2]
        simpa using hu
      · cases hu
    exact ⟨cc _ _ c0, by have := cc _ _ c1; rwa [← Nat.add_assoc] at this, by have := cc _ _ c2; rwa [← Nat.add_assoc] at this, by have := cc _ _ c3; rwa [← Nat.add_assoc] at this⟩
/-- A map of the call's own that is filled from a list. -/
structure FillP (w3 : World) (b i : Nat) (E : EL Av) (wr : World) : Prop where
  map : MP wr b i (E.take i)
  tur : Turned (fun k => k = b) w3 wr
structure FillH (w3 : World) (b i : Nat) (E : EL Av) (wr : World) : Prop where
  map : ME wr b i (E.take i)
  tur : Turned (fun k => k = b) w3 wr
theorem FillP.step {w3 wr w1 w2 : World} {b i : Nat} {E : EL Av} (h : FillP w3 b i E wr) (h1 : Below wr.heap.size wr w1) (hm : MP w2 b (i + 1) (E.take (i + 1))) (hg : w1.grownBy w2 (some b)) : FillP w3 b (i + 1) E w2 :=
  ⟨hm, (h.tur.then (turned_low h1)).then (.of_grown hg (fun k e => by injection e with e; exact e.symm))⟩
theorem FillH.step {w3 wr w1 w2 : World} {b i : Nat} {E : EL Av} (h : FillH w3 b i E wr) (h1 : Below wr.heap.size wr w1) (hm : ME w2 b (i + 1) (E.take (i + 1))) (hg : w1.grownBy w2 (some b)) : FillH w3 b (i + 1) E w2 :=
  ⟨hm, (h.tur.then (turned_low h1)).then (.of_grown hg (fun k e => by injection e with e; exact e.symm))⟩
theorem be4 {w : World} {z : Nat} {q : IntKind} {k a m : Int} {s : ByteArray} {t : TypeId} (h : w.heap[z]? = some (.cells #[.int q k, .int .u8 a, .int .i64 m, .string s] t (0, 0))) : w.cell? ⟨z, 0, none⟩ = some (.int q k) ∧ w.cell? ⟨z, 1, none⟩ = some (.int .u8 a) ∧ w.cell? ⟨z, 2, none⟩ = some (.int .i64 m) ∧ w.cell? ⟨z, 3, none⟩ = some (.string s) := by
  simp [World.cell?, h]
/-- A vertex as it comes: what it has stands from two addresses on. -/
structure VxIn (w : World) (F : Nat → Prop) (po ho : Option Addr) (P L : EL Av) : Prop where
  rp : RdE .u8 w po P
  rl : RdE .u32 w ho L
  fp : ∀ ad, po = some ad → P ≠ [] → ¬ F ad.block
  fl : ∀ ad, ho = some ad → L ≠ [] → ¬ F ad.block
  okp : ∀ e ∈ P, In8 e.1 ∧ e.2.ok
  okl : ∀ e ∈ L, In32 e.1 ∧ e.2.ok
  risep : RiseE P
  risel : RiseE L
def vxV (v : Int) (po ho : Option Addr) (np cp nl cl : Nat) : Value := .agg #[.int .u32 v, .bool true, .slice po np cp, .slice ho nl cl]
set_option maxRecDepth 100000 in
set_option maxHeartbeats 4000000 in
theorem hold_some (g n N : Nat) (F : Nat → Prop) (G : GV) (v : Int) (po ho : Option Addr) (cp cl : Nat) (P L : EL Av) (w : World) (h : Gp w n F g G) (hnN : n ≤ N) (hPN : P.length ≤ N) (hLN : L.length ≤ N) (hn : N < maxLen) (hv : In32 v) (hV : VxIn w F po ho P L) :
    Calls Tryz.prog 70 #[.pointer (some ⟨g, 0, none⟩), vxV v po ho P.length cp L.length cl] w fun e w' => e = .returned (.tuple #[]) ∧ Done w F (N + 1) g (putE (delE G v) v (P, L)) w' := by
  obtain ⟨mp, me, bp, be, h⟩ := h
  have h := h.mono hnN
  obtain ⟨np, hnp⟩ : ∃ np, P.length = np := ⟨_, rfl⟩
  obtain ⟨nl, hnl⟩ : ∃ nl, L.length = nl := ⟨_, rfl⟩
  rw [hnp, hnl]
  have HNL := Lib.hid (And.intro hnp (And.intro hnl (And.intro hPN (And.intro hLN hn))))
  have hnp2 : np < 9223372036854775807 := by unfold maxLen at hn; omega
  have hnl2 : nl < 9223372036854775807 := by unfold maxLen at hn; omega
  clear hnp hnl hPN hLN
  unfold vxV
  obtain ⟨z, hz⟩ : ∃ z, w.heap.size = z := ⟨_, rfl⟩
  obtain ⟨W, hW⟩ : ∃ W, w.alloc (.cells #[.int .u32 v, .bool true, .slice po np cp, .slice ho nl cl] 51) = W := ⟨_, rfl⟩
  have b0 := (Below.refl w.heap.size w).alloc (Nat.le_refl _) (.cells #[.int .u32 v, .bool true, .slice po np cp, .slice ho nl cl] 51)
  have hzb := heap_alloc_new w (.cells #[.int .u32 v, .bool true, .slice po np cp, .slice ho nl cl] 51)
  rw [hW, hz] at hzb
  rw [hW] at b0
  have hG := h.below b0
  obtain ⟨w1, w2, d1, d2, ⟨c1, z1⟩, hz2, hG2, ht⟩ := two_del hG hv hzb
  obtain ⟨c0, _⟩ := hG.cells
  obtain ⟨z0, _⟩ := bx hzb
  obtain ⟨_, y1, y2, _⟩ := bx hz2
  have ht2 := (turned_low (K := F) b0).then ht
  have HV2 := Lib.hid (show VxIn w2 F po ho P L from ⟨hV.rp.on ht2 hV.fp, hV.rl.on ht2 hV.fl, hV.fp, hV.fl, hV.okp, hV.okl, hV.risep, hV.risel⟩)
  have HX := Lib.hid (And.intro hG2 (And.intro ht2 (And.intro hz2 (And.intro (fun k hk => Nat.lt_of_lt_of_le (h.hi k hk) (Nat.le_refl _)) hv))))
  have hmm := @run_makeMap Tryz.prog
  have hv0 := Lib.hid hv
  clear h hG hG2 ht b0 hzb hV ht2
  go_enter Tryz.func70, Tryz.ntmps70
  go_upto_region 1 with fail
  go_region
  go_upto_region 2 with fail
  go_region
  have hz3 := (heap_alloc_old w2 (.map #[] 0) (Array.getElem?_eq_some_iff.1 HX.out.2.2.1).1).trans HX.out.2.2.1
  obtain ⟨_, _, y3, _⟩ := bx hz3
  have HP3 := Lib.hid (mp_made w2)
  have HB3 := Lib.hid ((Below.refl w2.heap.size w2).alloc (Nat.le_refl _) (.map #[] 0))
  clear hz2
  go_wp2_with fail
  clear y1 y2 y3
  obtain ⟨b, hb⟩ : ∃ b, w2.heap.size = b := ⟨_, rfl⟩
  obtain ⟨W3, hW3⟩ : ∃ W, w2.alloc (.map #[] 0) = W := ⟨_, rfl⟩
  have HbB := Lib.hid hb
  rw [hW3] at hz3 HP3 HB3 ⊢
  rw [hb] at HP3 HB3 ⊢
  clear hW3 hb
  have HZ3 := Lib.hid hz3
  clear hz3
  go_loopw [29] (fun u wr => ∃ i : Nat, u = .int .i64 i ∧ i ≤ np ∧ Hid (FillP W3 b i P wr)) (fun u _ => np + 1 - (intOf u).toNat)
  case atStart => exact ⟨0, rfl, Nat.zero_le _, Lib.hid ⟨HP3.out, .refl _ _⟩⟩
  case round =>
    obtain ⟨i, rfl, hi, HI⟩ := hrel
    by_cases hin : i < np
    · obtain ⟨⟨k, a, m, s⟩, he⟩ : ∃ e, P[i]? = some e := ⟨_, List.getElem?_eq_getElem (by have := HNL.out.1; omega)⟩
      have hrd := (HV2.out.rp).far (K := fun k => k = b) ((turned_low (HB3.out.mono (by have := HbB.out; omega))).then HI.out.tur) (fun k hk => by have := HbB.out; omega)
      obtain ⟨pb, off, rfl, hpb, q0, q1, q2, q3⟩ := hrd i _ he
      simp only at q0 q1 q2 q3
      have hok := HV2.out.okp _ (List.mem_of_getElem? he)
      have hi1 : i + 1 ≤ np := hin
      have HE := Lib.hid (And.intro he (And.intro hok hi1))
      have HF := Lib.hid HI.out
      clear hrd hpb he hok HI
      go_upto_region 8 with fail
      obtain ⟨z6, hz6⟩ : ∃ z6, wr.heap.size = z6 := ⟨_, rfl⟩
      obtain ⟨W6, hW6⟩ : ∃ W6, wr.alloc (.cells #[.int .u8 k, .int .u8 a, .int .i64 m, .string s] 56) = W6 := ⟨_, rfl⟩
      have k6 := heap_alloc_new wr (.cells #[.int .u8 k, .int .u8 a, .int .i64 m, .string s] 56)
      have b6 := (Below.refl wr.heap.size wr).alloc (Nat.le_refl _) (.cells #[.int .u8 k, .int .u8 a, .int .i64 m, .string s] 56)
      rw [hW6, hz6] at k6
      rw [hW6] at b6 ⊢
      rw [hz6]
      have HK6 := Lib.hid (And.intro k6 b6)
      obtain ⟨x0, x1, x2, x3⟩ := be4 k6
      clear hW6 k6 b6 q0 q1 q2 q3 hz6
      go_region_held3 (fun w' => w'.cell? ⟨z6, 0, none⟩ = some (.int .u8 k) ∧ w'.cell? ⟨z6, 1, none⟩ = some (.int .u8 a) ∧ w'.cell? ⟨z6, 2, none⟩ = some (.int .i64 m) ∧ w'.cell? ⟨z6, 3, none⟩ = some (.string s))
        (first | exact ⟨x0, x1, x2, x3⟩ | exact U1 | exact U2)
        (first | (go_at_call 65; refine (own_any a m s _ (Nat.le_trans HE.out.2.1.2.2.2 (by decide))).mono ?_; rintro e' w5 ⟨rfl, hb5⟩; have hb5' : Below W6.heap.size W6 w5 := (Below.refl _ W6).drew.trans hb5; have k5 := (hb5'.block z6 (Array.getElem?_eq_some_iff.1 HK6.out.1).1).trans HK6.out.1; have U1 := be4 k5; have hb56 : Below wr.heap.size wr w5 := HK6.out.2.trans (hb5'.mono HK6.out.2.size); have hM5 : MP w5 b i (P.take i) := ⟨HF.out.map.1.on (G := fun _ => False) (below_any hb56) (fun h => h), HF.out.map.2⟩; obtain ⟨w7, hup, hP7, hg7⟩ := hM5.put (by have := HE.out.2.2; have := HNL.out.2.2.2.2; have := HNL.out.1; have := HNL.out.2.1; have := HNL.out.2.2.1; have := HNL.out.2.2.2.1; omega) HE.out.2.1.1 HE.out.2.1.2; have hne6 : z6 ≠ b := (fun e => by obtain ⟨es, clock, q⟩ := hM5.1.block; rw [← e, k5] at q; cases q); have k7 := (hg7.block z6 (Array.getElem?_eq_some_iff.1 k5).1 (fun e => hne6 (Option.some.inj e))).trans k5; have U2 := be4 k7; have HS := Lib.hid (FillP.step HF.out hb56 (by rw [← put_take HV2.out.risep HE.out.1]; exact hP7) hg7); unfold Av.val at hup; unfold val at ⊢; simp only at hup; clear hb5 hb5' k5 hb56 hM5 hP7 hg7 hne6 k7))
      all_goals
        go_wp2_with fail
        go_roundw
        case rel => exact ⟨i + 1, by go_num, HE.out.2.2, HS⟩
        case measure => have := HE.out.2.2; simp [intOf] <;> omega
    · have hiE : np = i := by omega
      subst hiE
      have hzz := HZ3.out
      have hbz : z < b := by have := (Array.getElem?_eq_some_iff.1 HX.out.2.2.1).1; have := HbB.out; omega
      have hz5 := (HI.out.tur.block z (Array.getElem?_eq_some_iff.1 hzz).1 (by omega)).trans hzz
      have hz4 := (heap_alloc_old wr (.map #[] 0) (Array.getElem?_eq_some_iff.1 hz5).1).trans hz5
      obtain ⟨_, _, _, y4⟩ := bx hz4
      have HL4 := Lib.hid (me_made wr)
      have HB4 := Lib.hid ((Below.refl wr.heap.size wr).alloc (Nat.le_refl _) (.map #[] 0))
      have HF1 := Lib.hid (show FillP W3 b np P wr from HI.out)
      have HnP : P.take np = P := by rw [← HNL.out.1]; exact List.take_length
      have HnP := Lib.hid HnP
      clear hzz hz5 HI hi hin
      go_wp2_with fail
      clear y4
      obtain ⟨c, hc⟩ : ∃ c, wr.heap.size = c := ⟨_, rfl⟩
      obtain ⟨W4, hW4⟩ : ∃ W, wr.alloc (.map #[] 0) = W := ⟨_, rfl⟩
      obtain ⟨wq, hwq⟩ : ∃ wq, wr = wq := ⟨_, rfl⟩
      rw [hwq] at hc HL4 HB4 HF1
      have HcB := Lib.hid hc
      rw [hW4] at hz4 ⊢
      rw [hwq] at hW4 ⊢
      rw [hW4] at HL4 HB4
      rw [hc] at HL4 HB4 ⊢
      have HZ4 := Lib.hid hz4
      have HBC := Lib.hid (show b < c from by have := HF1.out.map.1.lt; have := HcB.out; omega)
      have HT4 := Lib.hid (show Turned (fun k => b ≤ k) w2 W4 from (((turned_low (HB3.out.mono (by have := HbB.out; omega))).then (HF1.out.tur.mono (fun k hk => by omega)))).then (turned_low (HB4.out.mono (by have := HcB.out; omega))))
      clear hW4 hc hwq hz4
      go_loopw [44] (fun u wr => ∃ i : Nat, u = .int .i64 i ∧ i ≤ nl ∧ Hid (FillH W4 c i L wr)) (fun u _ => nl + 1 - (intOf u).toNat)
      case atStart => exact ⟨0, rfl, Nat.zero_le _, Lib.hid ⟨HL4.out, .refl _ _⟩⟩
      case round =>
        obtain ⟨i, rfl, hi, HI⟩ := hrel
        by_cases hin : i < nl
        · obtain ⟨⟨k, a, m, s⟩, he⟩ : ∃ e, L[i]? = some e := ⟨_, List.getElem?_eq_getElem (by have := HNL.out.2.1; omega)⟩
          have hrd := (HV2.out.rl).far (K := fun k => b ≤ k) (HT4.out.trans HI.out.tur (fun k hk => .inl (by have := HBC.out; omega))) (fun k hk => by have := HbB.out; omega)
          obtain ⟨pb, off, rfl, hpb, q0, q1, q2, q3⟩ := hrd i _ he
          simp only at q0 q1 q2 q3
          have hok := HV2.out.okl _ (List.mem_of_getElem? he)
          have hi1 : i + 1 ≤ nl := hin
          have HE := Lib.hid (And.intro he (And.intro hok hi1))
          have HF := Lib.hid HI.out
          clear hrd hpb he hok HI
          go_upto_region 14 with fail
          obtain ⟨z6, hz6⟩ : ∃ z6, wr.heap.size = z6 := ⟨_, rfl⟩
          obtain ⟨W6, hW6⟩ : ∃ W6, wr.alloc (.cells #[.int .u32 k, .int .u8 a, .int .i64 m, .string s] 58) = W6 := ⟨_, rfl⟩
          have k6 := heap_alloc_new wr (.cells #[.int .u32 k, .int .u8 a, .int .i64 m, .string s] 58)
          have b6 := (Below.refl wr.heap.size wr).alloc (Nat.le_refl _) (.cells #[.int .u32 k, .int .u8 a, .int .i64 m, .string s] 58)
          rw [hW6, hz6] at k6
          rw [hW6] at b6 ⊢
          rw [hz6]
          have HK6 := Lib.hid (And.intro k6 b6)
          obtain ⟨x0, x1, x2, x3⟩ := be4 k6
          clear hW6 k6 b6 q0 q1 q2 q3 hz6
          go_region_held3 (fun w' => w'.cell? ⟨z6, 0, none⟩ = some (.int .u32 k) ∧ w'.cell? ⟨z6, 1, none⟩ = some (.int .u8 a) ∧ w'.cell? ⟨z6, 2, none⟩ = some (.int .i64 m) ∧ w'.cell? ⟨z6, 3, none⟩ = some (.string s))
            (first | exact ⟨x0, x1, x2, x3⟩ | exact U1 | exact U2)
            (first | (go_at_call 65; refine (own_any a m s _ (Nat.le_trans HE.out.2.1.2.2.2 (by decide))).mono ?_; rintro e' w5 ⟨rfl, hb5⟩; have hb5' : Below W6.heap.size W6 w5 := (Below.refl _ W6).drew.trans hb5; have k5 := (hb5'.block z6 (Array.getElem?_eq_some_iff.1 HK6.out.1).1).trans HK6.out.1; have U1 := be4 k5; have hb56 : Below wr.heap.size wr w5 := HK6.out.2.trans (hb5'.mono HK6.out.2.size); have hM5 : ME w5 c i (L.take i) := ⟨HF.out.map.1.on (G := fun _ => False) (below_any hb56) (fun h => h), HF.out.map.2⟩; obtain ⟨w7, hup, hP7, hg7⟩ := hM5.put (by have := HE.out.2.2; have := HNL.out.2.2.2.2; have := HNL.out.1; have := HNL.out.2.1; have := HNL.out.2.2.1; have := HNL.out.2.2.2.1; omega) HE.out.2.1.1 HE.out.2.1.2; have hne6 : z6 ≠ c := (fun e => by obtain ⟨es, clock, q⟩ := hM5.1.block; rw [← e, k5] at q; cases q); have k7 := (hg7.block z6 (Array.getElem?_eq_some_iff.1 k5).1 (fun e => hne6 (Option.some.inj e))).trans k5; have U2 := be4 k7; have HS := Lib.hid (FillH.step HF.out hb56 (by rw [← put_take HV2.out.risel HE.out.1]; exact hP7) hg7); unfold Av.val at hup; unfold val at ⊢; simp only at hup; clear hb5 hb5' k5 hb56 hM5 hP7 hg7 hne6 k7))
          all_goals
            go_wp2_with fail
            go_roundw
            case rel => exact ⟨i + 1, by go_num, HE.out.2.2, HS⟩
            case measure => have := HE.out.2.2; simp [intOf] <;> omega
        · have hiE : nl = i := by omega
          subst hiE
          have HF2 := Lib.hid (show FillH W4 c nl L wr from HI.out)
          have HnL : L.take nl = L := by rw [← HNL.out.2.1]; exact List.take_length
          obtain ⟨Gw, s1, s2, hG0, e1, f1, e2, f2, k0, k1, k2, HS⟩ : ∃ (Gw : Nat → Nat → World) (s1 s2 : Nat), wr.drew = Gw 0 0 ∧
              (∀ y, (Instr.mapEntry 106 (.map (some mp)) (.int .u32 v)).run Tryz.prog (Gw 0 y) = .ok (.tuple #[.map none, .int .i64 (s1 : Int)]) (Gw 1 y)) ∧
              (∀ y, (Instr.entryStore 106 (.map (some mp)) (.int .i64 (s1 : Int)) (.map (some b))).run Tryz.prog (Gw 1 y) = .ok () (Gw 2 y)) ∧
              (∀ x, (Instr.mapEntry 107 (.map (some me)) (.int .u32 v)).run Tryz.prog (Gw x 0) = .ok (.tuple #[.map none, .int .i64 (s2 : Int)]) (Gw x 1)) ∧
              (∀ x, (Instr.entryStore 107 (.map (some me)) (.int .i64 (s2 : Int)) (.map (some c))).run Tryz.prog (Gw x 1) = .ok () (Gw x 2)) ∧
              (∀ x y, (Gw x y).cell? ⟨g, 0, none⟩ = some (.map (some mp))) ∧ (∀ x y, (Gw x y).cell? ⟨g, 1, none⟩ = some (.map (some me))) ∧ (∀ x y, (Gw x y).cell? ⟨z, 0, none⟩ = some (.int .u32 v)) ∧
              Done w F (N + 1) g (putE (delE G v) v (P, L)) (Gw 2 2) := by
            obtain ⟨hG2, ht2, hzz, hhi, _⟩ := HX.out
            have hb := HbB.out
            have hc := HcB.out
            have sz3 : c < W4.heap.size := by have := HL4.out.1.lt; exact this
            have hbc : b < c := by have := HF1.out.map.1.lt; omega
            have BD : Below wr.heap.size wr wr.drew := (Below.refl _ wr).drew
            have t5 : Turned (fun k => b ≤ k) w2 wr.drew := (HT4.out.trans HF2.out.tur (fun k hk => .inl (by omega))).then (turned_low BD)
            have h5 := hG2.on t5 (fun k hk hbk => by have := hG2.hi k hk; omega)
            have hzn : z ≠ mp ∧ z ≠ me := by
              obtain ⟨_, _, q1⟩ := hG2.props.block
              obtain ⟨_, _, q2⟩ := hG2.edges.block
              refine ⟨fun e => ?_, fun e => ?_⟩
              · rw [e, q1] at hzz; cases hzz
              · rw [e, q2] at hzz; cases hzz
            have tq : Turned (fun k => k = c) wq wr.drew := ((turned_low (HB4.out.mono (by omega))).then HF2.out.tur).then (turned_low BD)
            have mP := HF1.out.map
            rw [HnP.out] at mP
            have mL := HF2.out.map
            rw [HnL] at mL
            have pb : MP wr.drew b (N + 1) P := ⟨(mP.1.on tq (by omega)).mono (by have := HNL.out.1; have := HNL.out.2.2.1; omega), mP.2⟩
            have pc : ME wr.drew c (N + 1) L := ⟨(mL.1.on (G := fun _ => False) (below_any BD) (fun h => h)).mono (by have := HNL.out.2.1; have := HNL.out.2.2.2.1; omega), mL.2⟩
            have nb : ¬ F b := fun hf => by have := hG2.hi b hf; omega
            have nc : ¬ F c := fun hf => by have := hG2.hi c hf; omega
            have hz6 : wr.drew.heap[z]? = _ := (HF2.out.tur.block z (Array.getElem?_eq_some_iff.1 HZ4.out).1 (by have := hbz; omega)).trans HZ4.out
            obtain ⟨s1, s2, Gw, h0, p1, p2, q1, q2, r0, r1, r2, hfin, htn⟩ := put_two (z := z) h5 HNL.out.2.2.2.2 hv0.out (del_get G v) nb nc (by omega) pb pc ((bx hz6).1) hzn
            refine ⟨Gw, s1, s2, h0, p1, p2, q1, q2, r0, r1, r2, _, ⟨mp, me, _, _, hfin⟩, fun k hk => ?_, ?_⟩
            · rcases hk with hk | rfl | rfl
              · exact .inl hk
              · have := ht2.size
                exact .inr (by omega)
              · have := ht2.size
                exact .inr (by omega)
            · exact (ht2.trans t5 (fun k hk => .inr (by have := ht2.size; omega))).then htn
          have HL := Lib.hid HS
          clear HS HX HP3 HB3 HL4 HB4 HbB HcB HZ3 HZ4 HF1 HF2 HI hi hin HnL HnP HT4 HV2 HNL hbz hv0
          go_wp2_with fail
          clear hmm
          go_region
          go_end0
          exact ⟨rfl, HL.out⟩
end Go.Proofs.YtafenkepigmcaaaGreatDoor.Gr
/- graph: what is noted ahead of a transaction, walked. -/
namespace Go.Proofs.YtafenkepigmcaaaGreatDoor.Gr
open Go Go.RowKit YtafenkepigmcaaaGreatDoor.So
/-- A vertex' cells: its number, whether it is there, its two rows. -/
structure Vr where
  id : Int
  th : Bool
  pv : Value
  hv : Value
def VxR (w : World) (B : Nat) (t : Vr) (c : Option (EL Av × EL Av)) : Prop := match c with
  | none => t.th = false ∧ t.pv = .slice none 0 0 ∧ t.hv = .slice none 0 0
  | some x => t.th = true ∧ w.ownsRow B 56 4 t.pv x.1.length (eCells .u8 x.1) ∧ w.ownsRow B 58 4 t.hv x.2.length (eCells .u32 x.2)
theorem VxR.on {w w' : World} {B : Nat} {t : Vr} {c : Option (EL Av × EL Av)} {K : Nat → Prop} (h : VxR w B t c) (ht : Turned K w w') (hK : ∀ k, K k → k < B ∨ w.heap.size ≤ k) : VxR w' B t c := by
  cases c with
  | none => exact h
  | some x =>
    obtain ⟨h1, h2, h3⟩ := h
    exact ⟨h1, row_turned h2 ht (fun g hg hk => by have := row_lt h2 hg; have := hK g hk; omega), row_turned h3 ht (fun g hg hk => by have := row_lt h3 hg; have := hK g hk; omega)⟩
theorem VxR.base {w : World} {B C : Nat} {t : Vr} {c : Option (EL Av × EL Av)} (h : VxR w C t c) (hB : B ≤ C) : VxR w B t c := by
  cases c with
  | none => exact h
  | some x => exact ⟨h.1, row_base h.2.1 hB, row_base h.2.2 hB⟩
theorem vertex_any (g n : Nat) (F : Nat → Prop) (G : GV) (v : Int) (w : World) (h : Gp w n F g G) (hn : n ≤ 1000000000000) (hP : ∀ e ∈ G, e.2.1.length ≤ 12) (hv : In32 v) :
    Calls Tryz.prog 24 #[.pointer (some ⟨g, 0, none⟩), .int .u32 v] w fun e w' => ∃ (th : Bool) (pv hv : Value), e = .returned (.agg #[.int .u32 v, .bool th, pv, hv]) ∧ VxR w' w.heap.size ⟨v, th, pv, hv⟩ (getE G v) ∧ Below w.heap.size w w' := by
  cases hx : getE G v with
  | none =>
    refine (vertex_none g n F G v w h hx hv).mono ?_
    rintro e w' ⟨rfl, hb⟩
    exact ⟨false, .slice none 0 0, .slice none 0 0, rfl, ⟨rfl, rfl, rfl⟩, hb⟩
  | some x =>
    obtain ⟨P, L⟩ := x
    refine (vertex_some g n F G v P L w h hn hx (hP _ (mem_of_get hx)) hv).mono ?_
    rintro e w' ⟨⟨val, rfl, pv, hv, rfl, h1, h2⟩, hb⟩
    exact ⟨true, pv, hv, rfl, ⟨rfl, h1, h2⟩, hb⟩
def vCells (l : List Vr) : List Value := l.flatMap fun t => [.int .u32 t.id, .bool t.th, t.pv, t.hv]
theorem vCells_app (A B : List Vr) : vCells (A ++ B) = vCells A ++ vCells B := by simp [vCells]
theorem info51 : (Tryz.prog.info? 51).map (fun i => (i.zero, i.size, i.bytes)) = some (some (.agg #[.int .u32 0, .bool false, .slice none 0 0, .slice none 0 0]), 4, 56) := by kernel_rfl
theorem vNew (v : Int) (th : Bool) (p h : Value) (w : World) (T : TypeId) : ∀ j u, ([.int .u32 v, .bool th, p, h] : List Value)[j]? = some u → (w.alloc (.cells #[.int .u32 v, .bool th, p, h] T)).cell? ((⟨w.heap.size, 0, none⟩ : Addr).add j) = some u := by
  intro j u h
  match j, h with
  | 0, h => simp at h; subst h; simp [Addr.add, go_sem]
  | 1, h => simp at h; subst h; simp [Addr.add, go_sem]
  | 2, h => simp at h; subst h; simp [Addr.add, go_sem]
  | 3, h => simp at h; subst h; simp [Addr.add, go_sem]
  | j + 4, h => simp at h
theorem VxR.slices {w : World} {B : Nat} {t : Vr} {c : Option (EL Av × EL Av)} (h : VxR w B t c) : ∃ po np cp ho nl cl, t.pv = .slice po np cp ∧ t.hv = .slice ho nl cl := by
  cases c with
  | none => exact ⟨_, _, _, _, _, _, h.2.1, h.2.2⟩
  | some x =>
    obtain ⟨a, b, e1⟩ := row_slice h.2.1
    obtain ⟨c, d, e2⟩ := row_slice h.2.2
    exact ⟨_, _, _, _, _, _, e1, e2⟩
theorem vOne (v : Int) (th : Bool) (po ho : Option Addr) (np cp nl cl : Nat) : ∀ u ∈ ([.int .u32 v, .bool th, .slice po np cp, .slice ho nl cl] : List Value), u.oneCell' = true := by
  intro u hu
  simp at hu
  rcases hu with rfl | rfl | rfl | rfl <;> rfl
/-- What is noted so far. -/
structure Noted (w : World) (G : GV) (l : List Vr) (v : Value) (wr : World) : Prop where
  row : wr.ownsRow w.heap.size 51 4 v l.length (vCells l)
  has : ∀ t ∈ l, VxR wr w.heap.size t (getE G t.id)
  bel : Below w.heap.size w wr
theorem Noted.below {w wr w' : World} {G : GV} {l : List Vr} {v : Value} (h : Noted w G l v wr) (hb : Below wr.heap.size wr w') : Noted w G l v w' :=
  ⟨row_turned h.row (below_any (G := fun _ => False) hb) (fun _ _ h => h), fun t ht => (h.has t ht).on (below_any (G := fun _ => False) hb) (fun _ h => h.elim), h.bel.trans (hb.mono h.bel.size)⟩
/-- A row of vertices is no row of what they have. -/
theorem row_ne {w : World} {B B' e e' size size' n n' : Nat} {v v' : Value} {xs xs' : List Value} (h : w.ownsRow B e size v n xs) (h' : w.ownsRow B' e' size' v' n' xs') (hne : e ≠ e') {g : Nat} (hg : v.ownBlock = some g) : v'.ownBlock ≠ some g := by
  intro hg'
  rcases h.2 with ⟨rfl, _⟩ | ⟨g1, cap, cur, rfl, _, h2, _⟩
  · simp [Value.ownBlock] at hg
  · have e1 : g1 = g := by simpa [Value.ownBlock] using hg
    subst e1
    exact far_row h2 hne h' hg'.symm
theorem Noted.more {w wr w3 w4 : World} {G : GV} {l : List Vr} {v v' : Value} {t : Vr} {o : Obj} (h : Noted w G l v wr) (h3 : Below wr.heap.size wr w3) (ht : VxR w3 wr.heap.size t (getE G t.id)) (hg : (w3.alloc o).grownBy w4 v.ownBlock) (ho : w4.ownsRow w.heap.size 51 4 v' (l.length + 1) (vCells l ++ [.int .u32 t.id, .bool t.th, t.pv, t.hv])) : Noted w G (l ++ [t]) v' w4 := by
  have h5 := h.below (h3.trans ((Below.refl _ w3).alloc h3.size o))
  have tg : Turned (fun g => v.ownBlock = some g) (w3.alloc o) w4 := .of_grown hg (fun _ h => h)
  have hold : ∀ (u : Vr) (c : Option (EL Av × EL Av)), VxR (w3.alloc o) w.heap.size u c → VxR w4 w.heap.size u c := fun u c hu => by
    cases c with
    | none => exact hu
    | some x => exact ⟨hu.1, row_turned hu.2.1 tg (fun g hg => row_ne hu.2.1 h5.row (by decide) hg), row_turned hu.2.2 tg (fun g hg => row_ne hu.2.2 h5.row (by decide) hg)⟩
  refine ⟨?_, fun u hu => ?_, h5.bel.grown hg h5.bel.size (fun g e => (row_lt h5.row e).1)⟩
  · have : vCells (l ++ [t]) = vCells l ++ [.int .u32 t.id, .bool t.th, t.pv, t.hv] := by simp [vCells]
    rw [this, List.length_append]
    exact ho
  · rcases List.mem_append.1 hu with hu | hu
    · exact hold u _ (h5.has u hu)
    · have e : u = t := by simpa using hu
      subst e
      exact hold u _ ((ht.base h.bel.size).on (below_any (G := fun _ => False) ((Below.refl _ w3).alloc (Nat.le_refl _) o)) (fun _ h => h.elim))
end Go.Proofs.YtafenkepigmcaaaGreatDoor.Gr
