/- ghost: the law on a vertex that moves, walked. -/
import Derived.Test.YtgjjfodogkcmmaaQ2
namespace Go.Proofs.Ytgjjfodogkcmmaa.Gh
open Go Go.RowKit Ytgjjfodogkcmmaa.So Ytgjjfodogkcmmaa.Vl
theorem of_held (S : GS) (k : Int) (L : List Int) : ofG (holdG S k true L) k = 0 := by
  have h : ((holdG S k true L).any fun e => e.1 = k) = true := by
    rw [List.any_eq_true]
    exact ⟨(k, L), by simp [holdG], by simp⟩
  unfold ofG
  rw [if_pos h]
/-- Two tallies of vertices that came, whose blocks lie from B on and below N. -/
structure TwoM (wB : World) (p q N : Nat) (A1 A2 : List Vx) (w : World) : Prop where
  tl : ∃ F G m1 m2, Tl w wB.heap.size m1 F p (holdAll A1) ∧ Tl w wB.heap.size m2 G q (holdAll A2) ∧ m1 ≤ A1.length * 2001 ∧ m2 ≤ A2.length * 2001 ∧ (∀ k, F k → ¬ G k) ∧ (∀ k, F k → k < N) ∧ ∀ k, G k → k < N
  f1 : ∀ v ∈ A1, v.L.length ≤ 1000
  f2 : ∀ v ∈ A2, v.L.length ≤ 1000
  low : Below wB.heap.size wB w
section
variable {wB w w' : World} {p q N : Nat} {A1 A2 : List Vx}
theorem TwoM.swap (h : TwoM wB p q N A1 A2 w) : TwoM wB q p N A2 A1 w := by
  obtain ⟨F, G, m1, m2, h1, h2, h3, h4, h5, h6, h7⟩ := h.tl
  exact ⟨⟨G, F, m2, m1, h2, h1, h4, h3, fun k hk hf => h5 k hf hk, h7, h6⟩, h.f2, h.f1, h.low⟩
theorem TwoM.below (h : TwoM wB p q N A1 A2 w) (hb : Below w.heap.size w w') : TwoM wB p q N A1 A2 w' := by
  obtain ⟨F, G, m1, m2, h1, h2, h3⟩ := h.tl
  exact ⟨⟨F, G, m1, m2, h1.below hb, h2.below hb, h3⟩, h.f1, h.f2, h.low.trans (hb.mono h.low.size)⟩
theorem TwoM.here (h : TwoM wB p q N A1 A2 w) : TwoM wB p q w.heap.size A1 A2 w := by
  obtain ⟨F, G, m1, m2, h1, h2, h3, h4, h5, _⟩ := h.tl
  exact ⟨⟨F, G, m1, m2, h1, h2, h3, h4, h5, by obtain ⟨_, _, _, hh, _⟩ := h1; exact hh.hi, by obtain ⟨_, _, _, hh, _⟩ := h2; exact hh.hi⟩, h.f1, h.f2, h.low⟩
theorem few_snoc {A : List Vx} (h : ∀ v ∈ A, v.L.length ≤ 1000) {u : Vx} (hu : u.L.length ≤ 1000) : ∀ v ∈ A ++ [u], v.L.length ≤ 1000 := fun v hv => by
  rcases List.mem_append.1 hv with hv | hv
  · exact h v hv
  · rw [List.mem_singleton.1 hv]; exact hu
/-- A vertex in form is put into the first. -/
theorem TwoM.put (h : TwoM wB p q N A1 A2 w) {u : Vv} (hu : u.fit w) (hf : u.form = true) (hk : In32 u.id) (hho : ∀ ad, u.ho = some ad → u.L ≠ [] → N ≤ ad.block) (hA : A1.length ≤ 100) :
    Calls Try.prog 20 #[.pointer (some ⟨p, 0, none⟩), u.val] w fun e w' => e = .returned (.int .i64 0) ∧ TwoM wB p q w'.heap.size (A1 ++ [u.vx]) A2 w' ∧ Turned (fun k => wB.heap.size ≤ k ∧ k < N) w w' := by
  obtain ⟨F, G, m1, m2, h1, h2, h3, h4, h5, h6, h7⟩ := h.tl
  have hrow : (rowG (holdAll A1) u.id).length ≤ 1000 := row_short (rows_short h.f1) _
  have hsm := (form_small hf hu.kp).2.1
  refine (put20_good wB.heap.size m1 p F (holdAll A1) u w h1 hu hf hk (fun ad e hne hF => by have := hho ad e hne; have := h6 _ hF; omega) (by omega) (by omega)).mono ?_
  rintro e w' ⟨rfl, F', d1, d2, d3⟩
  have hlow : ∀ k, F k → wB.heap.size ≤ k := by obtain ⟨_, _, _, hh, _⟩ := h1; exact hh.low
  have hGlt : ∀ k, G k → k < w.heap.size := by obtain ⟨_, _, _, hh, _⟩ := h2; exact hh.hi
  have h2' := h2.on d3 (fun k hG hF => h5 k hF hG)
  have e1 : holdAll (A1 ++ [u.vx]) = holdG (holdAll A1) u.id u.th (u.L.map Prod.fst) := holdAll_snoc _ _
  refine ⟨rfl, ⟨⟨F', G, _, m2, by rw [e1]; exact d1, h2', ?_, h4, fun k hk hG => ?_, by obtain ⟨_, _, _, hh, _⟩ := d1; exact hh.hi, fun k hG => Nat.lt_of_lt_of_le (hGlt k hG) d3.size⟩, few_snoc h.f1 hsm, h.f2, h.low.trans (d3.below h.low.size hlow)⟩, ⟨d3.os, d3.tape, d3.output, d3.size, fun k hk hn => d3.block k hk (fun hF => hn ⟨hlow k hF, h6 k hF⟩)⟩⟩
  · rw [List.length_append, List.length_singleton]
    omega
  · rcases d2 k hk with h8 | h8
    · exact h5 k h8 hG
    · have := hGlt k hG
      omega
theorem TwoM.bad (h : TwoM wB p q N A1 A2 w) {u : Vv} (hu : u.fit w) (hf : u.form = false) :
    Calls Try.prog 20 #[.pointer (some ⟨p, 0, none⟩), u.val] w fun e w' => e = .returned (.int .i64 3) ∧ TwoM wB p q N A1 A2 w' ∧ Below w.heap.size w w' :=
  (put20_bad p u w hu hf).mono fun _ _ ⟨h1, h2⟩ => ⟨h1, h.below h2, h2⟩
theorem TwoM.of (h : TwoM wB p q N A1 A2 w) {x : Int} (hx : In32 x) : Calls Try.prog 24 #[.pointer (some ⟨p, 0, none⟩), .int .u32 x] w fun e w' => e = .returned (.int .i64 (ofG (holdAll A1) x)) ∧ w = w' := by
  obtain ⟨F, G, m1, m2, h1, _⟩ := h.tl
  exact of_any _ m1 p F _ x w h1 hx
theorem TwoM.list (h : TwoM wB p q N A1 A2 w) (hA : A1.length ≤ 1000) : Calls Try.prog 23 #[.pointer (some ⟨p, 0, none⟩)] w fun e w' => ListOf (holdAll A1) w e w' := by
  obtain ⟨F, G, m1, m2, h1, _, h3, _⟩ := h.tl
  exact list_any _ m1 p F _ w h1 (by omega)
end
/-- Two new ones. -/
theorem two_new {wB w1 w2 w3 : World} (hb : Below wB.heap.size wB w1) (h1 : Tl w2 wB.heap.size 0 (fun k => w1.heap.size ≤ k ∧ k < w1.heap.size + 3) (w1.heap.size + 2) []) (b1 : Below w1.heap.size w1 w2)
    (h2 : Tl w3 wB.heap.size 0 (fun k => w2.heap.size ≤ k ∧ k < w2.heap.size + 3) (w2.heap.size + 2) []) (b2 : Below w2.heap.size w2 w3) : TwoM wB (w1.heap.size + 2) (w2.heap.size + 2) w3.heap.size [] [] w3 := by
  have hi1 : ∀ k, (w1.heap.size ≤ k ∧ k < w1.heap.size + 3) → k < w2.heap.size := by obtain ⟨_, _, _, hh, _⟩ := h1; exact hh.hi
  have hi2 : ∀ k, (w2.heap.size ≤ k ∧ k < w2.heap.size + 3) → k < w3.heap.size := by obtain ⟨_, _, _, hh, _⟩ := h2; exact hh.hi
  exact ⟨⟨_, _, 0, 0, h1.below b2, h2, by simp, by simp, fun k hk hk2 => by have := hi1 k hk; omega, fun k hk => Nat.lt_of_lt_of_le (hi1 k hk) b2.size, hi2⟩, (fun v hv => by cases hv), (fun v hv => by cases hv), (hb.trans (b1.mono hb.size)).trans (b2.mono (Nat.le_trans hb.size b1.size))⟩
/-- A block below B stays. -/
theorem low_block {wB w : World} {k : Nat} (h : Below wB.heap.size wB w) (hk : k < wB.heap.size) : w.heap[k]? = wB.heap[k]? := h.block k hk
/-- The vertex that isn't there. -/
def goneV (id : Int) : Vv := ⟨id, false, none, 0, [], none, 0, []⟩
theorem gone_fit (id : Int) (w : World) : (goneV id).fit w :=
  ⟨⟨fun i t h => by simp [goneV] at h, fun i t h => by simp [goneV] at h, fun t h => by simp [goneV] at h, fun t h => by simp [goneV] at h, by simp [goneV], by simp [goneV]⟩, fun t h => by simp [goneV] at h, fun t h => by simp [goneV] at h⟩
theorem gone_form {v : Vv} (h : v.form = true) : (goneV v.id).form = true := by
  unfold Vv.form at h ⊢
  rw [Bool.and_eq_true] at h
  simp [goneV, h.1]
set_option maxRecDepth 100000 in
set_option maxHeartbeats 4000000 in
theorem moves_law (ao bo : Option Addr) (ca cb : Nat) (Vs Us : List Vv) (v : Vv) (w : World) (hin : TaIn w ao Vs) (hin2 : TaIn w bo Us) (hv : v.fit w) (hs : v.short) (hid : In32 v.id) (hlm : Vs.length ≤ maxLen) (hlm2 : Us.length ≤ maxLen) :
    Calls Try.prog 5 #[.slice ao Vs.length ca, .slice bo Us.length cb, v.val] w fun e w' => e = .returned (.bool true) ∧ Below w.heap.size w w' := by
  have HI1 := Lib.hid hin
  have HI2 := Lib.hid hin2
  obtain ⟨n, hn⟩ : ∃ n, Vs.length = n := ⟨_, rfl⟩
  obtain ⟨l, hl⟩ : ∃ l, Us.length = l := ⟨_, rfl⟩
  unfold maxLen at hlm hlm2
  rw [hn] at hlm ⊢
  rw [hl] at hlm2 ⊢
  have HN := Lib.hid (And.intro hn hl)
  have hb0 : Below w.heap.size w (w.alloc (.cells #[.int .u32 v.id, .bool v.th, .slice v.po v.P.length v.pc, .slice v.ho v.L.length v.hc] 28)) := (Below.refl _ _).alloc (Nat.le_refl _) _
  have hx := heap_alloc_new w (.cells #[.int .u32 v.id, .bool v.th, .slice v.po v.P.length v.pc, .slice v.ho v.L.length v.hc] 28)
  have HV := Lib.hid (And.intro (hv.below hb0 (Nat.le_refl _)) (And.intro hs (And.intro hid hb0)))
  unfold Vv.val
  obtain ⟨z, hz⟩ : ∃ z, w.heap.size = z := ⟨_, rfl⟩
  rw [hz] at hx
  have HZ := Lib.hid hz
  obtain ⟨wB, hwB⟩ : ∃ wB, w.alloc (.cells #[.int .u32 v.id, .bool v.th, .slice v.po v.P.length v.pc, .slice v.ho v.L.length v.hc] 28) = wB := ⟨_, rfl⟩
  rw [hwB] at hx HV
  have HX := Lib.hid hx
  obtain ⟨b0, b1, b2, b3, bf⟩ := box_cells hx
  have hzl := (Array.getElem?_eq_some_iff.1 hx).1
  have HZL := Lib.hid hzl
  have HA := Lib.hid (awake_any wB)
  clear hin hin2 hn hl hb0 hv hs hid hx hzl
  go_enter Try.func5, Try.ntmps5
  go_wp2_with (go_at_call 9; refine HA.out.mono ?_; rintro e w1 ⟨rfl, hb⟩; have A1 := Lib.hid hb; have hbx := (hb.block z HZL.out).trans HX.out; obtain ⟨c0, c1, c2, c3, cf⟩ := box_cells hbx; have HRT := Lib.hid (right_any v w1 (HV.out.1.below hb (Nat.le_refl _)).ok (by have := HV.out.2.1.pn; omega) (by have := HV.out.2.1.hn; omega)); clear hb hbx)
  refine HRT.out.mono ?_
  unfold RRet
  rintro e w2 ⟨rfl, hb⟩
  have A2 := Lib.hid (A1.out.trans (hb.mono A1.out.size))
  have hbx := (A2.out.block z HZL.out).trans HX.out
  obtain ⟨d0, d1, d2, d3, df⟩ := box_cells hbx
  have hbw : Below w.heap.size w wB := HV.out.2.2.2
  have HE2 := Lib.hid (hbw.trans (A2.out.mono hbw.size))
  clear hb hbx hwB hbw
  cases hf : v.form
  · go_wp2_with fail
    go_ret
    exact ⟨rfl, HE2.out⟩
  cases hth : v.th
  · rw [hth] at d1
    go_wp2_with fail
    go_ret
    exact ⟨rfl, HE2.out⟩
  rw [hth] at d1
  have HF := Lib.hid (And.intro hf hth)
  clear hf hth b0 b1 b2 b3 bf c0 c1 c2 c3 cf HA HRT
  go_wp2_with fail
  refine (new_any wB.heap.size w2 A2.out.size).mono ?_
  rintro e w3 ⟨rfl, ht1, hb3⟩
  go_wp2_with fail
  refine (new_any wB.heap.size w3 (Nat.le_trans A2.out.size hb3.size)).mono ?_
  rintro e w4 ⟨rfl, ht2, hb4⟩
  have HT := Lib.hid (two_new A2.out ht1 hb3 ht2 hb4)
  clear ht1 ht2 hb3 hb4 d0 d1 d2 d3 df A1 A2 HE2
  generalize w2.heap.size + 2 = p at *
  generalize w3.heap.size + 2 = q at *
  go_wp2_with fail
  go_loopw [28] (fun u wr => ∃ (i : Nat) (A : List Vx), i ≤ n ∧ A.length ≤ i ∧ A.length ≤ 20 ∧ u = .int .i64 i ∧ Hid ((fun N => TwoM wB p q N A [] wr) wr.heap.size)) (fun u _ => n - (intOf u).toNat)
  case atStart => exact ⟨0, [], by omega, by simp, by simp, rfl, Lib.hid HT.out.here⟩
  case round =>
    obtain ⟨i, A, hi, hAi, hA20, rfl, HE⟩ := hrel
    clear HT
    generalize wr = w5 at *
    by_cases hlt : i < n
    · obtain ⟨u, hu⟩ : ∃ u, Vs[i]? = some u := ⟨_, List.getElem?_eq_getElem (by have := HN.out; omega)⟩
      have hlow := HV.out.2.2.2.trans (HE.out.low.mono HV.out.2.2.2.size)
      obtain ⟨g, og, rfl, _, e0, e1, e2, e3⟩ := HI1.out.below hlow hu
      have j1 : (i : Int) < (n : Int) := by omega
      have HU := Lib.hid (HI1.out i u hu).1
      have hb6 : Below w5.heap.size w5 (w5.alloc (.cells #[.int .u32 u.id, .bool u.th, .slice u.po u.P.length u.pc, .slice u.ho u.L.length u.hc] 28)) := (Below.refl _ _).alloc (Nat.le_refl _) _
      have hbx := heap_alloc_new w5 (.cells #[.int .u32 u.id, .bool u.th, .slice u.po u.P.length u.pc, .slice u.ho u.L.length u.hc] 28)
      have hvx := ((hb6.block z (by have := HZL.out; have := HE.out.low.size; omega)).trans (HE.out.low.block z HZL.out)).trans HX.out
      have HT6 := Lib.hid (HE.out.below hb6)
      have hfu := HU.out.1.below (hlow.trans (hb6.mono hlow.size)) (Nat.le_refl _)
      have HBX := Lib.hid hbx
      obtain ⟨y, hy⟩ : ∃ y, w5.heap.size = y := ⟨_, rfl⟩
      rw [hy] at hbx HBX HT6
      have HW5 := Lib.hid hy
      obtain ⟨f0, f1, f2, f3, ff⟩ := box_cells hbx
      obtain ⟨v0, v1, v2, v3, vf⟩ := box_cells hvx
      have HTW := Lib.hid (twin_any u _ hfu.ok HU.out.2.1)
      have HFU := Lib.hid hfu
      clear hlow hu hb6 hbx hvx hfu
      by_cases h20 : (i : Int) < 20
      · by_cases hne : u.id = v.id
        · have hb1 : (u.id == v.id) = true := by simpa using hne
          have hb2 : (u.id != v.id) = false := by simpa using hne
          clear hne
          go_wp2_with fail
          exact ⟨⟨i + 1, A, by omega, by omega, hA20, by go_num, Lib.hid HT6.out.here⟩, by simp [intOf]; omega⟩
        · have hb1 : (u.id == v.id) = false := by simpa using hne
          have hb2 : (u.id != v.id) = true := by simpa using hne
          clear hne
          have hA30 : A.length + 1 ≤ 20 := by omega
          cases hf : u.form
          · have HFO := Lib.hid hf
            clear hf
            go_wp2_with fail
            refine HTW.out.mono ?_
            intro e' w7 ht
            obtain ⟨t, rfl, i1, i2, i3, i4, hu7, hb7, hge⟩ := ht.vv2 HFU.out
            have hft : t.form = false := by rw [← HFO.out]; unfold Vv.form; rw [i1, i2, i3, i4]
            have HP := Lib.hid (((HT6.out.below hb7)).bad hu7 hft)
            have HS7 := Lib.hid hb7.size
            clear ht i1 i2 i3 i4 hu7 hb7 hge hft
            unfold Vv.val at HP ⊢
            go_wp2_with fail
            refine HP.out.mono ?_
            rintro e' w8 ⟨rfl, h8, hb8⟩
            have H8 := Lib.hid h8
            clear h8 hb8
            go_wp2_with fail
            exact ⟨⟨i + 1, A, by omega, by omega, hA20, by go_num, Lib.hid (H8.out).here⟩, by simp [intOf]; omega⟩
          · have HFO := Lib.hid hf
            clear hf
            go_wp2_with fail
            refine HTW.out.mono ?_
            intro e' w7 ht
            obtain ⟨t, rfl, i1, i2, i3, i4, hu7, hb7, hge⟩ := ht.vv2 HFU.out
            have hft : t.form = true := by rw [← HFO.out]; unfold Vv.form; rw [i1, i2, i3, i4]
            have HP := Lib.hid (((HT6.out.below hb7)).put hu7 hft (by rw [i1]; exact HU.out.2.2.1) (fun ad e hne => by have h1 := hge ad e hne; have h2 := HW5.out; simp only [World.size_alloc] at h1; omega) (by omega))
            clear ht i1 i2 i3 i4 hu7 hb7 hge hft
            unfold Vv.val at HP ⊢
            go_wp2_with fail
            refine HP.out.mono ?_
            rintro e' w8 ⟨rfl, h8, _⟩
            have H8 := Lib.hid h8
            clear h8
            go_wp2_with fail
            exact ⟨⟨i + 1, A ++ [t.vx], by omega, by rw [List.length_append, List.length_singleton]; omega, by rw [List.length_append, List.length_singleton]; omega, by go_num, Lib.hid H8.out⟩, by simp [intOf]; omega⟩
      · go_wp2_with fail
        exact ⟨⟨i + 1, A, by omega, by omega, hA20, by go_num, Lib.hid HT6.out.here⟩, by simp [intOf]; omega⟩
    · obtain rfl : i = n := by omega
      generalize w5 = w6 at *
      have HT := HE
      have HA1 := Lib.hid hA20
      generalize A = A1 at *
      clear HE hAi hA20 hlt hi
      go_wp2_with fail
      go_loopw [49] (fun u wr => ∃ (i : Nat) (A : List Vx), i ≤ l ∧ A.length ≤ i ∧ A.length ≤ 20 ∧ u = .int .i64 i ∧ Hid ((fun N => TwoM wB p q N A1 A wr) wr.heap.size)) (fun u _ => l - (intOf u).toNat)
      case atStart => exact ⟨0, [], by omega, by simp, by simp, rfl, Lib.hid HT.out.here⟩
      case round =>
        obtain ⟨i, A, hi, hAi, hA20, rfl, HE⟩ := hrel
        clear HT
        generalize wr = w5 at *
        by_cases hlt : i < l
        · obtain ⟨u, hu⟩ : ∃ u, Us[i]? = some u := ⟨_, List.getElem?_eq_getElem (by have := HN.out; omega)⟩
          have hlow := HV.out.2.2.2.trans (HE.out.low.mono HV.out.2.2.2.size)
          obtain ⟨g, og, rfl, _, e0, e1, e2, e3⟩ := HI2.out.below hlow hu
          have j1 : (i : Int) < (l : Int) := by omega
          have HU := Lib.hid (HI2.out i u hu).1
          have hb6 : Below w5.heap.size w5 (w5.alloc (.cells #[.int .u32 u.id, .bool u.th, .slice u.po u.P.length u.pc, .slice u.ho u.L.length u.hc] 28)) := (Below.refl _ _).alloc (Nat.le_refl _) _
          have hbx := heap_alloc_new w5 (.cells #[.int .u32 u.id, .bool u.th, .slice u.po u.P.length u.pc, .slice u.ho u.L.length u.hc] 28)
          have hvx := ((hb6.block z (by have := HZL.out; have := HE.out.low.size; omega)).trans (HE.out.low.block z HZL.out)).trans HX.out
          have HT6 := Lib.hid (HE.out.below hb6)
          have hfu := HU.out.1.below (hlow.trans (hb6.mono hlow.size)) (Nat.le_refl _)
          have HBX := Lib.hid hbx
          obtain ⟨y, hy⟩ : ∃ y, w5.heap.size = y := ⟨_, rfl⟩
          rw [hy] at hbx HBX HT6
          have HW5 := Lib.hid hy
          obtain ⟨f0, f1, f2, f3, ff⟩ := box_cells hbx
          obtain ⟨v0, v1, v2, v3, vf⟩ := box_cells hvx
          have HTW := Lib.hid (twin_any u _ hfu.ok HU.out.2.1)
          have HFU := Lib.hid hfu
          clear hlow hu hb6 hbx hvx hfu
          by_cases h20 : (i : Int) < 20
          · by_cases hne : u.id = v.id
            · have hb1 : (u.id == v.id) = true := by simpa using hne
              have hb2 : (u.id != v.id) = false := by simpa using hne
              clear hne
              go_wp2_with fail
              exact ⟨⟨i + 1, A, by omega, by omega, hA20, by go_num, Lib.hid HT6.out.here⟩, by simp [intOf]; omega⟩
            · have hb1 : (u.id == v.id) = false := by simpa using hne
              have hb2 : (u.id != v.id) = true := by simpa using hne
              clear hne
              have hA30 : A.length + 1 ≤ 20 := by omega
              cases hf : u.form
              · have HFO := Lib.hid hf
                clear hf
                go_wp2_with fail
                refine HTW.out.mono ?_
                intro e' w7 ht
                obtain ⟨t, rfl, i1, i2, i3, i4, hu7, hb7, hge⟩ := ht.vv2 HFU.out
                have hft : t.form = false := by rw [← HFO.out]; unfold Vv.form; rw [i1, i2, i3, i4]
                have HP := Lib.hid (((HT6.out.below hb7).swap).bad hu7 hft)
                have HS7 := Lib.hid hb7.size
                clear ht i1 i2 i3 i4 hu7 hb7 hge hft
                unfold Vv.val at HP ⊢
                go_wp2_with fail
                refine HP.out.mono ?_
                rintro e' w8 ⟨rfl, h8, hb8⟩
                have H8 := Lib.hid h8
                clear h8 hb8
                go_wp2_with fail
                exact ⟨⟨i + 1, A, by omega, by omega, hA20, by go_num, Lib.hid (H8.out.swap).here⟩, by simp [intOf]; omega⟩
              · have HFO := Lib.hid hf
                clear hf
                go_wp2_with fail
                refine HTW.out.mono ?_
                intro e' w7 ht
                obtain ⟨t, rfl, i1, i2, i3, i4, hu7, hb7, hge⟩ := ht.vv2 HFU.out
                have hft : t.form = true := by rw [← HFO.out]; unfold Vv.form; rw [i1, i2, i3, i4]
                have HP := Lib.hid (((HT6.out.below hb7).swap).put hu7 hft (by rw [i1]; exact HU.out.2.2.1) (fun ad e hne => by have h1 := hge ad e hne; have h2 := HW5.out; simp only [World.size_alloc] at h1; omega) (by omega))
                clear ht i1 i2 i3 i4 hu7 hb7 hge hft
                unfold Vv.val at HP ⊢
                go_wp2_with fail
                refine HP.out.mono ?_
                rintro e' w8 ⟨rfl, h8, _⟩
                have H8 := Lib.hid h8
                clear h8
                go_wp2_with fail
                exact ⟨⟨i + 1, A ++ [t.vx], by omega, by rw [List.length_append, List.length_singleton]; omega, by rw [List.length_append, List.length_singleton]; omega, by go_num, Lib.hid H8.out.swap⟩, by simp [intOf]; omega⟩
          · go_wp2_with fail
            exact ⟨⟨i + 1, A, by omega, by omega, hA20, by go_num, Lib.hid HT6.out.here⟩, by simp [intOf]; omega⟩
        · obtain rfl : i = l := by omega
          have HA2 := Lib.hid hA20
          have hvx := (HE.out.low.block z HZL.out).trans HX.out
          obtain ⟨v0, v1, v2, v3, vf⟩ := box_cells hvx
          have HLW := Lib.hid (HV.out.2.2.2.trans (HE.out.low.mono HV.out.2.2.2.size))
          generalize w5 = w7 at *
          clear hvx hAi hA20 hlt hi hlm hlm2
          go_wp2_with fail
          refine (HE.out.swap.of HV.out.2.2.1).mono ?_
          rintro e w8 ⟨rfl, rfl⟩
          obtain ⟨c, hc⟩ : ∃ c : Nat, ofG (holdAll A) v.id = c := ⟨_, rfl⟩
          rw [hc]
          have HC := Lib.hid hc
          have hfv := HV.out.1.below HE.out.low (Nat.le_refl _)
          have HTW := Lib.hid (twin_any v w7 hfv.ok HV.out.2.1)
          have HFV := Lib.hid hfv
          clear hc hfv
          go_wp2_with fail
          refine HTW.out.mono ?_
          intro e' w8 ht
          obtain ⟨t, rfl, i1, i2, i3, i4, hu8, hb8, hge⟩ := ht.vv2 HFV.out
          have hft : t.form = true := by rw [← HF.out.1]; unfold Vv.form; rw [i1, i2, i3, i4]
          have HP := Lib.hid ((HE.out.here.below hb8).put hu8 hft (by rw [i1]; exact HV.out.2.2.1) hge (by have := HA1.out; omega))
          have HI := Lib.hid (And.intro i1 (And.intro i2 i4))
          have HB8 := Lib.hid hb8
          clear ht i1 i2 i3 i4 hu8 hb8 hge hft HTW HFV
          unfold Vv.val at HP ⊢
          go_wp2_with fail
          refine HP.out.mono ?_
          rintro e' w9 ⟨rfl, h9, _⟩
          have H9 := Lib.hid h9
          have hof := h9.of HV.out.2.2.1
          rw [holdAll_snoc, show t.vx.id = v.id from HI.out.1, show t.vx.th = true from HI.out.2.1.trans HF.out.2, of_held] at hof
          have HO1 := Lib.hid hof
          have hof2 := h9.swap.of HV.out.2.2.1
          rw [HC.out] at hof2
          have HO2 := Lib.hid hof2
          have hvx := (h9.low.block z HZL.out).trans HX.out
          obtain ⟨v0', v1', v2', v3', vf'⟩ := box_cells hvx
          have HG := Lib.hid (h9.put (gone_fit v.id w9) (gone_form HF.out.1) HV.out.2.2.1 (fun ad e => by cases e) (by rw [List.length_append, List.length_singleton]; have := HA1.out; omega))
          clear h9 hof hof2 hvx v0 v1 v2 v3 vf
          unfold Vv.val goneV at HG
          go_wp2_with fail
          refine HO1.out.mono ?_
          rintro e' w10 ⟨rfl, rfl⟩
          go_wp2_with fail
          refine HO2.out.mono ?_
          rintro e' w10 ⟨rfl, rfl⟩
          go_wp2_with fail
          refine HG.out.mono ?_
          rintro e' w11 ⟨rfl, h11, _⟩
          have H11 := Lib.hid h11
          have hvx := (h11.low.block z HZL.out).trans HX.out
          obtain ⟨v0, v1, v2, v3, vf⟩ := box_cells hvx
          have hfv := HV.out.1.below h11.low (Nat.le_refl _)
          have HTW := Lib.hid (twin_any v w11 hfv.ok HV.out.2.1)
          have HFV := Lib.hid hfv
          clear h11 hvx hfv v0' v1' v2' v3' vf'
          unfold Vv.val at HTW
          go_wp2_with fail
          refine HTW.out.mono ?_
          intro e' w12 ht
          obtain ⟨s, rfl, i1, i2, i3, i4, hu12, hb12, hge⟩ := ht.vv2 HFV.out
          have hft : s.form = true := by rw [← HF.out.1]; unfold Vv.form; rw [i1, i2, i3, i4]
          have HP2 := Lib.hid ((H11.out.here.below hb12).swap.put hu12 hft (by rw [i1]; exact HV.out.2.2.1) hge (by have := HA2.out; omega))
          have HI2' := Lib.hid (And.intro i1 i2)
          clear ht i1 i2 i3 i4 hu12 hb12 hge hft
          unfold Vv.val at HP2 ⊢
          go_wp2_with fail
          refine HP2.out.mono ?_
          rintro e' w13 ⟨rfl, h13, _⟩
          have hof := h13.of HV.out.2.2.1
          rw [holdAll_snoc, show s.vx.id = v.id from HI2'.out.1, show s.vx.th = true from HI2'.out.2.trans HF.out.2, of_held] at hof
          have HO3 := Lib.hid hof
          have HO4 := Lib.hid (h13.swap.of HV.out.2.2.1)
          have hvx := (h13.low.block z HZL.out).trans HX.out
          obtain ⟨v0', v1', v2', v3', vf'⟩ := box_cells hvx
          have HLast := Lib.hid (HV.out.2.2.2.trans (h13.low.mono HV.out.2.2.2.size))
          clear h13 hof hvx v0 v1 v2 v3 vf
          go_wp2_with fail
          refine HO3.out.mono ?_
          rintro e' w14 ⟨rfl, rfl⟩
          go_wp2_with fail
          refine HO4.out.mono ?_
          rintro e' w14 ⟨rfl, rfl⟩
          generalize ofG _ v.id = k
          have hk0 : (0 : Int) ≤ (k : Int) := by omega
          go_wp2_with fail
          go_ret
          exact ⟨rfl, HLast.out⟩
end Go.Proofs.Ytgjjfodogkcmmaa.Gh
