/- plate: the law on pages apart, walked. -/
import Derived.Test.YtjfbgihjgnbeeaaW14
namespace Go.Proofs.Ytjfbgihjgnbeeaa.Pl
open Go Go.RowKit
attribute [local go_sem ↓] Go.wp_at_zero Go.wp_at_succ
theorem if_step {c A E : Prop} [Decidable c] (hc : c) (h : A) : if c then A else E := by rw [if_pos hc]; exact h
/-- A plate that is on, with eight pages, unarmed, with few writes so far. -/
def Fine (s : PSt) (k : Nat) : Prop := s.N = 8 ∧ s.off = false ∧ s.left = 0 ∧ s.op.length ≤ k ∧ s.ops ≤ k
theorem fine_ends (L : List OpV) : Fine (ends L) 31 := by
  obtain ⟨h1, h2, h3, h4, h5⟩ := ends_ok L
  exact ⟨h1, h2, h3, by rw [h4]; decide, h5⟩
theorem Fine.wrote {s : PSt} {k : Nat} (h : Fine s k) (i : Int) (c : Array Value) : Fine (Pl.wrote s i c) (k + 1) := by
  obtain ⟨h1, h2, h3, h4, h5⟩ := h
  refine ⟨h1, by simp [Pl.wrote, Of, h3], by simp [Pl.wrote, Lf, h3], by simp [Pl.wrote]; omega, by simp only [Pl.wrote]; omega⟩
theorem Fine.flushed {s : PSt} {k : Nat} (h : Fine s k) : Fine (Pl.flushed s) (k + 1) := by
  obtain ⟨h1, h2, h3, h4, h5⟩ := h
  unfold Pl.flushed
  rw [if_neg (by omega)]
  exact ⟨h1, h2, by simp [Lf, h3], by simp, by simp only; omega⟩
theorem An0 {s : PSt} {k : Nat} (h : Fine s k) : An s.left = 0 := by simp [An, h.2.2.1]
theorem flushed_pg (s : PSt) : (flushed s).pg = s.pg := by unfold flushed; split <;> rfl
theorem pt_write0 {B b bm m : Nat} {G : Nat → Prop} {s : PSt} {W : World} {k : Nat} (h : Pt B b bm m G s W) (hF : Fine s k) (hk : k ≤ 1000) (hm : m ≤ 1000) (i : Nat) (hi : i < 8) (g : Nat) (len cap : Nat) (bs : List Value) (hl : bs.length = len) (hlen : len ≤ 64) (hs : Src W (some ⟨g, 0, none⟩) bs) :
    Calls Try.prog 16 #[.pointer (some ⟨b, 0, none⟩), .int .i64 i, .slice (some ⟨g, 0, none⟩) len cap] W fun e w' => e = .returned (.int .i64 0) ∧ Pt B b bm (m + 1) G (wrote s i (pageOf bs)) w' ∧ Below B W w' ∧ Same G W w' := by
  have := pt_write h i (some ⟨g, 0, none⟩) len cap bs hF.2.1 (by omega) (by rw [hF.1]; omega) hl hlen hs (by omega) (by have := hF.2.2.2.2; omega) (by have := hF.2.2.2.1; omega)
  rwa [An0 hF] at this
theorem pt_flush0 {B b bm m : Nat} {G : Nat → Prop} {s : PSt} {W : World} {k : Nat} (h : Pt B b bm m G s W) (hF : Fine s k) (hk : k ≤ 1000) :
    Calls Try.prog 18 #[.pointer (some ⟨b, 0, none⟩)] W fun e w' => e = .returned (.int .i64 0) ∧ Pt B b bm m G (flushed s) w' ∧ Below B W w' ∧ Same G W w' := by
  have := pt_flush h hF.2.1 (by have := hF.2.2.2.2; omega)
  rwa [An0 hF] at this
/-- A cell of an elder block, and all that is below. -/
def Two (w9 : World) (p : Addr) (v : Value) (W : World) : Prop := W.cell? p = some v ∧ Hid (Below w9.heap.size w9 W)
theorem Two.on {w9 wc wn : World} {p : Addr} {v : Value} (h : wc.cell? p = some v ∧ Hid (Below w9.heap.size w9 wc)) (hb : Below wc.heap.size wc wn) : wn.cell? p = some v ∧ Hid (Below w9.heap.size w9 wn) :=
  ⟨(hb.cell (World.block_lt_of_cell? wc _ h.1)).trans h.1, Lib.hid (h.2.out.trans (hb.mono h.2.out.size))⟩
theorem Two.grown {w9 wc wn : World} {p : Addr} {v : Value} {g : Nat} (h : wc.cell? p = some v ∧ Hid (Below w9.heap.size w9 wc)) (hg : wc.grownBy wn (some g)) (hp : p.block < w9.heap.size) (hgn : w9.heap.size ≤ g) : wn.cell? p = some v ∧ Hid (Below w9.heap.size w9 wn) :=
  ⟨hg.cell h.1 (fun e => by injection e with e; omega), Lib.hid (h.2.out.grown hg h.2.out.size (fun k hk => by injection hk with hk; omega))⟩
set_option maxRecDepth 100000 in
set_option maxHeartbeats 4000000 in
theorem apart_any (ao : Option Addr) (n c : Nat) (L : List OpV) (i : Int) (aoa : Option Addr) (la ca : Nat) (xa : List Value) (aob : Option Addr) (lb cb : Nat) (bs : List Value) (w : World)
    (hn : L.length = n) (hc : n ≤ maxLen) (hA : OpsAt w ao L) (hr : ∀ o ∈ L, 0 ≤ o.kd ∧ o.kd ≤ 255 ∧ -9223372036854775808 ≤ o.ix ∧ o.ix ≤ 9223372036854775807)
    (hla : xa.length = la) (hca : la ≤ ca) (hma : ca ≤ maxLen) (hsa : Src w aoa xa) (hna : aoa = none → ca = 0)
    (hlb : bs.length = lb) (hcb : lb ≤ cb) (hmb : cb ≤ maxLen) (hsb : Src w aob bs) (hnb : aob = none → cb = 0) :
    Calls Try.prog 7 #[.slice ao n c, .int .i64 i, .slice aoa la ca, .slice aob lb cb] w fun e w' => e = .returned (.bool true) ∧ Below w.heap.size w w' := by
  unfold maxLen at hma hmb
  have HN := Lib.hid (And.intro hn hc)
  have HA := Lib.hid hA
  have HR := Lib.hid hr
  have HSA := Lib.hid hsa
  have HSB := Lib.hid hsb
  have HNA := Lib.hid (And.intro hla hna)
  have HNB := Lib.hid (And.intro hlb hnb)
  obtain ⟨k, hk⟩ : ∃ k : Nat, i % 8 = (k : Int) := ⟨(i % 8).toNat, by omega⟩
  have hk8 : k < 8 := by omega
  have hw8 := wrap8 i
  rw [hk] at hw8
  clear hk
  obtain ⟨qa, hqa⟩ : ∃ q : Nat, q = min la 64 := ⟨_, rfl⟩
  obtain ⟨qb, hqb⟩ : ∃ q : Nat, q = min lb 64 := ⟨_, rfl⟩
  have hqma : (if (64 : Int) < (la : Int) then (64 : Int) else (la : Int)) = (qa : Int) := by split <;> omega
  have hqmb : (if (64 : Int) < (lb : Int) then (64 : Int) else (lb : Int)) = (qb : Int) := by split <;> omega
  have hqa1 : (qa : Int) ≤ (ca : Int) := by omega
  have hqb1 : (qb : Int) ≤ (cb : Int) := by omega
  have hqa0 : (0 : Int) ≤ (qa : Int) := by omega
  have hqb0 : (0 : Int) ≤ (qb : Int) := by omega
  have HQA := Lib.hid (show (xa.take 64).length = qa ∧ qa ≤ 64 ∧ (aoa = none → qa = 0 ∧ ca = 0) from ⟨by rw [List.length_take]; omega, by omega, fun e => by have := hna e; omega⟩)
  have HQB := Lib.hid (show (bs.take 64).length = qb ∧ qb ≤ 64 ∧ (aob = none → qb = 0 ∧ cb = 0) from ⟨by rw [List.length_take]; omega, by omega, fun e => by have := hnb e; omega⟩)
  clear hn hc hA hr hsa hsb hla hna hlb hnb hqa hqb
  go_enter Try.func7, Try.ntmps7
  go_wp2_with fail
  refine (awake_any w).mono ?_
  rintro e w1 ⟨rfl, hB1⟩
  have HB1 := Lib.hid hB1
  clear hB1
  go_wp2_with fail
  refine (some_any ao n c L w1 HN.out.1 HN.out.2 (HA.out.below HB1.out) HR.out).mono ?_
  rintro e w2 hS
  obtain ⟨b, bm, rfl, hP2, hB2⟩ := pt_some hS
  have HP2 := Lib.hid hP2
  have HB2 := Lib.hid (HB1.out.trans (hB2.mono HB1.out.size))
  clear hS hP2 hB2
  go_wp2_with fail
  refine (pt_pages HP2.out (fine_ends L).2.1 (fine_ends L).1).mono ?_
  rintro e w3 ⟨g3, c3, rfl, hc3, hS3, hP3, hB3⟩
  have HS3 := Lib.hid hS3
  have HP3 := Lib.hid hP3
  have HB3 := Lib.hid (HB2.out.trans (hB3.mono HB2.out.size))
  clear hS3 hP3 hB3
  generalize (fun j => False ∨ (w2.heap.size ≤ j ∧ j < w3.heap.size)) = G at *
  go_wp2_with fail
  go_region
  go_wp2_with fail
  have hd3 : Below w3.heap.size w3 w3.drew := (Below.refl _ _).drew
  have HPd := Lib.hid (HP3.out.below hd3)
  have HSd := Lib.hid (HS3.out.on (Same.of_below hd3 HP3.out.fits))
  have HBd := Lib.hid (HB3.out.trans (hd3.mono HB3.out.size))
  clear hd3 HP3 HS3 HB3
  generalize w3.drew = wd at *
  refine (twin_any aoa qa ca (xa.take 64) wd HQA.out.1 (by have := HQA.out.2.1; omega) ((HSA.out.below HBd.out).take 64) HQA.out.2.2).mono ?_
  rintro e w4 ⟨g4, c4, rfl, hO4, hB4⟩
  have HSr4 := Lib.hid (own_src hO4 (fun x hx => HSA.out.2 x (List.mem_of_mem_take hx)))
  have HP4 := Lib.hid (HPd.out.below hB4)
  have HS4 := Lib.hid (HSd.out.on (Same.of_below hB4 HPd.out.fits))
  have HB4 := Lib.hid (HBd.out.trans (hB4.mono HBd.out.size))
  clear hO4 hB4 HPd HSd HBd
  go_wp2_with fail
  refine (pt_write0 HP4.out (fine_ends L) (by decide) (by decide) k hk8 g4 qa c4 (xa.take 64) HQA.out.1 HQA.out.2.1 HSr4.out).mono ?_
  rintro e w5 ⟨rfl, hP5, hB5, hS5⟩
  have HP5 := Lib.hid hP5
  have HS5 := Lib.hid (HS4.out.on hS5)
  have HB5 := Lib.hid (HB4.out.trans (hB5.mono HB1.out.size))
  clear hP5 hB5 hS5 HP4 HS4 HB4 HSr4
  go_wp2_with fail
  refine (twin_any aob qb cb (bs.take 64) w5 HQB.out.1 (by have := HQB.out.2.1; omega) ((HSB.out.below HB5.out).take 64) HQB.out.2.2).mono ?_
  rintro e w6 ⟨g6, c6, rfl, hO6, hB6⟩
  have HSr6 := Lib.hid (own_src hO6 (fun x hx => HSB.out.2 x (List.mem_of_mem_take hx)))
  have HP6 := Lib.hid (HP5.out.below hB6)
  have HS6 := Lib.hid (HS5.out.on (Same.of_below hB6 HP5.out.fits))
  have HB6 := Lib.hid (HB5.out.trans (hB6.mono HB5.out.size))
  clear hO6 hB6 HP5 HS5 HB5
  go_wp2_with fail
  refine (pt_write0 HP6.out ((fine_ends L).wrote _ _) (by decide) (by decide) k hk8 g6 qb c6 (bs.take 64) HQB.out.1 HQB.out.2.1 HSr6.out).mono ?_
  rintro e w7 ⟨rfl, hP7, hB7, hS7⟩
  have HP7 := Lib.hid hP7
  have HS7 := Lib.hid (HS6.out.on hS7)
  have HB7 := Lib.hid (HB6.out.trans (hB7.mono HB1.out.size))
  clear hP7 hB7 hS7 HP6 HS6 HB6 HSr6
  go_wp2_with fail
  refine (pt_flush0 HP7.out (((fine_ends L).wrote _ _).wrote _ _) (by decide)).mono ?_
  rintro e w8 ⟨rfl, hP8, hB8, hS8⟩
  have HP8 := Lib.hid hP8
  have HS8 := Lib.hid (HS7.out.on hS8)
  have HB8 := Lib.hid (HB7.out.trans (hB8.mono HB1.out.size))
  clear hP8 hB8 hS8 HP7 HS7 HB7
  go_wp2_with fail
  have HF8 := ((((fine_ends L).wrote k (pageOf (xa.take 64))).wrote k (pageOf (bs.take 64))).flushed)
  refine (pt_pages HP8.out HF8.2.1 HF8.1).mono ?_
  rintro e w9 ⟨g9, c9, rfl, hc9, hS9, hP9, hB9⟩
  have HS39 := Lib.hid ((HS8.out.on (Same.of_below hB9 HP8.out.fits)).more (H := fun j => G j ∨ (w8.heap.size ≤ j ∧ j < w9.heap.size)) (fun _ h => .inl h))
  have hpg : (flushed (wrote (wrote (ends L) k (pageOf (xa.take 64))) k (pageOf (bs.take 64)))).pg = upd (upd (ends L).pg k (pageOf (xa.take 64))) k (pageOf (bs.take 64)) := by rw [flushed_pg]; rfl
  rw [hpg] at hS9
  have HS9 := Lib.hid hS9
  have HB9 := Lib.hid (HB8.out.trans (hB9.mono HB8.out.size))
  have HP9 := Lib.hid hP9
  clear hS9 hP9 hB9 HP8 HS8 HB8 HF8 hpg
  generalize (fun j => G j ∨ (w8.heap.size ≤ j ∧ j < w9.heap.size)) = G' at *
  have HG9 := Lib.hid HP9.out.fits
  clear HP9
  obtain ⟨q9, hq9, hc9k, hb9⟩ := HS9.out.2.2 k hk8
  have hp9 : IsPage _ := HS9.out.2.1 k
  have hpk : upd (upd (ends L).pg k (pageOf (xa.take 64))) k (pageOf (bs.take 64)) k = pageOf (bs.take 64) := by simp [upd]
  have hq9l := HG9.out q9 hq9
  have hg9l := HG9.out g9 HS9.out.1
  obtain ⟨r, hr⟩ : ∃ r : Nat, (64 : Int) - (qb : Int) = (r : Int) := ⟨64 - qb, by have := HQB.out.2.1; omega⟩
  have hwr : IntKind.i64.wrap (r : Int) = (r : Int) := by simp [IntKind.wrap, IntKind.bits, IntKind.signed]; omega
  have hr1 : qb + r = 64 := by omega
  have k64 : (k : Int) < 8 := by omega
  have HT := Lib.hid (show ∀ W, (W.cell? ⟨g9, k, none⟩ = some (.slice (some ⟨q9, 0, none⟩) 64 64) ∧ Hid (Below w9.heap.size w9 W)) → Calls Try.prog 15 #[.slice aob qb cb] W (fun e w' => ∃ g c, e = .returned (.slice (some ⟨g, 0, none⟩) qb c) ∧ w'.ownsRow w9.heap.size 5 1 (.slice (some ⟨g, 0, none⟩) qb c) qb (bs.take 64) ∧ w9.heap.size ≤ g ∧ Below W.heap.size W w') from fun W hW =>
    (twin_any aob qb cb _ W HQB.out.1 (by have := HQB.out.2.1; omega) (((HSB.out.below HB9.out).on (below_grown hW.2.out) (fun _ _ => by simp)).take 64) HQB.out.2.2).mono (fun e w' ⟨g, c, h1, h2, h3⟩ => ⟨g, c, h1, h2.low hW.2.out.size, Nat.le_trans hW.2.out.size (World.ownsRow.lt h2 g rfl).1, h3⟩))
  have HQ := Lib.hid (show ∀ W, (W.cell? ⟨g9, k, none⟩ = some (.slice (some ⟨q9, 0, none⟩) 64 64) ∧ Hid (Below w9.heap.size w9 W)) → ∀ g' c', W.ownsRow w9.heap.size 5 1 (.slice (some ⟨g', 0, none⟩) (qb + r) c') (qb + r) (bs.take 64 ++ zs r) →
      Calls Try.prog 22 #[.slice (some ⟨q9, 0, none⟩) 64 64, .slice (some ⟨g', 0, none⟩) (qb + r) c'] W fun e w' => e = .returned (.bool true) ∧ Below W.heap.size W w' from fun W hW g' c' hO =>
    same_zeros ((hW.2.out.block q9 hq9l).trans hb9) hp9 hpk HQB.out.1 hr1 (own_src hO (fun x hx => (List.mem_append.1 hx).elim (fun h => HSB.out.2 x (List.mem_of_mem_take h)) (zs_byte x))) 64)
  have Y9 := Lib.hid (show w9.cell? ⟨g9, k, none⟩ = some (.slice (some ⟨q9, 0, none⟩) 64 64) ∧ Hid (Below w9.heap.size w9 w9) from ⟨hc9k, Lib.hid (Below.refl _ _)⟩)
  have Z9 := Lib.hid (show w9.drew.cell? ⟨g9, k, none⟩ = some (.slice (some ⟨q9, 0, none⟩) 64 64) ∧ Hid (Below w9.heap.size w9 w9.drew) from ⟨hc9k, Lib.hid (Below.refl _ _).drew⟩)
  have hr1' := Lib.hid hr1
  clear hq9 hb9 hp9 hpk hr1
  go_wp2_with fail
  go_region_held3 (fun w' => w'.cell? ⟨g9, k, none⟩ = some (.slice (some ⟨q9, 0, none⟩) 64 64) ∧ Hid (Below w9.heap.size w9 w'))
    (first | exact Y9.out | exact Z9.out | exact Y16 | exact Y15 | exact Two.on (by assumption) bM)
    (first
      | (have hh := b15; clear hh; refine step_append_made (by kernel_rfl) (.tmp 79) (.tmp 82) (by rfl) w9.heap.size g15 qb c15 r (bs.take 64) (by rfl) (by rfl) O15 Y15.2.out.size (by have := HQB.out.2.1; omega) (by omega) ?_; intro g16 c16 w16 O16 G16 A16; have Y16 := Two.grown (w9 := w9) (by assumption) G16 hg9l L15)
      | (go_at_call 22; refine (HQ.out _ (by assumption) _ _ O16).mono ?_; rintro e w17 ⟨rfl, bM⟩)
      | (go_at_call 15; refine (HT.out _ (by assumption)).mono ?_; rintro e w15 ⟨g15, c15, rfl, O15, L15, b15⟩; have Y15 := Two.on (w9 := w9) (by assumption) b15))
  have hY17 := Two.on (w9 := w9) Y16 bM
  have HB17 := hY17.2
  clear O15 L15 b15 Y15 O16 G16 A16 Y16 bM hY17 Y9 Z9 HT HQ HP2 HB2
  rename_i hHeld
  clear hHeld
  go_wp2_with fail
  go_loopw [89] (fun i wr => ∃ j : Nat, j ≤ 8 ∧ i = .int .i64 j ∧ Hid (Below w9.heap.size w9 wr)) (fun i _ => 8 - (intOf i).toNat)
  case atStart => exact ⟨0, by omega, rfl, HB17⟩
  case round =>
    obtain ⟨j, hj, rfl, HBr⟩ := hrel
    clear HB17
    by_cases hlt : j < 8
    · have hs9 : Same G' w9 wr := Same.of_below HBr.out HG9.out
      obtain ⟨p1, hp1, hc1, hb1⟩ := (HS9.out.on hs9).2.2 j hlt
      obtain ⟨p2, hp2, hc2, hb2⟩ := (HS39.out.on hs9).2.2 j hlt
      have i1 := HS9.out.2.1 j
      have i2 := HS39.out.2.1 j
      clear hs9 hp1 hp2
      by_cases hjk : j = k
      · have hne : decide ((j : Int) ≠ (k : Int)) = false := by simp [hjk]
        go_wp2_with fail
        go_region
        go_wp2_with fail
        go_roundw
        case rel => exact ⟨j + 1, by omega, by go_num, Lib.hid HBr.out.drew⟩
        case measure => simp [intOf]; omega
      · have hne : ((j : Int) == (k : Int)) = false := by simp; omega
        have hne2 : ((j : Int) != (k : Int)) = true := by simp; omega
        have hne3 : ¬ (j : Int) = (k : Int) := by omega
        have hne4 : decide ((j : Int) = (k : Int)) = false := by simp; omega
        have epg : upd (upd (ends L).pg k (pageOf (xa.take 64))) k (pageOf (bs.take 64)) j = (ends L).pg j := by simp [upd, hne3]
        have HQ := Lib.hid (show ∀ W, ((W.cell? ⟨g9, j, none⟩ = some (.slice (some ⟨p1, 0, none⟩) 64 64) ∧ W.cell? ⟨g3, j, none⟩ = some (.slice (some ⟨p2, 0, none⟩) 64 64)) ∧ Hid (Below wr.heap.size wr W)) →
            Calls Try.prog 22 #[.slice (some ⟨p1, 0, none⟩) 64 64, .slice (some ⟨p2, 0, none⟩) 64 64] W fun e w' => e = .returned (.bool true) ∧ Below W.heap.size W w' from fun W hW =>
          same_pages ((hW.2.out.block p1 (block_lt hb1)).trans hb1) ((hW.2.out.block p2 (block_lt hb2)).trans hb2) i1 i2 epg 64 64)
        have Y := Lib.hid (show ((wr.cell? ⟨g9, j, none⟩ = some (.slice (some ⟨p1, 0, none⟩) 64 64) ∧ wr.cell? ⟨g3, j, none⟩ = some (.slice (some ⟨p2, 0, none⟩) 64 64)) ∧ Hid (Below wr.heap.size wr wr)) from ⟨⟨hc1, hc2⟩, Lib.hid (Below.refl _ _)⟩)
        clear hb1 hb2 i1 i2 epg
        have hj8 : (j : Int) < 8 := by omega
        go_wp2_with fail
        go_region_held3 (fun w' => (w'.cell? ⟨g9, j, none⟩ = some (.slice (some ⟨p1, 0, none⟩) 64 64) ∧ w'.cell? ⟨g3, j, none⟩ = some (.slice (some ⟨p2, 0, none⟩) 64 64)) ∧ Hid (Below wr.heap.size wr w'))
          (first | exact Y.out | exact ⟨⟨hc1, hc2⟩, Lib.hid (Below.refl _ _).drew⟩ | exact ⟨⟨(bM.cell (World.block_lt_of_cell? wr _ hc1)).trans hc1, (bM.cell (World.block_lt_of_cell? wr _ hc2)).trans hc2⟩, Lib.hid bM⟩)
          (first
            | (go_at_call 22; refine (HQ.out _ (by assumption)).mono ?_; rintro e w20 ⟨rfl, bM'⟩; have bM : Below wr.heap.size wr w20 := ((Below.refl wr.heap.size wr).drew).trans (show Below wr.heap.size wr.drew w20 from bM')))
        have HB20 := Lib.hid (HBr.out.trans (bM.mono HBr.out.size))
        clear bM Y HQ
        rename_i hHeld
        clear hHeld
        go_wp2_with fail
        go_roundw
        case rel => exact ⟨j + 1, by omega, by go_num, HB20⟩
        case measure => simp [intOf]; omega
    · obtain rfl : j = 8 := by omega
      go_wp2_with fail
      go_ret
      exact ⟨rfl, HB9.out.trans (HBr.out.mono HB9.out.size)⟩
end Go.Proofs.Ytjfbgihjgnbeeaa.Pl
