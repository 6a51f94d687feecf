/- ghost: Put of a tally, walked. -/
import Derived.Test.YtgjjfodogkcmmaaN3
import Derived.Test.YtgjjfodogkcmmaaT4
namespace Go.Proofs.Ytgjjfodogkcmmaa.Gh
open Go Go.RowKit Ytgjjfodogkcmmaa.So Ytgjjfodogkcmmaa.Vl
set_option maxRecDepth 100000 in
set_option maxHeartbeats 1000000 in
/-- A vertex that is not in form changes nothing. -/
theorem put20_bad (p : Nat) (v : Vv) (w : World) (hv : v.fit w) (hf : v.form = false) :
    Calls Try.prog 20 #[.pointer (some ⟨p, 0, none⟩), v.val] w fun e w' => e = .returned (.int .i64 3) ∧ Below w.heap.size w w' := by
  have hb0 := (Below.refl w.heap.size w).alloc (Nat.le_refl _) (.cells #[.int .u32 v.id, .bool v.th, .slice v.po v.P.length v.pc, .slice v.ho v.L.length v.hc] 28)
  have HV := Lib.hid (hv.below hb0 (Nat.le_refl _))
  have HB := Lib.hid hb0
  have hx := heap_alloc_new w (.cells #[.int .u32 v.id, .bool v.th, .slice v.po v.P.length v.pc, .slice v.ho v.L.length v.hc] 28)
  unfold Vv.val
  obtain ⟨W, hW⟩ : ∃ W, w.alloc (.cells #[.int .u32 v.id, .bool v.th, .slice v.po v.P.length v.pc, .slice v.ho v.L.length v.hc] 28) = W := ⟨_, rfl⟩
  obtain ⟨x, hxx⟩ : ∃ x, w.heap.size = x := ⟨_, rfl⟩
  rw [hW] at HV HB hx
  have HXX := Lib.hid hxx
  rw [hxx] at hx
  have hxl := (Array.getElem?_eq_some_iff.1 hx).1
  obtain ⟨x0, x1, x2, x3⟩ : W.cell? ⟨x, 0, none⟩ = some (.int .u32 v.id) ∧ W.cell? ⟨x, 1, none⟩ = some (.bool v.th) ∧ W.cell? ⟨x, 2, none⟩ = some (.slice v.po v.P.length v.pc) ∧ W.cell? ⟨x, 3, none⟩ = some (.slice v.ho v.L.length v.hc) := by simp [World.cell?, hx]
  clear hb0 hv hx
  have HF := Lib.hid hf
  clear hf
  go_enter Try.func20, Try.ntmps20
  go_wp2_with fail
  go_region_held3 (fun w' => w'.cell? ⟨x, 0, none⟩ = some (.int .u32 v.id) ∧ w'.cell? ⟨x, 1, none⟩ = some (.bool v.th) ∧ w'.cell? ⟨x, 2, none⟩ = some (.slice v.po v.P.length v.pc) ∧ w'.cell? ⟨x, 3, none⟩ = some (.slice v.ho v.L.length v.hc))
    (first | exact ⟨x0, x1, x2, x3⟩ | exact U1 | exact U2)
    (first
      | (go_at_call 35; refine (new35 _).mono ?_; rintro e' w1 ⟨g, p1, q1, rfl, hn, hb1⟩; have hb1' := (Below.refl _ W).drew.trans hb1; have U1 := four_on x0 x1 x2 x3 (fun k hk => hb1'.block k (hk ▸ hxl)); have HN := Lib.hid (And.intro hn hb1'); clear hn hb1 hb1')
      | (go_at_call 36; refine (put36 _ _ _ _ _ v _ HN.out.1 (HV.out.below HN.out.2 (Nat.le_refl _))).mono ?_; rw [HF.out]; rintro e' w2 ⟨rfl, hb2⟩; have hb2' := (Below.refl W.heap.size W).drew.trans hb2; have U2 := four_on x0 x1 x2 x3 (fun k hk => hb2'.block k (hk ▸ hxl)); have H2 := Lib.hid hb2'; clear hb2 hb2'))
  all_goals (
    go_wp2_with fail
    go_ret
    first | exact ⟨rfl, HB.out.trans (H2.out.mono HB.out.size)⟩ | exact ⟨rfl, by rw [← HXX.out]; exact HB.out.trans (H2.out.mono HB.out.size)⟩)
/-- What Put leaves. -/
def PutD (w : World) (B m p : Nat) (F : Nat → Prop) (S : GS) (v : Vv) (w' : World) : Prop := Did w B (m + (rowG S v.id).length + v.L.length + 1) F p (holdG S v.id v.th (v.L.map Prod.fst)) w'
set_option maxRecDepth 100000 in
set_option maxHeartbeats 1000000 in
theorem put20_good (B m p : Nat) (F : Nat → Prop) (S : GS) (v : Vv) (w : World) (hT : Tl w B m F p S) (hv : v.fit w) (hf : v.form = true) (hk : In32 v.id) (hFo : ∀ ad, v.ho = some ad → v.L ≠ [] → ¬ F ad.block) (hl2 : (rowG S v.id).length ≤ 1000) (hm : m ≤ 1000000000) :
    Calls Try.prog 20 #[.pointer (some ⟨p, 0, none⟩), v.val] w fun e w' => e = .returned (.int .i64 0) ∧ PutD w B m p F S v w' := by
  have hb0 := (Below.refl w.heap.size w).alloc (Nat.le_refl _) (.cells #[.int .u32 v.id, .bool v.th, .slice v.po v.P.length v.pc, .slice v.ho v.L.length v.hc] 28)
  have HV := Lib.hid (hv.below hb0 (Nat.le_refl _))
  have HB := Lib.hid hb0
  have HT := Lib.hid (hT.below hb0)
  have HK := Lib.hid (And.intro hk (And.intro hFo (And.intro hl2 hm)))
  have hx := heap_alloc_new w (.cells #[.int .u32 v.id, .bool v.th, .slice v.po v.P.length v.pc, .slice v.ho v.L.length v.hc] 28)
  unfold Vv.val
  obtain ⟨W, hW⟩ : ∃ W, w.alloc (.cells #[.int .u32 v.id, .bool v.th, .slice v.po v.P.length v.pc, .slice v.ho v.L.length v.hc] 28) = W := ⟨_, rfl⟩
  obtain ⟨x, hxx⟩ : ∃ x, w.heap.size = x := ⟨_, rfl⟩
  rw [hW] at HV HB HT hx
  have HXX := Lib.hid hxx
  rw [hxx] at hx
  have hxl := (Array.getElem?_eq_some_iff.1 hx).1
  obtain ⟨x0, x1, x2, x3⟩ : W.cell? ⟨x, 0, none⟩ = some (.int .u32 v.id) ∧ W.cell? ⟨x, 1, none⟩ = some (.bool v.th) ∧ W.cell? ⟨x, 2, none⟩ = some (.slice v.po v.P.length v.pc) ∧ W.cell? ⟨x, 3, none⟩ = some (.slice v.ho v.L.length v.hc) := by simp [World.cell?, hx]
  have HW := Lib.hid (show Below w.heap.size w W from HB.out)
  have Fin := Lib.hid (show ∀ w2 w3, Below W.heap.size W w2 → Did w2 B (m + (rowG S v.id).length + v.L.length + 1) F p (holdG S v.id v.th (v.L.map Prod.fst)) w3 → PutD w B m p F S v w3 from fun w2 w3 h2 hd => by
    obtain ⟨F', d1, d2, d3⟩ := hd
    have hbw := HW.out.trans (h2.mono HW.out.size)
    exact ⟨F', d1, fun k hk => (d2 k hk).imp id (fun h => Nat.le_trans hbw.size h), (below_any hbw).trans d3 (fun _ => .inl)⟩)
  clear hb0 hv hx hT hk hFo hl2 hm
  have HF := Lib.hid hf
  clear hf
  go_enter Try.func20, Try.ntmps20
  go_wp2_with fail
  go_region_held3 (fun w' => w'.cell? ⟨x, 0, none⟩ = some (.int .u32 v.id) ∧ w'.cell? ⟨x, 1, none⟩ = some (.bool v.th) ∧ w'.cell? ⟨x, 2, none⟩ = some (.slice v.po v.P.length v.pc) ∧ w'.cell? ⟨x, 3, none⟩ = some (.slice v.ho v.L.length v.hc))
    (first | exact ⟨x0, x1, x2, x3⟩ | exact U1 | exact U2)
    (first
      | (go_at_call 35; refine (new35 _).mono ?_; rintro e' w1 ⟨g, p1, q1, rfl, hn, hb1⟩; have hb1' := (Below.refl _ W).drew.trans hb1; have U1 := four_on x0 x1 x2 x3 (fun k hk => hb1'.block k (hk ▸ hxl)); have HN := Lib.hid (And.intro hn hb1'); clear hn hb1 hb1')
      | (go_at_call 36; refine (put36 _ _ _ _ _ v _ HN.out.1 (HV.out.below HN.out.2 (Nat.le_refl _))).mono ?_; rw [HF.out]; rintro e' w2 ⟨rfl, hb2⟩; have hb2' := (Below.refl W.heap.size W).drew.trans hb2; have U2 := four_on x0 x1 x2 x3 (fun k hk => hb2'.block k (hk ▸ hxl)); have H2 := Lib.hid hb2'; clear hb2 hb2'))
  all_goals (
    obtain ⟨u0, u1, u2, u3⟩ := U2
    clear x0 x1 x2 x3
    go_wp2_with (go_at_call 37; refine (hold_any B m p F S v.id v.th v.L v.po v.ho v.P.length v.pc v.hc _ (HT.out.below H2.out) HK.out.1 HV.out.kl (HV.out.below H2.out (Nat.le_refl _)).ok.h HK.out.2.1 (form_small HF.out HV.out.kp).2.1 HK.out.2.2.1 HK.out.2.2.2).mono ?_; rintro e' w3 ⟨rfl, hd⟩; have HD := Lib.hid (Fin.out _ _ H2.out hd); clear hd)
    go_ret
    exact ⟨rfl, HD.out⟩)
end Go.Proofs.Ytgjjfodogkcmmaa.Gh
