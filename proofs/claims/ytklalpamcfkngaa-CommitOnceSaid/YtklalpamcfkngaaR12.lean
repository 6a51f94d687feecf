/- commit: the document's Stands and Settle, walked. -/
import Derived.Test.YtklalpamcfkngaaR7
namespace Go.Proofs.Ytklalpamcfkngaa.Cm
open Go Go.RowKit
def lookT (TT : TL) (t : TK) : Option Int := (TT.find? fun e => eqK e.1 t).map (·.2)
theorem lookT_case (TT : TL) (t : TK) : (lookT TT t = none ∧ ∀ e ∈ TT, eqK e.1 t = false) ∨ ∃ (i : Nat) (s : Int), TT[i]? = some (t, s) ∧ lookT TT t = some s := by
  unfold lookT
  cases h : TT.find? fun e => eqK e.1 t with
  | none => exact .inl ⟨rfl, fun e he => by have := List.find?_eq_none.1 h e he; simpa using this⟩
  | some e =>
    obtain ⟨i, hi⟩ := List.getElem?_of_mem (List.mem_of_find?_eq_some h)
    have h2 := (eqK_iff _ _).1 (List.find?_some (p := fun e : TK × Int => eqK e.1 t) h)
    exact .inr ⟨i, e.2, by rw [hi, ← h2], rfl⟩
theorem tkey_ne {TT : TL} (h : (TT.map (·.1)).Nodup) {i j : Nat} {c d : TK × Int} (hi : TT[i]? = some c) (hj : TT[j]? = some d) (hne : i ≠ j) : eqK d.1 c.1 = false := by
  cases hq : eqK d.1 c.1
  · rfl
  · rw [eqK_iff] at hq
    exfalso
    have h1 : (TT.map (·.1))[i]? = some c.1 := by simp [hi]
    have h2 : (TT.map (·.1))[j]? = some d.1 := by simp [hj]
    rw [hq] at h2
    have hl := (List.getElem?_eq_some_iff.1 h1).1
    exact hne ((List.getElem?_inj hl h).1 (h1.trans h2.symm))
theorem rstands_nil (t : TK) (w : World) : Calls Try.prog 31 #[.pointer none, .agg #[.int .u8 t.1, .int .u32 t.2.1, .int .u32 t.2.2]] w fun e w' => e = .returned (.int .i64 0) ∧ Below w.heap.size w w' := by
  go_enter Try.func31, Try.ntmps31
  go_wp2
  refine wp_loop_rounds 1 ?_
  rw [rounds_succ]
  go_wp2
  go_ret
  exact ⟨rfl, (Below.refl _ w).alloc (Nat.le_refl _) _⟩
section
variable {w : World} {B q : Nat} {F : Nat → Prop} {rv tv : Value} {CL : List RC} {TT : TL} {t : TK}
theorem rstands_any (h : RefAt w B F q rv tv CL TT) (t : TK) (hl : TT.length ≤ 1000000) :
    Calls Try.prog 31 #[.pointer (some ⟨q, 0, none⟩), .agg #[.int .u8 t.1, .int .u32 t.2.1, .int .u32 t.2.2]] w fun e w' => e = .returned (.int .i64 (stT (lookT TT t))) ∧ Below w.heap.size w w' := by
  obtain ⟨N, r, hr, hrr⟩ : ∃ (N : Nat) (r : Int), ((∃ s, TT[N]? = some (t, s) ∧ r = s) ∨ ((∀ e ∈ TT, eqK e.1 t = false) ∧ r = 0 ∧ N = TT.length)) ∧ r = stT (lookT TT t) := by
    rcases lookT_case TT t with ⟨h1, h2⟩ | ⟨i, s, h1, h2⟩
    · exact ⟨TT.length, 0, .inr ⟨h2, rfl, rfl⟩, by rw [h1]; rfl⟩
    · exact ⟨i, s, .inl ⟨s, h1, rfl⟩, by rw [h2]; rfl⟩
  rw [← hrr]
  clear hrr
  have hb0 : Below w.heap.size w (w.alloc (.cells #[.int .u8 t.1, .int .u32 t.2.1, .int .u32 t.2.2] 33)) := (Below.refl _ w).alloc (Nat.le_refl _) _
  have H1 := Lib.hid (h.below hb0)
  have HB := Lib.hid hb0
  have HX := Lib.hid (box3 w t)
  have hne : ∀ k d, k < N → TT[k]? = some d → eqK d.1 t = false := by
    intro k d hk hd
    rcases hr with ⟨s, hc, _⟩ | ⟨hn, _, _⟩
    · exact tkey_ne h.tkeys hc hd (by omega)
    · exact hn d (List.mem_of_getElem? hd)
  have hN : N ≤ TT.length := by
    rcases hr with ⟨s, hc, _⟩ | ⟨_, _, rfl⟩
    · exact Nat.le_of_lt (List.getElem?_eq_some_iff.1 hc).1
    · exact Nat.le_refl _
  have HN := Lib.hid (And.intro hne hr)
  have hql := h.hi q h.fq
  clear h hb0 hne hr
  obtain ⟨L, hL⟩ : ∃ L, TT.length = L := ⟨_, rfl⟩
  rw [hL] at hl hN
  have HL := Lib.hid hL
  clear hL
  have hg := guard33
  have he := eql33
  go_enter Try.func31, Try.ntmps31
  go_wp2
  generalize w.alloc (.cells #[.int .u8 t.1, .int .u32 t.2.1, .int .u32 t.2.2] 33) = W0 at H1 HB HX ⊢
  have HW := Lib.hid (Below.refl W0.heap.size W0)
  go_loopw [5] (fun u wr => ∃ k : Nat, k ≤ N ∧ u = .int .i64 k ∧ Hid (Below W0.heap.size W0 wr)) (fun u _ => N + 1 - (intOf u).toNat)
  case atStart => exact ⟨0, by omega, rfl, HW⟩
  case round =>
    obtain ⟨k, hk, rfl, HR⟩ := hrel
    clear HW
    have HRF := Lib.hid (H1.out.below HR.out)
    obtain ⟨b0, b1, b2⟩ := Below.cell3 HR.out (World.block_lt_of_cell? W0 ⟨w.heap.size, 0, none⟩ HX.out.1) HX.out
    obtain ⟨q0, q1⟩ := HRF.out.cells
    by_cases hlt : k < L
    · obtain ⟨d, hd⟩ : ∃ d, TT[k]? = some d := ⟨_, List.getElem?_eq_getElem (by rw [HL.out]; exact hlt)⟩
      obtain ⟨g, cap, e, hat⟩ := HRF.out.tat hd
      rw [e, HL.out] at q1
      obtain ⟨⟨c0, c1, c2⟩, c3⟩ := hat
      by_cases hkN : k < N
      · have hq := HN.out.1 k d hkN hd
        unfold eqK at hq
        clear e hd
        go_upto_region 4 with fail
        go_quiet (fail)
        go_wp2
        have HR2 := Lib.hid (HR.out.trans ((drewN_below wr nq).mono HR.out.size))
        go_roundw
        case rel => exact ⟨k + 1, by omega, by go_num, HR2⟩
        case measure => simp [intOf]; omega
      · obtain rfl : k = N := by omega
        have hq : eqK d.1 t = true ∧ d.2 = r := by
          rcases HN.out.2 with ⟨s, hc, h1⟩ | ⟨_, _, h2⟩
          · rw [hc] at hd
            cases hd
            exact ⟨(eqK_iff _ _).2 rfl, h1.symm⟩
          · rw [HL.out] at h2; omega
        obtain ⟨hq, h2⟩ := hq
        rw [h2] at c3
        unfold eqK at hq
        clear e hd h2
        go_upto_region 4 with fail
        go_quiet (fail)
        go_wp2
        go_ret
        exact ⟨rfl, HB.out.trans ((HR.out.trans ((drewN_below wr nq).mono HR.out.size)).mono HB.out.size)⟩
    · have hr1 : r = 0 := by
        rcases HN.out.2 with ⟨s, hc, _⟩ | ⟨_, h1, _⟩
        · have := (List.getElem?_eq_some_iff.1 hc).1
          rw [HL.out] at this; omega
        · exact h1
      subst hr1
      obtain ⟨ao, cap, e, _, _⟩ := own_slice HRF.out.trow
      rw [e, HL.out] at q1
      clear e
      go_wp2
      go_ret
      exact ⟨rfl, HB.out.trans (HR.out.mono HB.out.size)⟩
end
def updTT (TT : TL) (t : TK) (s : Int) : TL := TT.map fun e => if eqK e.1 t then (e.1, s) else e
/-- The list with the first k gone through. -/
def mix (TT : TL) (t : TK) (s : Int) (k : Nat) : TL := updTT (TT.take k) t s ++ TT.drop k
theorem mix_len (TT : TL) (t : TK) (s : Int) (k : Nat) : (mix TT t s k).length = TT.length := by simp [mix, updTT]; omega
theorem mix_at {TT : TL} {t : TK} {s : Int} {k : Nat} {e : TK × Int} (h : TT[k]? = some e) : (mix TT t s k)[k]? = some e := by
  have hk := (List.getElem?_eq_some_iff.1 h).1
  unfold mix
  have hl : (updTT (TT.take k) t s).length = k := by simp [updTT]; omega
  rw [List.getElem?_append_right (by omega), hl, Nat.sub_self, List.getElem?_drop, Nat.add_zero]
  exact h
theorem mix_succ {TT : TL} {t : TK} {s : Int} {k : Nat} {e : TK × Int} (h : TT[k]? = some e) : mix TT t s (k + 1) = (mix TT t s k).set k (if eqK e.1 t then (e.1, s) else e) := by
  have hk := (List.getElem?_eq_some_iff.1 h).1
  have hl : (updTT (TT.take k) t s).length = k := by simp [updTT]; omega
  unfold mix
  rw [List.set_append_right _ _ (by omega), hl, Nat.sub_self, List.take_add_one, h]
  rw [show TT.drop k = e :: TT.drop (k + 1) from by rw [List.drop_eq_getElem_cons hk, (List.getElem?_eq_some_iff.1 h).2]]
  simp [updTT]
theorem mix_all (TT : TL) (t : TK) (s : Int) : mix TT t s TT.length = updTT TT t s := by simp [mix]
section
variable {w w' : World} {B q : Nat} {F : Nat → Prop} {rv tv : Value} {CL : List RC} {TT : TL}
theorem refat_take (h : RefAt w B F q rv tv CL TT) {i g cap : Nat} {e : TK × Int} (hc : TT[i]? = some e) (htv : tv = .slice (some ⟨g, 0, none⟩) TT.length cap) (s : Int) :
    RefAt (w.setCell ⟨g, i * 4 + 3, none⟩ (.int .i64 s)) B F q rv tv CL (TT.set i (e.1, s)) ∧ Turned F w (w.setCell ⟨g, i * 4 + 3, none⟩ (.int .i64 s)) := by
  have ht := turned_set w g (i * 4 + 3) (.int .i64 s)
  have hgt : tv.ownBlock = some g := by rw [htv]; simp [Value.ownBlock]
  have ks : ∀ (k : Nat) (cs : Array Value) (T : TypeId), w.heap[k]? = some (.cells cs T (0, 0)) → T ≠ 90 → (w.setCell ⟨g, i * 4 + 3, none⟩ (.int .i64 s)).heap[k]? = w.heap[k]? := fun k cs T hk hT => ht.block k (Array.getElem?_eq_some_iff.1 hk).1 (fun e2 => by
    obtain ⟨_, cur, h3⟩ := own_obj h.trow hgt
    rw [← e2, hk] at h3; cases h3; exact hT rfl)
  have em := List.mem_of_getElem? hc
  refine ⟨⟨(ks q _ _ h.cell (by decide)).trans h.cell, own_on h.rrow (fun k hk => ?_), ?_, fun c hc2 => ⟨own_on (h.nodes c hc2).1 (fun k hk => ?_), (h.nodes c hc2).2⟩, fun c hc2 => ⟨(ks _ _ _ (h.yes c hc2).1 (by decide)).trans (h.yes c hc2).1, (h.yes c hc2).2⟩, fun c hc2 => ⟨(ks _ _ _ (h.did c hc2).1 (by decide)).trans (h.did c hc2).1, (h.did c hc2).2⟩, h.dist, h.pos, h.keys, ?_, ⟨h.wf.1, fun d hd => ?_⟩, Nat.le_trans h.base ht.size, h.fq, h.fr, h.ft, fun k hk => Nat.lt_of_lt_of_le (h.hi k hk) ht.size, h.low⟩, ht.mono (fun k hk => by rw [hk]; exact h.ft g hgt)⟩
  · obtain ⟨_, cur, h3⟩ := own_obj h.rrow hk
    exact ks k _ _ h3 (by decide)
  · have := h.trow
    rw [htv] at this ⊢
    rw [List.length_set, ← fm_set len4 hc (j := 3) (by decide) (v := .int .i64 s) (y := (e.1, s)) rfl]
    exact (this.stored (i * 4 + 3) (.int .i64 s)).1
  · obtain ⟨_, cur, h3⟩ := own_obj (h.nodes c hc2).1 hk
    exact ks k _ _ h3 (by decide)
  · rw [map_set_same (fun e : TK × Int => e.1) (c' := (e.1, s)) hc rfl]; exact h.tkeys
  · rcases mem_set hd with rfl | ⟨j, _, hd3⟩
    · exact h.wf.2 e em
    · exact h.wf.2 d (List.mem_of_getElem? hd3)
theorem take_free {w : World} {B q : Nat} {F : Nat → Prop} {CL : List RC} {TT : TL} {g n cap : Nat} {rv : Value} (h : RefAt w B F q rv (.slice (some ⟨g, 0, none⟩) n cap) CL TT) (o : Nat) : w.frozen? ⟨g, o, none⟩ = false := by
  obtain ⟨_, cur, h3⟩ := own_obj h.trow (g := g) (by simp [Value.ownBlock])
  simp [World.frozen?, h3]
end
theorem rsettle_arg (qo : Option Addr) (t : TK) (s : Int) (w : World) (h3 : s ≠ 3) (h4 : s ≠ 4) :
    Calls Try.prog 27 #[.pointer qo, .agg #[.int .u8 t.1, .int .u32 t.2.1, .int .u32 t.2.2], .int .i64 s] w fun e w' => e = .returned (.int .i64 1) ∧ Below w.heap.size w w' := by
  have e3 : (s != 3) = true := by simpa using h3
  have e4 : (s != 4) = true := by simpa using h4
  go_enter Try.func27, Try.ntmps27
  go_wp2
  go_ret
  exact ⟨rfl, (Below.refl _ w).alloc (Nat.le_refl _) _⟩
theorem rsettle_nil (t : TK) (s : Int) (w : World) (h : s = 3 ∨ s = 4) :
    Calls Try.prog 27 #[.pointer none, .agg #[.int .u8 t.1, .int .u32 t.2.1, .int .u32 t.2.2], .int .i64 s] w fun e w' => e = .returned (.int .i64 6) ∧ Below w.heap.size w w' := by
  have hb0 := Lib.hid ((Below.refl _ w).alloc (Nat.le_refl _) (.cells #[.int .u8 t.1, .int .u32 t.2.1, .int .u32 t.2.2] 33))
  rcases h with rfl | rfl
  all_goals
    go_enter Try.func27, Try.ntmps27
    go_wp2_with (go_at_call 31; refine (rstands_nil t _).mono ?_; rintro e w1 ⟨rfl, hb⟩; have H1 := Lib.hid (hb0.out.trans (hb.mono hb0.out.size)); clear hb)
    go_ret
    exact ⟨rfl, H1.out⟩
section
variable {w : World} {B q : Nat} {F : Nat → Prop} {rv tv : Value} {CL : List RC} {TT : TL} {t : TK}
theorem rsettle_no (h : RefAt w B F q rv tv CL TT) (hl : TT.length ≤ 1000000) {s x : Int} (hs : s = 3 ∨ s = 4) (hx : stT (lookT TT t) = x) (h2 : x ≠ 2) (h3 : x ≠ s) :
    Calls Try.prog 27 #[.pointer (some ⟨q, 0, none⟩), .agg #[.int .u8 t.1, .int .u32 t.2.1, .int .u32 t.2.2], .int .i64 s] w fun e w' => e = .returned (.int .i64 (if x = 0 then 6 else 9)) ∧ Below w.heap.size w w' := by
  have hb0 := Lib.hid ((Below.refl _ w).alloc (Nat.le_refl _) (.cells #[.int .u8 t.1, .int .u32 t.2.1, .int .u32 t.2.2] 33))
  have H1 := Lib.hid (h.below hb0.out)
  have HXX := Lib.hid hx
  have e2 : (x != 2) = true := by simpa using h2
  have e3 : (x != s) = true := by simpa using h3
  clear h hx h2 h3
  by_cases h0 : x = 0
  · have e0 : (x == 0) = true := by simpa using h0
    rw [if_pos h0]
    clear h0
    rcases hs with rfl | rfl
    all_goals
      go_enter Try.func27, Try.ntmps27
      go_wp2_with (go_at_call 31; refine (rstands_any H1.out t hl).mono ?_; rw [HXX.out]; rintro e w1 ⟨rfl, hb⟩; have H2 := Lib.hid (hb0.out.trans (hb.mono hb0.out.size)); clear hb)
      go_ret
      exact ⟨rfl, H2.out⟩
  · have e0 : (x == 0) = false := by simpa using h0
    rw [if_neg h0]
    clear h0
    rcases hs with rfl | rfl
    all_goals
      go_enter Try.func27, Try.ntmps27
      go_wp2_with (go_at_call 31; refine (rstands_any H1.out t hl).mono ?_; rw [HXX.out]; rintro e w1 ⟨rfl, hb⟩; have H2 := Lib.hid (hb0.out.trans (hb.mono hb0.out.size)); clear hb)
      go_ret
      exact ⟨rfl, H2.out⟩
/-- Between two rounds. -/
def SeI (W0 : World) (B : Nat) (F : Nat → Prop) (q : Nat) (rv tv : Value) (CL : List RC) (TT : TL) (t : TK) (s : Int) (k : Nat) (wr : World) : Prop := RefAt wr B F q rv tv CL (mix TT t s k) ∧ Turned F W0 wr
set_option maxRecDepth 100000 in
set_option maxHeartbeats 4000000 in
theorem rsettle_yes (h : RefAt w B F q rv tv CL TT) (hl : TT.length ≤ 1000000) {s x : Int} (hs : s = 3 ∨ s = 4) (hx : stT (lookT TT t) = x) (h2 : x = 2 ∨ x = s) :
    Calls Try.prog 27 #[.pointer (some ⟨q, 0, none⟩), .agg #[.int .u8 t.1, .int .u32 t.2.1, .int .u32 t.2.2], .int .i64 s] w fun e w' => e = .returned (.int .i64 0) ∧ ∃ rv tv CL', RefAt w' B F q rv tv CL' (updTT TT t s) ∧ CL'.map prj = CL.map prj ∧ Turned F w w' := by
  have hb0 := Lib.hid ((Below.refl _ w).alloc (Nat.le_refl _) (.cells #[.int .u8 t.1, .int .u32 t.2.1, .int .u32 t.2.2] 33))
  have H1 := Lib.hid (h.below hb0.out)
  have HX := Lib.hid (box3 w t)
  have HXX := Lib.hid hx
  have HFW := Lib.hid h.hi
  clear h hx
  obtain ⟨N, hN⟩ : ∃ N, TT.length = N := ⟨_, rfl⟩
  have HN := Lib.hid hN
  rw [hN] at hl
  clear hN
  have hg := guard33
  have he := eql33
  have hx0 : (x == 0) = false := by rcases h2 with rfl | rfl <;> rcases hs with rfl | rfl <;> decide
  have hx2 : ((x != 2) && (x != s)) = false := by rcases h2 with rfl | rfl <;> simp
  obtain ⟨y2, hy2⟩ : ∃ y2, (x != 2) = y2 := ⟨_, rfl⟩
  obtain ⟨ys, hys⟩ : ∃ ys, (x != s) = ys := ⟨_, rfl⟩
  rw [hy2, hys] at hx2
  obtain ⟨s3, hs3⟩ : ∃ s3, (s != 3) = s3 := ⟨_, rfl⟩
  obtain ⟨s4, hs4⟩ : ∃ s4, (s != 4) = s4 := ⟨_, rfl⟩
  have hss : (s3 && s4) = false := by rw [← hs3, ← hs4]; rcases hs with rfl | rfl <;> decide
  clear hs h2
  cases y2 <;> cases ys <;> (try (exact absurd hx2 (by decide))) <;> cases s3 <;> cases s4 <;> (try (exact absurd hss (by decide)))
  all_goals
    clear hx2 hss
    go_enter Try.func27, Try.ntmps27
    go_wp2_with (go_at_call 31; refine (rstands_any H1.out t (by rw [HN.out]; exact hl)).mono ?_; rw [HXX.out]; rintro e w1 ⟨rfl, hb⟩; have H2 := Lib.hid (hb0.out.trans (hb.mono hb0.out.size)); have H3 := Lib.hid (And.intro (H1.out.below hb) (Below.cell3 hb (World.block_lt_of_cell? _ ⟨w.heap.size, 0, none⟩ HX.out.1) HX.out)); have hbl := World.block_lt_of_cell? w1 ⟨w.heap.size, 0, none⟩ H3.out.2.1; obtain ⟨q0, q1⟩ := H3.out.1.cells; obtain ⟨ao, cap, etv, _, _⟩ := own_slice H3.out.1.trow; rw [etv, HN.out] at q1; have HTV := Lib.hid etv; clear hb etv)
    have H0 := Lib.hid (show SeI w1 B F q rv tv CL TT t s 0 w1 from ⟨by simpa [mix, updTT] using H3.out.1, .refl _ _⟩)
    go_loopw [34] (fun u wr => ∃ k : Nat, k ≤ N ∧ u = .int .i64 k ∧ Hid (SeI w1 B F q rv tv CL TT t s k wr)) (fun u _ => N - (intOf u).toNat)
    case atStart => exact ⟨0, by omega, rfl, H0⟩
    case round =>
      obtain ⟨k, hk, rfl, HR⟩ := hrel
      clear H0 q0 q1
      by_cases hlt : k < N
      · obtain ⟨d, hd⟩ : ∃ d, TT[k]? = some d := ⟨_, List.getElem?_eq_getElem (by rw [HN.out]; exact hlt)⟩
        obtain ⟨q0, q1⟩ := HR.out.1.cells
        obtain ⟨g, cap2, e, hat⟩ := HR.out.1.tat (mix_at hd)
        rw [mix_len, HN.out] at e
        rw [e] at q1
        obtain ⟨⟨c0, c1, c2⟩, c3⟩ := hat
        have hbx : wr.heap[w.heap.size]? = w1.heap[w.heap.size]? := HR.out.2.block _ hbl (fun e => Nat.lt_irrefl _ (HFW.out _ e))
        obtain ⟨b0, b1, b2⟩ : wr.cell? ⟨w.heap.size, 0, none⟩ = some (.int .u8 t.1) ∧ wr.cell? ⟨w.heap.size, 1, none⟩ = some (.int .u32 t.2.1) ∧ wr.cell? ⟨w.heap.size, 2, none⟩ = some (.int .u32 t.2.2) := by
          have h := H3.out.2
          simp only [World.cell?, hbx] at h ⊢
          exact h
        have fz := take_free (e ▸ HR.out.1) (k * 4 + 3)
        have HE := Lib.hid e
        have HD := Lib.hid hd
        clear hbx
        by_cases hq : eqK d.1 t = true
        · have HM := Lib.hid (show mix TT t s (k + 1) = (mix TT t s k).set k (d.1, s) by rw [mix_succ hd, if_pos hq])
          unfold eqK at hq
          clear e hd
          go_upto_region 11 with fail
          go_quiet (fail)
          go_wp2
          have HT := Lib.hid (refat_take (HR.out.1.on (turned_drewN (fun _ => False) wr nq) (fun _ _ => id)) (mix_at HD.out) (by rw [mix_len, HN.out]; exact HE.out) s)
          go_roundw
          case measure => simp [intOf]; omega
          case rel =>
            refine ⟨k + 1, by omega, by go_num, Lib.hid ⟨?_, (HR.out.2.then (turned_drewN F wr nq)).then HT.out.2⟩⟩
            rw [HM.out]
            exact HT.out.1
        · have hq : eqK d.1 t = false := by simpa using hq
          have HM := Lib.hid (show mix TT t s (k + 1) = mix TT t s k by
            rw [mix_succ hd, if_neg (by rw [hq]; decide)]
            exact List.ext_getElem? (fun j => by
              rw [List.getElem?_set]
              by_cases e : k = j
              · subst e
                rw [if_pos rfl, if_pos (by rw [mix_len, HN.out]; exact hlt), mix_at hd]
              · rw [if_neg e]))
          unfold eqK at hq
          clear e hd
          go_upto_region 11 with fail
          go_quiet (fail)
          go_wp2
          go_roundw
          case measure => simp [intOf]; omega
          case rel =>
            refine ⟨k + 1, by omega, by go_num, Lib.hid ⟨?_, HR.out.2.then (turned_drewN F wr nq)⟩⟩
            rw [HM.out]
            exact HR.out.1.on (turned_drewN (fun _ => False) wr nq) (fun _ _ => id)
      · obtain rfl : k = N := by omega
        have h9 := HR.out.1
        rw [← HN.out, mix_all] at h9
        have H9 := Lib.hid h9
        clear h9
        go_wp2
        go_ret
        exact ⟨rfl, rv, tv, CL, H9.out, rfl, (below_any (G := F) H2.out).then HR.out.2⟩
end
end Go.Proofs.Ytklalpamcfkngaa.Cm
