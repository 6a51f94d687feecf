/- place: the law on one owner, walked. -/
import Derived.Test.YtlpbldkblchkpaaC3
namespace Go.Proofs.Ytlpbldkblchkpaa.Pl
open Go Go.RowKit
theorem RdO.take {w : World} {ao : Option Addr} {L : List O6} (h : RdO w ao L) (m : Nat) : RdO w ao (L.take m) := fun i t ht => h i t (by
  rw [List.getElem?_take] at ht
  split at ht
  · exact ht
  · simp at ht)
/-- Two directories in order, apart. -/
structure TwoS (w0 : World) (b c : Nat) (n : Int) (G F : Nat → Ent) (w : World) : Prop where
  one : DirS w0 b n G w
  two : DirS w0 c n F w
  ne : b ≠ c
section
variable {w0 w : World} {b c : Nat} {n : Int} {G F : Nat → Ent}
theorem TwoS.on {w' : World} (h : TwoS w0 b c n G F w) (hb : Below w.heap.size w w') : TwoS w0 b c n G F w' := ⟨h.one.on hb, h.two.on hb, h.ne⟩
theorem DirS.did {w' : World} (h : DirS w0 c n F w) (hd : Did b w w') (ne : b ≠ c) (hb : w0.heap.size ≤ b) : DirS w0 c n F w' :=
  ⟨h.dir.on hd (fun e => ne e.symm), h.good, did_below h.low hd hb h.low.size, h.b0⟩
theorem TwoS.left (h : TwoS w0 b c n G F w) (t : O6) (ht : InO t) :
    Calls Try.prog 8 #[.pointer (some ⟨b, 0, none⟩), .int .u32 t.1, .int .u8 t.2.2.1, .int .u32 t.2.2.2.2.1] w fun e' w' => (∃ q, e' = .returned (.int .i64 q)) ∧ TwoS w0 b c n (moveG n G t.1 t.2.2.1 t.2.2.2.2.1) F w' :=
  (h.one.move t.1 t.2.2.1 t.2.2.2.2.1 ht.2.1.1 ht.2.1.2).mono fun _ _ ⟨h1, h2, h3⟩ => ⟨h1, h2, h.two.did h3 h.ne h.one.b0, h.ne⟩
theorem TwoS.right (h : TwoS w0 b c n G F w) (t : O6) (ht : InO t) :
    Calls Try.prog 8 #[.pointer (some ⟨c, 0, none⟩), .int .u32 t.1, .int .u8 t.2.2.1, .int .u32 t.2.2.2.2.1] w fun e' w' => (∃ q, e' = .returned (.int .i64 q)) ∧ TwoS w0 b c n G (moveG n F t.1 t.2.2.1 t.2.2.2.2.1) w' :=
  (h.two.move t.1 t.2.2.1 t.2.2.2.2.1 ht.2.1.1 ht.2.1.2).mono fun _ _ ⟨h1, h2, h3⟩ => ⟨h1, h.one.did h3 (fun e => h.ne e.symm) h.two.b0, h2, h.ne⟩
end
theorem run_min {l m : Int} (w : World) (hm : min l 60 = m) : (Builtin.min_ #[3, 3] 3 #[.int .i64 l, .int .i64 60]).run Try.prog w = .ok (.int .i64 m) w := by
  by_cases h : 60 < l
  · have e : m = 60 := by omega
    subst e
    simp [go_sem, h]
  · have e : m = l := by omega
    subst e
    simp [go_sem, h]
theorem cells6 {w : World} {b : Nat} {x0 x1 x2 x3 x4 x5 : Value} {T : TypeId} (h : w.heap[b]? = some (.cells #[x0, x1, x2, x3, x4, x5] T (0, 0))) : w.cell? ⟨b, 0, none⟩ = some x0 ∧ w.cell? ⟨b, 2, none⟩ = some x2 ∧ w.cell? ⟨b, 4, none⟩ = some x4 := by
  simp [World.cell?, h]
theorem slice_run {w0 : World} {ao : Option Addr} {K : List O6} {c q r : Nat} (hr : RdO w0 ao K) (hc : K.length ≤ c) (hq : q + r = K.length) :
    ∃ ao2 c2, (∀ w, (Instr.slice 22 (.slice ao K.length c) (some (.int .i64 q)) none none).run Try.prog w = .ok (.slice ao2 r c2) w) ∧ RdO w0 ao2 (K.drop q) := by
  have h2 : K.length - q = r := by omega
  by_cases h : c = q
  · refine ⟨ao, 0, fun w => ?_, fun i t ht => ?_⟩
    · subst h
      simp [Instr.slice, Instr.sliceBounds, Instr.sliceBound, asIntOf, go_sem, h2]
      exact fun hh => absurd hh (by omega)
    · rw [List.getElem?_eq_none (by rw [List.length_drop]; omega)] at ht
      simp at ht
  · refine ⟨ao.map (·.add (q * 6)), c - q, fun w => ?_, fun i t ht => ?_⟩
    · simp [Instr.slice, Instr.sliceBounds, Instr.sliceBound, asIntOf, go_sem, h2, h]
      exact fun hh => absurd hh (by omega)
    · rw [List.getElem?_drop] at ht
      obtain ⟨b, off, rfl, hb, c0, c1, c2, c3, c4, c5⟩ := hr (q + i) t ht
      refine ⟨b, off + q * 6, by simp [Addr.add], hb, ?_, ?_, ?_, ?_, ?_, ?_⟩
      all_goals (rw [show off + q * 6 + i * 6 = off + (q + i) * 6 by omega]; assumption)
theorem same_self (ao bo : Option Addr) (ca cb : Nat) (L : List Ent) (w : World) (hL : RdE w ao L) (hM : RdE w bo L) (h1 : L.length ≤ 1000) :
    Calls Try.prog 9 #[.slice ao L.length ca, .slice bo L.length cb] w fun e w' => e = .returned (.bool true) ∧ Below w.heap.size w w' :=
  (same_any ao bo ca cb L L w hL hM h1 h1).mono fun _ _ ⟨h1, h2⟩ => ⟨by rw [h1, decide_eq_true (rfl : L = L)], h2⟩
set_option maxRecDepth 100000 in
set_option maxHeartbeats 8000000 in
theorem one_law (a tu : Int) (ao : Option Addr) (c : Nat) (L : List O6) (w : World) (a0 : 0 ≤ a) (a1 : a ≤ 255) (t0 : 0 ≤ tu) (t1 : tu ≤ 255) (hr : RdO w ao L) (hi : ∀ x ∈ L, InO x) (hlc : L.length ≤ c) (hlm : L.length ≤ maxLen) :
    Calls Try.prog 3 #[.int .u8 a, .slice ao L.length c, .int .u8 tu] w fun e w' => e = .returned (.bool true) ∧ Below w.heap.size w w' := by
  obtain ⟨k, hk, hk4⟩ : ∃ k : Nat, a % 4 = (k : Int) ∧ k < 4 := ⟨(a % 4).toNat, by omega, by omega⟩
  obtain ⟨m, hm⟩ : ∃ m, (L.take 60).length = m := ⟨_, rfl⟩
  have HL := Lib.hid (And.intro (hr.take 60) (fun x (hx : x ∈ L.take 60) => hi x (List.mem_of_mem_take hx)))
  have hm2 : m = min 60 L.length := by rw [← hm, List.length_take]
  unfold maxLen at hlm
  have hmin : min (L.length : Int) 60 = (m : Int) := by omega
  have hm60 : m ≤ 60 := by omega
  have hmc : m ≤ c := by omega
  generalize L.take 60 = K at hm HL
  generalize L.length = l at *
  have HN := Lib.hid hm
  clear hr hi hm hm2
  have hA := awake_any w
  go_enter Try.func3, Try.ntmps3
  go_wp2_with (go_at_call 6; refine hA.mono ?_; rintro e w1 ⟨rfl, hb⟩; have A1 := Lib.hid hb; clear hb)
  refine (new_any (1 + (k : Int)) w1 (by omega) (by omega)).mono ?_
  rintro e w2 ⟨rfl, hd, hs, hb⟩
  have H2 : Hid (DirS w w1.heap.size (1 + (k : Int)) (home (1 + (k : Int))) w2 ∧ w2.heap.size = w1.heap.size + 1) := Lib.hid ⟨⟨hd, good_home (by omega), A1.out.trans (hb.mono A1.out.size), A1.out.size⟩, hs⟩
  clear hd hs hb hA
  go_wp2_with fail
  refine (new_any (1 + (k : Int)) w2 (by omega) (by omega)).mono ?_
  rintro e w3 ⟨rfl, hd, hs, hb⟩
  have H3 : Hid (TwoS w w1.heap.size w2.heap.size (1 + (k : Int)) (home (1 + (k : Int))) (home (1 + (k : Int))) w3) := Lib.hid ⟨H2.out.1.on hb, ⟨hd, good_home (by omega), H2.out.1.low.trans (hb.mono H2.out.1.low.size), H2.out.1.low.size⟩, by have := H2.out.2; omega⟩
  clear hd hs hb H2 A1
  generalize w1.heap.size = b1 at *
  generalize w2.heap.size = b2 at *
  have HB := Lib.hid (And.intro hk4 (And.intro hlm (And.intro hmc hlc)))
  have hmn := fun w => run_min w hmin
  clear hmin
  go_wp2_with fail
  clear hmn
  go_loopw [52] (fun u wr => ∃ j : Nat, j ≤ m ∧ u = .int .i64 j ∧ Hid ((∀ x, x < j → ∀ y, y < x → NoC K x y) ∧ Below w3.heap.size w3 wr)) (fun u _ => m - (intOf u).toNat)
  case atStart => exact ⟨0, by omega, rfl, Lib.hid ⟨fun x hx => absurd hx (Nat.not_lt_zero x), Below.refl _ _⟩⟩
  case round =>
    obtain ⟨j, hj, rfl, HA⟩ := hrel
    by_cases hlt : j < m
    · obtain ⟨t, ht⟩ : ∃ t, K[j]? = some t := ⟨_, List.getElem?_eq_getElem (by have := HN.out; omega)⟩
      have hrd := HL.out.1.on (H3.out.on HA.out.2 |>.one.low) (Nat.le_refl _)
      obtain ⟨g, og, rfl, _, c0, c1, c2, c3, c4, c5⟩ := hrd j t ht
      have HT := Lib.hid ht
      have HB1 := Lib.hid (HA.out.2.alloc HA.out.2.size (.cells #[.int .u32 t.1, .int .u32 t.2.1, .int .u8 t.2.2.1, .int .u8 t.2.2.2.1, .int .u32 t.2.2.2.2.1, .int .u32 t.2.2.2.2.2] 30))
      have HZ := Lib.hid (heap_alloc_new wr (.cells #[.int .u32 t.1, .int .u32 t.2.1, .int .u8 t.2.2.1, .int .u8 t.2.2.2.1, .int .u32 t.2.2.2.2.1, .int .u32 t.2.2.2.2.2] 30))
      have j1 : (j : Int) < (m : Int) := by omega
      have j2 : ¬ (c : Int) < (j : Int) := by omega
      clear ht hrd
      go_wp2_with fail
      have HJ := Lib.hid HA.out.1
      clear c0 c1 c2 c3 c4 c5 HA
      generalize wr.alloc (.cells #[.int .u32 t.1, .int .u32 t.2.1, .int .u8 t.2.2.1, .int .u8 t.2.2.2.1, .int .u32 t.2.2.2.2.1, .int .u32 t.2.2.2.2.2] 30) = W at HB1 HZ ⊢
      generalize wr.heap.size = z at HZ ⊢
      go_loopw [61] (fun u wr => ∃ y : Nat, y ≤ j ∧ u = .int .i64 y ∧ Hid ((∀ x, x < y → NoC K j x) ∧ Below W.heap.size W wr)) (fun u _ => j - (intOf u).toNat)
      case atStart => exact ⟨0, by omega, rfl, Lib.hid ⟨fun x hx => absurd hx (Nat.not_lt_zero x), Below.refl _ _⟩⟩
      case round =>
        obtain ⟨y, hy, rfl, HC⟩ := hrel
        by_cases hly : y < j
        · obtain ⟨s, hs⟩ : ∃ s, K[y]? = some s := ⟨_, List.getElem?_eq_getElem (by have := HN.out; omega)⟩
          obtain ⟨g2, og2, e2, _, c0, c1, c2, c3, c4, c5⟩ := (HL.out.1.on (H3.out.on (HB1.out.trans (HC.out.2.mono HB1.out.size)) |>.one.low) (Nat.le_refl _)) y s hs
          simp only [Option.some.injEq, Addr.mk.injEq, and_true] at e2
          obtain ⟨rfl, rfl⟩ := e2
          have hzz : (wr.alloc (.cells #[.int .u32 s.1, .int .u32 s.2.1, .int .u8 s.2.2.1, .int .u8 s.2.2.2.1, .int .u32 s.2.2.2.2.1, .int .u32 s.2.2.2.2.2] 30)).heap[z]? = some (.cells #[.int .u32 t.1, .int .u32 t.2.1, .int .u8 t.2.2.1, .int .u8 t.2.2.2.1, .int .u32 t.2.2.2.2.1, .int .u32 t.2.2.2.2.2] 30 (0, 0)) := ((Below.refl _ wr).alloc (Nat.le_refl _) (.cells #[.int .u32 s.1, .int .u32 s.2.1, .int .u8 s.2.2.1, .int .u8 s.2.2.2.1, .int .u32 s.2.2.2.2.1, .int .u32 s.2.2.2.2.2] 30) |>.block z (by have := (Array.getElem?_eq_some_iff.1 HZ.out).1; have := HC.out.2.size; omega)).trans ((HC.out.2.block z (Array.getElem?_eq_some_iff.1 HZ.out).1).trans HZ.out)
          obtain ⟨d0, d2, d4⟩ : (wr.alloc (.cells #[.int .u32 s.1, .int .u32 s.2.1, .int .u8 s.2.2.1, .int .u8 s.2.2.2.1, .int .u32 s.2.2.2.2.1, .int .u32 s.2.2.2.2.2] 30)).cell? ⟨z, 0, none⟩ = some (.int .u32 t.1) ∧ (wr.alloc (.cells #[.int .u32 s.1, .int .u32 s.2.1, .int .u8 s.2.2.1, .int .u8 s.2.2.2.1, .int .u32 s.2.2.2.2.1, .int .u32 s.2.2.2.2.2] 30)).cell? ⟨z, 2, none⟩ = some (.int .u8 t.2.2.1) ∧ (wr.alloc (.cells #[.int .u32 s.1, .int .u32 s.2.1, .int .u8 s.2.2.1, .int .u8 s.2.2.2.1, .int .u32 s.2.2.2.2.1, .int .u32 s.2.2.2.2.2] 30)).cell? ⟨z, 4, none⟩ = some (.int .u32 t.2.2.2.2.1) := cells6 hzz
          have HD := Lib.hid (HC.out.2.alloc HC.out.2.size (.cells #[.int .u32 s.1, .int .u32 s.2.1, .int .u8 s.2.2.1, .int .u8 s.2.2.2.1, .int .u32 s.2.2.2.2.1, .int .u32 s.2.2.2.2.2] 30))
          have HS := Lib.hid hs
          have j3 : (y : Int) < (j : Int) := by omega
          clear hs hzz
          have fin : (!(t.1 == s.1 && t.2.2.2.2.1 == s.2.2.2.2.1 && !(t.2.2.1 == s.2.2.1))) = true → NoC K j y := fun hq s' t' hs' ht' hv he => by
            rw [HS.out] at hs'
            rw [HT.out] at ht'
            injection hs' with hs'
            injection ht' with ht'
            subst hs'; subst ht'
            simp [hv, he] at hq
            exact hq
          have Fin := Lib.hid fin
          clear fin
          cases q1 : (t.1 == s.1)
          · go_wp2_with fail
            exact ⟨⟨y + 1, by omega, by go_num, Lib.hid ⟨fun x hx => by
              rcases Nat.lt_succ_iff_lt_or_eq.1 hx with h | h
              · exact HC.out.1 x h
              · subst h; exact Fin.out (by simp [q1]), HD.out⟩⟩, by simp [intOf]; omega⟩
          · cases q2 : (t.2.2.2.2.1 == s.2.2.2.2.1)
            · go_wp2_with fail
              exact ⟨⟨y + 1, by omega, by go_num, Lib.hid ⟨fun x hx => by
                rcases Nat.lt_succ_iff_lt_or_eq.1 hx with h | h
                · exact HC.out.1 x h
                · subst h; exact Fin.out (by simp [q2]), HD.out⟩⟩, by simp [intOf]; omega⟩
            · cases q3 : (t.2.2.1 == s.2.2.1)
              · go_wp2_with fail
                go_ret
                exact ⟨rfl, ((H3.out.on (HB1.out.trans (HD.out.mono HB1.out.size))).one.low)⟩
              · go_wp2_with fail
                exact ⟨⟨y + 1, by omega, by go_num, Lib.hid ⟨fun x hx => by
                  rcases Nat.lt_succ_iff_lt_or_eq.1 hx with h | h
                  · exact HC.out.1 x h
                  · subst h; exact Fin.out (by simp [q3]), HD.out⟩⟩, by simp [intOf]; omega⟩
        · obtain rfl : y = j := by omega
          go_wp2_with fail
          go_roundw
          case rel => exact ⟨y + 1, by omega, by go_num, Lib.hid ⟨fun x hx y' hy' => by
            rcases Nat.lt_succ_iff_lt_or_eq.1 hx with h | h
            · exact HJ.out x h y' hy'
            · subst h; exact HC.out.1 y' hy', HB1.out.trans (HC.out.2.mono HB1.out.size)⟩⟩
          case measure => simp [intOf]; omega
    · obtain rfl : j = m := by omega
      clear hlt
      have HP := Lib.hid (And.intro (apart_of (by rw [HN.out]; exact HA.out.1)) (H3.out.on HA.out.2))
      obtain ⟨q, hq, hq0⟩ : ∃ q : Nat, tu % ((j : Int) + 1) = (q : Int) ∧ q ≤ j := by
        have h1 := Int.emod_nonneg tu (show (j : Int) + 1 ≠ 0 by omega)
        have h2 := Int.emod_lt_of_pos tu (show 0 < (j : Int) + 1 by omega)
        exact ⟨(tu % ((j : Int) + 1)).toNat, by omega, by omega⟩
      have HQ := Lib.hid hq0
      clear HA hq0
      go_wp2_with fail
      rw [hq]
      clear hq
      generalize wr = W0 at *
      have HP0 : Hid (TwoS w b1 b2 (1 + (k : Int)) (moves (1 + (k : Int)) (home (1 + (k : Int))) (K.take 0)) (home (1 + (k : Int))) W0) := Lib.hid (by simpa [moves] using HP.out.2)
      have HPA := Lib.hid HP.out.1
      clear HP H3
      go_loopw [94] (fun u wr => ∃ x : Nat, x ≤ j ∧ u = .int .i64 x ∧ Hid (TwoS w b1 b2 (1 + (k : Int)) (moves (1 + (k : Int)) (home (1 + (k : Int))) (K.take x)) (home (1 + (k : Int))) wr)) (fun u _ => j - (intOf u).toNat)
      case atStart => exact ⟨0, by omega, rfl, HP0⟩
      case round =>
        obtain ⟨x, hx, rfl, HA⟩ := hrel
        clear HP0
        by_cases hlt : x < j
        · obtain ⟨t, ht⟩ : ∃ t, K[x]? = some t := ⟨_, List.getElem?_eq_getElem (by have := HN.out; omega)⟩
          obtain ⟨g, og, rfl, _, c0, c1, c2, c3, c4, c5⟩ := (HL.out.1.on HA.out.one.low (Nat.le_refl _)) x t ht
          have HX := Lib.hid (And.intro (HL.out.2 t (List.mem_of_getElem? ht)) (moves_next (n := 1 + (k : Int)) (G := home (1 + (k : Int))) ht))
          have HG := Lib.hid (HA.out.on ((Below.refl _ wr).alloc (Nat.le_refl _) (.cells #[.int .u32 t.1, .int .u32 t.2.1, .int .u8 t.2.2.1, .int .u8 t.2.2.2.1, .int .u32 t.2.2.2.2.1, .int .u32 t.2.2.2.2.2] 30)))
          clear ht
          have j1 : (x : Int) < (j : Int) := by omega
          go_wp2_with fail
          refine (HG.out.left t HX.out.1).mono ?_
          rintro e w4 ⟨⟨q4, rfl⟩, hd4⟩
          have H4 := Lib.hid hd4
          clear hd4
          go_wp2_with fail
          exact ⟨⟨x + 1, by omega, by go_num, by rw [HX.out.2]; exact H4⟩, by simp [intOf]; omega⟩
        · obtain rfl : x = j := by omega
          clear hlt
          go_wp2_with fail
          generalize wr = W1 at *
          have HP1 : Hid (TwoS w b1 b2 (1 + (k : Int)) (moves (1 + (k : Int)) (home (1 + (k : Int))) K) (moves (1 + (k : Int)) (home (1 + (k : Int))) (K.reverse.take 0)) W1) := Lib.hid (by
            have := HA.out
            rw [List.take_of_length_le (by rw [HN.out]; exact Nat.le_refl _)] at this
            simpa [moves] using this)
          clear HA
          go_loopw [109] (fun u wr => ∃ y : Nat, y ≤ x ∧ u = .int .i64 y ∧ Hid (TwoS w b1 b2 (1 + (k : Int)) (moves (1 + (k : Int)) (home (1 + (k : Int))) K) (moves (1 + (k : Int)) (home (1 + (k : Int))) (K.reverse.take y)) wr)) (fun u _ => x - (intOf u).toNat)
          case atStart => exact ⟨0, by omega, rfl, HP1⟩
          case round =>
            obtain ⟨y, hy, rfl, HA⟩ := hrel
            clear HP1
            by_cases hlt : y < x
            · obtain ⟨p, hpe, hpx⟩ : ∃ p : Nat, (x : Int) - 1 - (y : Int) = (p : Int) ∧ p < x := ⟨x - 1 - y, by omega, by omega⟩
              obtain ⟨t, ht⟩ : ∃ t, K[p]? = some t := ⟨_, List.getElem?_eq_getElem (by have := HN.out; omega)⟩
              have htr : K.reverse[y]? = some t := by
                rw [List.getElem?_reverse (by have := HN.out; omega), ← ht]
                congr 1
                have := HN.out
                omega
              obtain ⟨g, og, rfl, _, c0, c1, c2, c3, c4, c5⟩ := (HL.out.1.on HA.out.one.low (Nat.le_refl _)) p t ht
              have HX := Lib.hid (And.intro (HL.out.2 t (List.mem_of_getElem? ht)) (moves_next (n := (1 + (k : Int))) (G := home (1 + (k : Int))) htr))
              have HG := Lib.hid (HA.out.on ((Below.refl _ wr).alloc (Nat.le_refl _) (.cells #[.int .u32 t.1, .int .u32 t.2.1, .int .u8 t.2.2.1, .int .u8 t.2.2.2.1, .int .u32 t.2.2.2.2.1, .int .u32 t.2.2.2.2.2] 30)))
              clear ht htr
              have j1 : (y : Int) < (x : Int) := by omega
              have j2 : (p : Int) < (x : Int) := by omega
              go_wp2_with fail
              refine (HG.out.right t HX.out.1).mono ?_
              rintro e w4 ⟨⟨q4, rfl⟩, hd4⟩
              have H4 := Lib.hid hd4
              clear hd4
              go_wp2_with fail
              exact ⟨⟨y + 1, by omega, by go_num, by rw [HX.out.2]; exact H4⟩, by simp [intOf]; omega⟩
            · obtain rfl : y = x := by omega
              clear hlt
              have HP2 : Hid (TwoS w b1 b2 (1 + (k : Int)) (moves (1 + (k : Int)) (home (1 + (k : Int))) K) (moves (1 + (k : Int)) (moves (1 + (k : Int)) (home (1 + (k : Int))) K.reverse) ((K.drop q).take 0)) wr) := Lib.hid (by
                have := HA.out
                rw [List.take_of_length_le (by rw [List.length_reverse, HN.out]; exact Nat.le_refl _)] at this
                simpa [moves] using this)
              clear HA
              generalize wr = W2 at *
              obtain ⟨r, hr⟩ : ∃ r : Nat, q + r = y := ⟨y - q, by have := HQ.out; omega⟩
              obtain ⟨ao2, cc, hsl, hrd2⟩ := slice_run (q := q) (r := r) HL.out.1 (by rw [HN.out]; exact hmc) (by rw [HN.out]; exact hr)
              rw [HN.out] at hsl
              have hr60 : r ≤ 60 := by omega
              have HR := Lib.hid (And.intro hr hrd2)
              clear hr hrd2
              go_wp2_with fail
              go_loopw [133] (fun u wr => ∃ x : Nat, x ≤ r ∧ u = .int .i64 x ∧ Hid (TwoS w b1 b2 (1 + (k : Int)) (moves (1 + (k : Int)) (home (1 + (k : Int))) K) (moves (1 + (k : Int)) (moves (1 + (k : Int)) (home (1 + (k : Int))) K.reverse) ((K.drop q).take x)) wr)) (fun u _ => r - (intOf u).toNat)
              case atStart => exact ⟨0, by omega, rfl, HP2⟩
              case round =>
                obtain ⟨x, hx, rfl, HA⟩ := hrel
                clear HP2
                by_cases hlt : x < r
                · obtain ⟨t, ht⟩ : ∃ t, (K.drop q)[x]? = some t := ⟨_, List.getElem?_eq_getElem (by have := HN.out; have := HR.out.1; rw [List.length_drop]; omega)⟩
                  obtain ⟨g, og, rfl, _, c0, c1, c2, c3, c4, c5⟩ := (HR.out.2.on HA.out.one.low (Nat.le_refl _)) x t ht
                  have HX := Lib.hid (And.intro (HL.out.2 t (List.mem_of_mem_drop (List.mem_of_getElem? ht))) (moves_next (n := (1 + (k : Int))) (G := moves (1 + (k : Int)) (home (1 + (k : Int))) K.reverse) ht))
                  have HG := Lib.hid (HA.out.on ((Below.refl _ wr).alloc (Nat.le_refl _) (.cells #[.int .u32 t.1, .int .u32 t.2.1, .int .u8 t.2.2.1, .int .u8 t.2.2.2.1, .int .u32 t.2.2.2.2.1, .int .u32 t.2.2.2.2.2] 30)))
                  clear ht
                  have j1 : (x : Int) < (r : Int) := by omega
                  go_wp2_with fail
                  refine (HG.out.right t HX.out.1).mono ?_
                  rintro e w4 ⟨⟨q4, rfl⟩, hd4⟩
                  have H4 := Lib.hid hd4
                  clear hd4
                  go_wp2_with fail
                  exact ⟨⟨x + 1, by omega, by go_num, by rw [HX.out.2]; exact H4⟩, by simp [intOf]; omega⟩
                · obtain rfl : x = r := by omega
                  clear hlt
                  have HE := Lib.hid (show mv (rows (moves (1 + (k : Int)) (home (1 + (k : Int))) K)) = mv (rows (moves (1 + (k : Int)) (moves (1 + (k : Int)) (home (1 + (k : Int))) K.reverse) ((K.drop q).take x))) from by
                    have hle : (K.drop q).length ≤ x := by rw [List.length_drop]; have h1 := HN.out; have h2 := HR.out.1; omega
                    rw [List.take_of_length_le hle]
                    exact one_said q HPA.out)
                  go_wp2_with fail
                  refine (list_any HA.out.one.dir).mono ?_
                  rintro e w4 ⟨v4, rfl, ho4, hb4⟩
                  obtain ⟨ao4, c4, rfl, _, hr4⟩ := rd_own ho4
                  have H4 := Lib.hid (And.intro hr4 (HA.out.on hb4))
                  clear ho4 hr4 hb4
                  go_wp2_with fail
                  refine (list_any H4.out.2.two.dir).mono ?_
                  rintro e w5 ⟨v5, rfl, ho5, hb5⟩
                  obtain ⟨ao5, c5, rfl, _, hr5⟩ := rd_own ho5
                  have H5 := Lib.hid (And.intro hr5 (And.intro (H4.out.1.on hb5 (Nat.le_refl _)) (H4.out.2.on hb5)))
                  clear ho5 hr5 hb5
                  rw [← HE.out] at H5
                  have l4 : (mv (rows (moves (1 + (k : Int)) (home (1 + (k : Int))) K))).length ≤ 1000 := Nat.le_trans (mv_len _) (by rw [rows_len]; decide)
                  have HS := Lib.hid (same_self ao4 ao5 c4 c5 _ w5 H5.out.2.1 H5.out.1 l4)
                  rw [← HE.out]
                  clear l4
                  go_wp2_with fail
                  refine HS.out.mono ?_
                  rintro e w6 ⟨rfl, hb6⟩
                  have H6 := Lib.hid (H5.out.2.2.on hb6)
                  clear hb6
                  go_wp2_with fail
                  go_ret
                  exact ⟨rfl, H6.out.one.low⟩
end Go.Proofs.Ytlpbldkblchkpaa.Pl
