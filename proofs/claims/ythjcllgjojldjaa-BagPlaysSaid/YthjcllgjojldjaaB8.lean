/- bag: BagPlays, walked. -/
import Derived.Test.YthjcllgjojldjaaB7
namespace Go.Proofs.Ythjcllgjojldjaa.Bg
open Go Go.RowKit
theorem wpAnyH_mono {P : Program} {md : Region.Mode} {ops : Array Oper} {Q : Exit → Act → World → Prop} {S T : World → Prop} (h : ∀ w, S w → T w) : ∀ (fuel : Nat) (listed : Array Bool) (a : Act) (w : World), wpAnyH P md ops Q S fuel listed a w → wpAnyH P md ops Q T fuel listed a w
  | 0, _, _, _, hh => hh
  | f + 1, _, _, _, hh => ⟨hh.1, fun i hi => wpOp_mono (fun a' w' h' => ⟨h w' h'.1, wpAnyH_mono h f _ a' w' h'.2⟩) (hh.2 i hi)⟩
theorem play_nil (o : Ob) (ao : Option Addr) (c : Nat) (w : World) (hin : o.In w ao c) : Calls Try.prog 9 #[.pointer none, .pointer none, .agg #[.int .u8 o.kd, .int .i64 o.i, .slice ao o.l.length c]] w fun e w' => e = .returned (.bool true) ∧ Below w.heap.size w w' := by
  refine (play_any w true none none [] (fun _ => False) o ao c w ⟨Below.refl _ _, fun _ h => h.elim, .inl ⟨rfl, rfl, rfl, rfl, rfl⟩⟩ hin).mono ?_
  rintro e w' ⟨rfl, L', h, _⟩
  exact ⟨rfl, h.below⟩
theorem in_on {w w' : World} {o : Ob} {ao : Option Addr} {c : Nat} (h : o.In w ao c) (hb : Below w.heap.size w w') : o.In w' ao c := ⟨h.1.on hb (Nat.le_refl _), h.2⟩
theorem box_at {w w' : World} {b : Nat} {x y v : Value} (h : w.heap[b]? = some (.cells #[x, y, v] 32 (0, 0))) (hk : w'.heap[b]? = w.heap[b]?) : w'.cell? ⟨b, 0, none⟩ = some x ∧ w'.cell? ⟨b, 1, none⟩ = some y ∧ w'.cell? ⟨b, 2, none⟩ = some v := by
  have := hk.trans h
  simp [World.cell?, this]
theorem box3_below {w w' : World} {b : Nat} {x y v : Value} (h : w.cell? ⟨b, 0, none⟩ = some x ∧ w.cell? ⟨b, 1, none⟩ = some y ∧ w.cell? ⟨b, 2, none⟩ = some v) (hb : Below w.heap.size w w') (hl : b < w.heap.size) : w'.cell? ⟨b, 0, none⟩ = some x ∧ w'.cell? ⟨b, 1, none⟩ = some y ∧ w'.cell? ⟨b, 2, none⟩ = some v :=
  ⟨(hb.cell (p := ⟨b, 0, none⟩) hl).trans h.1, (hb.cell (p := ⟨b, 1, none⟩) hl).trans h.2.1, (hb.cell (p := ⟨b, 2, none⟩) hl).trans h.2.2⟩
theorem ply_cell {w0 w : World} {pb : Option Addr} {q : Nat} {L1 L2 : List (List Int)} {P : Nat → Prop} (h : Ply w0 false pb (some ⟨q, 0, none⟩) L1 L2 P w) : ∃ ao cap, w.cell? ⟨q, 0, none⟩ = some (.slice ao L2.length cap) ∧ RdRow w (.slice ao L2.length cap) L2 := by
  rcases h.ex with ⟨h, _⟩ | ⟨_, X, Y, _, e, _, rfl, _, g2, _⟩
  · cases h
  · injection e with e
    injection e with e
    subst e
    obtain ⟨ao, cap, hv, _⟩ := row_form g2.row
    have hr := g2.rd
    have hc := g2.c0
    rw [hv] at hr hc
    refine ⟨ao, cap, ?_, ?_⟩
    · rw [hc]; simp
    · have e : (Y.M.map Mg.l).length = Y.M.length := by simp
      rw [e]; exact hr
theorem ply_all {w0 w : World} {p : Nat} {px : Option Addr} {L1 L2 : List (List Int)} {P : Nat → Prop} (h : Ply w0 false (some ⟨p, 0, none⟩) px L1 L2 P w) : Calls Try.prog 11 #[.pointer (some ⟨p, 0, none⟩)] w fun e w' => ∃ v M, e = .returned v ∧ NewRow w' w.heap.size v M ∧ M.map Mg.l = L1 ∧ Below w.heap.size w w' := by
  rcases h.ex with ⟨h, _⟩ | ⟨_, X, Y, e, _, rfl, _, g1, _⟩
  · cases h
  · injection e with e
    injection e with e
    subst e
    exact all_any g1
/-- The rows of an answer, which the law writes over. -/
structure Wr (w0 : World) (v : Value) (M : List Mg) (w : World) : Prop where
  row : w.ownsRow w0.heap.size 30 1 v M.length (rowM M)
  msg : ∀ m ∈ M, XB m.g m.l.length w ∧ (w0.heap.size ≤ m.g ∧ m.l.length ≤ 16384)
theorem Wr.of {w0 w w' : World} {v : Value} {M : List Mg} (h : NewRow w' w.heap.size v M) (hB : w0.heap.size ≤ w.heap.size) : Wr w0 v M w' :=
  ⟨base_less h.row hB, fun m hm => ⟨xb_own (h.msg m hm).1.own, Nat.le_trans hB (h.msg m hm).2, (h.msg m hm).1.few⟩⟩
theorem Wr.on {w0 w w' : World} {v : Value} {M : List Mg} (h : Wr w0 v M w) (hb : Below w.heap.size w w') : Wr w0 v M w' := by
  refine ⟨own_on h.row (fun g hg => hb.block g (World.ownsRow.lt h.row g hg).2), fun m hm => ⟨(h.msg m hm).1.keep (hb.block m.g ?_), (h.msg m hm).2⟩⟩
  obtain ⟨arr, h1, _⟩ := (h.msg m hm).1
  exact (Array.getElem?_eq_some_iff.1 h1).1
theorem Wr.set {w0 w : World} {v : Value} {M : List Mg} (h : Wr w0 v M w) {m : Mg} (hm : m ∈ M) (i : Nat) (y : Int) : Wr w0 v M (w.setCell ⟨m.g, i, none⟩ (.int .u8 y)) := by
  have hx := (h.msg m hm).1
  have hne : ∀ g, v.ownBlock = some g → g ≠ m.g := fun g hg e => by
    obtain ⟨c, hc⟩ := row_blk h.row hg
    obtain ⟨arr, h1, _⟩ := hx
    rw [e, h1] at hc
    simp at hc
  refine ⟨own_on h.row (fun g hg => (grown_set w m.g i _).block g (World.ownsRow.lt h.row g hg).2 (by simp only [ne_eq, Option.some.injEq]; exact hne g hg)), fun m' hm' => ⟨?_, (h.msg m' hm').2⟩⟩
  by_cases e : m'.g = m.g
  · have := (h.msg m' hm').1
    rw [e] at this ⊢
    exact this.set _
  · obtain ⟨arr, h1, h2⟩ := (h.msg m' hm').1
    exact (h.msg m' hm').1.keep ((grown_set w m.g i _).block m'.g (Array.getElem?_eq_some_iff.1 h1).1 (by simp only [ne_eq, Option.some.injEq]; exact e))
set_option maxRecDepth 100000 in
set_option maxHeartbeats 16000000 in
theorem plays_any (so : Option Addr) (cap0 : Nat) (os : List Ob) (w : World) (hn : os.length ≤ maxLen) (hx : RdB w so os) : Calls Try.prog 3 #[.slice so os.length cap0] w fun e w' => e = .returned (.bool true) ∧ Below w.heap.size w w' := by
  have HX := Lib.hid hx
  have HA := Lib.hid (awake_any w)
  clear hx
  generalize hnn : os.length = n at *
  have HN := Lib.hid hnn
  clear hnn
  have hn' : (n : Int) ≤ 9223372036854775807 := by unfold maxLen at hn; omega
  go_enter Try.func3, Try.ntmps3
  go_wp2_with fail
  refine HA.out.mono ?_
  rintro e w1 ⟨rfl, hb1⟩
  have HB1 := Lib.hid hb1
  clear hb1
  go_wp2_with fail
  refine (new_any w1).mono ?_
  rintro e w2 ⟨rfl, h2, hb2⟩
  have hlt := h2.lt (.inl rfl)
  have H2 : Hid (Ply w1 false (some ⟨w1.heap.size, 0, none⟩) (some ⟨w2.heap.size, 0, none⟩) [] [] (fun _ => False) (w2.alloc (.cells #[.slice none 0 0] 29))) := by
    have hb3 : Below w2.heap.size w2 (w2.alloc (.cells #[.slice none 0 0] 29)) := (Below.refl _ _).alloc (Nat.le_refl _) _
    refine Lib.hid ⟨hb2.trans (hb3.mono hb2.size), fun _ h => h.elim, .inr ⟨rfl, ⟨w1.heap.size, .slice none 0 0, []⟩, ⟨w2.heap.size, .slice none 0 0, []⟩, rfl, rfl, rfl, rfl, h2.below hb3, ⟨heap_alloc_new _ _, hb2.size, World.ownsRow_nil _ _ _ _, fun m hm => (by cases hm), fun m hm => (by cases hm), by simp, by simp⟩, fun k hk hy => ?_, fun k hk => hk.elim⟩⟩
    have e1 := h2.lt hk
    rcases hy with hy | hy | ⟨m, hm, _⟩
    · simp only at hy; omega
    · cases hy
    · cases hm
  clear h2 hb2 hlt
  go_wp2_with fail
  generalize hp : w1.heap.size = p at *
  generalize hq : w2.heap.size = q at *
  generalize hW3 : w2.alloc (.cells #[.slice none 0 0] 29) = w3 at *
  go_loopw [19] (fun x wr => ∃ k : Nat, x = .int .i64 k ∧ k ≤ n ∧ Hid (∃ L, Ply w1 false (some ⟨p, 0, none⟩) (some ⟨q, 0, none⟩) L L (fun _ => False) wr)) (fun x _ => n + 1 - (intOf x).toNat)
  case atStart => exact ⟨0, rfl, Nat.zero_le _, Lib.hid ⟨[], H2.out⟩⟩
  case round =>
    obtain ⟨k, rfl, hk, HK⟩ := hrel
    obtain ⟨L, hL⟩ := HK.out
    have HL := Lib.hid hL
    clear HK hL
    by_cases hkn : k < n
    · obtain ⟨o, ho⟩ : ∃ o, os[k]? = some o := ⟨_, List.getElem?_eq_getElem (by have := HN.out; omega)⟩
      have hbw : Below w.heap.size w wr := HB1.out.trans (HL.out.below.mono HB1.out.size)
      obtain ⟨sb, off, ao, c, rfl, s1, s2, s3, s4, s5⟩ := HX.out k o ho
      have s2 := (hbw.cell (p := ⟨sb, off + k * 3, none⟩) s1).trans s2
      have s3 := (hbw.cell (p := ⟨sb, off + k * 3 + 1, none⟩) s1).trans s3
      have s4 := (hbw.cell (p := ⟨sb, off + k * 3 + 2, none⟩) s1).trans s4
      have hk1 : k + 1 ≤ n := hkn
      have HOI : Hid (o.In w1 ao c) := Lib.hid (in_on s5 HB1.out)
      have hsw : sb < wr.heap.size := Nat.lt_of_lt_of_le s1 hbw.size
      clear ho hbw s1 s5
      by_cases h150 : k < 150
      · have h150' : ¬ (150 : Int) ≤ (k : Int) := by omega
        have HBX := Lib.hid (heap_alloc_new wr (.cells #[.int .u8 o.kd, .int .i64 o.i, .slice ao o.l.length c] 32))
        have HY : Hid (Ply w1 false (some ⟨p, 0, none⟩) (some ⟨q, 0, none⟩) L L (fun k => k = wr.heap.size) (wr.alloc (.cells #[.int .u8 o.kd, .int .i64 o.i, .slice ao o.l.length c] 32)).drew) := Lib.hid ((HL.out.more ((Below.refl _ _).alloc (Nat.le_refl _) _) (fun k hk => .inr (by rw [hk]; simp))).on (Below.refl _ _).drew)
        obtain ⟨d0, d1, d2⟩ := box_at HBX.out (w' := (wr.alloc (.cells #[.int .u8 o.kd, .int .i64 o.i, .slice ao o.l.length c] 32)).drew) rfl
        go_upto_region 9 with fail
        obtain ⟨zb, hzb⟩ : ∃ zb, wr.heap.size = zb := ⟨_, rfl⟩
        obtain ⟨W9, hW9⟩ : ∃ W9, wr.alloc (.cells #[.int .u8 o.kd, .int .i64 o.i, .slice ao o.l.length c] 32) = W9 := ⟨_, rfl⟩
        rw [hzb] at HBX HY d0 d1 d2 ⊢
        rw [hW9] at HBX HY d0 d1 d2 ⊢
        clear s2 s3 s4 hzb hW9
        by_cases h6 : k < 6
        · have h6' : (k : Int) < 6 := by omega
          refine wp_region_held_drew (S := (fun w' => w'.cell? ⟨zb, 0, none⟩ = some (.int .u8 o.kd) ∧ w'.cell? ⟨zb, 1, none⟩ = some (.int .i64 o.i) ∧ w'.cell? ⟨zb, 2, none⟩ = some (.slice ao o.l.length c))) (by kernel_rfl) ?_ (fun hHeld => ?_)
          · exact ⟨d0, d1, d2⟩
          refine' wpAnyH_take (i := 0) (oi := _) (v := _) rfl (by kernel_rfl) (by kernel_rfl) (by kernel_rfl) (fun _ _ _ h => h) (Or.inl ⟨by rfl, ?hy1⟩) (by assumption) ?rest1
          case hy1 => (intro w hSw; (try dsimp only at hSw); go_simp; try with_reducible rfl)
          try simp only [Act.put, List.setIfInBounds_toArray, List.set_cons_zero, List.set_cons_succ, List.getElem_toArray, List.getElem_cons_zero]
          refine' wpAnyH_take (i := 1) (oi := _) (v := _) rfl (by kernel_rfl) (by kernel_rfl) (by kernel_rfl) (fun _ _ _ h => h) (Or.inl ⟨by rfl, ?hy2⟩) (by assumption) ?rest2
          case hy2 => (intro w hSw; (try dsimp only at hSw); go_simp; try with_reducible rfl)
          try simp only [Act.put, List.setIfInBounds_toArray, List.set_cons_zero, List.set_cons_succ, List.getElem_toArray, List.getElem_cons_succ, List.getElem_cons_zero]
          refine' wpAnyH_take (i := 2) (oi := _) (v := _) rfl (by kernel_rfl) (by kernel_rfl) (by kernel_rfl) (fun _ _ _ h => h) (Or.inl ⟨by rfl, ?hy3⟩) (by assumption) ?rest3
          case hy3 => (intro w hSw; (try dsimp only at hSw); go_simp; try with_reducible rfl)
          try simp only [Act.put, List.setIfInBounds_toArray, List.set_cons_zero, List.set_cons_succ, List.getElem_toArray, List.getElem_cons_succ, List.getElem_cons_zero]
          refine wpAnyH_ready (rs := [3]) (by kernel_rfl) (by simp) ?_
          refine AllReadyH.cons (o := _) rfl (fun K hK => ?_) AllReadyH.nil
          go_simp
          (go_at_call 9; refine (play_any w1 false (some ⟨p, 0, none⟩) (some ⟨q, 0, none⟩) L (fun k => k = zb) o ao c _ HY.out HOI.out).mono ?_; rintro e' w4 ⟨rfl, L', hp4, hk4⟩; have H4 := Lib.hid hp4; have e3 := box_at HBX.out (hk4 zb rfl); have E3 := Lib.hid e3; clear hp4 hk4)
          refine hK.out _ _ ?_ (fun hHeld => ?_)
          · exact E3.out
          clear hK K
          try simp only [Act.put, List.setIfInBounds_toArray, List.set_cons_zero, List.set_cons_succ, List.getElem_toArray, List.getElem_cons_succ, List.getElem_cons_zero]
          refine' wpAnyH_take (i := 4) (oi := _) (v := _) rfl (by kernel_rfl) (by kernel_rfl) (by kernel_rfl) (fun _ _ _ h => h) (Or.inl ⟨by rfl, ?hy4⟩) (by assumption) ?rest4
          case hy4 => (intro w hSw; (try dsimp only at hSw); go_simp; try with_reducible rfl)
          try simp only [Act.put, List.setIfInBounds_toArray, List.set_cons_zero, List.set_cons_succ, List.getElem_toArray, List.getElem_cons_succ, List.getElem_cons_zero]
          refine' wpAnyH_take (i := 5) (oi := _) (v := _) rfl (by kernel_rfl) (by kernel_rfl) (by kernel_rfl) (fun _ _ _ h => h) (Or.inl ⟨by rfl, ?hy5⟩) (by assumption) ?rest5
          case hy5 => (intro w hSw; (try dsimp only at hSw); go_simp; try with_reducible rfl)
          try simp only [Act.put, List.setIfInBounds_toArray, List.set_cons_zero, List.set_cons_succ, List.getElem_toArray, List.getElem_cons_succ, List.getElem_cons_zero]
          refine' wpAnyH_take (i := 6) (oi := _) (v := _) rfl (by kernel_rfl) (by kernel_rfl) (by kernel_rfl) (fun _ _ _ h => h) (Or.inl ⟨by rfl, ?hy6⟩) (by assumption) ?rest6
          case hy6 => (intro w hSw; (try dsimp only at hSw); go_simp; try with_reducible rfl)
          try simp only [Act.put, List.setIfInBounds_toArray, List.set_cons_zero, List.set_cons_succ, List.getElem_toArray, List.getElem_cons_succ, List.getElem_cons_zero]
          refine' wpAnyH_take (i := 7) (oi := _) (v := _) rfl (by kernel_rfl) (by kernel_rfl) (by kernel_rfl) (fun _ _ _ h => h) (Or.inl ⟨by rfl, ?hy7⟩) (by assumption) ?rest7
          case hy7 => (intro w hSw; (try dsimp only at hSw); go_simp; try with_reducible rfl)
          try simp only [Act.put, List.setIfInBounds_toArray, List.set_cons_zero, List.set_cons_succ, List.getElem_toArray, List.getElem_cons_succ, List.getElem_cons_zero]
          refine' wpAnyH_take (i := 8) (oi := _) (v := _) rfl (by kernel_rfl) (by kernel_rfl) (by kernel_rfl) (fun _ _ _ h => h) (Or.inl ⟨by rfl, ?hy8⟩) (by assumption) ?rest8
          case hy8 => (intro w hSw; (try dsimp only at hSw); go_simp; try with_reducible rfl)
          try simp only [Act.put, List.setIfInBounds_toArray, List.set_cons_zero, List.set_cons_succ, List.getElem_toArray, List.getElem_cons_succ, List.getElem_cons_zero]
          refine' wpAnyH_take (i := 9) (oi := _) (v := _) rfl (by kernel_rfl) (by kernel_rfl) (by kernel_rfl) (fun _ _ _ h => h) (Or.inl ⟨by rfl, ?hy9⟩) (by assumption) ?rest9
          case hy9 => (intro w hSw; (try dsimp only at hSw); go_simp; try with_reducible rfl)
          try simp only [Act.put, List.setIfInBounds_toArray, List.set_cons_zero, List.set_cons_succ, List.getElem_toArray, List.getElem_cons_succ, List.getElem_cons_zero]
          refine' wpAnyH_take (i := 10) (oi := _) (v := _) rfl (by kernel_rfl) (by kernel_rfl) (by kernel_rfl) (fun _ _ _ h => h) (Or.inl ⟨by rfl, ?hy10⟩) (by assumption) ?rest10
          case hy10 => (intro w hSw; (try dsimp only at hSw); go_simp; try with_reducible rfl)
          try simp only [Act.put, List.setIfInBounds_toArray, List.set_cons_zero, List.set_cons_succ, List.getElem_toArray, List.getElem_cons_succ, List.getElem_cons_zero]
          refine wpAnyH_ready (rs := [11]) (by kernel_rfl) (by simp) ?_
          refine AllReadyH.cons (o := _) rfl (fun K hK => ?_) AllReadyH.nil
          go_simp
          (go_at_call 9; refine (play_nil o ao c w4 (in_on HOI.out H4.out.below)).mono ?_; rintro e' w5 ⟨rfl, hb5⟩; have E5 := Lib.hid (box3_below E3.out hb5 (H4.out.lt zb rfl)); have H5 := Lib.hid (H4.out.on hb5); clear hb5)
          refine hK.out _ _ ?_ (fun hHeld => ?_)
          · exact E5.out
          clear hK K
          try simp only [Act.put, List.setIfInBounds_toArray, List.set_cons_zero, List.set_cons_succ, List.getElem_toArray, List.getElem_cons_succ, List.getElem_cons_zero]
          refine' wpAnyH_take (i := 12) (oi := _) (v := _) rfl (by kernel_rfl) (by kernel_rfl) (by kernel_rfl) (fun _ _ _ h => h) (Or.inl ⟨by rfl, ?hy11⟩) (by assumption) ?rest11
          case hy11 => (intro w hSw; (try dsimp only at hSw); go_simp; try with_reducible rfl)
          try simp only [Act.put, List.setIfInBounds_toArray, List.set_cons_zero, List.set_cons_succ, List.getElem_toArray, List.getElem_cons_succ, List.getElem_cons_zero]
          refine' wpAnyH_take (i := 13) (oi := _) (v := _) rfl (by kernel_rfl) (by kernel_rfl) (by kernel_rfl) (fun _ _ _ h => h) (Or.inl ⟨by rfl, ?hy12⟩) (by assumption) ?rest12
          case hy12 => (intro w hSw; (try dsimp only at hSw); go_simp; try with_reducible rfl)
          try simp only [Act.put, List.setIfInBounds_toArray, List.set_cons_zero, List.set_cons_succ, List.getElem_toArray, List.getElem_cons_succ, List.getElem_cons_zero]
          refine' wpAnyH_take (i := 14) (oi := _) (v := _) rfl (by kernel_rfl) (by kernel_rfl) (by kernel_rfl) (fun _ _ _ h => h) (Or.inl ⟨by rfl, ?hy13⟩) (by assumption) ?rest13
          case hy13 => (intro w hSw; (try dsimp only at hSw); go_simp; try with_reducible rfl)
          try simp only [Act.put, List.setIfInBounds_toArray, List.set_cons_zero, List.set_cons_succ, List.getElem_toArray, List.getElem_cons_succ, List.getElem_cons_zero]
          refine' wpAnyH_take (i := 15) (oi := _) (v := _) rfl (by kernel_rfl) (by kernel_rfl) (by kernel_rfl) (fun _ _ _ h => h) (Or.inl ⟨by rfl, ?hy14⟩) (by assumption) ?rest14
          case hy14 => (intro w hSw; (try dsimp only at hSw); go_simp; try with_reducible rfl)
          try simp only [Act.put, List.setIfInBounds_toArray, List.set_cons_zero, List.set_cons_succ, List.getElem_toArray, List.getElem_cons_succ, List.getElem_cons_zero]
          refine' wpAnyH_take (i := 16) (oi := _) (v := _) rfl (by kernel_rfl) (by kernel_rfl) (by kernel_rfl) (fun _ _ _ h => h) (Or.inl ⟨by rfl, ?hy15⟩) (by assumption) ?rest15
          case hy15 => (intro w hSw; (try dsimp only at hSw); go_simp; try with_reducible rfl)
          try simp only [Act.put, List.setIfInBounds_toArray, List.set_cons_zero, List.set_cons_succ, List.getElem_toArray, List.getElem_cons_succ, List.getElem_cons_zero]
          obtain ⟨xo, xc, hxc, -⟩ := ply_cell H5.out
          refine wpAnyH_mono (S := (fun w' => (w'.cell? ⟨zb, 0, none⟩ = some (.int .u8 o.kd) ∧ w'.cell? ⟨zb, 1, none⟩ = some (.int .i64 o.i) ∧ w'.cell? ⟨zb, 2, none⟩ = some (.slice ao o.l.length c)) ∧ w'.cell? ⟨q, 0, none⟩ = some (.slice xo L'.length xc))) (fun _ h => h.1) _ _ _ _ ?_
          have hHeld2 := And.intro E5.out hxc
          refine' wpAnyH_take (i := 18) (oi := _) (v := _) rfl (by kernel_rfl) (by kernel_rfl) (by kernel_rfl) (fun _ _ _ h => h) (Or.inl ⟨by rfl, ?hy16⟩) (by assumption) ?rest16
          case hy16 => (intro w hSw; (try dsimp only at hSw); go_simp; try with_reducible rfl)
          try simp only [Act.put, List.setIfInBounds_toArray, List.set_cons_zero, List.set_cons_succ, List.getElem_toArray, List.getElem_cons_succ, List.getElem_cons_zero]
          refine' wpAnyH_take (i := 19) (oi := _) (v := _) rfl (by kernel_rfl) (by kernel_rfl) (by kernel_rfl) (fun _ _ _ h => h) (Or.inl ⟨by rfl, ?hy17⟩) (by assumption) ?rest17
          case hy17 => (intro w hSw; (try dsimp only at hSw); go_simp; try with_reducible rfl)
          try simp only [Act.put, List.setIfInBounds_toArray, List.set_cons_zero, List.set_cons_succ, List.getElem_toArray, List.getElem_cons_succ, List.getElem_cons_zero]
          refine' wpAnyH_take (i := 20) (oi := _) (v := _) rfl (by kernel_rfl) (by kernel_rfl) (by kernel_rfl) (fun _ _ _ h => h) (Or.inl ⟨by rfl, ?hy18⟩) (by assumption) ?rest18
          case hy18 => (intro w hSw; (try dsimp only at hSw); go_simp; try with_reducible rfl)
          try simp only [Act.put, List.setIfInBounds_toArray, List.set_cons_zero, List.set_cons_succ, List.getElem_toArray, List.getElem_cons_succ, List.getElem_cons_zero]
          refine' wpAnyH_take (i := 21) (oi := _) (v := _) rfl (by kernel_rfl) (by kernel_rfl) (by kernel_rfl) (fun _ _ _ h => h) (Or.inl ⟨by rfl, ?hy19⟩) (by assumption) ?rest19
          case hy19 => (intro w hSw; (try dsimp only at hSw); go_simp; try with_reducible rfl)
          try simp only [Act.put, List.setIfInBounds_toArray, List.set_cons_zero, List.set_cons_succ, List.getElem_toArray, List.getElem_cons_succ, List.getElem_cons_zero]
          refine' wpAnyH_take (i := 22) (oi := _) (v := _) rfl (by kernel_rfl) (by kernel_rfl) (by kernel_rfl) (fun _ _ _ h => h) (Or.inl ⟨by rfl, ?hy20⟩) (by assumption) ?rest20
          case hy20 => (intro w hSw; (try dsimp only at hSw); go_simp; try with_reducible rfl)
          try simp only [Act.put, List.setIfInBounds_toArray, List.set_cons_zero, List.set_cons_succ, List.getElem_toArray, List.getElem_cons_succ, List.getElem_cons_zero]
          refine wpAnyH_ready (rs := [17]) (by kernel_rfl) (by simp) ?_
          refine AllReadyH.cons (o := _) rfl (fun K hK => ?_) AllReadyH.nil
          go_simp
          (go_at_call 10; refine (ply_len H5.out).mono ?_; rintro e' w6 ⟨rfl, rfl⟩)
          refine hK.out _ _ ?_ (fun hHeld => ?_)
          · exact hHeld2
          clear hK K
          try simp only [Act.put, List.setIfInBounds_toArray, List.set_cons_zero, List.set_cons_succ, List.getElem_toArray, List.getElem_cons_succ, List.getElem_cons_zero]
          refine' wpAnyH_take (i := 23) (oi := _) (v := _) rfl (by kernel_rfl) (by kernel_rfl) (by kernel_rfl) (fun _ _ _ h => h) (Or.inl ⟨by rfl, ?hy21⟩) (by assumption) ?rest21
          case hy21 => (intro w hSw; (try dsimp only at hSw); go_simp; try with_reducible rfl)
          try simp only [Act.put, List.setIfInBounds_toArray, List.set_cons_zero, List.set_cons_succ, List.getElem_toArray, List.getElem_cons_succ, List.getElem_cons_zero]
          refine' wpAnyH_take (i := 24) (oi := _) (v := _) rfl (by kernel_rfl) (by kernel_rfl) (by kernel_rfl) (fun _ _ _ h => h) (Or.inl ⟨by rfl, ?hy22⟩) (by assumption) ?rest22
          case hy22 => (intro w hSw; (try dsimp only at hSw); go_simp; try with_reducible rfl)
          try simp only [Act.put, List.setIfInBounds_toArray, List.set_cons_zero, List.set_cons_succ, List.getElem_toArray, List.getElem_cons_succ, List.getElem_cons_zero]
          refine wpAnyH_done (by kernel_rfl) ?_ _
          go_wp2_with fail
          go_roundw
          case rel => exact ⟨k + 1, by go_num, hk1, Lib.hid ⟨L', H5.out.less (fun _ h => h.elim)⟩⟩
          case measure => simp [intOf] <;> omega
        · have h6' : ¬ (k : Int) < 6 := by omega
          refine wp_region_held_drew (S := (fun w' => w'.cell? ⟨zb, 0, none⟩ = some (.int .u8 o.kd) ∧ w'.cell? ⟨zb, 1, none⟩ = some (.int .i64 o.i) ∧ w'.cell? ⟨zb, 2, none⟩ = some (.slice ao o.l.length c))) (by kernel_rfl) ?_ (fun hHeld => ?_)
          · exact ⟨d0, d1, d2⟩
          refine' wpAnyH_take (i := 0) (oi := _) (v := _) rfl (by kernel_rfl) (by kernel_rfl) (by kernel_rfl) (fun _ _ _ h => h) (Or.inl ⟨by rfl, ?hy23⟩) (by assumption) ?rest23
          case hy23 => (intro w hSw; (try dsimp only at hSw); go_simp; try with_reducible rfl)
          try simp only [Act.put, List.setIfInBounds_toArray, List.set_cons_zero, List.set_cons_succ, List.getElem_toArray, List.getElem_cons_zero]
          refine' wpAnyH_take (i := 1) (oi := _) (v := _) rfl (by kernel_rfl) (by kernel_rfl) (by kernel_rfl) (fun _ _ _ h => h) (Or.inl ⟨by rfl, ?hy24⟩) (by assumption) ?rest24
          case hy24 => (intro w hSw; (try dsimp only at hSw); go_simp; try with_reducible rfl)
          try simp only [Act.put, List.setIfInBounds_toArray, List.set_cons_zero, List.set_cons_succ, List.getElem_toArray, List.getElem_cons_succ, List.getElem_cons_zero]
          refine' wpAnyH_take (i := 2) (oi := _) (v := _) rfl (by kernel_rfl) (by kernel_rfl) (by kernel_rfl) (fun _ _ _ h => h) (Or.inl ⟨by rfl, ?hy25⟩) (by assumption) ?rest25
          case hy25 => (intro w hSw; (try dsimp only at hSw); go_simp; try with_reducible rfl)
          try simp only [Act.put, List.setIfInBounds_toArray, List.set_cons_zero, List.set_cons_succ, List.getElem_toArray, List.getElem_cons_succ, List.getElem_cons_zero]
          refine wpAnyH_ready (rs := [3]) (by kernel_rfl) (by simp) ?_
          refine AllReadyH.cons (o := _) rfl (fun K hK => ?_) AllReadyH.nil
          go_simp
          (go_at_call 9; refine (play_any w1 false (some ⟨p, 0, none⟩) (some ⟨q, 0, none⟩) L (fun k => k = zb) o ao c _ HY.out HOI.out).mono ?_; rintro e' w4 ⟨rfl, L', hp4, hk4⟩; have H4 := Lib.hid hp4; have e3 := box_at HBX.out (hk4 zb rfl); have E3 := Lib.hid e3; clear hp4 hk4)
          refine hK.out _ _ ?_ (fun hHeld => ?_)
          · exact E3.out
          clear hK K
          try simp only [Act.put, List.setIfInBounds_toArray, List.set_cons_zero, List.set_cons_succ, List.getElem_toArray, List.getElem_cons_succ, List.getElem_cons_zero]
          refine' wpAnyH_take (i := 4) (oi := _) (v := _) rfl (by kernel_rfl) (by kernel_rfl) (by kernel_rfl) (fun _ _ _ h => h) (Or.inl ⟨by rfl, ?hy26⟩) (by assumption) ?rest26
          case hy26 => (intro w hSw; (try dsimp only at hSw); go_simp; try with_reducible rfl)
          try simp only [Act.put, List.setIfInBounds_toArray, List.set_cons_zero, List.set_cons_succ, List.getElem_toArray, List.getElem_cons_succ, List.getElem_cons_zero]
          refine' wpAnyH_take (i := 5) (oi := _) (v := _) rfl (by kernel_rfl) (by kernel_rfl) (by kernel_rfl) (fun _ _ _ h => h) (Or.inl ⟨by rfl, ?hy27⟩) (by assumption) ?rest27
          case hy27 => (intro w hSw; (try dsimp only at hSw); go_simp; try with_reducible rfl)
          try simp only [Act.put, List.setIfInBounds_toArray, List.set_cons_zero, List.set_cons_succ, List.getElem_toArray, List.getElem_cons_succ, List.getElem_cons_zero]
          refine' wpAnyH_take (i := 6) (oi := _) (v := _) rfl (by kernel_rfl) (by kernel_rfl) (by kernel_rfl) (fun _ _ _ h => h) (Or.inl ⟨by rfl, ?hy28⟩) (by assumption) ?rest28
          case hy28 => (intro w hSw; (try dsimp only at hSw); go_simp; try with_reducible rfl)
          try simp only [Act.put, List.setIfInBounds_toArray, List.set_cons_zero, List.set_cons_succ, List.getElem_toArray, List.getElem_cons_succ, List.getElem_cons_zero]
          refine' wpAnyH_take (i := 7) (oi := _) (v := _) rfl (by kernel_rfl) (by kernel_rfl) (by kernel_rfl) (fun _ _ _ h => h) (Or.inl ⟨by rfl, ?hy29⟩) (by assumption) ?rest29
          case hy29 => (intro w hSw; (try dsimp only at hSw); go_simp; try with_reducible rfl)
          try simp only [Act.put, List.setIfInBounds_toArray, List.set_cons_zero, List.set_cons_succ, List.getElem_toArray, List.getElem_cons_succ, List.getElem_cons_zero]
          refine' wpAnyH_take (i := 8) (oi := _) (v := _) rfl (by kernel_rfl) (by kernel_rfl) (by kernel_rfl) (fun _ _ _ h => h) (Or.inl ⟨by rfl, ?hy30⟩) (by assumption) ?rest30
          case hy30 => (intro w hSw; (try dsimp only at hSw); go_simp; try with_reducible rfl)
          try simp only [Act.put, List.setIfInBounds_toArray, List.set_cons_zero, List.set_cons_succ, List.getElem_toArray, List.getElem_cons_succ, List.getElem_cons_zero]
          refine wpAnyH_take (i := 9) (oi := _) (v := undef) rfl (by kernel_rfl) (by kernel_rfl) (by kernel_rfl) (fun _ _ _ h => h) (Or.inr ⟨by rfl, rfl⟩) (by assumption) ?_
          try simp only [Act.put, List.setIfInBounds_toArray, List.set_cons_zero, List.set_cons_succ, List.getElem_toArray, List.getElem_cons_succ, List.getElem_cons_zero]
          refine wpAnyH_take (i := 10) (oi := _) (v := undef) rfl (by kernel_rfl) (by kernel_rfl) (by kernel_rfl) (fun _ _ _ h => h) (Or.inr ⟨by rfl, rfl⟩) (by assumption) ?_
          try simp only [Act.put, List.setIfInBounds_toArray, List.set_cons_zero, List.set_cons_succ, List.getElem_toArray, List.getElem_cons_succ, List.getElem_cons_zero]
          refine wpAnyH_take (i := 11) (oi := _) (v := undef) rfl (by kernel_rfl) (by kernel_rfl) (by kernel_rfl) (fun _ _ _ h => h) (Or.inr ⟨by rfl, rfl⟩) (by assumption) ?_
          try simp only [Act.put, List.setIfInBounds_toArray, List.set_cons_zero, List.set_cons_succ, List.getElem_toArray, List.getElem_cons_succ, List.getElem_cons_zero]
          refine wpAnyH_take (i := 12) (oi := _) (v := undef) rfl (by kernel_rfl) (by kernel_rfl) (by kernel_rfl) (fun _ _ _ h => h) (Or.inr ⟨by rfl, rfl⟩) (by assumption) ?_
          try simp only [Act.put, List.setIfInBounds_toArray, List.set_cons_zero, List.set_cons_succ, List.getElem_toArray, List.getElem_cons_succ, List.getElem_cons_zero]
          refine' wpAnyH_take (i := 13) (oi := _) (v := _) rfl (by kernel_rfl) (by kernel_rfl) (by kernel_rfl) (fun _ _ _ h => h) (Or.inl ⟨by rfl, ?hy31⟩) (by assumption) ?rest31
          case hy31 => (intro w hSw; (try dsimp only at hSw); go_simp; try with_reducible rfl)
          try simp only [Act.put, List.setIfInBounds_toArray, List.set_cons_zero, List.set_cons_succ, List.getElem_toArray, List.getElem_cons_succ, List.getElem_cons_zero]
          refine' wpAnyH_take (i := 14) (oi := _) (v := _) rfl (by kernel_rfl) (by kernel_rfl) (by kernel_rfl) (fun _ _ _ h => h) (Or.inl ⟨by rfl, ?hy32⟩) (by assumption) ?rest32
          case hy32 => (intro w hSw; (try dsimp only at hSw); go_simp; try with_reducible rfl)
          try simp only [Act.put, List.setIfInBounds_toArray, List.set_cons_zero, List.set_cons_succ, List.getElem_toArray, List.getElem_cons_succ, List.getElem_cons_zero]
          refine' wpAnyH_take (i := 15) (oi := _) (v := _) rfl (by kernel_rfl) (by kernel_rfl) (by kernel_rfl) (fun _ _ _ h => h) (Or.inl ⟨by rfl, ?hy33⟩) (by assumption) ?rest33
          case hy33 => (intro w hSw; (try dsimp only at hSw); go_simp; try with_reducible rfl)
          try simp only [Act.put, List.setIfInBounds_toArray, List.set_cons_zero, List.set_cons_succ, List.getElem_toArray, List.getElem_cons_succ, List.getElem_cons_zero]
          refine' wpAnyH_take (i := 16) (oi := _) (v := _) rfl (by kernel_rfl) (by kernel_rfl) (by kernel_rfl) (fun _ _ _ h => h) (Or.inl ⟨by rfl, ?hy34⟩) (by assumption) ?rest34
          case hy34 => (intro w hSw; (try dsimp only at hSw); go_simp; try with_reducible rfl)
          try simp only [Act.put, List.setIfInBounds_toArray, List.set_cons_zero, List.set_cons_succ, List.getElem_toArray, List.getElem_cons_succ, List.getElem_cons_zero]
          obtain ⟨xo, xc, hxc, -⟩ := ply_cell H4.out
          refine wpAnyH_mono (S := (fun w' => (w'.cell? ⟨zb, 0, none⟩ = some (.int .u8 o.kd) ∧ w'.cell? ⟨zb, 1, none⟩ = some (.int .i64 o.i) ∧ w'.cell? ⟨zb, 2, none⟩ = some (.slice ao o.l.length c)) ∧ w'.cell? ⟨q, 0, none⟩ = some (.slice xo L'.length xc))) (fun _ h => h.1) _ _ _ _ ?_
          have hHeld2 := And.intro E3.out hxc
          refine' wpAnyH_take (i := 18) (oi := _) (v := _) rfl (by kernel_rfl) (by kernel_rfl) (by kernel_rfl) (fun _ _ _ h => h) (Or.inl ⟨by rfl, ?hy35⟩) (by assumption) ?rest35
          case hy35 => (intro w hSw; (try dsimp only at hSw); go_simp; try with_reducible rfl)
          try simp only [Act.put, List.setIfInBounds_toArray, List.set_cons_zero, List.set_cons_succ, List.getElem_toArray, List.getElem_cons_succ, List.getElem_cons_zero]
          refine' wpAnyH_take (i := 19) (oi := _) (v := _) rfl (by kernel_rfl) (by kernel_rfl) (by kernel_rfl) (fun _ _ _ h => h) (Or.inl ⟨by rfl, ?hy36⟩) (by assumption) ?rest36
          case hy36 => (intro w hSw; (try dsimp only at hSw); go_simp; try with_reducible rfl)
          try simp only [Act.put, List.setIfInBounds_toArray, List.set_cons_zero, List.set_cons_succ, List.getElem_toArray, List.getElem_cons_succ, List.getElem_cons_zero]
          refine' wpAnyH_take (i := 20) (oi := _) (v := _) rfl (by kernel_rfl) (by kernel_rfl) (by kernel_rfl) (fun _ _ _ h => h) (Or.inl ⟨by rfl, ?hy37⟩) (by assumption) ?rest37
          case hy37 => (intro w hSw; (try dsimp only at hSw); go_simp; try with_reducible rfl)
          try simp only [Act.put, List.setIfInBounds_toArray, List.set_cons_zero, List.set_cons_succ, List.getElem_toArray, List.getElem_cons_succ, List.getElem_cons_zero]
          refine' wpAnyH_take (i := 21) (oi := _) (v := _) rfl (by kernel_rfl) (by kernel_rfl) (by kernel_rfl) (fun _ _ _ h => h) (Or.inl ⟨by rfl, ?hy38⟩) (by assumption) ?rest38
          case hy38 => (intro w hSw; (try dsimp only at hSw); go_simp; try with_reducible rfl)
          try simp only [Act.put, List.setIfInBounds_toArray, List.set_cons_zero, List.set_cons_succ, List.getElem_toArray, List.getElem_cons_succ, List.getElem_cons_zero]
          refine' wpAnyH_take (i := 22) (oi := _) (v := _) rfl (by kernel_rfl) (by kernel_rfl) (by kernel_rfl) (fun _ _ _ h => h) (Or.inl ⟨by rfl, ?hy39⟩) (by assumption) ?rest39
          case hy39 => (intro w hSw; (try dsimp only at hSw); go_simp; try with_reducible rfl)
          try simp only [Act.put, List.setIfInBounds_toArray, List.set_cons_zero, List.set_cons_succ, List.getElem_toArray, List.getElem_cons_succ, List.getElem_cons_zero]
          refine wpAnyH_ready (rs := [17]) (by kernel_rfl) (by simp) ?_
          refine AllReadyH.cons (o := _) rfl (fun K hK => ?_) AllReadyH.nil
          go_simp
          (go_at_call 10; refine (ply_len H4.out).mono ?_; rintro e' w6 ⟨rfl, rfl⟩)
          refine hK.out _ _ ?_ (fun hHeld => ?_)
          · exact hHeld2
          clear hK K
          try simp only [Act.put, List.setIfInBounds_toArray, List.set_cons_zero, List.set_cons_succ, List.getElem_toArray, List.getElem_cons_succ, List.getElem_cons_zero]
          refine' wpAnyH_take (i := 23) (oi := _) (v := _) rfl (by kernel_rfl) (by kernel_rfl) (by kernel_rfl) (fun _ _ _ h => h) (Or.inl ⟨by rfl, ?hy40⟩) (by assumption) ?rest40
          case hy40 => (intro w hSw; (try dsimp only at hSw); go_simp; try with_reducible rfl)
          try simp only [Act.put, List.setIfInBounds_toArray, List.set_cons_zero, List.set_cons_succ, List.getElem_toArray, List.getElem_cons_succ, List.getElem_cons_zero]
          refine' wpAnyH_take (i := 24) (oi := _) (v := _) rfl (by kernel_rfl) (by kernel_rfl) (by kernel_rfl) (fun _ _ _ h => h) (Or.inl ⟨by rfl, ?hy41⟩) (by assumption) ?rest41
          case hy41 => (intro w hSw; (try dsimp only at hSw); go_simp; try with_reducible rfl)
          try simp only [Act.put, List.setIfInBounds_toArray, List.set_cons_zero, List.set_cons_succ, List.getElem_toArray, List.getElem_cons_succ, List.getElem_cons_zero]
          refine wpAnyH_done (by kernel_rfl) ?_ _
          go_wp2_with fail
          go_roundw
          case rel => exact ⟨k + 1, by go_num, hk1, Lib.hid ⟨L', H4.out.less (fun _ h => h.elim)⟩⟩
          case measure => simp [intOf] <;> omega
      · have h150' : (150 : Int) ≤ (k : Int) := by omega
        have HL := Lib.hid (HL.out.on ((Below.refl _ wr).alloc (Nat.le_refl _) (.cells #[.int .u8 o.kd, .int .i64 o.i, .slice ao o.l.length c] 32)))
        go_wp2_with fail
        refine (ply_all HL.out).mono ?_
        rintro e w5 ⟨v5, M, rfl, hnr, hml, hb5⟩
        obtain ⟨vo, vc, rfl, _, _⟩ := row_form hnr.row
        have H5 := HL.out.on hb5
        obtain ⟨xo, xc, hxc, hxr⟩ := ply_cell H5
        have hll : M.length = L.length := by have := congrArg List.length hml; simpa using this
        have hl2 : L.length ≤ 2000 := HL.out.len.1
        have hrd := rdrow_own hnr.row (fun m hm => (hnr.msg m hm).1) rfl (by unfold maxLen; omega)
        rw [hml] at hrd
        have HQ := Lib.hid (sameL_any _ _ L L w5 hrd hxr)
        rw [decide_eq_true rfl] at HQ
        have HW5 := Lib.hid (Wr.of (w0 := w1) hnr HL.out.below.size)
        have HP5 : Hid (Ply w1 false (some ⟨p, 0, none⟩) (some ⟨q, 0, none⟩) L L (fun k => ∃ m, m ∈ M ∧ m.g = k) w5) := Lib.hid (HL.out.more hb5 (fun k hk => by
          obtain ⟨m, hm, rfl⟩ := hk
          exact .inr ⟨(hnr.msg m hm).2, (hnr.msg m hm).1.lt⟩))
        have hqq : Hid (M.length ≤ 2000) := Lib.hid (by omega)
        have hmm2 : (M.length : Int) ≤ 2000 := by omega
        clear hnr hml hb5 H5 hxr hll hrd
        go_wp2_with fail
        refine HQ.out.mono ?_
        rintro e w6 ⟨rfl, hb6⟩
        have H6 := Lib.hid (And.intro (HP5.out.on hb6) (HW5.out.on hb6))
        clear hb6 HP5 HW5 HQ hxc
        obtain ⟨mm, hmm⟩ : ∃ mm, M.length = mm := ⟨_, rfl⟩
        rw [hmm] at H6 hmm2 ⊢
        have HMM := Lib.hid hmm
        clear hmm hqq
        go_wp2_with fail
        go_loopw [62] (fun x wr => ∃ i : Nat, x = .int .i64 i ∧ i ≤ mm ∧ Hid (Ply w1 false (some ⟨p, 0, none⟩) (some ⟨q, 0, none⟩) L L (fun k => ∃ m, m ∈ M ∧ m.g = k) wr ∧ Wr w1 (.slice vo mm vc) M wr)) (fun x _ => mm + 1 - (intOf x).toNat)
        case atStart => exact ⟨0, rfl, Nat.zero_le _, H6⟩
        case round =>
          obtain ⟨i, rfl, hi, HI⟩ := hrel
          by_cases him : i < mm
          · obtain ⟨m, hm⟩ : ∃ m, M[i]? = some m := ⟨_, List.getElem?_eq_getElem (by have := HMM.out; omega)⟩
            have HM := Lib.hid hm
            obtain ⟨gr, gc, hv, _, _, hnc, _, hc⟩ := row_at HI.out.2.row (rowM_at hm)
            simp only [Value.slice.injEq] at hv
            obtain ⟨rfl, -, rfl⟩ := hv
            rw [HMM.out] at hnc
            unfold mv at hc
            have hi1 : i + 1 ≤ mm := him
            have hx16 : m.l.length ≤ 16384 := (HI.out.2.msg m (List.mem_of_getElem? hm)).2.2
            clear hm
            obtain ⟨x, hx⟩ : ∃ x, m.l.length = x := ⟨_, rfl⟩
            rw [hx] at hc hx16
            have HX2 := Lib.hid hx
            clear hx
            go_wp2_with fail
            go_loopw [70] (fun y wr => ∃ j : Nat, y = .int .i64 j ∧ j ≤ x ∧ Hid (Ply w1 false (some ⟨p, 0, none⟩) (some ⟨q, 0, none⟩) L L (fun k => ∃ m, m ∈ M ∧ m.g = k) wr ∧ Wr w1 (.slice (some ⟨gr, 0, none⟩) mm vc) M wr)) (fun y _ => x + 1 - (intOf y).toNat)
            case atStart => exact ⟨0, rfl, Nat.zero_le _, HI⟩
            case round =>
              obtain ⟨j, rfl, hj, HJ⟩ := hrel
              by_cases hjx : j < x
              · obtain ⟨y, y1, y2, y3⟩ := (HJ.out.2.msg m (List.mem_of_getElem? HM.out)).1.at (i := j) (by have := HX2.out; omega)
                obtain ⟨gr', gc', hv, _, _, _, _, hc'⟩ := row_at HJ.out.2.row (rowM_at HM.out)
                simp only [Value.slice.injEq, Option.some.injEq, Addr.mk.injEq, and_true] at hv
                obtain ⟨rfl, -, -⟩ := hv
                unfold mv at hc'
                rw [HX2.out] at hc'
                have hj1 : j + 1 ≤ x := hjx
                go_wp2_with fail
                go_roundw
                case rel => exact ⟨j + 1, by go_num, hj1, Lib.hid ⟨HJ.out.1.turn (turned_set _ _ _ _) (fun k e => ⟨m, List.mem_of_getElem? HM.out, e.symm⟩) (fun k e => by rw [e]; exact (HJ.out.2.msg m (List.mem_of_getElem? HM.out)).2.1), HJ.out.2.set (List.mem_of_getElem? HM.out) j _⟩⟩
                case measure => simp [intOf] <;> omega
              · have hjE : x = j := by omega
                subst hjE
                clear hjx hj
                go_wp2_with fail
                go_roundw
                case rel => exact ⟨i + 1, by go_num, hi1, HJ⟩
                case measure => simp [intOf] <;> omega
          · have hiE : mm = i := by omega
            subst hiE
            clear him hi
            have HZ := Lib.hid HI.out.1
            obtain ⟨xo, xc, hxc, -⟩ := ply_cell HZ.out
            have hql : q < wr.heap.size := World.block_lt_of_cell? wr _ hxc
            have hxd : wr.drew.cell? ⟨q, 0, none⟩ = some (.slice xo L.length xc) := hxc
            go_upto_region 23 with fail
            go_region_held3 (fun w' => w'.cell? ⟨q, 0, none⟩ = some (.slice xo L.length xc)) (first | exact hxd | exact y7 | exact y8) (first
              | (have hh := G1; clear hh; go_at_call 11; refine (all_nil _).mono ?_; rintro e' w9 ⟨rfl, rfl⟩)
              | (go_at_call 11; refine (ply_all (HZ.out.on (Below.refl _ wr).drew)).mono ?_; rintro e' w7 ⟨u7, M7, rfl, h7, hm7, hb7⟩; have y7 : w7.cell? ⟨q, 0, none⟩ = some (.slice xo L.length xc) := (hb7.cell (p := ⟨q, 0, none⟩) hql).trans hxd; have H7 := Lib.hid (HZ.out.on ((Below.refl _ wr).drew.trans hb7)); obtain ⟨uo, uc, rfl, _, _⟩ := row_form h7.row; have hll7 : M7.length = L.length := (by have := congrArg List.length hm7; simpa using this); have hrd7 := rdrow_own h7.row (fun m hm => (h7.msg m hm).1) rfl (by unfold maxLen; omega); rw [hm7] at hrd7; have HR7 := Lib.hid hrd7; have G1 := Lib.hid (And.intro (World.block_lt_of_cell? w7 _ y7) trivial); clear h7 hm7 hb7 hrd7 hll7)
              | (go_at_call 12; refine (sameL_any _ _ L L w7 HR7.out (by obtain ⟨xo2, xc2, hx2, hr2⟩ := ply_cell H7.out; have hh := hx2.symm.trans y7; injection hh with hh; rw [hh] at hr2; exact hr2)).mono ?_; rw [decide_eq_true (rfl : L = L)]; rintro e' w8 ⟨rfl, hb8⟩; have y8 : w8.cell? ⟨q, 0, none⟩ = some (.slice xo L.length xc) := (hb8.cell (p := ⟨q, 0, none⟩) G1.out.1).trans y7; have H8 := Lib.hid (H7.out.on hb8); clear hb8)
              | (go_at_call 10; refine (len_nil _).mono ?_; rintro e' w9 ⟨rfl, rfl⟩))
            all_goals
              go_wp2_with fail
              go_ret
              exact ⟨rfl, HB1.out.trans (H8.out.below.mono HB1.out.size)⟩
    · have hkE : n = k := by omega
      subst hkE
      clear hkn hk
      go_wp2_with fail
      refine (ply_all HL.out).mono ?_
      rintro e w5 ⟨v5, M, rfl, hnr, hml, hb5⟩
      obtain ⟨vo, vc, rfl, _, _⟩ := row_form hnr.row
      have H5 := HL.out.on hb5
      obtain ⟨xo, xc, hxc, hxr⟩ := ply_cell H5
      have hll : M.length = L.length := by have := congrArg List.length hml; simpa using this
      have hl2 : L.length ≤ 2000 := HL.out.len.1
      have hrd := rdrow_own hnr.row (fun m hm => (hnr.msg m hm).1) rfl (by unfold maxLen; omega)
      rw [hml] at hrd
      have HQ := Lib.hid (sameL_any _ _ L L w5 hrd hxr)
      rw [decide_eq_true rfl] at HQ
      have HW5 := Lib.hid (Wr.of (w0 := w1) hnr HL.out.below.size)
      have HP5 : Hid (Ply w1 false (some ⟨p, 0, none⟩) (some ⟨q, 0, none⟩) L L (fun k => ∃ m, m ∈ M ∧ m.g = k) w5) := Lib.hid (HL.out.more hb5 (fun k hk => by
        obtain ⟨m, hm, rfl⟩ := hk
        exact .inr ⟨(hnr.msg m hm).2, (hnr.msg m hm).1.lt⟩))
      have hqq : Hid (M.length ≤ 2000) := Lib.hid (by omega)
      have hmm2 : (M.length : Int) ≤ 2000 := by omega
      clear hnr hml hb5 H5 hxr hll hrd
      go_wp2_with fail
      refine HQ.out.mono ?_
      rintro e w6 ⟨rfl, hb6⟩
      have H6 := Lib.hid (And.intro (HP5.out.on hb6) (HW5.out.on hb6))
      clear hb6 HP5 HW5 HQ hxc
      obtain ⟨mm, hmm⟩ : ∃ mm, M.length = mm := ⟨_, rfl⟩
      rw [hmm] at H6 hmm2 ⊢
      have HMM := Lib.hid hmm
      clear hmm hqq
      go_wp2_with fail
      go_loopw [62] (fun x wr => ∃ i : Nat, x = .int .i64 i ∧ i ≤ mm ∧ Hid (Ply w1 false (some ⟨p, 0, none⟩) (some ⟨q, 0, none⟩) L L (fun k => ∃ m, m ∈ M ∧ m.g = k) wr ∧ Wr w1 (.slice vo mm vc) M wr)) (fun x _ => mm + 1 - (intOf x).toNat)
      case atStart => exact ⟨0, rfl, Nat.zero_le _, H6⟩
      case round =>
        obtain ⟨i, rfl, hi, HI⟩ := hrel
        by_cases him : i < mm
        · obtain ⟨m, hm⟩ : ∃ m, M[i]? = some m := ⟨_, List.getElem?_eq_getElem (by have := HMM.out; omega)⟩
          have HM := Lib.hid hm
          obtain ⟨gr, gc, hv, _, _, hnc, _, hc⟩ := row_at HI.out.2.row (rowM_at hm)
          simp only [Value.slice.injEq] at hv
          obtain ⟨rfl, -, rfl⟩ := hv
          rw [HMM.out] at hnc
          unfold mv at hc
          have hi1 : i + 1 ≤ mm := him
          have hx16 : m.l.length ≤ 16384 := (HI.out.2.msg m (List.mem_of_getElem? hm)).2.2
          clear hm
          obtain ⟨x, hx⟩ : ∃ x, m.l.length = x := ⟨_, rfl⟩
          rw [hx] at hc hx16
          have HX2 := Lib.hid hx
          clear hx
          go_wp2_with fail
          go_loopw [70] (fun y wr => ∃ j : Nat, y = .int .i64 j ∧ j ≤ x ∧ Hid (Ply w1 false (some ⟨p, 0, none⟩) (some ⟨q, 0, none⟩) L L (fun k => ∃ m, m ∈ M ∧ m.g = k) wr ∧ Wr w1 (.slice (some ⟨gr, 0, none⟩) mm vc) M wr)) (fun y _ => x + 1 - (intOf y).toNat)
          case atStart => exact ⟨0, rfl, Nat.zero_le _, HI⟩
          case round =>
            obtain ⟨j, rfl, hj, HJ⟩ := hrel
            by_cases hjx : j < x
            · obtain ⟨y, y1, y2, y3⟩ := (HJ.out.2.msg m (List.mem_of_getElem? HM.out)).1.at (i := j) (by have := HX2.out; omega)
              obtain ⟨gr', gc', hv, _, _, _, _, hc'⟩ := row_at HJ.out.2.row (rowM_at HM.out)
              simp only [Value.slice.injEq, Option.some.injEq, Addr.mk.injEq, and_true] at hv
              obtain ⟨rfl, -, -⟩ := hv
              unfold mv at hc'
              rw [HX2.out] at hc'
              have hj1 : j + 1 ≤ x := hjx
              go_wp2_with fail
              go_roundw
              case rel => exact ⟨j + 1, by go_num, hj1, Lib.hid ⟨HJ.out.1.turn (turned_set _ _ _ _) (fun k e => ⟨m, List.mem_of_getElem? HM.out, e.symm⟩) (fun k e => by rw [e]; exact (HJ.out.2.msg m (List.mem_of_getElem? HM.out)).2.1), HJ.out.2.set (List.mem_of_getElem? HM.out) j _⟩⟩
              case measure => simp [intOf] <;> omega
            · have hjE : x = j := by omega
              subst hjE
              clear hjx hj
              go_wp2_with fail
              go_roundw
              case rel => exact ⟨i + 1, by go_num, hi1, HJ⟩
              case measure => simp [intOf] <;> omega
        · have hiE : mm = i := by omega
          subst hiE
          clear him hi
          have HZ := Lib.hid HI.out.1
          obtain ⟨xo, xc, hxc, -⟩ := ply_cell HZ.out
          have hql : q < wr.heap.size := World.block_lt_of_cell? wr _ hxc
          have hxd : wr.drew.cell? ⟨q, 0, none⟩ = some (.slice xo L.length xc) := hxc
          go_upto_region 23 with fail
          go_region_held3 (fun w' => w'.cell? ⟨q, 0, none⟩ = some (.slice xo L.length xc)) (first | exact hxd | exact y7 | exact y8) (first
            | (have hh := G1; clear hh; go_at_call 11; refine (all_nil _).mono ?_; rintro e' w9 ⟨rfl, rfl⟩)
            | (go_at_call 11; refine (ply_all (HZ.out.on (Below.refl _ wr).drew)).mono ?_; rintro e' w7 ⟨u7, M7, rfl, h7, hm7, hb7⟩; have y7 : w7.cell? ⟨q, 0, none⟩ = some (.slice xo L.length xc) := (hb7.cell (p := ⟨q, 0, none⟩) hql).trans hxd; have H7 := Lib.hid (HZ.out.on ((Below.refl _ wr).drew.trans hb7)); obtain ⟨uo, uc, rfl, _, _⟩ := row_form h7.row; have hll7 : M7.length = L.length := (by have := congrArg List.length hm7; simpa using this); have hrd7 := rdrow_own h7.row (fun m hm => (h7.msg m hm).1) rfl (by unfold maxLen; omega); rw [hm7] at hrd7; have HR7 := Lib.hid hrd7; have G1 := Lib.hid (And.intro (World.block_lt_of_cell? w7 _ y7) trivial); clear h7 hm7 hb7 hrd7 hll7)
            | (go_at_call 12; refine (sameL_any _ _ L L w7 HR7.out (by obtain ⟨xo2, xc2, hx2, hr2⟩ := ply_cell H7.out; have hh := hx2.symm.trans y7; injection hh with hh; rw [hh] at hr2; exact hr2)).mono ?_; rw [decide_eq_true (rfl : L = L)]; rintro e' w8 ⟨rfl, hb8⟩; have y8 : w8.cell? ⟨q, 0, none⟩ = some (.slice xo L.length xc) := (hb8.cell (p := ⟨q, 0, none⟩) G1.out.1).trans y7; have H8 := Lib.hid (H7.out.on hb8); clear hb8)
            | (go_at_call 10; refine (len_nil _).mono ?_; rintro e' w9 ⟨rfl, rfl⟩))
          all_goals
            go_wp2_with fail
            go_ret
            exact ⟨rfl, HB1.out.trans (H8.out.below.mono HB1.out.size)⟩
end Go.Proofs.Ythjcllgjojldjaa.Bg
