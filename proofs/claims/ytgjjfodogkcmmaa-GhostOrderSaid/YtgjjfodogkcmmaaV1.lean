/- ghost: the document's Same, the law's ghosts, walked. -/
import Derived.Test.YtgjjfodogkcmmaaT9
namespace Go.Proofs.Ytgjjfodogkcmmaa.Gh
open Go Go.RowKit Ytgjjfodogkcmmaa.So
theorem drewN_refl (w : World) (n : Nat) : Below w.heap.size w (w.drewN n) := ⟨rfl, rfl, rfl, Nat.le_refl _, fun _ _ => rfl⟩
set_option maxRecDepth 100000 in
theorem und48 : Try.prog.underlying 48 = some (.struct (Try.prog.fieldsOf 48)) := by kernel_rfl
set_option maxRecDepth 100000 in
theorem stood48 : Try.prog.stoodInHeld 48 = false := by kernel_rfl
set_option maxRecDepth 100000 in
theorem fields48 : (Try.prog.fieldsOf 48).toList.map (fun f => (f.name == "_", f.type, f.offset)) = [(false, 24, 0), (false, 3, 1)] := by kernel_rfl
theorem part_two {x y : Value} {ty : TypeId} (w : World) (hty : Try.prog.plainKey ty = true) (i : Nat) (hi : i < 2) : (part ty #[x, y] i).run Try.prog w = .ok (if i = 0 then x else y) w := by
  rw [run_part_plain w (v := if i = 0 then x else y) hty ?_]
  match i, hi with
  | 0, _ => rfl
  | 1, _ => rfl
set_option maxRecDepth 100000 in
theorem run_neq48 (a b c d : Int) (w : World) : (binOp .neq 48 (.agg #[.int .u32 a, .int .i64 b]) (.agg #[.int .u32 c, .int .i64 d])).run Try.prog w = .ok (.bool (!(a == c && b == d))) w := by
  rw [run_neq_struct, show (10000 : Nat) = 9999 + 1 from rfl, run_equalIn_agg w 9999 48 _ _ und48 stood48]
  obtain ⟨f, g, h, h1, h2⟩ : ∃ f g, (Try.prog.fieldsOf 48).toList = [f, g] ∧ (f.name == "_", f.type, f.offset) = (false, 24, 0) ∧ (g.name == "_", g.type, g.offset) = (false, 3, 1) := by
    have h := fields48
    generalize (Try.prog.fieldsOf 48).toList = l at h
    have hl : l.length = 2 := by simpa using congrArg List.length h
    obtain ⟨f, l, rfl⟩ := List.exists_cons_of_length_pos (by omega : 0 < l.length)
    obtain ⟨g, l, rfl⟩ := List.exists_cons_of_length_pos (by simp at hl; omega : 0 < l.length)
    obtain rfl : l = [] := List.eq_nil_of_length_eq_zero (by simp at hl; exact List.length_eq_zero_iff.2 hl)
    simp only [List.map_cons, List.map_nil, List.cons.injEq, and_true] at h
    exact ⟨f, g, rfl, h.1, h.2⟩
  simp only [Prod.mk.injEq] at h1 h2
  rw [h]
  have n1 : f.name ≠ "_" := by simpa using h1.1
  have n2 : g.name ≠ "_" := by simpa using h2.1
  have p (x y : Value) (i : Nat) (hi : i < 2) : (part 24 #[x, y] i).run Try.prog w = .ok (if i = 0 then x else y) w := part_two w (by kernel_rfl) i hi
  have q (x y : Value) (i : Nat) (hi : i < 2) : (part 3 #[x, y] i).run Try.prog w = .ok (if i = 0 then x else y) w := part_two w (by kernel_rfl) i hi
  simp only [Op.eqFields, n1, n2, ne_eq, not_false_eq_true, if_true, h1.2.1, h1.2.2, h2.2.1, h2.2.2, Sem.run_bind, p _ _ 0 (by omega), Result.andThen_ok]
  rw [show (9999 : Nat) = 9998 + 1 from rfl]
  simp only [run_equalIn_int (P := Try.prog) w 9998 24 .u32 .u32 _ _ Try.underlying24, Result.andThen_ok]
  cases hac : (a == c) <;> cases hbd : (b == d) <;> simp [hbd, q _ _ 1 (by omega), run_equalIn_int (P := Try.prog) w 9998 3 .i64 .i64 _ _ Try.underlying3]
/-- From an address on these ghosts stand. -/
def RdG (w : World) (ao : Option Addr) (L : GL) : Prop :=
  ∀ i t, L[i]? = some t → ∃ b off, ao = some ⟨b, off, none⟩ ∧ b < w.heap.size ∧ w.cell? ⟨b, off + i * 2, none⟩ = some (.int .u32 t.1) ∧ w.cell? ⟨b, off + i * 2 + 1, none⟩ = some (.int .i64 t.2)
theorem RdG.on {w w' : World} {ao : Option Addr} {L : GL} (h : RdG w ao L) {B : Nat} (hb : Below B w w') (hB : w.heap.size ≤ B) : RdG w' ao L := fun i t ht => by
  obtain ⟨b, off, h1, h2, h3, h4⟩ := h i t ht
  exact ⟨b, off, h1, Nat.lt_of_lt_of_le h2 hb.size, (hb.cell (p := ⟨b, off + i * 2, none⟩) (by simp; omega)).trans h3, (hb.cell (p := ⟨b, off + i * 2 + 1, none⟩) (by simp; omega)).trans h4⟩
theorem rdg_own {w : World} {B : Nat} {T : TypeId} {v : Value} {L : GL} (h : w.ownsRow B T 2 v L.length (g2 L)) : ∃ ao cap, v = .slice ao L.length cap ∧ RdG w ao L := by
  rcases h.2 with ⟨h0, h1⟩ | ⟨g, cap, cur, h0, h1, h2, h3, h4⟩
  · exact ⟨none, 0, by rw [h0, h1], fun i t ht => by
      rw [List.eq_nil_of_length_eq_zero h1] at ht; simp at ht⟩
  · refine ⟨some ⟨g, 0, none⟩, cap, h0, fun i t ht => ⟨g, 0, rfl, (Array.getElem?_eq_some_iff.1 h2).1, ?_, ?_⟩⟩
    · have := h.cells (g := g) (by rw [h0]; rfl) _ _ (g2_at ht).1
      rwa [Go.WideShapes.add_plain] at this
    · have := h.cells (g := g) (by rw [h0]; rfl) _ _ (g2_at ht).2
      rwa [Go.WideShapes.add_plain] at this
theorem take_next {α : Type} {L : List α} {j : Nat} {t : α} (h : L[j]? = some t) : L.take (j + 1) = L.take j ++ [t] := by
  obtain ⟨hj, e⟩ := List.getElem?_eq_some_iff.1 h
  rw [List.take_succ_eq_append_getElem hj, e]
set_option maxHeartbeats 1000000 in
theorem same_any (ao bo : Option Addr) (ca cb : Nat) (L M : GL) (w : World) (hL : RdG w ao L) (hM : RdG w bo M) (h1 : L.length ≤ 1000000000000) (_h2 : M.length ≤ 1000000000000) :
    Calls Try.prog 11 #[.slice ao L.length ca, .slice bo M.length cb] w fun e w' => e = .returned (.bool (decide (L = M))) ∧ Below w.heap.size w w' := by
  by_cases hlen : L.length = M.length
  · have HL := Lib.hid (And.intro hL hM)
    obtain ⟨n, hn⟩ : ∃ n, L.length = n := ⟨_, rfl⟩
    have hn2 : M.length = n := by omega
    rw [hn, hn2]
    have HN := Lib.hid (And.intro hn hn2)
    have hn3 : n ≤ 1000000000000 := by omega
    clear hL hM h1 _h2 hlen hn hn2
    go_enter Try.func11, Try.ntmps11
    go_wp2_with fail
    go_loopw [13] (fun u wr => ∃ j : Nat, j ≤ n ∧ u = .int .i64 j ∧ Hid (L.take j = M.take j ∧ Below w.heap.size w wr)) (fun u _ => n - (intOf u).toNat)
    case atStart => exact ⟨0, by omega, rfl, Lib.hid ⟨by simp, Below.refl _ _⟩⟩
    case round =>
      obtain ⟨j, hj, rfl, HA⟩ := hrel
      by_cases hlt : j < n
      · obtain ⟨s, hs⟩ : ∃ s, L[j]? = some s := ⟨_, List.getElem?_eq_getElem (by have := HN.out; omega)⟩
        obtain ⟨t, ht⟩ : ∃ t, M[j]? = some t := ⟨_, List.getElem?_eq_getElem (by have := HN.out; omega)⟩
        obtain ⟨g, og, rfl, _, c1, c2⟩ := (HL.out.1.on HA.out.2 (Nat.le_refl _)) j s hs
        obtain ⟨q, oq, rfl, _, d1, d2⟩ := (HL.out.2.on HA.out.2 (Nat.le_refl _)) j t ht
        have HT := Lib.hid (And.intro hs ht)
        have hneq := run_neq48 s.1 s.2 t.1 t.2
        have j1 : (j : Int) < (n : Int) := by omega
        clear hs ht
        by_cases hst : s = t
        · have hs1 : (!(s.1 == t.1 && s.2 == t.2)) = false := by simp [hst]
          rw [hs1] at hneq
          have HST := Lib.hid hst
          clear hst hs1
          go_wp2_with fail
          go_quiet (fail)
          go_wp2_with fail
          refine ⟨⟨j + 1, by omega, rfl, Lib.hid ⟨?_, HA.out.2.trans ((drewN_refl wr nq).mono HA.out.2.size)⟩⟩, by simp [intOf]; omega⟩
          rw [take_next HT.out.1, take_next HT.out.2, HA.out.1, HST.out]
        · have hs1 : (!(s.1 == t.1 && s.2 == t.2)) = true := by
            cases h : (s.1 == t.1 && s.2 == t.2)
            · rfl
            · simp at h; exact absurd (Prod.ext h.1 h.2) hst
          rw [hs1] at hneq
          have fin : ¬ L = M := fun e => by
            have h1 := HT.out.1
            rw [e, HT.out.2] at h1
            injection h1 with h1
            exact hst h1.symm
          have Fin := Lib.hid fin
          clear hst hs1 fin
          go_wp2_with fail
          go_quiet (fail)
          go_wp2_with fail
          go_ret
          exact ⟨by rw [decide_eq_false Fin.out]; rfl, HA.out.2.trans ((drewN_refl wr nq).mono HA.out.2.size)⟩
      · obtain rfl : j = n := by omega
        have fin : L = M := by
          have h := HA.out.1
          rwa [List.take_of_length_le (by rw [HN.out.1]; exact Nat.le_refl _), List.take_of_length_le (by rw [HN.out.2]; exact Nat.le_refl _)] at h
        have Fin := Lib.hid fin
        clear fin
        go_wp2_with fail
        go_ret
        exact ⟨by rw [decide_eq_true Fin.out]; rfl, HA.out.2⟩
  · have fin : ¬ L = M := fun e => hlen (by rw [e])
    have Fin := Lib.hid fin
    have e1 : ((L.length : Int) == (M.length : Int)) = false := by simp; omega
    clear fin hL hM
    go_enter Try.func11, Try.ntmps11
    go_wp2_with fail
    go_ret
    exact ⟨by rw [decide_eq_false Fin.out]; rfl, Below.refl _ _⟩
theorem info48 : (Try.prog.info? 48).map (fun i => (i.zero, i.size, i.bytes)) = some (some (.agg #[.int .u32 0, .int .i64 0]), 2, 16) := by kernel_rfl
theorem one2' (x n : Int) : ∀ u ∈ (g2 [(x, n)]), u.oneCell' = true := by
  intro u hu; simp [g2] at hu; rcases hu with rfl | rfl <;> rfl
theorem news48 (w : World) (x y : Int) : ∀ j u, (g2 [(x, y)])[j]? = some u → (w.alloc (.cells #[.int .u32 x, .int .i64 y] 48)).cell? ((⟨w.heap.size, 0, none⟩ : Addr).add j) = some u :=
  World.news_of_block (heap_alloc_new w (.cells #[.int .u32 x, .int .i64 y] 48))
theorem done48 {w W w3 : World} {lv : Value} {n : Nat} {T : TypeId} {e : Nat} {xs : List Value} (h : W.ownsRow w.heap.size T e lv n xs) (hg : W.grownBy w3 lv.ownBlock) (hb : Below w.heap.size w W) : Below w.heap.size w w3 :=
  ⟨hg.os.trans hb.os, hg.tape.trans hb.tape, hg.output.trans hb.output, Nat.le_trans hb.size hg.size, fun j hj => (hg.block j (by have := hb.size; omega) (fun e => by have := (World.ownsRow.lt h j e.symm).1; omega)).trans (hb.block j hj)⟩
def OutG (w : World) (L : GL) (e : Ending) (w' : World) : Prop := ∃ v', e = .returned v' ∧ w'.ownsRow w.heap.size 48 2 v' L.length (g2 L) ∧ Below w.heap.size w w'
set_option maxRecDepth 100000 in
set_option maxHeartbeats 1000000 in
/-- The law's ghosts: as the document has them. -/
theorem ghosts_any (ao : Option Addr) (c : Nat) (L : GL) (w : World) (hL : RdG w ao L) (hn : L.length ≤ 1000000000000) :
    Calls Try.prog 12 #[.slice ao L.length c] w (OutG w L) := by
  obtain ⟨i0, hi0, hz0, hz1, hz2⟩ := info_parts info48
  have HL := Lib.hid hL
  have HZ := Lib.hid (And.intro hi0 (And.intro hz0 (And.intro hz1 hz2)))
  clear hL hi0 hz0 hz1 hz2
  obtain ⟨n, hn2⟩ : ∃ n, L.length = n := ⟨_, rfl⟩
  rw [hn2]
  rw [hn2] at hn
  have HN := Lib.hid hn2
  clear hn2
  go_enter Try.func12, Try.ntmps12
  go_wp2_with fail
  go_loopw [3, 8] (fun v u wr => ∃ j : Nat, j ≤ n ∧ u = .int .i64 j ∧ Hid (wr.ownsRow w.heap.size 48 2 v j (g2 (L.take j)) ∧ Below w.heap.size w wr)) (fun _ u _ => n - (intOf u).toNat)
  case atStart => exact ⟨0, by omega, rfl, Lib.hid ⟨by simpa [g2] using World.ownsRow_nil _ _ _ _, Below.refl _ _⟩⟩
  case round =>
    obtain ⟨j, hj, rfl, HA⟩ := hrel
    by_cases hlt : j < n
    · obtain ⟨s, hs⟩ : ∃ s, L[j]? = some s := ⟨_, List.getElem?_eq_getElem (by have := HN.out; omega)⟩
      obtain ⟨g, og, rfl, _, c1, c2⟩ := (HL.out.on HA.out.2 (Nat.le_refl _)) j s hs
      have HS := Lib.hid hs
      have il : (j : Int) < (n : Int) := by omega
      have hb1 := HA.out.2.alloc HA.out.2.size (.cells #[.int .u32 s.1, .int .i64 s.2] 68)
      have hb2 := Lib.hid (hb1.alloc hb1.size (.cells #[.int .u32 s.1, .int .i64 s.2] 48))
      have HO := Lib.hid (World.ownsRow.alloc (World.ownsRow.alloc HA.out.1 (.cells #[.int .u32 s.1, .int .i64 s.2] 68)) (.cells #[.int .u32 s.1, .int .i64 s.2] 48))
      have HW := Lib.hid (show ∀ j u, (g2 [s])[j]? = some u → ((wr.alloc (.cells #[.int .u32 s.1, .int .i64 s.2] 68)).alloc (.cells #[.int .u32 s.1, .int .i64 s.2] 48)).cell? ((⟨wr.heap.size + 1, 0, none⟩ : Addr).add j) = some u from fun j u hu => by
        have := news48 (wr.alloc (.cells #[.int .u32 s.1, .int .i64 s.2] 68)) s.1 s.2 j u hu
        rwa [World.size_alloc] at this)
      clear hs hb1
      go_wp2_with (at_builtin; refine wpList_append_own _ rfl (.tmp 12) (.tmp 14) 31 rfl w.heap.size 48 i0 _ 2 16 Try.underlying31 HZ.out.1 HZ.out.2.1 HZ.out.2.2.1 HZ.out.2.2.2 rfl (by decide) _ j (g2 (L.take j)) rfl HO.out ⟨wr.heap.size + 1, 0, none⟩ 1 1 (g2 [s]) rfl (by rw [g2_len]; rfl) HW.out (one2' s.1 s.2) (by unfold maxLen; omega) (by omega) hb2.out.size ?_; intro v3 w3 hown3 hgrow3 _; have H3 := Lib.hid (And.intro hown3 (done48 HO.out hgrow3 hb2.out)); clear hown3 hgrow3)
      refine ⟨⟨j + 1, by omega, rfl, Lib.hid ⟨?_, H3.out.2⟩⟩, by simp [intOf]; omega⟩
      rw [take_next HS.out, g2_app]
      exact H3.out.1
    · obtain rfl : j = n := by omega
      go_wp2_with fail
      go_ret
      refine ⟨_, rfl, ?_, HA.out.2⟩
      have := HA.out.1
      rw [List.take_of_length_le (by rw [HN.out]; exact Nat.le_refl _)] at this
      rw [HN.out]
      exact this
end Go.Proofs.Ytgjjfodogkcmmaa.Gh
