/- session: the document's SameValues, SameNumbers, SameAnswer, of alike ones, walked. -/
import Derived.Test.YteikhbfdegmffaaA3
namespace Go.Proofs.Yteikhbfdegmffaa.Se
open Go Go.RowKit
/-- Fields that are all the same. -/
theorem eqf_same (d : Nat) (xs : Array Value) (w : World) : ∀ (fs : List Field), (∀ f ∈ fs, f.name ≠ "_" ∧ ∃ v, (part f.type xs f.offset).run Try.prog w = .ok v w ∧ (Op.equalIn d f.type v v).run Try.prog w = .ok true w) → (Op.eqFields d xs xs fs).run Try.prog w = .ok true w
  | [], _ => by simp [Op.eqFields]
  | f :: fs, h => by
    obtain ⟨h1, v, h2, h3⟩ := h f (List.mem_cons_self ..)
    have ih := eqf_same d xs w fs (fun g hg => h g (List.mem_cons_of_mem _ hg))
    simp [Op.eqFields, h1, h2, h3, ih, Result.andThen]
theorem stood59 : Try.prog.stoodInHeld 59 = false := by kernel_rfl
theorem fields59 : (Try.prog.fieldsOf 59).toList.map (fun f => (f.name == "_", f.type, f.offset)) = [(false, 5, 0), (false, 2, 1), (false, 9, 2)] := by kernel_rfl
theorem mem_field {fs : List Field} {L : List (Bool × TypeId × Nat)} (h : fs.map (fun f => (f.name == "_", f.type, f.offset)) = L) {f : Field} (hf : f ∈ fs) : (f.name == "_", f.type, f.offset) ∈ L := by
  rw [← h]; exact List.mem_map.2 ⟨f, hf, rfl⟩
theorem neq59 (k n : Int) (s : ByteArray) (w : World) : (binOp .neq 59 (.agg #[.int .u8 k, .int .i64 n, .string s]) (.agg #[.int .u8 k, .int .i64 n, .string s])).run Try.prog w = .ok (.bool false) w := by
  rw [run_neq_struct, show (10000 : Nat) = 9998 + 2 from rfl, run_equalIn_agg w (9998 + 1) 59 _ _ und59 stood59, eqf_same _ _ w _ (fun f hf => ?_)]
  · rfl
  have h := mem_field fields59 hf
  simp only [List.mem_cons, List.not_mem_nil, or_false, Prod.mk.injEq] at h
  rcases h with ⟨h1, h2, h3⟩ | ⟨h1, h2, h3⟩ | ⟨h1, h2, h3⟩
  · refine ⟨by simpa using h1, .int .u8 k, ?_, ?_⟩
    · rw [h2, h3]; exact run_part_plain w (by kernel_rfl) rfl
    · rw [h2, run_equalIn_int w 9998 5 .u8 .u8 k k Try.underlying5]; simp
  · refine ⟨by simpa using h1, .int .i64 n, ?_, ?_⟩
    · rw [h2, h3]; exact run_part_plain w (by kernel_rfl) rfl
    · rw [h2, run_equalIn_int w 9998 2 .i64 .i64 n n Try.underlying2]; simp
  · refine ⟨by simpa using h1, .string s, ?_, ?_⟩
    · rw [h2, h3]; exact run_part_plain w (by kernel_rfl) rfl
    · rw [h2, run_equalIn_string w 9998 9 s s Try.underlying9]; simp
/-- A value of a row. -/
theorem RdC.three {w : World} {ao : Option Addr} {V : List VT} (h : RdC w ao (flV V)) {j : Nat} {t : VT} (ht : V[j]? = some t) :
    ∃ b off, ao = some ⟨b, off, none⟩ ∧ w.cell? ⟨b, off + j * 3, none⟩ = some (.int .u8 t.1) ∧ w.cell? ⟨b, off + j * 3 + 1, none⟩ = some (.int .i64 t.2.1) ∧ w.cell? ⟨b, off + j * 3 + 2, none⟩ = some (.string t.2.2) := by
  have hf := flV_at ht
  obtain ⟨b, off, rfl, _, h0⟩ := h _ _ (hf 0 (by omega))
  obtain ⟨b1, off1, e1, _, h1⟩ := h _ _ (hf 1 (by omega))
  obtain ⟨b2, off2, e2, _, h2⟩ := h _ _ (hf 2 (by omega))
  simp only [Option.some.injEq, Addr.mk.injEq, and_true] at e1 e2
  obtain ⟨rfl, rfl⟩ := e1
  obtain ⟨rfl, rfl⟩ := e2
  exact ⟨b, off, rfl, h0, h1, h2⟩
theorem RdC.one {w : World} {ao : Option Addr} {L : List Int} (h : RdC w ao (flN L)) {j : Nat} {x : Int} (hx : L[j]? = some x) :
    ∃ b off, ao = some ⟨b, off, none⟩ ∧ w.cell? ⟨b, off + j, none⟩ = some (.int .u32 x) := by
  obtain ⟨b, off, e, _, h0⟩ := h j (.int .u32 x) (by simp [flN, hx])
  exact ⟨b, off, e, h0⟩
set_option maxHeartbeats 1000000 in
theorem values_same (ao bo : Option Addr) (ca cb : Nat) (V : List VT) (w : World) (hV : RdC w ao (flV V)) (hU : RdC w bo (flV V)) (h1 : V.length ≤ 4398046511104) :
    Calls Try.prog 17 #[.slice ao V.length ca, .slice bo V.length cb] w fun e w' => e = .returned (.bool true) ∧ Below w.heap.size w w' := by
  have HL := Lib.hid (And.intro hV hU)
  obtain ⟨n, hn⟩ : ∃ n, V.length = n := ⟨_, rfl⟩
  rw [hn] at h1 ⊢
  have HN := Lib.hid hn
  clear hV hU hn
  go_enter Try.func17, Try.ntmps17
  go_wp2_with fail
  go_loopw [13] (fun u wr => ∃ j : Nat, j ≤ n ∧ u = .int .i64 j ∧ Hid (Below w.heap.size w wr)) (fun u _ => n - (intOf u).toNat)
  case atStart => exact ⟨0, by omega, rfl, Lib.hid (Below.refl _ _)⟩
  case round =>
    obtain ⟨j, hj, rfl, HA⟩ := hrel
    by_cases hlt : j < n
    · obtain ⟨t, ht⟩ : ∃ t, V[j]? = some t := ⟨_, List.getElem?_eq_getElem (by have := HN.out; omega)⟩
      obtain ⟨g, og, rfl, c1, c2, c3⟩ := (HL.out.1.below HA.out).three ht
      obtain ⟨q, oq, rfl, d1, d2, d3⟩ := (HL.out.2.below HA.out).three ht
      have hneq := neq59 t.1 t.2.1 t.2.2
      have j1 : (j : Int) < (n : Int) := by omega
      clear ht
      go_wp2_with fail
      go_quiet (fail)
      go_wp2_with fail
      exact ⟨⟨j + 1, by omega, by go_num, Lib.hid (HA.out.trans ((Below.drewN_refl wr nq).mono HA.out.size))⟩, by simp [intOf]; omega⟩
    · obtain rfl : j = n := by omega
      go_wp2_with fail
      go_ret
      exact ⟨rfl, HA.out⟩
set_option maxHeartbeats 1000000 in
theorem numbers_same (ao bo : Option Addr) (ca cb : Nat) (L : List Int) (w : World) (hV : RdC w ao (flN L)) (hU : RdC w bo (flN L)) (h1 : L.length ≤ 140737488355328) :
    Calls Try.prog 18 #[.slice ao L.length ca, .slice bo L.length cb] w fun e w' => e = .returned (.bool true) ∧ Below w.heap.size w w' := by
  have HL := Lib.hid (And.intro hV hU)
  obtain ⟨n, hn⟩ : ∃ n, L.length = n := ⟨_, rfl⟩
  rw [hn] at h1 ⊢
  have HN := Lib.hid hn
  clear hV hU hn
  go_enter Try.func18, Try.ntmps18
  go_wp2_with fail
  go_loopw [13] (fun u wr => ∃ j : Nat, j ≤ n ∧ u = .int .i64 j ∧ Hid (Below w.heap.size w wr)) (fun u _ => n - (intOf u).toNat)
  case atStart => exact ⟨0, by omega, rfl, Lib.hid (Below.refl _ _)⟩
  case round =>
    obtain ⟨j, hj, rfl, HA⟩ := hrel
    by_cases hlt : j < n
    · obtain ⟨t, ht⟩ : ∃ t, L[j]? = some t := ⟨_, List.getElem?_eq_getElem (by have := HN.out; omega)⟩
      obtain ⟨g, og, rfl, c1⟩ := (HL.out.1.below HA.out).one ht
      obtain ⟨q, oq, rfl, d1⟩ := (HL.out.2.below HA.out).one ht
      have hneq : (t != t) = false := by simp
      have j1 : (j : Int) < (n : Int) := by omega
      clear ht
      go_wp2_with fail
      go_quiet (fail)
      go_wp2_with fail
      exact ⟨⟨j + 1, by omega, by go_num, Lib.hid (HA.out.trans ((Below.drewN_refl wr nq).mono HA.out.size))⟩, by simp [intOf]; omega⟩
    · obtain rfl : j = n := by omega
      go_wp2_with fail
      go_ret
      exact ⟨rfl, HA.out⟩
set_option maxRecDepth 100000 in
set_option maxHeartbeats 1000000 in
/-- Two answers that hold the same are alike. -/
theorem same_any (a : An) (p q : Pl) (w : World) (h : AnAt w a p) (k : AnAt w a q) : Calls Try.prog 12 #[a.val p, a.val q] w fun e w' => e = .returned (.bool true) ∧ Below w.heap.size w w' := by
  obtain ⟨E, At, V, L⟩ := a
  obtain ⟨vo, vc, lo, lc⟩ := p
  obtain ⟨vo2, vc2, lo2, lc2⟩ := q
  obtain ⟨W, hW⟩ : ∃ W, W = (w.alloc (.cells #[.int .i64 E, .int .i64 At, .slice vo V.length vc, .slice lo L.length lc] 28)).alloc (.cells #[.int .i64 E, .int .i64 At, .slice vo2 V.length vc2, .slice lo2 L.length lc2] 28) := ⟨_, rfl⟩
  have hb : Below w.heap.size w W := by rw [hW]; exact ((Below.refl _ w).alloc (Nat.le_refl _) _).alloc (by simp) _
  have hv := values_same vo vo2 vc vc2 V W (h.v.below hb) (k.v.below hb) (by have := h.ok.v; simp only at this; omega)
  have hl := fun w' (hb' : Below W.heap.size W w') => numbers_same lo lo2 lc lc2 L w' ((h.l.below hb).below hb') ((k.l.below hb).below hb') (by have := h.ok.l; simp only at this; omega)
  have cs : ∀ w', Below W.heap.size W w' → w'.cell? ⟨w.heap.size, 3, none⟩ = some (.slice lo L.length lc) ∧ w'.cell? ⟨w.heap.size + 1, 3, none⟩ = some (.slice lo2 L.length lc2) := fun w' hb' => by
    have h1 : W.heap[w.heap.size]? = some (.cells #[.int .i64 E, .int .i64 At, .slice vo V.length vc, .slice lo L.length lc] 28 (0, 0)) := by rw [hW]; exact (heap_alloc_old _ _ (by simp)).trans (heap_alloc_new _ _)
    have h2 : W.heap[w.heap.size + 1]? = some (.cells #[.int .i64 E, .int .i64 At, .slice vo2 V.length vc2, .slice lo2 L.length lc2] 28 (0, 0)) := by rw [hW]; exact heap_alloc2_new _ _ _
    exact ⟨(cells4 ((hb'.block _ (Array.getElem?_eq_some_iff.1 h1).1).trans h1)).2.2.2, (cells4 ((hb'.block _ (Array.getElem?_eq_some_iff.1 h2).1).trans h2)).2.2.2⟩
  have HV := Lib.hid hv
  have HL := Lib.hid hl
  have HC := Lib.hid cs
  have HB := Lib.hid hb
  clear h k hv hl cs hb
  unfold An.val
  simp only
  subst hW
  go_enter Try.func12, Try.ntmps12
  go_wp2_with (first
    | (go_at_call 17; refine HV.out.mono ?_; rintro e w1 ⟨rfl, hb1⟩; obtain ⟨x3, y3⟩ := HC.out w1 hb1; have H1 := Lib.hid hb1; clear hb1)
    | (go_at_call 18; refine (HL.out _ H1.out).mono ?_; rintro e w2 ⟨rfl, hb2⟩; have H2 := Lib.hid (HB.out.trans ((H1.out.trans (hb2.mono H1.out.size)).mono HB.out.size)); clear hb2))
  go_ret
  exact ⟨rfl, H2.out⟩
end Go.Proofs.Yteikhbfdegmffaa.Se
