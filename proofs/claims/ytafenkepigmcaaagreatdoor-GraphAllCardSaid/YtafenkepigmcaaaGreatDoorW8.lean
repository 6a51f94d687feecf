/- graph: the document's SameVertex, of two vertices of one content, walked. -/
import Derived.Test.YtafenkepigmcaaaGreatDoorW1
namespace Go.Proofs.YtafenkepigmcaaaGreatDoor.Gr
open Go Go.RowKit YtafenkepigmcaaaGreatDoor.So
/-- Fields that are all the same. -/
theorem eqf_same (d : Nat) (xs : Array Value) (w : World) : ∀ (fs : List Field), (∀ f ∈ fs, f.name ≠ "_" ∧ ∃ v, (part f.type xs f.offset).run Tryz.prog w = .ok v w ∧ (Op.equalIn d f.type v v).run Tryz.prog w = .ok true w) → (Op.eqFields d xs xs fs).run Tryz.prog w = .ok true w
  | [], _ => by simp [Op.eqFields]
  | f :: fs, h => by
    obtain ⟨h1, v, h2, h3⟩ := h f (List.mem_cons_self ..)
    have ih := eqf_same d xs w fs (fun g hg => h g (List.mem_cons_of_mem _ hg))
    simp [Op.eqFields, h1, h2, h3, ih, Result.andThen]
theorem svu47 : Tryz.prog.underlying 47 = some (.struct (Tryz.prog.fieldsOf 47)) := by kernel_rfl
theorem svs47 : Tryz.prog.stoodInHeld 47 = false := by kernel_rfl
theorem svf47 : (Tryz.prog.fieldsOf 47).toList.map (fun f => (f.name == "_", f.type, f.offset)) = [(false, 5, 0), (false, 2, 1), (false, 9, 2)] := by kernel_rfl
theorem svu56 : Tryz.prog.underlying 56 = some (.struct (Tryz.prog.fieldsOf 56)) := by kernel_rfl
theorem svs56 : Tryz.prog.stoodInHeld 56 = false := by kernel_rfl
theorem svf56 : (Tryz.prog.fieldsOf 56).toList.map (fun f => (f.name == "_", f.type, f.offset)) = [(false, 5, 0), (false, 47, 1)] := by kernel_rfl
theorem svu58 : Tryz.prog.underlying 58 = some (.struct (Tryz.prog.fieldsOf 58)) := by kernel_rfl
theorem svs58 : Tryz.prog.stoodInHeld 58 = false := by kernel_rfl
theorem svf58 : (Tryz.prog.fieldsOf 58).toList.map (fun f => (f.name == "_", f.type, f.offset)) = [(false, 23, 0), (false, 47, 1)] := by kernel_rfl
theorem mem_field {fs : List Field} {L : List (Bool × TypeId × Nat)} (h : fs.map (fun f => (f.name == "_", f.type, f.offset)) = L) {f : Field} (hf : f ∈ fs) : (f.name == "_", f.type, f.offset) ∈ L := by
  rw [← h]; exact List.mem_map.2 ⟨f, hf, rfl⟩
theorem sveq47 (k n : Int) (s : ByteArray) (d : Nat) (w : World) : (Op.equalIn (d + 2) 47 (.agg #[.int .u8 k, .int .i64 n, .string s]) (.agg #[.int .u8 k, .int .i64 n, .string s])).run Tryz.prog w = .ok true w := by
  rw [run_equalIn_agg w (d + 1) 47 _ _ svu47 svs47]
  refine eqf_same _ _ w _ (fun f hf => ?_)
  have h := mem_field svf47 hf
  simp only [List.mem_cons, List.not_mem_nil, or_false, Prod.mk.injEq] at h
  rcases h with ⟨h1, h2, h3⟩ | ⟨h1, h2, h3⟩ | ⟨h1, h2, h3⟩
  · refine ⟨by simpa using h1, .int .u8 k, ?_, ?_⟩
    · rw [h2, h3]; exact run_part_plain w (by kernel_rfl) rfl
    · rw [h2, run_equalIn_int w d 5 .u8 .u8 k k Tryz.underlying5]; simp
  · refine ⟨by simpa using h1, .int .i64 n, ?_, ?_⟩
    · rw [h2, h3]; exact run_part_plain w (by kernel_rfl) rfl
    · rw [h2, run_equalIn_int w d 2 .i64 .i64 n n Tryz.underlying2]; simp
  · refine ⟨by simpa using h1, .string s, ?_, ?_⟩
    · rw [h2, h3]; exact run_part_plain w (by kernel_rfl) rfl
    · rw [h2, run_equalIn_string w d 9 s s Tryz.underlying9]; simp
theorem svpart47 (x : Value) (k n : Int) (s : ByteArray) (w : World) : (part 47 #[x, .int .u8 k, .int .i64 n, .string s] 1).run Tryz.prog w = .ok (.agg #[.int .u8 k, .int .i64 n, .string s]) w := by
  simp [part, Tryz.isAgg47, Tryz.sizeOf47, Result.andThen]
theorem neq56 (x k n : Int) (s : ByteArray) (w : World) : (binOp .neq 56 (.agg #[.int .u8 x, .int .u8 k, .int .i64 n, .string s]) (.agg #[.int .u8 x, .int .u8 k, .int .i64 n, .string s])).run Tryz.prog w = .ok (.bool false) w := by
  rw [run_neq_struct, show (10000 : Nat) = 9999 + 1 from rfl, run_equalIn_agg w 9999 56 _ _ svu56 svs56, eqf_same _ _ w _ (fun f hf => ?_)]
  · rfl
  have h := mem_field svf56 hf
  simp only [List.mem_cons, List.not_mem_nil, or_false, Prod.mk.injEq] at h
  rcases h with ⟨h1, h2, h3⟩ | ⟨h1, h2, h3⟩
  · refine ⟨by simpa using h1, .int .u8 x, ?_, ?_⟩
    · rw [h2, h3]; exact run_part_plain w (by kernel_rfl) rfl
    · rw [h2, show (9999 : Nat) = 9998 + 1 from rfl, run_equalIn_int w 9998 5 .u8 .u8 _ _ Tryz.underlying5]; simp
  · exact ⟨by simpa using h1, _, by rw [h2, h3]; exact svpart47 _ _ _ _ w, by rw [h2]; exact sveq47 _ _ _ 9997 w⟩
theorem neq58 (x k n : Int) (s : ByteArray) (w : World) : (binOp .neq 58 (.agg #[.int .u32 x, .int .u8 k, .int .i64 n, .string s]) (.agg #[.int .u32 x, .int .u8 k, .int .i64 n, .string s])).run Tryz.prog w = .ok (.bool false) w := by
  rw [run_neq_struct, show (10000 : Nat) = 9999 + 1 from rfl, run_equalIn_agg w 9999 58 _ _ svu58 svs58, eqf_same _ _ w _ (fun f hf => ?_)]
  · rfl
  have h := mem_field svf58 hf
  simp only [List.mem_cons, List.not_mem_nil, or_false, Prod.mk.injEq] at h
  rcases h with ⟨h1, h2, h3⟩ | ⟨h1, h2, h3⟩
  · refine ⟨by simpa using h1, .int .u32 x, ?_, ?_⟩
    · rw [h2, h3]; exact run_part_plain w (by kernel_rfl) rfl
    · rw [h2, show (9999 : Nat) = 9998 + 1 from rfl, run_equalIn_int w 9998 23 .u32 .u32 _ _ Tryz.underlying23]; simp
  · exact ⟨by simpa using h1, _, by rw [h2, h3]; exact svpart47 _ _ _ _ w, by rw [h2]; exact sveq47 _ _ _ 9997 w⟩
/-- A vertex' lists, as they read. -/
theorem VxR.lists {w : World} {B : Nat} {t : Vr} {c : Option (EL Av × EL Av)} (h : VxR w B t c) : ∃ po pc ho hc, t.pv = .slice po (c.getD ([], [])).1.length pc ∧ t.hv = .slice ho (c.getD ([], [])).2.length hc ∧ RdE .u8 w po (c.getD ([], [])).1 ∧ RdE .u32 w ho (c.getD ([], [])).2 ∧ t.th = c.isSome := by
  cases c with
  | none => exact ⟨none, 0, none, 0, h.2.1, h.2.2, fun i e he => by simp at he, fun i e he => by simp at he, h.1⟩
  | some x =>
    obtain ⟨a, b, e1, r1, _⟩ := row_rd h.2.1 rfl
    obtain ⟨c, d, e2, r2, _⟩ := row_rd h.2.2 rfl
    exact ⟨a, b, c, d, e1, e2, r1, r2, h.1⟩
theorem drewN_refl (w : World) (n : Nat) : Below w.heap.size w (w.drewN n) := ⟨rfl, rfl, rfl, Nat.le_refl _, fun _ _ => rfl⟩
/-- Two vertices, alike, boxed side by side. -/
structure SvI (w : World) (id : Int) (th : Bool) (n m : Nat) (P L : EL Av) (po po2 ho ho2 : Option Addr) (pc pc2 hc hc2 : Nat) (wr : World) : Prop where
  b1 : wr.heap[w.heap.size]? = some (.cells #[.int .u32 id, .bool th, .slice po n pc, .slice ho m hc] 51 (0, 0))
  b2 : wr.heap[w.heap.size + 1]? = some (.cells #[.int .u32 id, .bool th, .slice po2 n pc2, .slice ho2 m hc2] 51 (0, 0))
  p1 : RdE .u8 wr po P
  p2 : RdE .u8 wr po2 P
  h1 : RdE .u32 wr ho L
  h2 : RdE .u32 wr ho2 L
  bel : Below w.heap.size w wr
theorem SvI.drew {w wr : World} {id : Int} {th : Bool} {n m : Nat} {P L : EL Av} {po po2 ho ho2 : Option Addr} {pc pc2 hc hc2 : Nat} (h : SvI w id th n m P L po po2 ho ho2 pc pc2 hc hc2 wr) (q : Nat) : SvI w id th n m P L po po2 ho ho2 pc pc2 hc hc2 (wr.drewN q) :=
  ⟨h.b1, h.b2, h.p1.below (drewN_refl wr q), h.p2.below (drewN_refl wr q), h.h1.below (drewN_refl wr q), h.h2.below (drewN_refl wr q), h.bel.trans ((drewN_refl wr q).mono h.bel.size)⟩
theorem sv4 {w : World} {z : Nat} {c0 c1 c2 c3 : Value} {t : TypeId} (h : w.heap[z]? = some (.cells #[c0, c1, c2, c3] t (0, 0))) : w.cell? ⟨z, 0, none⟩ = some c0 ∧ w.cell? ⟨z, 1, none⟩ = some c1 ∧ w.cell? ⟨z, 2, none⟩ = some c2 ∧ w.cell? ⟨z, 3, none⟩ = some c3 := by
  simp [World.cell?, h]
set_option maxRecDepth 100000 in
set_option maxHeartbeats 2000000 in
theorem svw_any (id : Int) (th : Bool) (P L : EL Av) (po po2 ho ho2 : Option Addr) (pc pc2 hc hc2 : Nat) (w : World) (p1 : RdE .u8 w po P) (p2 : RdE .u8 w po2 P) (h1 : RdE .u32 w ho L) (h2 : RdE .u32 w ho2 L) (hP : P.length ≤ 1000000) (hL : L.length ≤ 1000000) :
    Calls Tryz.prog 25 #[.agg #[.int .u32 id, .bool th, .slice po P.length pc, .slice ho L.length hc], .agg #[.int .u32 id, .bool th, .slice po2 P.length pc2, .slice ho2 L.length hc2]] w (SaysYes w) := by
  obtain ⟨n, hn⟩ : ∃ n, P.length = n := ⟨_, rfl⟩
  obtain ⟨m, hm⟩ : ∃ m, L.length = m := ⟨_, rfl⟩
  rw [hn] at hP ⊢
  rw [hm] at hL ⊢
  have hb : Below w.heap.size w ((w.alloc (.cells #[.int .u32 id, .bool th, .slice po n pc, .slice ho m hc] 51)).alloc (.cells #[.int .u32 id, .bool th, .slice po2 n pc2, .slice ho2 m hc2] 51)) := ((Below.refl _ w).alloc (Nat.le_refl _) _).alloc (by simp) _
  have hI := Lib.hid (show SvI w id th n m P L po po2 ho ho2 pc pc2 hc hc2 ((w.alloc (.cells #[.int .u32 id, .bool th, .slice po n pc, .slice ho m hc] 51)).alloc (.cells #[.int .u32 id, .bool th, .slice po2 n pc2, .slice ho2 m hc2] 51)) from
    ⟨(heap_alloc_old _ _ (by simp)).trans (heap_alloc_new _ _), heap_alloc2_new _ _ _, p1.below hb, p2.below hb, h1.below hb, h2.below hb, hb⟩)
  have HN := Lib.hid (And.intro hn hm)
  clear p1 p2 h1 h2 hb hn hm
  have hth : (th != th) = false := by simp
  go_enter Tryz.func25, Tryz.ntmps25
  go_wp2_with fail
  obtain ⟨W0, hW0⟩ : ∃ W, (w.alloc (.cells #[.int .u32 id, .bool th, .slice po n pc, .slice ho m hc] 51)).alloc (.cells #[.int .u32 id, .bool th, .slice po2 n pc2, .slice ho2 m hc2] 51) = W := ⟨_, rfl⟩
  rw [hW0] at hI ⊢
  clear hW0
  go_loopw [40] (fun a wr => ∃ j : Nat, j ≤ n ∧ a = .int .i64 j ∧ Hid (SvI w id th n m P L po po2 ho ho2 pc pc2 hc hc2 wr)) (fun a _ => n - (intOf a).toNat)
  case atStart => exact ⟨0, by omega, rfl, hI⟩
  case round =>
    obtain ⟨j, hj, rfl, HA⟩ := hrel
    obtain ⟨a0, a1, a2, a3⟩ := sv4 HA.out.b1
    obtain ⟨b0, b1, b2, b3⟩ := sv4 HA.out.b2
    by_cases hlt : j < n
    · obtain ⟨⟨x, ⟨k, v, s⟩⟩, ht⟩ : ∃ t, P[j]? = some t := ⟨_, List.getElem?_eq_getElem (by have := HN.out.1; omega)⟩
      obtain ⟨g, og, rfl, _, c0, c1, c2, c3⟩ := HA.out.p1 j _ ht
      obtain ⟨q, oq, rfl, _, d0, d1, d2, d3⟩ := HA.out.p2 j _ ht
      simp only at c0 c1 c2 c3 d0 d1 d2 d3
      have hneq := neq56 x k v s
      have j1 : (j : Int) < (n : Int) := by omega
      clear ht
      go_wp2_with fail
      go_quiet (fail)
      go_wp2_with fail
      go_roundw
      case rel => exact ⟨j + 1, by omega, by go_num, Lib.hid (HA.out.drew _)⟩
      case measure => simp [intOf] <;> omega
    · obtain rfl : j = n := by omega
      go_wp2_with fail
      go_loopw [58] (fun a wr => ∃ k : Nat, k ≤ m ∧ a = .int .i64 k ∧ Hid (SvI w id th j m P L po po2 ho ho2 pc pc2 hc hc2 wr)) (fun a _ => m - (intOf a).toNat)
      case atStart => exact ⟨0, by omega, rfl, HA⟩
      case round =>
        obtain ⟨i, hk, rfl, HK⟩ := hrel
        obtain ⟨x0, x1, x2, x3⟩ := sv4 HK.out.b1
        obtain ⟨y0, y1, y2, y3⟩ := sv4 HK.out.b2
        clear a0 a1 a2 a3 b0 b1 b2 b3 HA
        by_cases hkl : i < m
        · obtain ⟨⟨x, ⟨k, v, s⟩⟩, ht⟩ : ∃ t, L[i]? = some t := ⟨_, List.getElem?_eq_getElem (by have := HN.out.2; omega)⟩
          obtain ⟨g, og, rfl, _, c0, c1, c2, c3⟩ := HK.out.h1 i _ ht
          obtain ⟨q, oq, rfl, _, d0, d1, d2, d3⟩ := HK.out.h2 i _ ht
          simp only at c0 c1 c2 c3 d0 d1 d2 d3
          have hneq := neq58 x k v s
          have j1 : (i : Int) < (m : Int) := by omega
          clear ht
          go_wp2_with fail
          go_quiet (fail)
          go_wp2_with fail
          go_roundw
          case rel => exact ⟨i + 1, by omega, by go_num, Lib.hid (HK.out.drew _)⟩
          case measure => simp [intOf] <;> omega
        · obtain rfl : i = m := by omega
          go_wp2_with fail
          go_ret
          exact ⟨rfl, HK.out.bel⟩
end Go.Proofs.YtafenkepigmcaaaGreatDoor.Gr
