/- ghost: the document's SameVertex, of a vertex and its twin, walked. -/
import Derived.Test.YtbiiiniffkjgcaaC6
namespace Go.Proofs.Ytbiiiniffkjgcaa.Gh
open Go Go.RowKit Ytbiiiniffkjgcaa.So Ytbiiiniffkjgcaa.Vl
/-- Fields that are all the same. -/
theorem eqf_same (d : Nat) (xs : Array Value) (w : World) : ∀ (fs : List Field), (∀ f ∈ fs, f.name ≠ "_" ∧ ∃ v, (part f.type xs f.offset).run Try.prog w = .ok v w ∧ (Op.equalIn d f.type v v).run Try.prog w = .ok true w) → (Op.eqFields d xs xs fs).run Try.prog w = .ok true w
  | [], _ => by simp [Op.eqFields]
  | f :: fs, h => by
    obtain ⟨h1, v, h2, h3⟩ := h f (List.mem_cons_self ..)
    have ih := eqf_same d xs w fs (fun g hg => h g (List.mem_cons_of_mem _ hg))
    simp [Op.eqFields, h1, h2, h3, ih, Result.andThen]
theorem und74 : Try.prog.underlying 74 = some (.struct (Try.prog.fieldsOf 74)) := by kernel_rfl
theorem stood74 : Try.prog.stoodInHeld 74 = false := by kernel_rfl
theorem fields74 : (Try.prog.fieldsOf 74).toList.map (fun f => (f.name == "_", f.type, f.offset)) = [(false, 5, 0), (false, 2, 1), (false, 9, 2)] := by kernel_rfl
theorem und86 : Try.prog.underlying 86 = some (.struct (Try.prog.fieldsOf 86)) := by kernel_rfl
theorem stood86 : Try.prog.stoodInHeld 86 = false := by kernel_rfl
theorem fields86 : (Try.prog.fieldsOf 86).toList.map (fun f => (f.name == "_", f.type, f.offset)) = [(false, 5, 0), (false, 74, 1)] := by kernel_rfl
theorem und76 : Try.prog.underlying 76 = some (.struct (Try.prog.fieldsOf 76)) := by kernel_rfl
theorem stood76 : Try.prog.stoodInHeld 76 = false := by kernel_rfl
theorem fields76 : (Try.prog.fieldsOf 76).toList.map (fun f => (f.name == "_", f.type, f.offset)) = [(false, 24, 0), (false, 74, 1)] := by kernel_rfl
theorem mem_field {fs : List Field} {L : List (Bool × TypeId × Nat)} (h : fs.map (fun f => (f.name == "_", f.type, f.offset)) = L) {f : Field} (hf : f ∈ fs) : (f.name == "_", f.type, f.offset) ∈ L := by
  rw [← h]; exact List.mem_map.2 ⟨f, hf, rfl⟩
theorem eq74 (k n : Int) (s : ByteArray) (d : Nat) (w : World) : (Op.equalIn (d + 2) 74 (val k n s) (val k n s)).run Try.prog w = .ok true w := by
  rw [run_equalIn_agg w (d + 1) 74 _ _ und74 stood74]
  refine eqf_same _ _ w _ (fun f hf => ?_)
  have h := mem_field fields74 hf
  simp only [List.mem_cons, List.not_mem_nil, or_false, Prod.mk.injEq] at h
  rcases h with ⟨h1, h2, h3⟩ | ⟨h1, h2, h3⟩ | ⟨h1, h2, h3⟩
  · refine ⟨by simpa using h1, .int .u8 k, ?_, ?_⟩
    · rw [h2, h3]; exact run_part_plain w (by kernel_rfl) rfl
    · rw [h2, run_equalIn_int w d 5 .u8 .u8 k k Try.underlying5]; simp
  · refine ⟨by simpa using h1, .int .i64 n, ?_, ?_⟩
    · rw [h2, h3]; exact run_part_plain w (by kernel_rfl) rfl
    · rw [h2, run_equalIn_int w d 2 .i64 .i64 n n Try.underlying2]; simp
  · refine ⟨by simpa using h1, .string s, ?_, ?_⟩
    · rw [h2, h3]; exact run_part_plain w (by kernel_rfl) rfl
    · rw [h2, run_equalIn_string w d 9 s s Try.underlying9]; simp
theorem part74 (x : Value) (k n : Int) (s : ByteArray) (w : World) : (part 74 #[x, .int .u8 k, .int .i64 n, .string s] 1).run Try.prog w = .ok (val k n s) w := by
  simp [part, Try.isAgg74, Try.sizeOf74, Result.andThen, val]
theorem neq86 (t : Hf) (w : World) : (binOp .neq 86 (.agg #[.int .u8 t.1, .int .u8 t.2.1, .int .i64 t.2.2.1, .string t.2.2.2]) (.agg #[.int .u8 t.1, .int .u8 t.2.1, .int .i64 t.2.2.1, .string t.2.2.2])).run Try.prog w = .ok (.bool false) w := by
  rw [run_neq_struct, show (10000 : Nat) = 9999 + 1 from rfl, run_equalIn_agg w 9999 86 _ _ und86 stood86, eqf_same _ _ w _ (fun f hf => ?_)]
  · rfl
  have h := mem_field fields86 hf
  simp only [List.mem_cons, List.not_mem_nil, or_false, Prod.mk.injEq] at h
  rcases h with ⟨h1, h2, h3⟩ | ⟨h1, h2, h3⟩
  · refine ⟨by simpa using h1, .int .u8 t.1, ?_, ?_⟩
    · rw [h2, h3]; exact run_part_plain w (by kernel_rfl) rfl
    · rw [h2, show (9999 : Nat) = 9998 + 1 from rfl, run_equalIn_int w 9998 5 .u8 .u8 _ _ Try.underlying5]; simp
  · exact ⟨by simpa using h1, _, by rw [h2, h3]; exact part74 _ _ _ _ w, by rw [h2]; exact eq74 _ _ _ 9997 w⟩
theorem neq76 (t : Hf) (w : World) : (binOp .neq 76 (.agg #[.int .u32 t.1, .int .u8 t.2.1, .int .i64 t.2.2.1, .string t.2.2.2]) (.agg #[.int .u32 t.1, .int .u8 t.2.1, .int .i64 t.2.2.1, .string t.2.2.2])).run Try.prog w = .ok (.bool false) w := by
  rw [run_neq_struct, show (10000 : Nat) = 9999 + 1 from rfl, run_equalIn_agg w 9999 76 _ _ und76 stood76, eqf_same _ _ w _ (fun f hf => ?_)]
  · rfl
  have h := mem_field fields76 hf
  simp only [List.mem_cons, List.not_mem_nil, or_false, Prod.mk.injEq] at h
  rcases h with ⟨h1, h2, h3⟩ | ⟨h1, h2, h3⟩
  · refine ⟨by simpa using h1, .int .u32 t.1, ?_, ?_⟩
    · rw [h2, h3]; exact run_part_plain w (by kernel_rfl) rfl
    · rw [h2, show (9999 : Nat) = 9998 + 1 from rfl, run_equalIn_int w 9998 24 .u32 .u32 _ _ Try.underlying24]; simp
  · exact ⟨by simpa using h1, _, by rw [h2, h3]; exact part74 _ _ _ _ w, by rw [h2]; exact eq74 _ _ _ 9997 w⟩
/-- Two vertices, alike, boxed side by side. -/
def SvI (w : World) (u v : Vv) (wr : World) : Prop :=
  wr.heap[w.heap.size]? = some (.cells u.vx.cells 28 (0, 0)) ∧ wr.heap[w.heap.size + 1]? = some (.cells v.vx.cells 28 (0, 0)) ∧ u.ok wr ∧ v.ok wr ∧ Below w.heap.size w wr
theorem SvI.drew {w wr : World} {u v : Vv} (h : SvI w u v wr) (q : Nat) : SvI w u v (wr.drewN q) := by
  have hb := drewN_refl wr q
  exact ⟨h.1, h.2.1, h.2.2.1.below hb (Nat.le_refl _), h.2.2.2.1.below hb (Nat.le_refl _), h.2.2.2.2.trans (hb.mono h.2.2.2.2.size)⟩
theorem SvI.cells {w wr : World} {u v : Vv} (h : SvI w u v wr) :
    (wr.cell? ⟨w.heap.size, 0, none⟩ = some (.int .u32 u.id) ∧ wr.cell? ⟨w.heap.size, 1, none⟩ = some (.bool u.th) ∧ wr.cell? ⟨w.heap.size, 2, none⟩ = some (.slice u.po u.P.length u.pc) ∧ wr.cell? ⟨w.heap.size, 3, none⟩ = some (.slice u.ho u.L.length u.hc)) ∧
    (wr.cell? ⟨w.heap.size + 1, 0, none⟩ = some (.int .u32 v.id) ∧ wr.cell? ⟨w.heap.size + 1, 1, none⟩ = some (.bool v.th) ∧ wr.cell? ⟨w.heap.size + 1, 2, none⟩ = some (.slice v.po v.P.length v.pc) ∧ wr.cell? ⟨w.heap.size + 1, 3, none⟩ = some (.slice v.ho v.L.length v.hc)) := by
  refine ⟨?_, ?_⟩
  · simp [World.cell?, h.1, Vv.vx, Vx.cells]
  · simp [World.cell?, h.2.1, Vv.vx, Vx.cells]
set_option maxRecDepth 100000 in
set_option maxHeartbeats 2000000 in
theorem samevertex_any (u v : Vv) (w : World) (hu : u.ok w) (hv : v.ok w) (h : u.core = v.core) (hP : u.P.length ≤ 4000000000000) (hL : u.L.length ≤ 4000000000000) :
    Calls Try.prog 18 #[u.val, v.val] w fun e w' => e = .returned (.bool true) ∧ Below w.heap.size w w' := by
  obtain ⟨id, th, po, pc, P, ho, hc, L⟩ := u
  obtain ⟨id2, th2, po2, pc2, P2, ho2, hc2, L2⟩ := v
  simp only [Vv.core, Prod.mk.injEq] at h
  obtain ⟨rfl, rfl, rfl, rfl⟩ := h
  have hb : Below w.heap.size w ((w.alloc (.cells #[.int .u32 id, .bool th, .slice po P.length pc, .slice ho L.length hc] 28)).alloc (.cells #[.int .u32 id, .bool th, .slice po2 P.length pc2, .slice ho2 L.length hc2] 28)) := ((Below.refl _ w).alloc (Nat.le_refl _) _).alloc (by simp) _
  have hI := Lib.hid (show SvI w ⟨id, th, po, pc, P, ho, hc, L⟩ ⟨id, th, po2, pc2, P, ho2, hc2, L⟩ ((w.alloc (.cells #[.int .u32 id, .bool th, .slice po P.length pc, .slice ho L.length hc] 28)).alloc (.cells #[.int .u32 id, .bool th, .slice po2 P.length pc2, .slice ho2 L.length hc2] 28)) from
    ⟨(heap_alloc_old _ _ (by simp)).trans (heap_alloc_new _ _), heap_alloc2_new _ _ _, hu.below hb (Nat.le_refl _), hv.below hb (Nat.le_refl _), hb⟩)
  unfold Vv.val
  simp only at hP hL ⊢
  obtain ⟨n, hn⟩ : ∃ n, P.length = n := ⟨_, rfl⟩
  obtain ⟨m, hm⟩ : ∃ m, L.length = m := ⟨_, rfl⟩
  rw [hn] at hP
  rw [hm] at hL
  rw [hn, hm] at hI ⊢
  have HN := Lib.hid (And.intro hn hm)
  clear hu hv hb hn hm
  have hth : (th != th) = false := by simp
  go_enter Try.func18, Try.ntmps18
  go_wp2_with fail
  obtain ⟨W0, hW0⟩ : ∃ W, (w.alloc (.cells #[.int .u32 id, .bool th, .slice po n pc, .slice ho m hc] 28)).alloc (.cells #[.int .u32 id, .bool th, .slice po2 n pc2, .slice ho2 m hc2] 28) = W := ⟨_, rfl⟩
  rw [hW0] at hI ⊢
  clear hW0
  go_loopw [40] (fun a wr => ∃ j : Nat, j ≤ n ∧ a = .int .i64 j ∧ Hid (SvI w ⟨id, th, po, pc, P, ho, hc, L⟩ ⟨id, th, po2, pc2, P, ho2, hc2, L⟩ wr)) (fun a _ => n - (intOf a).toNat)
  case atStart => exact ⟨0, by omega, rfl, hI⟩
  case round =>
    obtain ⟨j, hj, rfl, HA⟩ := hrel
    obtain ⟨⟨a0, a1, a2, a3⟩, b0, b1, b2, b3⟩ := HA.out.cells
    simp only [HN.out.1, HN.out.2] at a0 a1 a2 a3 b0 b1 b2 b3
    by_cases hlt : j < n
    · obtain ⟨t, ht⟩ : ∃ t, P[j]? = some t := ⟨_, List.getElem?_eq_getElem (by have := HN.out.1; omega)⟩
      obtain ⟨g, og, e1, _, c0, c1, c2, c3⟩ := HA.out.2.2.1.p j t ht
      obtain ⟨q, oq, e2, _, d0, d1, d2, d3⟩ := HA.out.2.2.2.1.p j t ht
      simp only at e1 e2
      subst e1
      subst e2
      have hneq := neq86 t
      have j1 : (j : Int) < (n : Int) := by omega
      clear ht
      go_wp2_with fail
      go_quiet (fail)
      go_wp2_with fail
      go_roundw
      case rel => exact ⟨j + 1, by omega, by go_num, Lib.hid (HA.out.drew _)⟩
      case measure => simp [intOf] <;> omega
    · obtain rfl : j = n := by omega
      go_wp2_with fail
      go_loopw [58] (fun a wr => ∃ k : Nat, k ≤ m ∧ a = .int .i64 k ∧ Hid (SvI w ⟨id, th, po, pc, P, ho, hc, L⟩ ⟨id, th, po2, pc2, P, ho2, hc2, L⟩ wr)) (fun a _ => m - (intOf a).toNat)
      case atStart => exact ⟨0, by omega, rfl, HA⟩
      case round =>
        obtain ⟨k, hk, rfl, HK⟩ := hrel
        obtain ⟨⟨x0, x1, x2, x3⟩, y0, y1, y2, y3⟩ := HK.out.cells
        simp only [HN.out.1, HN.out.2] at x0 x1 x2 x3 y0 y1 y2 y3
        clear a0 a1 a2 a3 b0 b1 b2 b3 HA
        by_cases hkl : k < m
        · obtain ⟨t, ht⟩ : ∃ t, L[k]? = some t := ⟨_, List.getElem?_eq_getElem (by have := HN.out.2; omega)⟩
          obtain ⟨g, og, e1, _, c0, c1, c2, c3⟩ := HK.out.2.2.1.h k t ht
          obtain ⟨q, oq, e2, _, d0, d1, d2, d3⟩ := HK.out.2.2.2.1.h k t ht
          simp only at e1 e2
          subst e1
          subst e2
          have hneq := neq76 t
          have j1 : (k : Int) < (m : Int) := by omega
          clear ht
          go_wp2_with fail
          go_quiet (fail)
          go_wp2_with fail
          go_roundw
          case rel => exact ⟨k + 1, by omega, by go_num, Lib.hid (HK.out.drew _)⟩
          case measure => simp [intOf] <;> omega
        · obtain rfl : k = m := by omega
          go_wp2_with fail
          go_ret
          exact ⟨rfl, HK.out.2.2.2.2⟩
end Go.Proofs.Ytbiiiniffkjgcaa.Gh
