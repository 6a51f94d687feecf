/- graph: two values of a property told apart. -/
import Derived.Test.YtafenkepigmcaaaGreatDoorMC
import Derived.Laws.ResultCell
namespace Go.Proofs.YtafenkepigmcaaaGreatDoor.Gr
open Go Go.RowKit YtafenkepigmcaaaGreatDoor.So
set_option maxRecDepth 100000 in
theorem und47 : Tryz.prog.underlying 47 = some (.struct (Tryz.prog.fieldsOf 47)) := by kernel_rfl
set_option maxRecDepth 100000 in
theorem stood47 : Tryz.prog.stoodInHeld 47 = false := by kernel_rfl
set_option maxRecDepth 100000 in
theorem fields47 : (Tryz.prog.fieldsOf 47).toList.map (fun f => (f.name == "_", f.type, f.offset)) = [(false, 5, 0), (false, 2, 1), (false, 9, 2)] := by kernel_rfl
theorem part_three {x y z : Value} {ty : TypeId} (w : World) (hty : Tryz.prog.plainKey ty = true) (i : Nat) (hi : i < 3) : (part ty #[x, y, z] i).run Tryz.prog w = .ok (if i = 0 then x else if i = 1 then y else z) w := by
  rw [run_part_plain w (v := if i = 0 then x else if i = 1 then y else z) hty ?_]
  match i, hi with
  | 0, _ => rfl
  | 1, _ => rfl
  | 2, _ => rfl
theorem bytes_inj {a b : ByteArray} (h : a.toList = b.toList) : a = b := by
  have h2 : a.data.toList = b.data.toList := by
    rw [← ByteArray.toList_eq, ← ByteArray.toList_eq, h]
  cases a; cases b
  simp only at h2
  congr 1
  exact Array.ext' h2
theorem bytes_beq (a b : ByteArray) : (a.toList == b.toList) = decide (a = b) := by
  by_cases h : a = b
  · subst h; simp
  · rw [decide_eq_false h]
    simp only [beq_eq_false_iff_ne, ne_eq]
    exact fun e => h (bytes_inj e)
def avEq (a b : Av) : Bool := a.k == b.k && (a.n == b.n && decide (a.s = b.s))
theorem avEq_iff (a b : Av) : avEq a b = true ↔ a = b := by
  obtain ⟨a1, a2, a3⟩ := a
  obtain ⟨b1, b2, b3⟩ := b
  simp [avEq]
set_option maxRecDepth 100000 in
theorem run_neq47 (a b : Av) (w : World) : (binOp .neq 47 a.val b.val).run Tryz.prog w = .ok (.bool (!avEq a b)) w := by
  unfold Av.val
  rw [run_neq_struct, show (10000 : Nat) = 9999 + 1 from rfl, run_equalIn_agg w 9999 47 _ _ und47 stood47]
  obtain ⟨f, g, i, h, h1, h2, h3⟩ : ∃ f g i, (Tryz.prog.fieldsOf 47).toList = [f, g, i] ∧ (f.name == "_", f.type, f.offset) = (false, 5, 0) ∧ (g.name == "_", g.type, g.offset) = (false, 2, 1) ∧ (i.name == "_", i.type, i.offset) = (false, 9, 2) := by
    have h := fields47
    generalize (Tryz.prog.fieldsOf 47).toList = l at h
    have hl : l.length = 3 := by simpa using congrArg List.length h
    obtain ⟨f, l, rfl⟩ := List.exists_cons_of_length_pos (by omega : 0 < l.length)
    obtain ⟨g, l, rfl⟩ := List.exists_cons_of_length_pos (by simp at hl; omega : 0 < l.length)
    obtain ⟨i, l, rfl⟩ := List.exists_cons_of_length_pos (by simp at hl; omega : 0 < l.length)
    obtain rfl : l = [] := List.eq_nil_of_length_eq_zero (by simp at hl; exact List.length_eq_zero_iff.2 hl)
    simp only [List.map_cons, List.map_nil, List.cons.injEq, and_true] at h
    exact ⟨f, g, i, rfl, h.1, h.2.1, h.2.2⟩
  simp only [Prod.mk.injEq] at h1 h2 h3
  rw [h]
  have n1 : f.name ≠ "_" := by simpa using h1.1
  have n2 : g.name ≠ "_" := by simpa using h2.1
  have n3 : i.name ≠ "_" := by simpa using h3.1
  have p (x y z : Value) (i : Nat) (hi : i < 3) : (part 5 #[x, y, z] i).run Tryz.prog w = .ok (if i = 0 then x else if i = 1 then y else z) w := part_three w (by kernel_rfl) i hi
  have q (x y z : Value) (i : Nat) (hi : i < 3) : (part 2 #[x, y, z] i).run Tryz.prog w = .ok (if i = 0 then x else if i = 1 then y else z) w := part_three w (by kernel_rfl) i hi
  have r (x y z : Value) (i : Nat) (hi : i < 3) : (part 9 #[x, y, z] i).run Tryz.prog w = .ok (if i = 0 then x else if i = 1 then y else z) w := part_three w (by kernel_rfl) i hi
  have e1 := run_equalIn_int w 9998 5 .u8 .u8 a.k b.k Tryz.underlying5
  have e2 := run_equalIn_int w 9998 2 .i64 .i64 a.n b.n Tryz.underlying2
  have e3 := run_equalIn_string w 9998 9 a.s b.s Tryz.underlying9
  simp only [Op.eqFields, n1, n2, n3, ne_eq, not_false_eq_true, if_true, h1.2.1, h1.2.2, h2.2.1, h2.2.2, h3.2.1, h3.2.2, Sem.run_bind, p _ _ _ 0 (by omega), Result.andThen_ok]
  rw [show (9999 : Nat) = 9998 + 1 from rfl]
  rw [e1]
  simp only [Result.andThen_ok]
  unfold avEq
  cases h4 : (a.k == b.k)
  · simp
  · cases h5 : (a.n == b.n)
    · simp [q _ _ _ 1 (by omega), e2, h5]
    · simp only [Bool.not_true, Bool.false_eq_true, if_false, Sem.run_bind, q _ _ _ 1 (by omega), Nat.one_ne_zero, if_true, Result.andThen_ok, e2, h5, r _ _ _ 2 (by omega)]
      simp
      have e4 : (Op.equalIn 9999 9 (.string a.s) (.string b.s)).run Tryz.prog w = .ok (a.s.toList == b.s.toList) w := e3
      rw [e4, bytes_beq]
      simp only [Result.andThen_ok]
      cases decide (a.s = b.s) <;> rfl
end Go.Proofs.YtafenkepigmcaaaGreatDoor.Gr
/- graph: refusal of need, walked. -/
namespace Go.Proofs.YtafenkepigmcaaaGreatDoor.Gr
open Go Go.RowKit YtafenkepigmcaaaGreatDoor.So
theorem MP.look {w : World} {b n : Nat} {E : EL Av} (h : MP w b n E) {i : Int} (hi : In8 i) : (Instr.lookup 125 (.map (some b)) (.int .u8 i) false).run Tryz.prog w = .ok ((getE E i).getD zA).val w := by
  have := h.1.look Tryz.underlying5 Tryz.underlying125 (zero47 w) hi
  rw [getD_vals] at this
  exact this
set_option maxRecDepth 100000 in
set_option maxHeartbeats 1000000 in
theorem refuse_need (g n : Nat) (F : Nat → Prop) (G : GV) (A B key : Int) (a : Av) (x : EL Av × EL Av) (w : World) (h : Gp w n F g G) (hA : In32 A) (hk : In8 key) (hx : getE G A = some x) :
    Calls Tryz.prog 111 #[.pointer (some ⟨g, 0, none⟩), opV 9 A B key a] w fun e w' => e = .returned (.int .i64 (if avEq ((getE x.1 key).getD zA) a = true then 0 else 9)) ∧ Below w.heap.size w w' := by
  have hneq := fun w => run_neq47 ((getE x.1 key).getD zA) a w
  obtain ⟨k, m, s⟩ := a
  have HT := Lib.hid (there_any g n F G A _ (h.below (op_box w 9 A B key k m s)) hA)
  rw [hx] at HT
  simp only [Option.isSome_some] at HT
  obtain ⟨mp, me, bp, be, h⟩ := h
  have HW := Lib.hid (fun c x w1 => when_any c x w1)
  unfold opV
  simp only
  obtain ⟨z, hz⟩ : ∃ z, w.heap.size = z := ⟨_, rfl⟩
  obtain ⟨W, hW⟩ : ∃ W, w.alloc (.cells #[.int .u8 9, .int .u32 A, .int .u32 B, .int .u8 key, .int .u8 k, .int .i64 m, .string s] 75) = W := ⟨_, rfl⟩
  have b0 := op_box w 9 A B key k m s
  have hzb := heap_alloc_new w (.cells #[.int .u8 9, .int .u32 A, .int .u32 B, .int .u8 key, .int .u8 k, .int .i64 m, .string s] 75)
  rw [hW, hz] at hzb
  rw [hW] at b0 HT
  have hG := h.below b0
  have hD := hG.below ((Below.refl _ W).drew)
  have l0 := hD.lookP hx hA
  have n0 := (hD.mine _ (mem_of_get hx)).1.look hk
  obtain ⟨c0, _⟩ := hD.cells
  obtain ⟨x0, x1, _⟩ := bo hzb
  obtain ⟨_, y1, _, y3, y4, y5, y6⟩ := bo (w := W.drew) hzb
  have HB := Lib.hid (show Below w.heap.size w W.drew from b0.drew)
  generalize (getE x.1 key).getD zA = v0 at hneq n0 ⊢
  obtain ⟨k0, m0, s0⟩ := v0
  cases he : avEq ⟨k0, m0, s0⟩ ⟨k, m, s⟩
  all_goals
    simp only [he] at hneq
    unfold Av.val at hneq n0
    simp only at hneq n0
    clear h hG hD b0 hzb he
    have U0 := And.intro c0 (And.intro l0 (And.intro n0 (And.intro y1 (And.intro y3 (And.intro y4 (And.intro y5 y6))))))
    clear c0 l0 n0 y1 y3 y4 y5 y6
    go_enter Tryz.func111, Tryz.ntmps111
    go_upto_region 13 with (go_at_call 52; refine HT.out.mono ?_; rintro e w1 ⟨rfl, rfl⟩)
    go_region_held3 (fun w' => w'.cell? ⟨g, 0, none⟩ = some (.map (some mp)) ∧ (Instr.lookup 106 (.map (some mp)) (.int .u32 A) false).run Tryz.prog w' = .ok (.map (some (bp A))) w' ∧ (Instr.lookup 125 (.map (some (bp A))) (.int .u8 key) false).run Tryz.prog w' = .ok (.agg #[.int .u8 k0, .int .i64 m0, .string s0]) w' ∧ w'.cell? ⟨z, 1, none⟩ = some (.int .u32 A) ∧ w'.cell? ⟨z, 3, none⟩ = some (.int .u8 key) ∧ w'.cell? ⟨z, 4, none⟩ = some (.int .u8 k) ∧ w'.cell? ⟨z, 5, none⟩ = some (.int .i64 m) ∧ w'.cell? ⟨z, 6, none⟩ = some (.string s))
      (first | exact U0)
      (first | (go_at_call 143; refine (HW.out _ _ _).mono ?_; rintro e w3 ⟨rfl, rfl⟩))
    all_goals (
      go_wp2_with fail
      go_ret
      exact ⟨by simp, by rw [← hz]; exact HB.out⟩)
end Go.Proofs.YtafenkepigmcaaaGreatDoor.Gr
/- graph: read, walked: what reads nothing. -/
namespace Go.Proofs.YtafenkepigmcaaaGreatDoor.Gr
open Go Go.RowKit YtafenkepigmcaaaGreatDoor.So
theorem results_75_tmp {fn : Func} {p u : Tmp} (h : fn.results = #[.cell p 47, .tmp u]) (tmps : Array Value) (w : World) (g : Nat) (c0 c1 c2 : Value) (fr : Nat × Nat)
    (hp : tmps.getD p undef = .pointer (some ⟨g, 0, none⟩)) (hg : w.heap[g]? = some (.cells #[c0, c1, c2] 47 fr)) :
    (results fn tmps).run Tryz.prog w = .ok (.tuple #[.agg #[c0, c1, c2], tmps.getD u undef]) w := by
  have hr := run_loadVar_row (P := Tryz.prog) w g 47 47 #[c0, c1, c2] fr _ hg Tryz.underlying47 rfl size47
  rw [results_cell_tmp h, hp]
  simp [asAddr, hr, Result.andThen]
set_option maxRecDepth 100000 in
set_option maxHeartbeats 1000000 in
theorem read_none (g : Nat) (kd A B key : Int) (a : Av) (w : World) (h4 : ¬ kd = 4) (h7 : ¬ kd = 7) (h8 : ¬ kd = 8) :
    Calls Tryz.prog 112 #[.pointer (some ⟨g, 0, none⟩), opV kd A B key a] w fun e w' => e = .returned (.tuple #[zV, .bool false]) ∧ Below w.heap.size w w' := by
  obtain ⟨k, m, s⟩ := a
  have hb := op_box w kd A B key k m s
  have HB := Lib.hid (hb.alloc hb.size (.cells #[.int .u8 0, .int .i64 0, .string ⟨#[]⟩] 47))
  unfold opV zV
  simp only
  clear hb
  go_enter Tryz.func112, Tryz.ntmps112
  go_wp2
  refine bodyPost_ret (v := .tuple #[.agg #[.int .u8 0, .int .i64 0, .string ⟨#[]⟩], .bool false]) ?_ rfl ⟨rfl, HB.out⟩
  exact results_75_tmp (p := 4) (u := 5) rfl _ _ (w.heap.size + 1) _ _ _ (0, 0) rfl (heap_alloc2_new _ _ _)
end Go.Proofs.YtafenkepigmcaaaGreatDoor.Gr
/- graph: read of a degree, walked. -/
namespace Go.Proofs.YtafenkepigmcaaaGreatDoor.Gr
open Go Go.RowKit YtafenkepigmcaaaGreatDoor.So
set_option maxRecDepth 100000 in
set_option maxHeartbeats 1000000 in
theorem read_degree (g n : Nat) (F : Nat → Prop) (G : GV) (A B key : Int) (a : Av) (x : EL Av × EL Av) (w : World) (h : Gp w n F g G) (hA : In32 A) (hx : getE G A = some x) :
    Calls Tryz.prog 112 #[.pointer (some ⟨g, 0, none⟩), opV 8 A B key a] w fun e w' => e = .returned (.tuple #[.agg #[.int .u8 1, .int .i64 (x.2.length : Int), .string ⟨#[]⟩], .bool true]) ∧ Below w.heap.size w w' := by
  obtain ⟨k, m, s⟩ := a
  obtain ⟨mp, me, bp, be, h⟩ := h
  unfold opV
  simp only
  obtain ⟨z, hz⟩ : ∃ z, w.heap.size = z := ⟨_, rfl⟩
  obtain ⟨W, hW⟩ : ∃ W, (w.alloc (.cells #[.int .u8 8, .int .u32 A, .int .u32 B, .int .u8 key, .int .u8 k, .int .i64 m, .string s] 75)).alloc (.cells #[.int .u8 0, .int .i64 0, .string ⟨#[]⟩] 47) = W := ⟨_, rfl⟩
  have hb := op_box w 8 A B key k m s
  have b0 := hb.alloc hb.size (.cells #[.int .u8 0, .int .i64 0, .string ⟨#[]⟩] 47)
  have hzb := (heap_alloc_old _ (.cells #[.int .u8 0, .int .i64 0, .string ⟨#[]⟩] 47) (by simp)).trans (heap_alloc_new w (.cells #[.int .u8 8, .int .u32 A, .int .u32 B, .int .u8 key, .int .u8 k, .int .i64 m, .string s] 75))
  have hrb := heap_alloc2_new w (.cells #[.int .u8 8, .int .u32 A, .int .u32 B, .int .u8 key, .int .u8 k, .int .i64 m, .string s] 75) (.cells #[.int .u8 0, .int .i64 0, .string ⟨#[]⟩] 47)
  rw [hW, hz] at hzb hrb
  rw [hW] at b0
  have hD := (h.below b0).below ((Below.refl _ W).drew)
  have l0 := hD.lookH hx hA
  have n0 := (hD.mine _ (mem_of_get hx)).2.len
  obtain ⟨_, c0⟩ := hD.cells
  obtain ⟨x0, _⟩ := bo hzb
  obtain ⟨_, y1, _⟩ := bo (w := W.drew) hzb
  obtain ⟨_, _, _, _, _, _, hend⟩ := three (w := W.drew) (b := z + 1) (.int .u8 1) (.int .i64 (x.2.length : Int)) (.string ⟨#[]⟩) hrb
  have HEnd := Lib.hid hend
  obtain ⟨k0, k1, k2⟩ : W.cell? ⟨z + 1, 0, none⟩ = some (.int .u8 0) ∧ W.cell? ⟨z + 1, 1, none⟩ = some (.int .i64 0) ∧ W.cell? ⟨z + 1, 2, none⟩ = some (.string ⟨#[]⟩) := by simp [World.cell?, hrb]
  have f0 : W.frozen? ⟨z + 1, 0, none⟩ = false := free4 hrb
  have f1 : W.frozen? ⟨z + 1, 1, none⟩ = false := free4 hrb
  have f2 : W.frozen? ⟨z + 1, 2, none⟩ = false := free4 hrb
  have HB := Lib.hid ((b0.drew).grown (((grown_set W.drew (z + 1) 0 (.int .u8 1)).trans (grown_set _ _ 1 (.int .i64 (x.2.length : Int)))).trans (grown_set _ _ 2 (.string ⟨#[]⟩))) b0.drew.size (fun q e => by have := Option.some.inj e; omega))
  rw [hz] at HB
  clear h hD hb b0 hzb hrb hend
  go_enter Tryz.func112, Tryz.ntmps112
  go_upto_region 7 with fail
  go_region
  go_wp2_with fail
  refine bodyPost_ret (v := .tuple #[.agg #[.int .u8 1, .int .i64 (x.2.length : Int), .string ⟨#[]⟩], .bool true]) ?_ rfl ⟨rfl, HB.out⟩
  exact results_75_tmp (p := 4) (u := 5) rfl _ _ (z + 1) _ _ _ (0, 0) rfl HEnd.out
end Go.Proofs.YtafenkepigmcaaaGreatDoor.Gr
/- graph: read of a property, walked. -/
namespace Go.Proofs.YtafenkepigmcaaaGreatDoor.Gr
open Go Go.RowKit YtafenkepigmcaaaGreatDoor.So
theorem zA_ok : zA.ok := ⟨by unfold InQ; decide, by unfold InQ; decide, by decide⟩
theorem ok_at {E : EL Av} (h : ∀ e ∈ E, e.2.ok) (k : Int) : ((getE E k).getD zA).ok := by
  cases hq : getE E k with
  | none => exact zA_ok
  | some a => exact h _ (mem_of_get hq)
theorem get_at {w : World} {n : Nat} {F : Nat → Prop} {g mp me z : Nat} {bp be : Int → Nat} {G : GV} {v key : Int} {x : EL Av × EL Av} {kd A B k m k0 m0 : Int} {s s0 : ByteArray} (h : GrAt w n F g mp me bp be G) (hx : getE G v = some x) (hv : In32 v) (hk : In8 key) (hq : (getE x.1 key).getD zA = ⟨k0, m0, s0⟩) (hz : w.heap[z]? = some (.cells #[.int .u8 kd, .int .u32 A, .int .u32 B, .int .u8 key, .int .u8 k, .int .i64 m, .string s] 75 (0, 0))) :
    w.cell? ⟨g, 0, none⟩ = some (.map (some mp)) ∧ (Instr.lookup 106 (.map (some mp)) (.int .u32 v) false).run Tryz.prog w = .ok (.map (some (bp v))) w ∧ (Instr.lookup 125 (.map (some (bp v))) (.int .u8 key) false).run Tryz.prog w = .ok (.agg #[.int .u8 k0, .int .i64 m0, .string s0]) w ∧ w.cell? ⟨z, 1, none⟩ = some (.int .u32 A) ∧ w.cell? ⟨z, 3, none⟩ = some (.int .u8 key) := by
  obtain ⟨_, q1, _, q3, _⟩ := bo hz
  have hl := (h.mine _ (mem_of_get hx)).1.look hk
  rw [hq] at hl
  exact ⟨h.cells.1, h.lookP hx hv, hl, q1, q3⟩
set_option maxRecDepth 100000 in
set_option maxHeartbeats 2000000 in
theorem read_get (g n : Nat) (F : Nat → Prop) (G : GV) (A B key : Int) (a : Av) (x : EL Av × EL Av) (w : World) (h : Gp w n F g G) (hA : In32 A) (hk : In8 key) (hx : getE G A = some x) :
    Calls Tryz.prog 112 #[.pointer (some ⟨g, 0, none⟩), opV 4 A B key a] w fun e w' => e = .returned (.tuple #[((getE x.1 key).getD zA).val, .bool true]) ∧ Below w.heap.size w w' := by
  obtain ⟨k, m, s⟩ := a
  obtain ⟨mp, me, bp, be, h⟩ := h
  have hok := ok_at (h.mine _ (mem_of_get hx)).1.2 key
  obtain ⟨v0, hq⟩ : ∃ v0, (getE x.1 key).getD zA = v0 := ⟨_, rfl⟩
  rw [hq] at hok ⊢
  obtain ⟨k0, m0, s0⟩ := v0
  have hs : s0.size ≤ 281474976710656 := Nat.le_trans hok.2.2 (by decide)
  unfold opV Av.val
  simp only
  obtain ⟨z, hz⟩ : ∃ z, w.heap.size = z := ⟨_, rfl⟩
  obtain ⟨W, hW⟩ : ∃ W, (w.alloc (.cells #[.int .u8 4, .int .u32 A, .int .u32 B, .int .u8 key, .int .u8 k, .int .i64 m, .string s] 75)).alloc (.cells #[.int .u8 0, .int .i64 0, .string ⟨#[]⟩] 47) = W := ⟨_, rfl⟩
  have hb := op_box w 4 A B key k m s
  have b0 := hb.alloc hb.size (.cells #[.int .u8 0, .int .i64 0, .string ⟨#[]⟩] 47)
  have hzb := (heap_alloc_old _ (.cells #[.int .u8 0, .int .i64 0, .string ⟨#[]⟩] 47) (by simp)).trans (heap_alloc_new w (.cells #[.int .u8 4, .int .u32 A, .int .u32 B, .int .u8 key, .int .u8 k, .int .i64 m, .string s] 75))
  have hrb := heap_alloc2_new w (.cells #[.int .u8 4, .int .u32 A, .int .u32 B, .int .u8 key, .int .u8 k, .int .i64 m, .string s] 75) (.cells #[.int .u8 0, .int .i64 0, .string ⟨#[]⟩] 47)
  rw [hW, hz] at hzb hrb
  rw [hW] at b0
  have hG := h.below b0
  have U0 := get_at (hG.below ((Below.refl _ W).drew)) hx hA hk hq (z := z) hzb
  obtain ⟨x0, _⟩ := bo hzb
  have hzF : ¬ F (z + 1) := fun hf => by have := h.hi _ hf; omega
  rw [hz] at b0
  have HX := Lib.hid (And.intro hG (And.intro hx (And.intro hA (And.intro hk (And.intro hq (And.intro hzb (And.intro hrb (And.intro hs (And.intro b0 (And.intro hzF hz))))))))))
  clear h hG hb b0 hzb hrb hok hs hq hx hzF
  go_enter Tryz.func112, Tryz.ntmps112
  go_upto_region 3 with fail
  go_region_held3 (fun w' => w'.cell? ⟨g, 0, none⟩ = some (.map (some mp)) ∧ (Instr.lookup 106 (.map (some mp)) (.int .u32 A) false).run Tryz.prog w' = .ok (.map (some (bp A))) w' ∧ (Instr.lookup 125 (.map (some (bp A))) (.int .u8 key) false).run Tryz.prog w' = .ok (.agg #[.int .u8 k0, .int .i64 m0, .string s0]) w' ∧ w'.cell? ⟨z, 1, none⟩ = some (.int .u32 A) ∧ w'.cell? ⟨z, 3, none⟩ = some (.int .u8 key))
    (first | exact U0 | exact U1 | exact U2)
    (first | (go_at_call 65; refine (own_any k0 m0 s0 _ HX.out.2.2.2.2.2.2.2.1).mono ?_; rintro e' w1 ⟨rfl, hb1⟩; have hb1' : Below W.heap.size W w1 := (Below.refl _ W).drew.trans hb1; have hG1 := HX.out.1.below hb1'; have hz1 := (hb1'.block z (Array.getElem?_eq_some_iff.1 HX.out.2.2.2.2.2.1).1).trans HX.out.2.2.2.2.2.1; have hr1 := (hb1'.block (z + 1) (Array.getElem?_eq_some_iff.1 HX.out.2.2.2.2.2.2.1).1).trans HX.out.2.2.2.2.2.2.1; have U1 := get_at hG1 HX.out.2.1 HX.out.2.2.1 HX.out.2.2.2.1 HX.out.2.2.2.2.1 hz1; obtain ⟨k0', k1', k2'⟩ : w1.cell? ⟨z + 1, 0, none⟩ = some (.int .u8 0) ∧ w1.cell? ⟨z + 1, 1, none⟩ = some (.int .i64 0) ∧ w1.cell? ⟨z + 1, 2, none⟩ = some (.string ⟨#[]⟩) := (by simp [World.cell?, hr1]); have f0' : w1.frozen? ⟨z + 1, 0, none⟩ = false := free4 hr1; have f1' : w1.frozen? ⟨z + 1, 1, none⟩ = false := free4 hr1; have f2' : w1.frozen? ⟨z + 1, 2, none⟩ = false := free4 hr1; obtain ⟨_, _, _, _, _, _, hend⟩ := three (.int .u8 k0) (.int .i64 m0) (.string s0) hr1; have hgr := (((grown_set w1 (z + 1) 0 (.int .u8 k0)).trans (grown_set _ _ 1 (.int .i64 m0))).trans (grown_set _ _ 2 (.string s0))); have hG2 := hG1.on (K := fun q => q = z + 1) (Turned.of_grown hgr (fun q e => by injection e with e; exact e.symm)) (fun q hf e => HX.out.2.2.2.2.2.2.2.2.2.1 (e ▸ hf)); have U2 := get_at hG2 HX.out.2.1 HX.out.2.2.1 HX.out.2.2.2.1 HX.out.2.2.2.2.1 ((hgr.block z (Array.getElem?_eq_some_iff.1 hz1).1 (fun e => by have := Option.some.inj e; omega)).trans hz1); have hlow : Below z w w1 := HX.out.2.2.2.2.2.2.2.2.1.trans (hb1'.mono (by have := HX.out.2.2.2.2.2.2.2.2.1.size; have := HX.out.2.2.2.2.2.2.2.2.2.2; omega)); have HS := Lib.hid (And.intro hend (hlow.grown hgr (by have := hlow.size; have := HX.out.2.2.2.2.2.2.2.2.2.2; omega) (fun q e => by have := Option.some.inj e; omega))); unfold val at ⊢; clear hb1 hb1' hG1 hz1 hr1 hend hgr hG2 hlow))
  all_goals (
    go_wp2_with fail
    refine bodyPost_ret (v := .tuple #[.agg #[.int .u8 k0, .int .i64 m0, .string s0], .bool true]) ?_ rfl ⟨rfl, by first | exact HS.out.2 | (rw [hz]; exact HS.out.2)⟩
    exact results_75_tmp (p := 4) (u := 5) rfl _ _ (z + 1) _ _ _ (0, 0) rfl HS.out.1)
end Go.Proofs.YtafenkepigmcaaaGreatDoor.Gr
/- graph: read of an edge, walked. -/
namespace Go.Proofs.YtafenkepigmcaaaGreatDoor.Gr
open Go Go.RowKit YtafenkepigmcaaaGreatDoor.So
theorem ME.look {w : World} {b n : Nat} {E : EL Av} (h : ME w b n E) {i : Int} (hi : In32 i) : (Instr.lookup 131 (.map (some b)) (.int .u32 i) false).run Tryz.prog w = .ok ((getE E i).getD zA).val w := by
  have := h.1.look Tryz.underlying23 Tryz.underlying131 (zero47 w) hi
  rw [getD_vals] at this
  exact this
theorem edge_at {w : World} {n : Nat} {F : Nat → Prop} {g mp me z : Nat} {bp be : Int → Nat} {G : GV} {v o : Int} {x : EL Av × EL Av} {kd A key k m k0 m0 : Int} {s s0 : ByteArray} (h : GrAt w n F g mp me bp be G) (hx : getE G v = some x) (hv : In32 v) (hk : In32 o) (hq : (getE x.2 o).getD zA = ⟨k0, m0, s0⟩) (hz : w.heap[z]? = some (.cells #[.int .u8 kd, .int .u32 A, .int .u32 o, .int .u8 key, .int .u8 k, .int .i64 m, .string s] 75 (0, 0))) :
    w.cell? ⟨g, 1, none⟩ = some (.map (some me)) ∧ (Instr.lookup 107 (.map (some me)) (.int .u32 v) false).run Tryz.prog w = .ok (.map (some (be v))) w ∧ (Instr.lookup 131 (.map (some (be v))) (.int .u32 o) false).run Tryz.prog w = .ok (.agg #[.int .u8 k0, .int .i64 m0, .string s0]) w ∧ w.cell? ⟨z, 1, none⟩ = some (.int .u32 A) ∧ w.cell? ⟨z, 2, none⟩ = some (.int .u32 o) := by
  obtain ⟨_, q1, q2, _⟩ := bo hz
  have hl := (h.mine _ (mem_of_get hx)).2.look hk
  rw [hq] at hl
  exact ⟨h.cells.2, h.lookH hx hv, hl, q1, q2⟩
set_option maxRecDepth 100000 in
set_option maxHeartbeats 2000000 in
theorem read_edge (g n : Nat) (F : Nat → Prop) (G : GV) (A B key : Int) (a : Av) (x : EL Av × EL Av) (w : World) (h : Gp w n F g G) (hA : In32 A) (hB : In32 B) (hx : getE G A = some x) :
    Calls Tryz.prog 112 #[.pointer (some ⟨g, 0, none⟩), opV 7 A B key a] w fun e w' => e = .returned (.tuple #[((getE x.2 B).getD zA).val, .bool true]) ∧ Below w.heap.size w w' := by
  obtain ⟨k, m, s⟩ := a
  obtain ⟨mp, me, bp, be, h⟩ := h
  have hok := ok_at (h.mine _ (mem_of_get hx)).2.2 B
  obtain ⟨v0, hq⟩ : ∃ v0, (getE x.2 B).getD zA = v0 := ⟨_, rfl⟩
  rw [hq] at hok ⊢
  obtain ⟨k0, m0, s0⟩ := v0
  have hs : s0.size ≤ 281474976710656 := Nat.le_trans hok.2.2 (by decide)
  unfold opV Av.val
  simp only
  obtain ⟨z, hz⟩ : ∃ z, w.heap.size = z := ⟨_, rfl⟩
  obtain ⟨W, hW⟩ : ∃ W, (w.alloc (.cells #[.int .u8 7, .int .u32 A, .int .u32 B, .int .u8 key, .int .u8 k, .int .i64 m, .string s] 75)).alloc (.cells #[.int .u8 0, .int .i64 0, .string ⟨#[]⟩] 47) = W := ⟨_, rfl⟩
  have hb := op_box w 7 A B key k m s
  have b0 := hb.alloc hb.size (.cells #[.int .u8 0, .int .i64 0, .string ⟨#[]⟩] 47)
  have hzb := (heap_alloc_old _ (.cells #[.int .u8 0, .int .i64 0, .string ⟨#[]⟩] 47) (by simp)).trans (heap_alloc_new w (.cells #[.int .u8 7, .int .u32 A, .int .u32 B, .int .u8 key, .int .u8 k, .int .i64 m, .string s] 75))
  have hrb := heap_alloc2_new w (.cells #[.int .u8 7, .int .u32 A, .int .u32 B, .int .u8 key, .int .u8 k, .int .i64 m, .string s] 75) (.cells #[.int .u8 0, .int .i64 0, .string ⟨#[]⟩] 47)
  rw [hW, hz] at hzb hrb
  rw [hW] at b0
  have hG := h.below b0
  have U0 := edge_at (hG.below ((Below.refl _ W).drew)) hx hA hB hq (z := z) hzb
  obtain ⟨x0, _⟩ := bo hzb
  have hzF : ¬ F (z + 1) := fun hf => by have := h.hi _ hf; omega
  rw [hz] at b0
  have HX := Lib.hid (And.intro hG (And.intro hx (And.intro hA (And.intro hB (And.intro hq (And.intro hzb (And.intro hrb (And.intro hs (And.intro b0 (And.intro hzF hz))))))))))
  clear h hG hb b0 hzb hrb hok hs hq hx hzF
  go_enter Tryz.func112, Tryz.ntmps112
  go_upto_region 5 with fail
  go_region_held3 (fun w' => w'.cell? ⟨g, 1, none⟩ = some (.map (some me)) ∧ (Instr.lookup 107 (.map (some me)) (.int .u32 A) false).run Tryz.prog w' = .ok (.map (some (be A))) w' ∧ (Instr.lookup 131 (.map (some (be A))) (.int .u32 B) false).run Tryz.prog w' = .ok (.agg #[.int .u8 k0, .int .i64 m0, .string s0]) w' ∧ w'.cell? ⟨z, 1, none⟩ = some (.int .u32 A) ∧ w'.cell? ⟨z, 2, none⟩ = some (.int .u32 B))
    (first | exact U0 | exact U1 | exact U2)
    (first | (go_at_call 65; refine (own_any k0 m0 s0 _ HX.out.2.2.2.2.2.2.2.1).mono ?_; rintro e' w1 ⟨rfl, hb1⟩; have hb1' : Below W.heap.size W w1 := (Below.refl _ W).drew.trans hb1; have hG1 := HX.out.1.below hb1'; have hz1 := (hb1'.block z (Array.getElem?_eq_some_iff.1 HX.out.2.2.2.2.2.1).1).trans HX.out.2.2.2.2.2.1; have hr1 := (hb1'.block (z + 1) (Array.getElem?_eq_some_iff.1 HX.out.2.2.2.2.2.2.1).1).trans HX.out.2.2.2.2.2.2.1; have U1 := edge_at hG1 HX.out.2.1 HX.out.2.2.1 HX.out.2.2.2.1 HX.out.2.2.2.2.1 hz1; obtain ⟨k0', k1', k2'⟩ : w1.cell? ⟨z + 1, 0, none⟩ = some (.int .u8 0) ∧ w1.cell? ⟨z + 1, 1, none⟩ = some (.int .i64 0) ∧ w1.cell? ⟨z + 1, 2, none⟩ = some (.string ⟨#[]⟩) := (by simp [World.cell?, hr1]); have f0' : w1.frozen? ⟨z + 1, 0, none⟩ = false := free4 hr1; have f1' : w1.frozen? ⟨z + 1, 1, none⟩ = false := free4 hr1; have f2' : w1.frozen? ⟨z + 1, 2, none⟩ = false := free4 hr1; obtain ⟨_, _, _, _, _, _, hend⟩ := three (.int .u8 k0) (.int .i64 m0) (.string s0) hr1; have hgr := (((grown_set w1 (z + 1) 0 (.int .u8 k0)).trans (grown_set _ _ 1 (.int .i64 m0))).trans (grown_set _ _ 2 (.string s0))); have hG2 := hG1.on (K := fun q => q = z + 1) (Turned.of_grown hgr (fun q e => by injection e with e; exact e.symm)) (fun q hf e => HX.out.2.2.2.2.2.2.2.2.2.1 (e ▸ hf)); have U2 := edge_at hG2 HX.out.2.1 HX.out.2.2.1 HX.out.2.2.2.1 HX.out.2.2.2.2.1 ((hgr.block z (Array.getElem?_eq_some_iff.1 hz1).1 (fun e => by have := Option.some.inj e; omega)).trans hz1); have hlow : Below z w w1 := HX.out.2.2.2.2.2.2.2.2.1.trans (hb1'.mono (by have := HX.out.2.2.2.2.2.2.2.2.1.size; have := HX.out.2.2.2.2.2.2.2.2.2.2; omega)); have HS := Lib.hid (And.intro hend (hlow.grown hgr (by have := hlow.size; have := HX.out.2.2.2.2.2.2.2.2.2.2; omega) (fun q e => by have := Option.some.inj e; omega))); unfold val at ⊢; clear hb1 hb1' hG1 hz1 hr1 hend hgr hG2 hlow))
  all_goals (
    go_wp2_with fail
    refine bodyPost_ret (v := .tuple #[.agg #[.int .u8 k0, .int .i64 m0, .string s0], .bool true]) ?_ rfl ⟨rfl, by first | exact HS.out.2 | (rw [hz]; exact HS.out.2)⟩
    exact results_75_tmp (p := 4) (u := 5) rfl _ _ (z + 1) _ _ _ (0, 0) rfl HS.out.1)
end Go.Proofs.YtafenkepigmcaaaGreatDoor.Gr
