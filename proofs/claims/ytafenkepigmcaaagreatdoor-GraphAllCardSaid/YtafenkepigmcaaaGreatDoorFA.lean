/- fault: the deferred closures that find nothing to catch; the number of a root that is an Errno. -/
import Derived.Test.YtafenkepigmcaaaGreatDoorAs
import Derived.Tactics
import Derived.Tactics2
import Derived.Defers
import Derived.Recover
import Derived.Laws.Pointers
import Derived.Handy
import Derived.Deep.LoopGhost
import Derived.Lib.Hide
import Derived.RangeFuncBox
import Derived.Deep.RegionHeld3
import Derived.Deep.AppendLies
import Derived.Deep.RegionLaw
import Derived.OwnWalk
import Derived.IntWalk
namespace Go.Proofs.YtafenkepigmcaaaGreatDoor.Flt
open Go Go.RowKit
theorem idle168 (p q : Addr) (w : World) :
    CallsD Tryz.prog 168 #[.pointer (some p), .pointer (some q)] .returning w fun e u' w' => e = .returned (.tuple #[]) ∧ u' = .returning ∧ w' = w := by
  refine callsD_of_wpS Tryz.func168 rfl fun c₀ cs hu => ?_
  apply wpS_seq
  apply wpS_region
  simp [wpOpsS, go_sem, recoverD, hu, Tryz.ntmps168, Exit.thenS]
  refine wpS_cond (t := false) (by simp [Act.eval, Array.replicate]) ?_
  simp only [Bool.false_eq_true, if_false]
  refine wpS_of_wp (wp_skip ?_)
  cases c₀
  simp_all [bodyPostS, results, Tryz.results168]
theorem idle170 (p q : Addr) (w : World) :
    CallsD Tryz.prog 170 #[.pointer (some p), .pointer (some q)] .returning w fun e u' w' => e = .returned (.tuple #[]) ∧ u' = .returning ∧ w' = w := by
  refine callsD_of_wpS Tryz.func170 rfl fun c₀ cs hu => ?_
  apply wpS_seq
  apply wpS_region
  simp [wpOpsS, go_sem, recoverD, hu, Tryz.ntmps170, Exit.thenS]
  refine wpS_cond (t := false) (by simp [Act.eval, Array.replicate]) ?_
  simp only [Bool.false_eq_true, if_false]
  refine wpS_of_wp (wp_skip ?_)
  cases c₀
  simp_all [bodyPostS, results, Tryz.results170]
/-- The error type's handle lies in its variable. -/
def ErrT (w : World) : Prop := w.cell? ⟨0, 0, none⟩ = some (.iface 270 (.agg #[.pointer (some ⟨1, 152, none⟩)]))
theorem ErrT.on {w w1 : World} (h : ErrT w) (hb : Below w.heap.size w w1) : ErrT w1 := (hb.cell (World.block_lt_of_cell? _ _ h)).trans h
theorem box_below (w : World) (o : Obj) : Below w.heap.size w (w.alloc o) := (Below.refl _ _).alloc (Nat.le_refl _) _
theorem bcell {W w1 : World} (hb : Below W.heap.size W w1) : (∀ b o, b < W.heap.size → w1.cell? ⟨b, o, none⟩ = W.cell? ⟨b, o, none⟩) ∧ (∀ b o, b < W.heap.size → w1.frozen? ⟨b, o, none⟩ = W.frozen? ⟨b, o, none⟩) :=
  ⟨fun b o h => hb.cell (p := ⟨b, o, none⟩) h, fun b o h => hb.frozen (p := ⟨b, o, none⟩) h⟩
set_option maxHeartbeats 1000000 in
theorem codeOf_errno (n : Int) (w : World) (hg : ErrT w) :
    Calls Tryz.prog 147 #[.iface 35 (.int .i64 n)] w fun e w' => e = .returned (.tuple #[.int .i64 n, .bool true]) ∧ Below w.heap.size w w' := by
  have hmf : ∀ (fn : Fn) (first cap : Array Value) (w : World), (Instr.makeFunc fn first cap).run Tryz.prog w = .ok (.func fn first cap) w := fun _ _ _ _ => rfl
  have hg2 : ErrT ((w.alloc (.cells #[.int .i64 0] 35)).alloc (.cells #[.bool false] 4)) := ErrT.on hg ((box_below w _).alloc (by simp) _)
  go_enter_defers Tryz.func147, Tryz.ntmps147
  go_wp2_with fail
  refine (as_hit n ⟨w.heap.size, 0, none⟩ (.int .i64 0) _ hg2 (by simp [go_sem]) (by simp [go_sem])).mono ?_
  rintro e w1 ⟨rfl, rfl⟩
  go_wp2_with fail
  refine leaves_cons (f := 168) (args := #[.pointer (some ⟨w.heap.size, 0, none⟩), .pointer (some ⟨w.heap.size + 1, 0, none⟩)]) (by simp) (by simp [go_sem]) ?_
  refine (idle168 ⟨w.heap.size, 0, none⟩ ⟨w.heap.size + 1, 0, none⟩ _).mono ?_
  rintro e u' w'' ⟨rfl, rfl, rfl⟩
  simp [Leaves, settle, results, Tryz.results147, go_sem]
  go_grown
end Go.Proofs.YtafenkepigmcaaaGreatDoor.Flt
/- fault: chains in memory; the walk down to the root, where nothing is told on the way. -/
namespace Go.Proofs.YtafenkepigmcaaaGreatDoor.Flt
open Go Go.RowKit Go.Stop
theorem noSingle (v : Value) (xT : TypeId) (w : World) : (Instr.typeAssert (.iface 35 v) xT 246 true).run Tryz.prog w = .ok (.tuple #[.nilIface, .bool false]) w := run_typeAssert_lacksB Tryz.underlying246 (by kernel_rfl) (by kernel_rfl) v xT w
theorem noSeveral (v : Value) (xT : TypeId) (w : World) : (Instr.typeAssert (.iface 35 v) xT 249 true).run Tryz.prog w = .ok (.tuple #[.nilIface, .bool false]) w := run_typeAssert_lacksB Tryz.underlying249 (by kernel_rfl) (by kernel_rfl) v xT w
theorem is185 (v : Value) (w : World) : (Instr.typeAssert (.iface 185 v) 152 185 true).run Tryz.prog w = .ok (.tuple #[v, .bool true]) w := by kernel_rfl
theorem no185 (v : Value) (w : World) : (Instr.typeAssert (.iface 35 v) 152 185 true).run Tryz.prog w = .ok (.tuple #[.pointer none, .bool false]) w := by kernel_rfl
theorem no241 (v : Value) (w : World) : (Instr.typeAssert (.iface 35 v) 152 241 true).run Tryz.prog w = .ok (.tuple #[.pointer none, .bool false]) w := by kernel_rfl
set_option maxHeartbeats 1000000 in
theorem unwrap_errno (n : Int) (w : World) :
    Calls Tryz.prog 149 #[.iface 35 (.int .i64 n)] w fun e w' => e = .returned (.tuple #[.slice none 0 0, .bool false]) ∧ Below w.heap.size w w' := by
  have hmf : ∀ (fn : Fn) (first cap : Array Value) (w : World), (Instr.makeFunc fn first cap).run Tryz.prog w = .ok (.func fn first cap) w := fun _ _ _ _ => rfl
  have n1 := noSingle
  have n2 := noSeveral
  go_enter_defers Tryz.func149, Tryz.ntmps149
  go_wp2_with fail
  refine leaves_cons (f := 170) (args := #[.pointer (some ⟨w.heap.size, 0, none⟩), .pointer (some ⟨w.heap.size + 1, 0, none⟩)]) (by simp) (by simp [go_sem]) ?_
  refine (idle170 ⟨w.heap.size, 0, none⟩ ⟨w.heap.size + 1, 0, none⟩ _).mono ?_
  rintro e u' w'' ⟨rfl, rfl, rfl⟩
  simp [Leaves, settle, results, Tryz.results149, go_sem]
  go_grown
set_option maxHeartbeats 400000 in
theorem numberOf_errno (n : Int) (w : World) (hg : ErrT w) :
    Calls Tryz.prog 114 #[.iface 35 (.int .i64 n)] w fun e w' => e = .returned (.int .i64 n) ∧ Below w.heap.size w w' := by
  go_enter Tryz.func114, Tryz.ntmps114
  go_wp2_with fail
  refine (codeOf_errno n _ hg).mono ?_
  rintro e w1 ⟨rfl, hb⟩
  go_wp2_with fail
  go_ret
  exact ⟨rfl, hb⟩
/-- A chain in memory: its links, the outermost first, about its root. -/
def Chain (w : World) : Value → List (Int × Int) → Int → Prop
  | v, [], r => v = .iface 35 (.int .i64 r)
  | v, l :: L, r => ∃ (p : Nat) (u : Value), v = .iface 185 (.pointer (some ⟨p, 0, none⟩)) ∧ w.heap[p]? = some (.cells #[.int .i64 l.1, .int .u32 l.2, u] 188 (0, 0)) ∧ Chain w u L r
theorem Chain.on {w w1 : World} {B : Nat} (hb : Below B w w1) : ∀ {v : Value} {L : List (Int × Int)} {r : Int}, w.heap.size ≤ B → Chain w v L r → Chain w1 v L r
  | v, [], r, _, h => h
  | v, l :: L, r, hB, ⟨p, u, e, hp, h⟩ => by
    have hlt : p < w.heap.size := by
      rcases Nat.lt_or_ge p w.heap.size with h1 | h1
      · exact h1
      · rw [Array.getElem?_eq_none h1] at hp; cases hp
    exact ⟨p, u, e, (hb.block p (by omega)).trans hp, Chain.on hb hB h⟩
theorem cells3 {w : World} {p : Nat} {a b u : Value} (h : w.heap[p]? = some (.cells #[a, b, u] 188 (0, 0))) : w.cell? ⟨p, 0, none⟩ = some a ∧ w.cell? ⟨p, 1, none⟩ = some b ∧ w.cell? ⟨p, 2, none⟩ = some u := by
  refine ⟨?_, ?_, ?_⟩ <;> simp [World.cell?, h]
def DownPost (r : Int) (w : World) (e : Ending) (w' : World) : Prop := e = .returned (.iface 35 (.int .i64 r)) ∧ w = w'
set_option maxHeartbeats 400000 in
theorem tell_not (p : Addr) (w : World) : Calls Tryz.prog 116 #[.pointer (some p)] w fun e w' => e = .returned (.tuple #[]) ∧ w = w' := by
  go_enter Tryz.func116, Tryz.ntmps116
  go_wp2_with fail
  go_end0
  exact ⟨rfl, rfl⟩
set_option maxRecDepth 100000 in
set_option maxHeartbeats 1000000 in
theorem own_quiet (v : Value) (L : List (Int × Int)) (r : Int) (w : World) (h : Chain w v L r) :
    Calls Tryz.prog 148 #[v, .func (.func 116) #[] #[]] w fun e w' => e = .returned (.iface 35 (.int .i64 r)) ∧ w = w' := by
  have H := Lib.hid h
  clear h
  have a1 := is185
  have a2 := no185
  have a3 := no241
  go_enter Tryz.func148, Tryz.ntmps148
  go_wp2_with fail
  go_loopg [0] L.length (fun k u wr => w = wr ∧ ∃ M : List (Int × Int), M.length = k ∧ Hid (Chain w u M r))
  case atStart => exact ⟨rfl, L, rfl, H⟩
  case round =>
    obtain ⟨rfl, M, hM, HC⟩ := hrel
    have HM := Lib.hid hM
    clear hM H
    have hc := HC.out
    clear HC
    cases M with
    | nil =>
      obtain rfl := hc
      go_wp2_with fail
      go_ret
      exact ⟨rfl, rfl⟩
    | cons l M =>
      obtain ⟨p, u, rfl, hp, hc⟩ := hc
      obtain ⟨c0, c1, c2⟩ := cells3 hp
      have HC := Lib.hid hc
      clear hc hp
      go_wp2_with fail
      refine (tell_not _ _).mono ?_
      rintro e w1 ⟨rfl, rfl⟩
      go_wp2_with fail
      go_roundg M.length
      case measure => have := HM.out; simp at this; omega
      case rel => exact ⟨rfl, M, rfl, HC⟩
def DescPost (r : Int) (R : World → Prop) (e : Ending) (w' : World) : Prop := e = .returned (.iface 35 (.int .i64 r)) ∧ ∃ w1, R w1 ∧ Below w1.heap.size w1 w'
set_option maxHeartbeats 400000 in
theorem descend_of (v f : Value) (r : Int) (w : World) (R : World → Prop) (h : Calls Tryz.prog 148 #[v, f] w fun e w' => e = .returned (.iface 35 (.int .i64 r)) ∧ R w') :
    Calls Tryz.prog 115 #[v, f] w (DescPost r R) := by
  have H := Lib.hid h
  clear h
  go_enter Tryz.func115, Tryz.ntmps115
  go_wp2
  refine wp_loop_rounds 1 ?_
  rw [rounds_succ]
  go_wp2_with fail
  refine H.out.mono ?_
  rintro e w1 ⟨rfl, hR⟩
  have HR := Lib.hid hR
  clear hR
  go_wp2_with fail
  refine (unwrap_errno _ _).mono ?_
  rintro e w2 ⟨rfl, hb⟩
  go_wp2_with fail
  go_ret
  exact ⟨rfl, w1, HR.out, hb⟩
set_option maxHeartbeats 400000 in
theorem code_nil (w : World) : Calls Tryz.prog 87 #[.nilIface] w fun e w' => e = .returned (.int .i64 0) ∧ w = w' := by
  go_enter Tryz.func87, Tryz.ntmps87
  go_wp2_with fail
  go_ret
  exact ⟨rfl, rfl⟩
theorem chain_some {w : World} {v : Value} {L : List (Int × Int)} {r : Int} (h : Chain w v L r) : ∃ t x, v = .iface t x := by
  cases L with
  | nil => exact ⟨_, _, h⟩
  | cons l L => obtain ⟨p, u, e, _⟩ := h; exact ⟨_, _, e⟩
set_option maxHeartbeats 400000 in
/-- Code: of a chain its root's number. -/
theorem code_any (v : Value) (L : List (Int × Int)) (r : Int) (w : World) (h : Chain w v L r) (hg : ErrT w) :
    Calls Tryz.prog 87 #[v] w fun e w' => e = .returned (.int .i64 r) ∧ Below w.heap.size w w' := by
  obtain ⟨t, x, rfl⟩ := chain_some h
  have H := Lib.hid (descend_of _ _ r w (fun w' => w = w') (own_quiet _ L r w h))
  clear h
  go_enter Tryz.func87, Tryz.ntmps87
  go_wp2_with fail
  refine H.out.mono ?_
  rintro e w1 ⟨rfl, w0, rfl, hb⟩
  go_wp2_with fail
  refine (numberOf_errno _ _ (ErrT.on hg hb)).mono ?_
  rintro e w2 ⟨rfl, hb2⟩
  have hB := hb.trans (hb2.mono hb.size)
  clear hb hb2
  go_wp2_with fail
  go_ret
  exact ⟨rfl, hB⟩
end Go.Proofs.YtafenkepigmcaaaGreatDoor.Flt
/- fault: Wrap and New; errors.Is of an Errno. -/
namespace Go.Proofs.YtafenkepigmcaaaGreatDoor.Flt
open Go Go.RowKit Go.Stop Go.Extern.Stop Go.Extern
set_option maxHeartbeats 400000 in
theorem wrap_any (t : TypeId) (x : Value) (op v : Int) (w : World) :
    Calls Tryz.prog 142 #[.iface t x, .int .i64 op, .int .u32 v] w fun e w' => e = .returned (.iface 185 (.pointer (some ⟨w.heap.size, 0, none⟩))) ∧ w' = w.alloc (.cells #[.int .i64 op, .int .u32 v, .iface t x] 188) := by
  go_enter Tryz.func142, Tryz.ntmps142
  go_wp2_with fail
  go_ret
  exact ⟨rfl, rfl⟩
set_option maxHeartbeats 400000 in
theorem wrap_nil (op v : Int) (w : World) :
    Calls Tryz.prog 142 #[.nilIface, .int .i64 op, .int .u32 v] w fun e w' => e = .returned .nilIface ∧ w' = w := by
  go_enter Tryz.func142, Tryz.ntmps142
  go_wp2_with fail
  go_ret
  exact ⟨rfl, rfl⟩
set_option maxHeartbeats 400000 in
theorem new_ok (c op v : Int) (w : World) (hc : (c == 0) = false) :
    Calls Tryz.prog 110 #[.int .i64 c, .int .i64 op, .int .u32 v] w fun e w' => e = .returned (.iface 185 (.pointer (some ⟨w.heap.size, 0, none⟩))) ∧ w' = w.alloc (.cells #[.int .i64 op, .int .u32 v, .iface 35 (.int .i64 c)] 188) := by
  go_enter Tryz.func110, Tryz.ntmps110
  go_wp2_with fail
  refine (wrap_any _ _ _ _ _).mono ?_
  rintro e w1 ⟨rfl, rfl⟩
  go_wp2_with fail
  go_ret
  exact ⟨rfl, rfl⟩
set_option maxHeartbeats 400000 in
theorem new_nil (op v : Int) (w : World) :
    Calls Tryz.prog 110 #[.int .i64 0, .int .i64 op, .int .u32 v] w fun e w' => e = .returned .nilIface ∧ w' = w := by
  go_enter Tryz.func110, Tryz.ntmps110
  go_wp2_with fail
  go_ret
  exact ⟨rfl, rfl⟩
end Go.Proofs.YtafenkepigmcaaaGreatDoor.Flt
/- fault: Links of a chain. -/
namespace Go.Proofs.YtafenkepigmcaaaGreatDoor.Flt
open Go Go.RowKit Go.Stop
theorem info157 : (Tryz.prog.info? 157).map (fun i => (i.zero, i.size, i.bytes)) = some (some (.agg #[.int .i64 0, .int .u32 0]), 2, 16) := by kernel_rfl
def lflat (L : List (Int × Int)) : List Value := L.flatMap fun l => [.int .i64 l.1, .int .u32 l.2]
theorem lflat_app (L : List (Int × Int)) (l : Int × Int) : lflat (L ++ [l]) = lflat L ++ [.int .i64 l.1, .int .u32 l.2] := by simp [lflat]
theorem lnew (a c : Int) (w : World) (T : TypeId) : ∀ j u, ([.int .i64 a, .int .u32 c] : List Value)[j]? = some u → (w.alloc (.cells #[.int .i64 a, .int .u32 c] T)).cell? ((⟨w.heap.size, 0, none⟩ : Addr).add j) = some u := by
  intro j u h
  match j, h with
  | 0, h => simp at h; subst h; simp [Addr.add, go_sem]
  | 1, h => simp at h; subst h; simp [Addr.add, go_sem]
  | j + 2, h => simp at h
theorem lone (a c : Int) : ∀ u ∈ ([.int .i64 a, .int .u32 c] : List Value), u.oneCell' = true := by
  intro u hu
  simp at hu
  rcases hu with rfl | rfl <;> rfl
theorem far_row {W : World} {p : Nat} {A : Array Value} {t e : TypeId} {k0 : Nat × Nat} (h : W.heap[p]? = some (.cells A t k0)) (hte : t ≠ e) {base size k : Nat} {v : Value} {xs : List Value} (hr : W.ownsRow base e size v k xs) : some p ≠ v.ownBlock := by
  rcases hr.2 with ⟨rfl, _⟩ | ⟨g, cap, cur, rfl, _, hgb, _⟩
  · simp [Value.ownBlock]
  · intro e'
    obtain rfl : p = g := by simpa [Value.ownBlock] using e'
    rw [h] at hgb; cases hgb; exact hte rfl
def At (p : Nat) (a c : Int) (B : Nat) (v : Value) (w' : World) : Prop := w'.cell? ⟨p, 0, none⟩ = some (.int .i64 a) ∧ w'.cell? ⟨p, 1, none⟩ = some (.int .u32 c) ∧ w'.cell? ⟨B, 0, none⟩ = some v ∧ w'.frozen? ⟨B, 0, none⟩ = false
theorem at_made {w : World} {p : Nat} {a c : Int} {B : Nat} {v : Value} {o : Obj} (c0 : w.cell? ⟨p, 0, none⟩ = some (.int .i64 a)) (c1 : w.cell? ⟨p, 1, none⟩ = some (.int .u32 c)) (zp : p < w.heap.size) (hv : Boxed w B 158 v) : At p a c B v (w.alloc o).drew :=
  have h0 : (w.alloc o).cell? ⟨p, 0, none⟩ = some (.int .i64 a) := ((World.grownBy_alloc w o none).cell_far ⟨p, 0, none⟩ zp (by simp)).trans c0
  have h1 : (w.alloc o).cell? ⟨p, 1, none⟩ = some (.int .u32 c) := ((World.grownBy_alloc w o none).cell_far ⟨p, 1, none⟩ zp (by simp)).trans c1
  ⟨h0, h1, (hv.alloc o).cell, (hv.alloc o).frozen⟩
theorem at_grown {w w3 : World} {p : Nat} {a c : Int} {B : Nat} {v : Value} {o : Obj} {row : Option Nat} (h : At p a c B v (w.alloc o).drew) (hg : (w.alloc o).drew.grownBy w3 row) (zp : p < w.heap.size) (hp : some p ≠ row) (hB : some B ≠ row) (zB : B < w.heap.size) : At p a c B v w3 := by
  have zz : (w.alloc o).drew.heap.size = w.heap.size + 1 := by show (w.alloc o).heap.size = _; simp
  obtain ⟨h0, h1, h2, h3⟩ := h
  exact ⟨(hg.cell_far ⟨p, 0, none⟩ (by rw [zz]; simp; omega) hp).trans h0, (hg.cell_far ⟨p, 1, none⟩ (by rw [zz]; simp; omega) hp).trans h1, (hg.cell_far ⟨B, 0, none⟩ (by rw [zz]; simp; omega) hB).trans h2, (hg.frozen_far ⟨B, 0, none⟩ (by rw [zz]; simp; omega) hB).trans h3⟩
theorem box_far {w W w3 : World} {B : Nat} {v : Value} {row : Option Nat} (hv : Boxed w B 158 v) (o : Obj) (hW : W.heap = (w.alloc o).heap) (hg : W.grownBy w3 row) (hne : some B ≠ row) : Boxed w3 B 158 v :=
  Boxed.kept (show W.heap[B]? = _ by rw [hW]; exact hv.alloc o) hg hne
set_option maxHeartbeats 1000000 in
theorem tell_link (p : Nat) (a c : Int) (u : Value) (B n₀ : Nat) (v : Value) (L : List (Int × Int)) (w : World)
    (hp : w.heap[p]? = some (.cells #[.int .i64 a, .int .u32 c, u] 188 (0, 0))) (hv : Boxed w B 158 v) (hown : w.ownsRow n₀ 157 2 v L.length (lflat L)) (hn : n₀ ≤ w.heap.size) (hB : n₀ ≤ B) (hL : L.length ≤ 1000) :
    Calls Tryz.prog 117 #[.pointer (some ⟨p, 0, none⟩), .pointer (some ⟨B, 0, none⟩)] w fun e w' => e = .returned (.tuple #[]) ∧
      ∃ v', Boxed w' B 158 v' ∧ w'.ownsRow n₀ 157 2 v' (L ++ [(a, c)]).length (lflat (L ++ [(a, c)])) ∧ Below n₀ w w' := by
  obtain ⟨i0, hi, hz0, hz1, hz2⟩ := info_parts info157
  obtain ⟨c0, c1, _⟩ := cells3 hp
  have hc := hv.cell
  have hf := hv.frozen
  have hc2 := (hv.alloc (.cells #[.int .i64 a, .int .u32 c] 157)).cell
  have HV := Lib.hid hv
  have HO := Lib.hid hown
  have HP := Lib.hid (far_row hp (by decide) hown)
  have HN := Lib.hid (hv.not_row (by decide) hown)
  have zp : p < w.heap.size := (Array.getElem?_eq_some_iff.1 hp).1
  clear hv hown hp
  go_enter Tryz.func117, Tryz.ntmps117
  go_region_law ((refine step_append_lies _ (by rfl) (.tmp 3) (.tmp 8) 158 (by rfl) n₀ 157 i0 _ 2 16 Tryz.underlying158 hi hz0 hz1 hz2 (by rfl) (by decide) _ L.length (lflat L) (by rfl) (HO.out.alloc _) ⟨w.heap.size, 0, none⟩ 1 1 [.int .i64 a, .int .u32 c] (by rfl) (by rfl) (lnew a c _ _) (lone a c) (by decide) (by unfold maxLen; omega) (by omega) (by simp; omega) (w.heap.size + 1) (by simp) ?_; intro g cap w3 hown3 hgrow3 hat hlt; have hv1 := box_far HV.out (.cells #[.int .i64 a, .int .u32 c] 157) (by rfl) hgrow3 HN.out; have hc1 := hv1.cell; have hf1 := hv1.frozen))
  all_goals
    go_end0
    have hown4 : w3.ownsRow n₀ 157 2 (.slice (some ⟨g, 0, none⟩) (L.length + 1) cap) (L ++ [(a, c)]).length (lflat (L ++ [(a, c)])) := by rw [lflat_app, List.length_append]; exact hown3
    obtain ⟨_, h2, h3, _, h5⟩ := Boxed.appended (W := w.drew) (tmp := .cells #[.int .i64 a, .int .u32 c] 157) HV.out (by decide) HO.out.drew hn hB hown4 hgrow3
    exact ⟨rfl, _, h2, h3, (Below.refl n₀ w).drew.trans h5⟩
end Go.Proofs.YtafenkepigmcaaaGreatDoor.Flt
/- fault: Links of a chain, the walk down. -/
namespace Go.Proofs.YtafenkepigmcaaaGreatDoor.Flt
open Go Go.RowKit Go.Stop
set_option maxRecDepth 100000 in
set_option maxHeartbeats 1000000 in
theorem own_links (v : Value) (L : List (Int × Int)) (r : Int) (w0 w : World) (B : Nat) (h : Chain w0 v L r) (hb : Below w0.heap.size w0 w) (hbox : Boxed w B 158 (.slice none 0 0)) (hB : w0.heap.size ≤ B) (hL : L.length ≤ 1000) :
    Calls Tryz.prog 148 #[v, .func (.func 117) #[] #[.pointer (some ⟨B, 0, none⟩)]] w fun e w' => e = .returned (.iface 35 (.int .i64 r)) ∧
      ∃ v', Boxed w' B 158 v' ∧ w'.ownsRow w0.heap.size 157 2 v' L.length (lflat L) ∧ Below w0.heap.size w0 w' := by
  have H := Lib.hid h
  clear h
  have a1 := is185
  have a2 := no185
  have a3 := no241
  go_enter Tryz.func148, Tryz.ntmps148
  go_wp2_with fail
  go_loopg [0] L.length (fun k u wr => ∃ K M : List (Int × Int), M.length = k ∧ L = K ++ M ∧ Hid (Chain w0 u M r) ∧ (∃ v', Boxed wr B 158 v' ∧ wr.ownsRow w0.heap.size 157 2 v' K.length (lflat K)) ∧ Below w0.heap.size w0 wr)
  case atStart => exact ⟨[], L, rfl, rfl, H, ⟨_, hbox, World.ownsRow_nil _ _ _ _⟩, hb⟩
  case round =>
    obtain ⟨K, M, hM, hKM, HC, ⟨v', hbx, hown⟩, hbl⟩ := hrel
    have HM := Lib.hid hM
    have HK := Lib.hid hKM
    have HX := Lib.hid hbx
    have HO := Lib.hid hown
    have HB := Lib.hid hbl
    clear hM H hKM hbx hown hbl
    have hc := HC.out
    clear HC
    cases M with
    | nil =>
      obtain rfl := hc
      go_wp2_with fail
      go_ret
      have e1 := HK.out
      rw [List.append_nil] at e1
      subst e1
      exact ⟨rfl, v', HX.out, HO.out, HB.out⟩
    | cons l M =>
      obtain ⟨p, u, rfl, hp, hc⟩ := hc
      have zp : p < w0.heap.size := (Array.getElem?_eq_some_iff.1 hp).1
      have hp1 := (HB.out.block p zp).trans hp
      obtain ⟨c0, c1, c2⟩ := cells3 hp1
      have HC := Lib.hid hc
      have HP := Lib.hid hp1
      clear hc hp hp1
      go_wp2_with fail
      refine (tell_link p l.1 l.2 u B w0.heap.size v' K _ HP.out HX.out HO.out HB.out.size hB (by have := HK.out; rw [this] at hL; simp at hL; omega)).mono ?_
      rintro e w1 ⟨rfl, v2, hbx, hown, hbl⟩
      have c2' := (hbl.cell (p := ⟨p, 2, none⟩) zp).trans c2
      have HX2 := Lib.hid hbx
      have HO2 := Lib.hid hown
      have HB2 := Lib.hid (HB.out.trans hbl)
      clear hbx hown hbl c0 c1 c2
      go_wp2_with fail
      go_roundg M.length
      case measure => have := HM.out; simp at this; omega
      case rel => exact ⟨K ++ [l], M, rfl, by rw [HK.out]; simp, HC, ⟨v2, HX2.out, HO2.out⟩, HB2.out⟩
set_option maxHeartbeats 400000 in
/-- Links: of a chain its links, the outermost first, in a row of the call's own. -/
theorem links_any (v : Value) (L : List (Int × Int)) (r : Int) (w : World) (h : Chain w v L r) (hL : L.length ≤ 1000) :
    Calls Tryz.prog 88 #[v] w fun e w' => ∃ v', e = .returned v' ∧ w'.ownsRow w.heap.size 157 2 v' L.length (lflat L) ∧ Below w.heap.size w w' := by
  have H := Lib.hid (descend_of _ _ r (w.alloc (.cells #[.slice none 0 0] 158)) _ (own_links v L r w (w.alloc (.cells #[.slice none 0 0] 158)) w.heap.size h ((Below.refl _ w).alloc (Nat.le_refl _) _) (Boxed.new w 158 _) (Nat.le_refl _) hL))
  clear h
  go_enter Tryz.func88, Tryz.ntmps88
  go_wp2_with fail
  refine H.out.mono ?_
  rintro e w1 ⟨rfl, w0, ⟨v', hbx, hown, hbl⟩, hb⟩
  have hbx2 := hbx.kept (row := none) ⟨hb.os, hb.tape, hb.output, hb.size, fun i hi _ => hb.block i hi⟩ (by simp)
  have HO := Lib.hid (hown.kept (row := none) ⟨hb.os, hb.tape, hb.output, hb.size, fun i hi _ => hb.block i hi⟩ (by cases v'.ownBlock <;> simp))
  have HB := Lib.hid (hbl.trans (hb.mono hbl.size))
  have hc := hbx2.cell
  clear hown hbl hb hbx hbx2
  go_wp2_with fail
  go_ret
  exact ⟨v', rfl, HO.out, HB.out⟩
end Go.Proofs.YtafenkepigmcaaaGreatDoor.Flt
