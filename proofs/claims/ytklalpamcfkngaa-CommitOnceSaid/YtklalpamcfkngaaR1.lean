/- commit: the document's book by what it holds; rows of structs; names held against each other. -/
import Derived.Test.YtklalpamcfkngaaB3
namespace Go.Proofs.Ytklalpamcfkngaa.Cm
open Go Go.RowKit
section
variable {α : Type} {f : α → List Value} {k : Nat}
theorem fm_len (hf : ∀ x, (f x).length = k) : ∀ L : List α, (L.flatMap f).length = L.length * k
  | [] => by simp
  | x :: L => by rw [List.flatMap_cons, List.length_append, hf, fm_len hf L, List.length_cons, Nat.add_mul]; omega
theorem fm_at (hf : ∀ x, (f x).length = k) : ∀ {L : List α} {i : Nat} {x : α} (_ : L[i]? = some x) {j : Nat} (_ : j < k), (L.flatMap f)[i * k + j]? = (f x)[j]?
  | [], i, x, h, j, _ => by simp at h
  | y :: L, 0, x, h, j, hj => by
    simp at h; subst h
    rw [List.flatMap_cons, List.getElem?_append_left (by rw [hf]; omega)]
    congr 1; omega
  | y :: L, i + 1, x, h, j, hj => by
    have hk : (i + 1) * k = i * k + k := Nat.succ_mul i k
    rw [List.flatMap_cons, List.getElem?_append_right (by rw [hf]; omega), hf, show (i + 1) * k + j - k = i * k + j by omega]
    exact fm_at hf (by simpa using h) hj
theorem fm_set (hf : ∀ x, (f x).length = k) : ∀ {L : List α} {i : Nat} {x y : α} (_ : L[i]? = some x) {j : Nat} (_ : j < k) {v : Value} (_ : (f x).set j v = f y), (L.flatMap f).set (i * k + j) v = (L.set i y).flatMap f
  | [], i, x, y, h, j, _, v, _ => by simp at h
  | z :: L, 0, x, y, h, j, hj, v, hv => by
    simp at h; subst h
    rw [List.flatMap_cons, List.set_append_left _ _ (by rw [hf]; omega), List.set_cons_zero, List.flatMap_cons, ← hv, show 0 * k + j = j by omega]
  | z :: L, i + 1, x, y, h, j, hj, v, hv => by
    have hk : (i + 1) * k = i * k + k := Nat.succ_mul i k
    rw [List.flatMap_cons, List.set_append_right _ _ (by rw [hf]; omega), hf, show (i + 1) * k + j - k = i * k + j by omega, List.set_cons_succ, List.flatMap_cons, fm_set hf (by simpa using h) hj hv]
end
def nodesL (m : RunM) : List Nat := (List.range 4).filter m.n
def nl (m : RunM) : Nat := (nodesL m).length
def nodesI (m : RunM) : List Int := (nodesL m).map fun i : Nat => (i : Int)
def boolsL (m : RunM) (f : Nat → Bool) : List Value := (nodesL m).map fun i => .bool (f i)
theorem nodes_lt {m : RunM} {i : Nat} (h : i ∈ nodesL m) : i < 4 ∧ m.n i = true := by
  simp only [nodesL, List.mem_filter, List.mem_range] at h
  exact h
theorem nl_le (m : RunM) : nl m ≤ 4 := by
  unfold nl nodesL
  exact Nat.le_trans (List.length_filter_le _ _) (by simp)
/-- A run as the document's book holds it. -/
structure RC where
  t : TK
  gn : Nat
  cn : Nat
  gy : Nat
  gd : Nat
  m : RunM
def cells7 (c : RC) : List Value := [.int .u8 c.t.1, .int .u32 c.t.2.1, .int .u32 c.t.2.2, .slice (some ⟨c.gn, 0, none⟩) (nl c.m) c.cn, .slice (some ⟨c.gy, 0, none⟩) (nl c.m) (nl c.m), .slice (some ⟨c.gd, 0, none⟩) (nl c.m) (nl c.m), .int .i64 c.m.s]
theorem len7 (c : RC) : (cells7 c).length = 7 := rfl
def cellsE (e : TK × Int) : List Value := [.int .u8 e.1.1, .int .u32 e.1.2.1, .int .u32 e.1.2.2, .int .i64 e.2]
theorem len4 (e : TK × Int) : (cellsE e).length = 4 := rfl
abbrev RL := List (TK × RunM)
abbrev TL := List (TK × Int)
structure RefAt (w : World) (B : Nat) (F : Nat → Prop) (q : Nat) (rv tv : Value) (CL : List RC) (TT : TL) : Prop where
  cell : w.heap[q]? = some (.cells #[rv, tv] 30 (0, 0))
  rrow : w.ownsRow B 85 7 rv CL.length (CL.flatMap cells7)
  trow : w.ownsRow B 90 4 tv TT.length (TT.flatMap cellsE)
  nodes : ∀ c ∈ CL, w.ownsRow B 5 1 (.slice (some ⟨c.gn, 0, none⟩) (nl c.m) c.cn) (nl c.m) (u8s (nodesI c.m)) ∧ F c.gn
  yes : ∀ c ∈ CL, w.heap[c.gy]? = some (.cells (boolsL c.m c.m.v).toArray 4 (0, 0)) ∧ F c.gy
  did : ∀ c ∈ CL, w.heap[c.gd]? = some (.cells (boolsL c.m c.m.a).toArray 4 (0, 0)) ∧ F c.gd
  dist : (CL.flatMap fun c => [c.gy, c.gd]).Nodup
  pos : ∀ c ∈ CL, 0 < nl c.m
  keys : (CL.map (·.t)).Nodup
  tkeys : (TT.map (·.1)).Nodup
  wf : (∀ c ∈ CL, InK c.t) ∧ ∀ e ∈ TT, InK e.1
  base : B ≤ w.heap.size
  fq : F q
  fr : ∀ g, rv.ownBlock = some g → F g
  ft : ∀ g, tv.ownBlock = some g → F g
  hi : ∀ k, F k → k < w.heap.size
  low : ∀ k, F k → B ≤ k
theorem RefAt.on {w w' : World} {B q : Nat} {F G : Nat → Prop} {rv tv : Value} {CL : List RC} {TT : TL} (h : RefAt w B F q rv tv CL TT) (ht : Turned G w w') (hF : ∀ k, F k → ¬ G k) : RefAt w' B F q rv tv CL TT := by
  have ks : ∀ k, F k → w'.heap[k]? = w.heap[k]? := fun k hk => ht.block k (h.hi k hk) (hF k hk)
  exact ⟨(ks q h.fq).trans h.cell, own_on h.rrow (fun g hg => ks g (h.fr g hg)), own_on h.trow (fun g hg => ks g (h.ft g hg)), fun c hc => ⟨own_on (h.nodes c hc).1 (fun g hg => by simp [Value.ownBlock] at hg; subst hg; exact ks _ (h.nodes c hc).2), (h.nodes c hc).2⟩, fun c hc => ⟨(ks _ (h.yes c hc).2).trans (h.yes c hc).1, (h.yes c hc).2⟩, fun c hc => ⟨(ks _ (h.did c hc).2).trans (h.did c hc).1, (h.did c hc).2⟩, h.dist, h.pos, h.keys, h.tkeys, h.wf, Nat.le_trans h.base ht.size, h.fq, h.fr, h.ft, fun k hk => Nat.lt_of_lt_of_le (h.hi k hk) ht.size, h.low⟩
theorem RefAt.below {w w' : World} {B q : Nat} {F : Nat → Prop} {rv tv : Value} {CL : List RC} {TT : TL} (h : RefAt w B F q rv tv CL TT) (hb : Below w.heap.size w w') : RefAt w' B F q rv tv CL TT := h.on (G := fun _ => False) (below_any hb) (fun _ _ => id)
theorem RefAt.cells {w : World} {B q : Nat} {F : Nat → Prop} {rv tv : Value} {CL : List RC} {TT : TL} (h : RefAt w B F q rv tv CL TT) : w.cell? ⟨q, 0, none⟩ = some rv ∧ w.cell? ⟨q, 1, none⟩ = some tv := by
  have := h.cell
  simp [World.cell?, this]
/-- Seven cells of the row of runs. -/
def At7 (w : World) (g o : Nat) (c : RC) : Prop := (w.cell? ⟨g, o, none⟩ = some (.int .u8 c.t.1) ∧ w.cell? ⟨g, o + 1, none⟩ = some (.int .u32 c.t.2.1) ∧ w.cell? ⟨g, o + 2, none⟩ = some (.int .u32 c.t.2.2)) ∧ w.cell? ⟨g, o + 3, none⟩ = some (.slice (some ⟨c.gn, 0, none⟩) (nl c.m) c.cn) ∧ w.cell? ⟨g, o + 4, none⟩ = some (.slice (some ⟨c.gy, 0, none⟩) (nl c.m) (nl c.m)) ∧ w.cell? ⟨g, o + 5, none⟩ = some (.slice (some ⟨c.gd, 0, none⟩) (nl c.m) (nl c.m)) ∧ w.cell? ⟨g, o + 6, none⟩ = some (.int .i64 c.m.s)
theorem RefAt.at {w : World} {B q : Nat} {F : Nat → Prop} {rv tv : Value} {CL : List RC} {TT : TL} (h : RefAt w B F q rv tv CL TT) {i : Nat} {c : RC} (hc : CL[i]? = some c) : ∃ g cap, rv = .slice (some ⟨g, 0, none⟩) CL.length cap ∧ At7 w g (i * 7) c := by
  obtain ⟨ao, cap, e, _, h2⟩ := own_slice h.rrow
  have hx : ∀ j v, (cells7 c)[j]? = some v → (CL.flatMap cells7)[i * 7 + j]? = some v := fun j v hv => by
    rw [fm_at len7 hc (by have := (List.getElem?_eq_some_iff.1 hv).1; rwa [len7] at this)]; exact hv
  obtain ⟨g, hg, _, h0⟩ := h2 (i * 7 + 0) _ (hx 0 _ rfl)
  subst hg
  have hh : ∀ j v, (cells7 c)[j]? = some v → w.cell? ⟨g, i * 7 + j, none⟩ = some v := fun j v hv => by
    obtain ⟨g', hg', _, h1⟩ := h2 (i * 7 + j) v (hx j v hv)
    cases hg'; exact h1
  exact ⟨g, cap, e, ⟨h0, hh 1 _ rfl, hh 2 _ rfl⟩, hh 3 _ rfl, hh 4 _ rfl, hh 5 _ rfl, hh 6 _ rfl⟩
def At4 (w : World) (g o : Nat) (e : TK × Int) : Prop := (w.cell? ⟨g, o, none⟩ = some (.int .u8 e.1.1) ∧ w.cell? ⟨g, o + 1, none⟩ = some (.int .u32 e.1.2.1) ∧ w.cell? ⟨g, o + 2, none⟩ = some (.int .u32 e.1.2.2)) ∧ w.cell? ⟨g, o + 3, none⟩ = some (.int .i64 e.2)
theorem RefAt.tat {w : World} {B q : Nat} {F : Nat → Prop} {rv tv : Value} {CL : List RC} {TT : TL} (h : RefAt w B F q rv tv CL TT) {i : Nat} {e : TK × Int} (hc : TT[i]? = some e) : ∃ g cap, tv = .slice (some ⟨g, 0, none⟩) TT.length cap ∧ At4 w g (i * 4) e := by
  obtain ⟨ao, cap, e1, _, h2⟩ := own_slice h.trow
  have hx : ∀ j v, (cellsE e)[j]? = some v → (TT.flatMap cellsE)[i * 4 + j]? = some v := fun j v hv => by
    rw [fm_at len4 hc (by have := (List.getElem?_eq_some_iff.1 hv).1; rwa [len4] at this)]; exact hv
  obtain ⟨g, hg, _, h0⟩ := h2 (i * 4 + 0) _ (hx 0 _ rfl)
  subst hg
  have hh : ∀ j v, (cellsE e)[j]? = some v → w.cell? ⟨g, i * 4 + j, none⟩ = some v := fun j v hv => by
    obtain ⟨g', hg', _, h1⟩ := h2 (i * 4 + j) v (hx j v hv)
    cases hg'; exact h1
  exact ⟨g, cap, e1, ⟨h0, hh 1 _ rfl, hh 2 _ rfl⟩, hh 3 _ rfl⟩
/-- Two names held against each other. -/
def eqK (x y : TK) : Bool := x.1 == y.1 && (x.2.1 == y.2.1 && x.2.2 == y.2.2)
theorem eqK_iff (x y : TK) : eqK x y = true ↔ x = y := by
  obtain ⟨a, b, c⟩ := x
  obtain ⟨a', b', c'⟩ := y
  simp [eqK]
theorem stood33 : Try.prog.stoodInHeld 33 = false := by kernel_rfl
theorem guard33 : Try.prog.eqGuardType Try.prog.depth 33 = false := by kernel_rfl
theorem eqIn33 (a b c a' b' c' : Int) (w : World) : (Op.equalIn 10000 33 (.agg #[.int .u8 a, .int .u32 b, .int .u32 c]) (.agg #[.int .u8 a', .int .u32 b', .int .u32 c'])).run Try.prog w = .ok (a == a' && (b == b' && c == c')) w := by
  rw [show (10000 : Nat) = 9999 + 1 from rfl, run_equalIn_agg w 9999 33 _ _ und33 stood33]
  obtain ⟨f, g, k, hL, h1, h2, h3⟩ : ∃ f g k, (Try.prog.fieldsOf 33).toList = [f, g, k] ∧ (f.name == "_", f.type, f.offset) = (false, 5, 0) ∧ (g.name == "_", g.type, g.offset) = (false, 31, 1) ∧ (k.name == "_", k.type, k.offset) = (false, 31, 2) := by
    have h := fields33
    generalize (Try.prog.fieldsOf 33).toList = l at h
    have hl : l.length = 3 := by simpa using congrArg List.length h
    obtain ⟨f, l, rfl⟩ := List.exists_cons_of_length_pos (by omega : 0 < l.length)
    obtain ⟨g, l, rfl⟩ := List.exists_cons_of_length_pos (by simp at hl; omega : 0 < l.length)
    obtain ⟨k, l, rfl⟩ := List.exists_cons_of_length_pos (by simp at hl; omega : 0 < l.length)
    obtain rfl : l = [] := List.eq_nil_of_length_eq_zero (by simp at hl; exact List.length_eq_zero_iff.2 hl)
    simp only [List.map_cons, List.map_nil, List.cons.injEq, and_true] at h
    exact ⟨f, g, k, rfl, h.1, h.2.1, h.2.2⟩
  simp only [Prod.mk.injEq] at h1 h2 h3
  rw [hL]
  have n1 : f.name ≠ "_" := by simpa using h1.1
  have n2 : g.name ≠ "_" := by simpa using h2.1
  have n3 : k.name ≠ "_" := by simpa using h3.1
  have p0 (x y z : Value) : (part 5 #[x, y, z] 0).run Try.prog w = .ok x w := run_part_plain w (by kernel_rfl) rfl
  have p1 (x y z : Value) : (part 31 #[x, y, z] 1).run Try.prog w = .ok y w := run_part_plain w (by kernel_rfl) rfl
  have p2 (x y z : Value) : (part 31 #[x, y, z] 2).run Try.prog w = .ok z w := run_part_plain w (by kernel_rfl) rfl
  have e5 (x y : Int) : (Op.equalIn 9999 5 (.int .u8 x) (.int .u8 y)).run Try.prog w = .ok (x == y) w := by
    rw [show (9999 : Nat) = 9998 + 1 from rfl, run_equalIn_int w 9998 5 .u8 .u8 _ _ Try.underlying5]
  have e31 (x y : Int) : (Op.equalIn 9999 31 (.int .u32 x) (.int .u32 y)).run Try.prog w = .ok (x == y) w := by
    rw [show (9999 : Nat) = 9998 + 1 from rfl, run_equalIn_int w 9998 31 .u32 .u32 _ _ Try.underlying31]
  simp only [Op.eqFields, n1, ne_eq, not_false_eq_true, if_true, h1.2.1, h1.2.2, h2.2.1, h2.2.2, h3.2.1, h3.2.2, Sem.run_bind, p0, e5, Result.andThen_ok]
  cases h0 : (a == a')
  · simp
  · cases h4 : (b == b')
    · simp [n2, p1, e31, h4]
    · cases h5 : (c == c') <;> simp [n2, n3, p1, p2, e31, h4, h5]
theorem eql33 (a b c a' b' c' : Int) (w : World) : (binOp .eql 33 (.agg #[.int .u8 a, .int .u32 b, .int .u32 c]) (.agg #[.int .u8 a', .int .u32 b', .int .u32 c'])).run Try.prog w = .ok (.bool (a == a' && (b == b' && c == c'))) w := by
  rw [run_eql_struct, eqIn33]; rfl
theorem neq33 (a b c a' b' c' : Int) (w : World) : (binOp .neq 33 (.agg #[.int .u8 a, .int .u32 b, .int .u32 c]) (.agg #[.int .u8 a', .int .u32 b', .int .u32 c'])).run Try.prog w = .ok (.bool (!(a == a' && (b == b' && c == c')))) w := by
  rw [run_neq_struct, eqIn33]; rfl
end Go.Proofs.Ytklalpamcfkngaa.Cm
