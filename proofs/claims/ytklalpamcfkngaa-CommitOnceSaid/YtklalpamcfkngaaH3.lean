/- commit: CommitOnce: what it needs beside the walk. -/
import Derived.Test.YtklalpamcfkngaaH2
import Derived.Deep.AppendLies
import Derived.Deep.RegionLaw
namespace Go.Proofs.Ytklalpamcfkngaa.Cm
open Go Go.RowKit
theorem step_append_own {P : Program} (w : World) {ops : Array Oper} {o : Oper} {a : Act} {K : Act → World → Prop} {Q : Exit → Act → World → Prop} {E : Prop} (hgd : o.guard = none) (s x : Operand) (t : TypeId)
    (ho : o.op = .call { callee := .builtin .append, args := #[s, x], argTypes := #[t, t] })
    (base : Nat) (e : TypeId) (i : TypeInfo) (z : Value) (size bytes : Nat) (ht : P.underlying t = some (.slice e)) (hi : P.info? e = some i) (hz : i.zero = some z)
    (hsize : i.size = size) (hby : i.bytes = bytes) (hzs : z.cells.size = size) (hsz : 0 < size)
    (v : Value) (n : Nat) (xs : List Value) (hs : a.eval s = v) (hown : w.ownsRow base e size v n xs)
    (ad : Addr) (m c : Nat) (news : List Value) (hx : a.eval x = .slice (some ad) m c) (hl : news.length = m * size) (hnews : ∀ j u, news[j]? = some u → w.cell? (ad.add j) = some u) (h1 : ∀ u ∈ news, u.oneCell' = true)
    (h63 : n + m ≤ maxLen) (hbytes : (n + m) * bytes ≤ 140737488355328) (hbase : base ≤ w.heap.size)
    (h : ∀ v' w', w'.ownsRow base e size v' (n + m) (xs ++ news) → w.grownBy w' v.ownBlock → K (a.put o.dst v') w') :
    if Region.wanted o (yielded ops a.tmps) = true then Oper.wp P o a w K Q else E := by
  have hw : Region.wanted o (yielded ops a.tmps) = true := by simp [Region.wanted, hgd]
  rw [if_pos hw]
  exact wp_append_own w s x t ho base e i z size bytes ht hi hz hsize hby hzs hsz v n xs hs hown ad m c news hx hl hnews h1 h63 hbytes hbase (fun v' w' a b _ => h v' w' a b)
theorem step_append_none {P : Program} (w : World) {ops : Array Oper} {o : Oper} {a : Act} {K : Act → World → Prop} {Q : Exit → Act → World → Prop} {E : Prop} (hgd : o.guard = none) (s x : Operand) (t : TypeId)
    (ho : o.op = .call { callee := .builtin .append, args := #[s, x], argTypes := #[t, t] })
    (base : Nat) (e : TypeId) (i : TypeInfo) (size : Nat) (ht : P.underlying t = some (.slice e)) (hi : P.info? e = some i)
    (v : Value) (n : Nat) (xs : List Value) (hs : a.eval s = v) (hown : w.ownsRow base e size v n xs) (hx : a.eval x = .slice none 0 0)
    (h : K (a.put o.dst v) w) :
    if Region.wanted o (yielded ops a.tmps) = true then Oper.wp P o a w K Q else E := by
  have hw : Region.wanted o (yielded ops a.tmps) = true := by simp [Region.wanted, hgd]
  rw [if_pos hw]
  have hrun := run_append_owned_none (P := P) (w := w) base t o.type e i size ht hi v n xs hown
  unfold Oper.wp
  simp [execOp, ho, resolve, invoke, builtin, hs, hx, hrun, Result.andThen]
  exact h
theorem info36 : (Try.prog.info? 36).map (fun i => (i.zero, i.size, i.bytes)) = some (some (.agg #[.int .u8 0, .int .u8 0, .int .u32 0, .int .u32 0, .slice none 0 0, .int .u8 0, .bool false, .int .i64 0]), 8, 56) := by kernel_rfl
theorem len8 (o : OpI) : o.cells.length = 8 := rfl
theorem one8 (Os : List OpI) : ∀ u ∈ Os.flatMap OpI.cells, u.oneCell' = true := by
  intro u hu
  obtain ⟨o, _, hu⟩ := List.mem_flatMap.1 hu
  simp [OpI.cells] at hu
  rcases hu with rfl | rfl | rfl | rfl | rfl | rfl | rfl | rfl <;> rfl
theorem fm_get8 {Os : List OpI} {j : Nat} {u : Value} (h : (Os.flatMap OpI.cells)[j]? = some u) : ∃ o, Os[j / 8]? = some o ∧ o.cells[j % 8]? = some u := by
  have hj := (List.getElem?_eq_some_iff.1 h).1
  rw [fm_len len8] at hj
  have hi : j / 8 < Os.length := by omega
  refine ⟨Os[j / 8], List.getElem?_eq_getElem hi, ?_⟩
  rw [← fm_at len8 (List.getElem?_eq_getElem hi) (show j % 8 < 8 by omega), show j / 8 * 8 + j % 8 = j by omega]
  exact h
theorem rdo_news {w : World} {ad : Addr} {Os : List OpI} (h : RdO w (some ad) Os) (a : Nat) : ∀ j u, ((Os.take a).flatMap OpI.cells)[j]? = some u → w.cell? (ad.add j) = some u := by
  intro j u hu
  obtain ⟨o, ho, hc⟩ := fm_get8 hu
  rw [List.getElem?_take] at ho
  split at ho
  case isFalse => cases ho
  obtain ⟨b, off, e, _, h3⟩ := h _ o ho
  obtain rfl := Option.some.inj e
  have := h3 _ u hc
  rw [Go.WideShapes.add_plain]
  rw [show off + j / 8 * 8 + j % 8 = off + j by omega] at this
  exact this
/-- A row of the call's own, as a script. -/
theorem own_rdo {w : World} {B n cap : Nat} {ao : Option Addr} {Os : List OpI} (h : w.ownsRow B 36 8 (.slice ao n cap) n (Os.flatMap OpI.cells)) : RdO w ao Os := by
  obtain ⟨ao2, cap2, e, _, h2⟩ := own_slice h
  cases e
  intro i o ho
  have hx : ∀ j v, o.cells[j]? = some v → (Os.flatMap OpI.cells)[i * 8 + j]? = some v := fun j v hv => by
    rw [fm_at len8 ho (by have := (List.getElem?_eq_some_iff.1 hv).1; rwa [len8] at this)]; exact hv
  obtain ⟨g, hg, hlt, _⟩ := h2 _ _ (hx 0 _ rfl)
  subst hg
  refine ⟨g, 0, rfl, hlt, fun j v hv => ?_⟩
  obtain ⟨g', e, _, hc⟩ := h2 _ _ (hx j v hv)
  cases e
  rw [Nat.zero_add]
  exact hc
/-- The script's block is none of the books' own. -/
theorem own_ext {w : World} {B n cap : Nat} {ao : Option Addr} {Os : List OpI} (h : w.ownsRow B 36 8 (.slice ao n cap) n (Os.flatMap OpI.cells)) {w0 : World} {m p q : Nat} {RM : TK → Option RunM} {T : TK → Option Int} {Y : Nat → Prop}
    (hp : Pair X0 w0 m p q RM T Y w) (hY : ∀ g, B ≤ g → g < w.heap.size → Y g) : ∃ X, Ext X ∧ (∀ G w', X G w' → RdO w' ao Os) ∧ Pair X w0 m p q RM T (fun _ => False) w := by
  rcases h.2 with ⟨e, h0⟩ | ⟨g, cap', cur, e, hb, hg, hn, hm, hs, ht⟩
  · cases e
    have : Os = [] := by have := h.1; rw [fm_len len8, h0] at this; exact List.eq_nil_of_length_eq_zero (by omega)
    subst this
    exact ⟨X0, ext_x0, fun _ _ _ i o ho => by simp at ho, (two_abs ext_x0).less hp (fun _ e => e.elim)⟩
  · cases e
    refine ⟨XA g (.cells cur 36 (0, 0)) X0, ext_xa ext_x0, fun G w' hx => ?_, pair_in hp hg (hY g hb (Array.getElem?_eq_some_iff.1 hg).1)⟩
    obtain ⟨H, h1, h2, h3, h4⟩ := hx
    exact own_rdo (B := B) (n := n) (cap := cap) ⟨h.1, .inr ⟨g, cap, cur, rfl, hb, h3, hn, hm, hs, ht⟩⟩
theorem pair_x {X : (Nat → Prop) → World → Prop} {w0 w : World} {n p q : Nat} {RM : TK → Option RunM} {T : TK → Option Int} {Y : Nat → Prop} (h : Pair X w0 n p q RM T Y w) : ∃ G, X G w := by
  obtain ⟨F1, F2, G, S, TT, h1, h2, h3, h4, _⟩ := h
  exact ⟨G, h4⟩
/-- Decided is decided. -/
theorem run_stays (o : OpI) (RM : TK → Option RunM) (h : stR (RM o.t) = 3 ∨ stR (RM o.t) = 4) : stR (o.R RM o.t) = stR (RM o.t) := by
  unfold OpI.R stepR beginS beginE voteS voteM commitS applS updR
  cases hq : RM o.t with
  | none => rw [hq] at h; simp [stR] at h
  | some m =>
    rw [hq] at h
    simp only [stR] at h
    simp only
    (repeat' split) <;> simp_all [stR] <;> omega
theorem run_commits (o : OpI) (RM : TK → Option RunM) (h : stR (o.R RM o.t) = 3) (h2 : stR (RM o.t) ≠ 3) : o.kd = 2 := by
  unfold OpI.R stepR beginS beginE voteS voteM commitS applS updR at h
  cases hq : RM o.t with
  | none =>
    rw [hq] at h
    simp only at h
    (repeat' split at h) <;> simp_all [stR, newRun]
  | some m =>
    rw [hq] at h h2
    simp only [stR] at h2
    simp only at h
    (repeat' split at h) <;> simp_all [stR]
theorem take_stays (o : OpI) (T : TK → Option Int) (h : stT (T o.t) = 3 ∨ stT (T o.t) = 4) : stT (o.T T o.t) = stT (T o.t) := by
  unfold OpI.T stepT takeS settleT settleE updT
  cases hq : T o.t with
  | none => rw [hq] at h; simp [stT] at h
  | some m =>
    rw [hq] at h
    simp only [stT] at h
    (repeat' split) <;> simp_all [stT] <;> omega
end Go.Proofs.Ytklalpamcfkngaa.Cm
