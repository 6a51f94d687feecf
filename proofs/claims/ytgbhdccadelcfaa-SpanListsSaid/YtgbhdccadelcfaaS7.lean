/- span: a set in memory; put, Add, walked. -/
import Derived.Test.YtgbhdccadelcfaaS6
import Derived.Test.YtgbhdccadelcfaaM1
import Derived.Outline
namespace Go.Proofs.Ytgbhdccadelcfaa.Sp
open Go Go.RowKit
theorem free1 {w : World} {b i : Nat} {cs : Array Value} {t : TypeId} (h : w.heap[b]? = some (.cells cs t (0, 0))) : w.frozen? ⟨b, i, none⟩ = false := by
  simp [World.frozen?, h]
theorem set_block {w : World} {b i : Nat} {cs : Array Value} {t : TypeId} {v : Value} (h : w.heap[b]? = some (.cells cs t (0, 0))) : (w.setCell ⟨b, i, none⟩ v).heap[b]? = some (.cells (cs.setIfInBounds i v) t (0, 0)) := by
  rw [setCell_eq_setRow w b i cs t (0, 0) v h, setRow_heap w b cs _ t (0, 0) h]
theorem grown_set (w : World) (b i : Nat) (v : Value) : w.grownBy (w.setCell ⟨b, i, none⟩ v) (some b) :=
  ⟨rfl, rfl, rfl, by simp, fun k _ hk => by
    show (w.heap.modify b _)[k]? = _
    rw [Array.getElem?_modify, if_neg (fun e => hk (by rw [e]))]⟩
/-- Of what was there the blocks of G alone have turned. -/
structure Turned (G : Nat → Prop) (w w' : World) : Prop where
  os : w'.os = w.os
  tape : w'.tape = w.tape
  output : w'.output = w.output
  size : w.heap.size ≤ w'.heap.size
  block : ∀ k, k < w.heap.size → ¬ G k → w'.heap[k]? = w.heap[k]?
theorem Turned.refl (G : Nat → Prop) (w : World) : Turned G w w := ⟨rfl, rfl, rfl, Nat.le_refl _, fun _ _ _ => rfl⟩
theorem Turned.of_grown {w w' : World} {r : Option Nat} (h : w.grownBy w' r) {G : Nat → Prop} (hr : ∀ k, r = some k → G k) : Turned G w w' :=
  ⟨h.os, h.tape, h.output, h.size, fun k hk hG => h.block k hk (fun e => hG (hr k e.symm))⟩
theorem Turned.trans {G H : Nat → Prop} {a b c : World} (h : Turned G a b) (k : Turned H b c) (hH : ∀ i, H i → G i ∨ a.heap.size ≤ i) : Turned G a c :=
  ⟨k.os.trans h.os, k.tape.trans h.tape, k.output.trans h.output, Nat.le_trans h.size k.size, fun i hi hG => (k.block i (Nat.lt_of_lt_of_le hi h.size) (fun e => (hH i e).elim hG (fun h' => by omega))).trans (h.block i hi hG)⟩
theorem Turned.mono {G H : Nat → Prop} {a b : World} (h : Turned G a b) (hH : ∀ i, G i → H i) : Turned H a b := ⟨h.os, h.tape, h.output, h.size, fun i hi hG => h.block i hi (fun e => hG (hH i e))⟩
theorem Turned.below {G : Nat → Prop} {w w' : World} (h : Turned G w w') {B : Nat} (hB : B ≤ w.heap.size) (hG : ∀ k, G k → B ≤ k) : Below B w w' :=
  ⟨h.os, h.tape, h.output, h.size, fun k hk => h.block k (by omega) (fun e => by have := hG k e; omega)⟩
theorem below_turned {w w' : World} {G : Nat → Prop} {B : Nat} (h : Below B w w') (hG : ∀ k, k < w.heap.size → B ≤ k → G k) : Turned G w w' :=
  ⟨h.os, h.tape, h.output, h.size, fun k hk hn => h.block k (Nat.lt_of_not_le fun e => hn (hG k hk e))⟩
theorem below_any {w w' : World} {G : Nat → Prop} (h : Below w.heap.size w w') : Turned G w w' := below_turned h (fun k h1 h2 => by omega)
/-- A set in block p: its own blocks are among F, and from B on. -/
structure SpanAt (w : World) (B : Nat) (F : Nat → Prop) (p : Nat) (v : Value) (L : SL) : Prop where
  at_ : SetAt w B p v L
  can : Canon L
  base : B ≤ w.heap.size
  fp : F p
  fv : ∀ g, v.ownBlock = some g → F g
  hi : ∀ k, F k → k < w.heap.size
  low : ∀ k, F k → B ≤ k
theorem set_apart {w : World} {B p : Nat} {v : Value} {L : SL} (h : SetAt w B p v L) : v.ownBlock ≠ some p := by
  intro e
  rcases h.2.2 with ⟨rfl, _⟩ | ⟨g, cap, cur, rfl, _, hg, _⟩
  · simp [Value.ownBlock] at e
  · have : g = p := by simpa [Value.ownBlock] using e
    subst this
    have h1 := h.1
    rw [hg] at h1
    simp at h1
theorem SpanAt.on {w w' : World} {B p : Nat} {F G : Nat → Prop} {v : Value} {L : SL} (h : SpanAt w B F p v L) (ht : Turned G w w') (hF : ∀ k, F k → ¬ G k) : SpanAt w' B F p v L :=
  ⟨⟨(ht.block p (h.hi p h.fp) (hF p h.fp)).trans h.at_.1, own_on h.at_.2 (fun g e => ht.block g (h.hi g (h.fv g e)) (hF g (h.fv g e)))⟩, h.can, Nat.le_trans h.base ht.size, h.fp, h.fv, fun k hk => Nat.lt_of_lt_of_le (h.hi k hk) ht.size, h.low⟩
theorem SpanAt.below {w w' : World} {B p : Nat} {F : Nat → Prop} {v : Value} {L : SL} (h : SpanAt w B F p v L) (hb : Below w.heap.size w w') : SpanAt w' B F p v L := h.on (G := fun _ => False) (below_any hb) (fun _ _ => id)
/-- What has become of a set behind an operation. -/
def Did (w : World) (B : Nat) (F : Nat → Prop) (p : Nat) (M : SL) (w' : World) : Prop :=
  ∃ (v : Value) (F' : Nat → Prop), SpanAt w' B F' p v M ∧ (∀ k, F' k → F k ∨ w.heap.size ≤ k) ∧ Turned F w w'
theorem put_any (B p : Nat) (F : Nat → Prop) (v : Value) (L : SL) (i k : Nat) (so : Option Addr) (m sc : Nat) (ys : SL) (w : World) (h : SpanAt w B F p v L) (hik : i ≤ k) (hk : k ≤ L.length) (hL : L.length ≤ 100000) (hm : m ≤ 2) (hs : SrcY w v so m ys) (hM : Canon (L.take i ++ ys ++ L.drop k)) :
    Calls Try.prog 30 #[.pointer (some ⟨p, 0, none⟩), .int .i64 i, .int .i64 k, .slice so m sc] w fun e w' => e = .returned (.tuple #[]) ∧ Did w B F p (L.take i ++ ys ++ L.drop k) w' := by
  have HR := Lib.hid (replace_any B v L i k so m sc ys w h.at_.2 hik hk h.base hL hm hs)
  have c0 := cell1 h.at_.1
  have H := Lib.hid h
  have HM := Lib.hid hM
  generalize L.take i ++ ys ++ L.drop k = M at HR HM ⊢
  clear h hs hM
  go_enter Try.func30, Try.ntmps30
  go_wp2_with fail
  refine HR.out.mono ?_
  rintro e w1 ⟨v', rfl, hown, hg, hv'⟩
  obtain ⟨ao', cap', ev, _⟩ := own_slice hown
  subst ev
  obtain ⟨vv, evv⟩ : ∃ vv, vv = Value.slice ao' M.length cap' := ⟨_, rfl⟩
  have EV := Lib.hid evv
  rw [← evv] at hown hv'
  clear evv
  have hb1 : w1.heap[p]? = some (.cells #[v] 66 (0, 0)) := (hg.block p (H.out.hi p H.out.fp) (fun e => set_apart H.out.at_ e.symm)).trans H.out.at_.1
  have f0 := free1 (i := 0) hb1
  have c1 := cell1 hb1
  have H1 := Lib.hid (And.intro hown (And.intro hg (And.intro hv' hb1)))
  clear hown hg hv' hb1
  go_wp2_with fail
  refine bodyPost_end (v := .tuple #[]) (results_none rfl _ _ _) rfl ?_
  obtain ⟨hown, hg, hv', hb1⟩ := H1.out
  rw [← EV.out]
  clear EV
  refine ⟨rfl, vv, (fun j => F j ∨ vv.ownBlock = some j), ?_, ?_, ?_⟩
  · have hgs := grown_set w1 p 0 vv
    have hne : vv.ownBlock ≠ some p := fun e => by
      rcases hv' p e with h | h
      · exact set_apart H.out.at_ h
      · have := H.out.hi p H.out.fp; omega
    refine ⟨⟨by rw [set_block hb1]; rfl, own_on hown (fun g e => hgs.block g (World.ownsRow.lt hown g e).2 (fun e2 => hne (by rw [e]; exact e2)))⟩, HM.out, Nat.le_trans H.out.base (Nat.le_trans hg.size hgs.size), .inl H.out.fp, fun g e => .inr e, fun j hj => ?_, fun j hj => ?_⟩
    · rcases hj with hj | hj
      · exact Nat.lt_of_lt_of_le (H.out.hi j hj) (Nat.le_trans hg.size hgs.size)
      · exact Nat.lt_of_lt_of_le (World.ownsRow.lt hown j hj).2 hgs.size
    · rcases hj with hj | hj
      · exact H.out.low j hj
      · exact (World.ownsRow.lt hown j hj).1
  · intro j hj
    rcases hj with hj | hj
    · exact .inl hj
    · exact (hv' j hj).imp (fun e => H.out.fv j e) id
  · exact (Turned.of_grown hg (fun k e => H.out.fv k e)).trans (Turned.of_grown (grown_set w1 p 0 vv) (fun k e => by injection e with e; subst e; exact H.out.fp)) (fun j hj => .inl hj)
end Go.Proofs.Ytgbhdccadelcfaa.Sp
