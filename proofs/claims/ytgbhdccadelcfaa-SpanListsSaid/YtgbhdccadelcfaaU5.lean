/- Of: a set out of a list of spans, walked. -/
import Derived.Test.YtgbhdccadelcfaaU4
import Derived.Test.YtgbhdccadelcfaaR6
namespace Go.Proofs.Ytgbhdccadelcfaa.Sp
open Go Go.RowKit
theorem setis_base {n0 n1 p : Nat} {w0 w1 w : World} {L : SL} (h : SetIs n1 w1 w p L) (hn : n0 ≤ n1) (hb : Below n0 w0 w1) : SetIs n0 w0 w p L := by
  obtain ⟨v, F, h1, h2⟩ := h
  exact ⟨v, F, ⟨⟨h1.at_.1, own_base2 h1.at_.2 hn⟩, h1.can, Nat.le_trans hn h1.base, h1.fp, h1.fv, h1.hi, fun k hk => Nat.le_trans hn (h1.low k hk)⟩, hb.trans (h2.mono hn)⟩
/-- A set of just the numbers of a list of spans. -/
def OfI (n0 : Nat) (w0 : World) (p : Nat) (X : SL) (w : World) : Prop := ∃ M, SetIs n0 w0 w p M ∧ (∀ n, mem M n ↔ mem X n) ∧ M.length ≤ X.length
theorem mem_snoc (X : SL) (t : Int × Int) (n : Int) : mem (X ++ [t]) n ↔ mem X n ∨ (t.1 ≤ n ∧ n ≤ t.2) := by
  unfold mem
  simp only [List.mem_append, List.mem_singleton]
  constructor
  · rintro ⟨s, h | rfl, h2⟩
    · exact .inl ⟨s, h, h2⟩
    · exact .inr h2
  · rintro (⟨s, h, h2⟩ | h)
    · exact ⟨s, .inl h, h2⟩
    · exact ⟨t, .inr rfl, h⟩
theorem OfI.below {n0 p : Nat} {w0 w w' : World} {X : SL} (h : OfI n0 w0 p X w) (hb : Below w.heap.size w w') : OfI n0 w0 p X w' := by
  obtain ⟨M, h1, h2⟩ := h
  exact ⟨M, h1.below hb, h2⟩
theorem OfI.ahead {n0 p : Nat} {w0 w : World} {X : SL} (h : OfI n0 w0 p X w) : Below n0 w0 w := by
  obtain ⟨M, h1, h2⟩ := h
  exact h1.ahead
theorem ofi_add {n0 p : Nat} {w0 w : World} {X : SL} (h : OfI n0 w0 p X w) (t : Int × Int) (h0 : 0 ≤ t.1) (hab : t.1 ≤ t.2) (hb : t.2 ≤ 4294967295) (hX : X.length ≤ 1000) :
    Calls Try.prog 10 #[.pointer (some ⟨p, 0, none⟩), .int .u32 t.1, .int .u32 t.2] w fun e w' => e = .returned (.int .i64 0) ∧ OfI n0 w0 p (X ++ [t]) w' := by
  obtain ⟨M, ⟨v, F, h1, h2⟩, g1, g2⟩ := h
  refine (add_ok n0 p F v M t.1 t.2 w h1 h0 hab hb (by omega)).mono ?_
  rintro e w' ⟨rfl, T, m1, m2, hd⟩
  exact ⟨rfl, T, did_is h1 hd h2, fun n => by rw [m1 n, g1 n, mem_snoc], by rw [List.length_append]; simp only [List.length_singleton]; omega⟩
theorem mem_perm {L M : SL} (h : L.Perm M) (n : Int) : mem L n ↔ mem M n := by
  unfold mem
  constructor
  · rintro ⟨t, ht, h2⟩; exact ⟨t, h.mem_iff.1 ht, h2⟩
  · rintro ⟨t, ht, h2⟩; exact ⟨t, h.mem_iff.2 ht, h2⟩
def OfR (w : World) (L : SL) (e : Ending) (w' : World) : Prop :=
  ((∀ t ∈ L, t.1 ≤ t.2) ∧ ∃ p, e = .returned (.tuple #[.pointer (some ⟨p, 0, none⟩), .int .i64 0]) ∧ OfI w.heap.size w p L w') ∨ ((∃ t ∈ L, t.2 < t.1) ∧ e = .returned (.tuple #[.pointer none, .int .i64 1]) ∧ Below w.heap.size w w')
def OfS (_w w2 : World) (p : Nat) (L : SL) (bo : Option Addr) (k : Nat) (wr : World) : Prop := OfI w2.heap.size w2 p (L.take k) wr ∧ (∀ t ∈ L.take k, t.1 ≤ t.2) ∧ Rd2 wr bo L
theorem OfS.below {w w2 wr w' : World} {p k : Nat} {L : SL} {bo : Option Addr} (h : OfS w w2 p L bo k wr) (hb : Below wr.heap.size wr w') : OfS w w2 p L bo k w' := ⟨h.1.below hb, h.2.1, h.2.2.on hb (Nat.le_refl _)⟩
theorem ofs_add {w w2 wr : World} {p k : Nat} {L : SL} {bo : Option Addr} (h : OfS w w2 p L bo k wr) (t : Int × Int) (ht : L[k]? = some t) (h0 : 0 ≤ t.1) (hab : t.1 ≤ t.2) (hb : t.2 ≤ 4294967295) (hL : L.length ≤ 1000) (hr : Rd2 w2 bo L) :
    Calls Try.prog 10 #[.pointer (some ⟨p, 0, none⟩), .int .u32 t.1, .int .u32 t.2] wr fun e w' => e = .returned (.int .i64 0) ∧ OfS w w2 p L bo (k + 1) w' := by
  refine (ofi_add h.1 t h0 hab hb (by rw [List.length_take]; omega)).mono ?_
  rintro e w' ⟨rfl, h1⟩
  refine ⟨rfl, by rw [take_next ht]; exact h1, fun s hs => ?_, hr.on h1.ahead (Nat.le_refl _)⟩
  rw [take_next ht] at hs
  rcases List.mem_append.1 hs with hs | hs
  · exact h.2.1 s hs
  · rw [List.mem_singleton] at hs
    subst hs
    exact hab
set_option maxHeartbeats 2000000 in
theorem of_any (ao : Option Addr) (n cap : Nat) (L : SL) (w : World) (hr : Rd2 w ao L) (hn : L.length = n) (hL : n ≤ 1000) (hB : ∀ t ∈ L, (0 ≤ t.1 ∧ t.1 ≤ 4294967295) ∧ (0 ≤ t.2 ∧ t.2 ≤ 4294967295)) :
    Calls Try.prog 23 #[.slice ao n cap] w (OfR w L) := by
  have hbw : Below w.heap.size w (w.alloc (.cells #[.slice ao n cap] 37)) := (Below.refl _ w).alloc (Nat.le_refl _) _
  have hso := sorted_any w.heap.size ao cap L (w.alloc (.cells #[.slice ao n cap] 37)) (by rw [hn]; exact cell1 (heap_alloc_new w _)) (hr.on hbw (Nat.le_refl _)) (by omega)
  rw [hn] at hso
  have HS := Lib.hid hso
  have HB := Lib.hid hB
  have HW := Lib.hid hbw
  have HN := Lib.hid hn
  clear hso hB hbw hn hr
  go_enter Try.func23, Try.ntmps23
  go_wp2_with (first
    | (go_at_call 35; refine (values_any ao n cap w).mono ?_; rintro e _ ⟨rfl, rfl⟩)
    | (go_at_call 34; refine HS.out.mono ?_; rintro e w2 ⟨L', bo, c, rfl, hp, hr, hb⟩; have HP := Lib.hid (And.intro hp (And.intro hr (HW.out.trans (hb.mono HW.out.size)))); clear hp hr hb)
    | (go_at_call 9; refine (is_new w2).mono ?_; rintro e w3 ⟨rfl, h⟩; have H3 := Lib.hid (show OfS w w2 w2.heap.size L' bo 0 w3 from ⟨⟨[], h, fun n => by simp, by simp⟩, fun t ht => by simp at ht, HP.out.2.1.on h.ahead (Nat.le_refl _)⟩); clear h))
  have hn' : L'.length = n := by rw [HP.out.1.length_eq]; exact HN.out
  have HN' := Lib.hid hn'
  have HB' := Lib.hid (show ∀ t ∈ L', (0 ≤ t.1 ∧ t.1 ≤ 4294967295) ∧ (0 ≤ t.2 ∧ t.2 ≤ 4294967295) from fun t ht => HB.out t (HP.out.1.mem_iff.1 ht))
  clear hn' HB HS HW
  go_loopw [15] (fun u wr => ∃ k : Nat, k ≤ n ∧ u = .int .i64 k ∧ Hid (OfS w w2 w2.heap.size L' bo k wr)) (fun u _ => n - (intOf u).toNat)
  case atStart => exact ⟨0, by omega, rfl, H3⟩
  case round =>
    obtain ⟨k, hkn, rfl, HK⟩ := hrel
    clear H3
    by_cases hk : k < n
    · obtain ⟨t, ht⟩ : ∃ t, L'[k]? = some t := ⟨_, List.getElem?_eq_getElem (by have := HN'.out; omega)⟩
      obtain ⟨b, off, rfl, _, c0, c1⟩ := HK.out.2.2 k t ht
      obtain ⟨⟨t0, t1⟩, ⟨t2, t3⟩⟩ := HB'.out t (List.mem_of_getElem? ht)
      have HA := Lib.hid (HK.out.below ((Below.refl wr.heap.size wr).alloc (Nat.le_refl _) (.cells #[.int .u32 t.1, .int .u32 t.2] 46)))
      have HT := Lib.hid ht
      clear ht
      by_cases hab : t.1 ≤ t.2
      · go_wp2_with (go_at_call 10; refine (ofs_add HA.out t HT.out t0 hab t3 (by have := HN'.out; omega) HP.out.2.1).mono ?_; rintro e w5 ⟨rfl, h⟩; have H5 := Lib.hid h; clear h)
        go_roundw
        case measure => simp [intOf]; omega
        case rel => exact ⟨k + 1, by omega, rfl, H5⟩
      · have hba : t.2 < t.1 := by omega
        go_wp2_with (go_at_call 10; refine (add_arg _ t.1 t.2 _ hba).mono ?_; rintro e _ ⟨rfl, rfl⟩)
        go_ret2
        exact .inr ⟨⟨t, HP.out.1.mem_iff.1 (List.mem_of_getElem? HT.out), hba⟩, rfl, HP.out.2.2.trans (HA.out.1.ahead.mono HP.out.2.2.size)⟩
    · go_wp2_with fail
      go_ret2
      obtain ⟨⟨M, h1, h2, h3⟩, h4, _⟩ := HK.out
      rw [List.take_of_length_le (by have := HN'.out; omega)] at h2 h3 h4
      exact .inl ⟨fun t ht => h4 t (HP.out.1.mem_iff.2 ht), _, rfl, M, setis_base h1 HP.out.2.2.size HP.out.2.2, fun n => (h2 n).trans (mem_perm HP.out.1 n), by rw [← HP.out.1.length_eq]; exact h3⟩
end Go.Proofs.Ytgbhdccadelcfaa.Sp
