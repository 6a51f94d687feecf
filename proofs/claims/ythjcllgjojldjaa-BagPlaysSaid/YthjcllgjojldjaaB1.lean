/- bag: one bag by what it holds; the document's example. -/
import Derived.Test.YthjcllgjojldjaaA9
namespace Go.Proofs.Ythjcllgjojldjaa.Bg
open Go Go.RowKit
theorem DidB.low {T : TypeId} {B : Nat} {X : Bx} {L : List (List Int)} {w w' : World} (hd : DidB T B X L w w') (h : BagAt T B w X) (hB : B ≤ w.heap.size) : Below B w w' := by
  obtain ⟨X', _, _, _, _, ht⟩ := hd
  exact ht.below hB (fun k hk => h.ge (Bx.top_has hk))
/-- A bag of the call's own, at p, that holds L. -/
structure St (w0 : World) (p : Nat) (L : List (List Int)) (w : World) : Prop where
  below : Below w0.heap.size w0 w
  bag : ∃ X : Bx, X.p = p ∧ X.M.map Mg.l = L ∧ BagAt 50 w0.heap.size w X
section
variable {w0 w w' : World} {p : Nat} {L : List (List Int)}
theorem St.on (h : St w0 p L w) (hb : Below w.heap.size w w') : St w0 p L w' := by
  obtain ⟨X, h1, h2, h3⟩ := h.bag
  exact ⟨h.below.trans (hb.mono h.below.size), X, h1, h2, h3.below hb⟩
theorem St.did {X : Bx} {K : List (List Int)} (h : St w0 X.p L w) (hx : BagAt 50 w0.heap.size w X) (hd : DidB 50 w0.heap.size X K w w') : St w0 X.p K w' := by
  have := hd.low hx h.below.size
  obtain ⟨X', e1, e2, e3, _⟩ := hd
  exact ⟨h.below.trans this, X', e1, e2, e3⟩
theorem St.len (h : St w0 p L w) : L.length ≤ 2000 := by
  obtain ⟨X, _, rfl, h3⟩ := h.bag
  simpa using h3.few
theorem st_new (w : World) : Calls Try.prog 8 #[] w fun e w' => e = .returned (.pointer (some ⟨w.heap.size, 0, none⟩)) ∧ St w w.heap.size [] w' := by
  refine (new_any w).mono ?_
  rintro e w' ⟨rfl, h1, h2⟩
  exact ⟨rfl, h2, _, rfl, rfl, h1⟩
theorem st_put (h : St w0 p L w) (hf : L.length < 2000) (a : Addr) (n c : Nat) (l : List Int) (hl : l.length = n) (hr : Rd w (some a) l) (hn : n ≤ 16384) (h0 : 0 < n) :
    Calls Try.prog 13 #[.pointer (some ⟨p, 0, none⟩), .slice (some a) n c] w fun e w' => e = .returned (.int .i64 0) ∧ St w0 p (L ++ [l]) w' := by
  obtain ⟨X, rfl, rfl, h3⟩ := h.bag
  refine (put_ok h3 h.below.size (by simpa using hf) a n c l hl hr hn h0).mono ?_
  rintro e w' ⟨rfl, hd⟩
  exact ⟨rfl, h.did h3 hd⟩
theorem st_full (h : St w0 p L w) (hf : L.length = 2000) (ao : Option Addr) (n c : Nat) (hn : n ≤ 16384) (h0 : 0 < n) :
    Calls Try.prog 13 #[.pointer (some ⟨p, 0, none⟩), .slice ao n c] w fun e w' => e = .returned (.int .i64 10) ∧ w = w' := by
  obtain ⟨X, rfl, rfl, h3⟩ := h.bag
  exact put_full h3 (by simpa using hf) ao n c hn h0
theorem st_hold (h : St w0 p L w) (i : Nat) (l : List Int) (hi : L[i]? = some l) : Calls Try.prog 14 #[.pointer (some ⟨p, 0, none⟩), .int .i64 i] w fun e w' => e = .returned (.int .i64 0) ∧ St w0 p (restL L i ++ [l]) w' := by
  obtain ⟨X, rfl, rfl, h3⟩ := h.bag
  refine (hold_any h3 h.below.size i l hi).mono ?_
  rintro e w' ⟨rfl, hd⟩
  exact ⟨rfl, h.did h3 hd⟩
theorem st_hold_no (h : St w0 p L w) (i : Int) (hi : ¬ (0 ≤ i ∧ i < L.length)) : Calls Try.prog 14 #[.pointer (some ⟨p, 0, none⟩), .int .i64 i] w fun e w' => e = .returned (.int .i64 6) ∧ w = w' := by
  obtain ⟨X, rfl, rfl, h3⟩ := h.bag
  exact hold_no (no_out h3 (by simpa using hi))
theorem st_drop (h : St w0 p L w) (i : Nat) (hi : i < L.length) : Calls Try.prog 15 #[.pointer (some ⟨p, 0, none⟩), .int .i64 i] w fun e w' => e = .returned (.int .i64 0) ∧ St w0 p (restL L i) w' := by
  obtain ⟨X, rfl, rfl, h3⟩ := h.bag
  refine (drop_any h3 i (by simpa using hi)).mono ?_
  rintro e w' ⟨rfl, hd⟩
  exact ⟨rfl, h.did h3 hd⟩
theorem st_drop_no (h : St w0 p L w) (i : Int) (hi : ¬ (0 ≤ i ∧ i < L.length)) : Calls Try.prog 15 #[.pointer (some ⟨p, 0, none⟩), .int .i64 i] w fun e w' => e = .returned (.int .i64 6) ∧ w = w' := by
  obtain ⟨X, rfl, rfl, h3⟩ := h.bag
  exact drop_no (no_out h3 (by simpa using hi))
theorem st_take (h : St w0 p L w) (i : Nat) (l : List Int) (hi : L[i]? = some l) : Calls Try.prog 17 #[.pointer (some ⟨p, 0, none⟩), .int .i64 i] w fun e w' => ∃ g c, e = .returned (.tuple #[.slice (some ⟨g, 0, none⟩) l.length c, .int .i64 0]) ∧ Rd w' (some ⟨g, 0, none⟩) l ∧ l.length ≤ 16384 ∧ St w0 p (restL L i) w' := by
  obtain ⟨X, rfl, rfl, h3⟩ := h.bag
  have hil : i < X.M.length := by have := (List.getElem?_eq_some_iff.1 hi).1; simpa using this
  refine (take_any h3 i hil).mono ?_
  intro e w' hr
  have hd := hr.did
  obtain ⟨m, v', hm, rfl, _, _, _, hb⟩ := hr
  have hmm := (h3.msg m (List.mem_of_getElem? hm)).on hb
  rw [List.getElem?_map, hm] at hi
  injection hi with hi
  subst hi
  exact ⟨m.g, m.cap, rfl, hmm.rd, hmm.few, h.did h3 hd⟩
theorem st_len (h : St w0 p L w) : Calls Try.prog 10 #[.pointer (some ⟨p, 0, none⟩)] w fun e w' => e = .returned (.int .i64 L.length) ∧ w = w' := by
  obtain ⟨X, rfl, rfl, h3⟩ := h.bag
  have := len_any h3
  rwa [show X.M.length = (X.M.map Mg.l).length by simp] at this
theorem st_all (h : St w0 p L w) : Calls Try.prog 11 #[.pointer (some ⟨p, 0, none⟩)] w fun e w' => ∃ v, e = .returned v ∧ RdRow w' v L ∧ Below w.heap.size w w' ∧ St w0 p L w' := by
  obtain ⟨X, rfl, rfl, h3⟩ := h.bag
  refine (all_any h3).mono ?_
  rintro e w' ⟨v, M, rfl, hn, hl, hb⟩
  refine ⟨v, rfl, ?_, hb, h.on hb⟩
  rw [← hl]
  exact rdrow_own hn.row (fun m hm => (hn.msg m hm).1) rfl (by have := congrArg List.length hl; simp at this; have := h3.few; unfold maxLen; omega)
end
theorem lit1 (w : World) (x : Int) : Rd (w.alloc (.cells #[.int .u8 x] 5)) (some ⟨w.heap.size, 0, none⟩) [x] := rd_lit w [x] (by unfold maxLen; simp)
set_option maxHeartbeats 2000000 in
theorem awake_any (w : World) : Calls Try.prog 7 #[] w fun e w' => e = .returned (.bool true) ∧ Below w.heap.size w w' := by
  go_enter Try.func7, Try.ntmps7
  go_wp2_with fail
  refine (st_new w).mono ?_
  rintro e w1 ⟨rfl, H1⟩
  have HS := Lib.hid (H1.on ((Below.refl _ w1).alloc (Nat.le_refl _) (.cells #[.int .u8 97] 5)))
  clear H1
  go_wp2_with fail
  refine (st_put HS.out (by decide) ⟨w1.heap.size, 0, none⟩ 1 1 [97] rfl (lit1 w1 97) (by decide) (by decide)).mono ?_
  rintro e w2 ⟨rfl, H2⟩
  have HS := Lib.hid (H2.on ((Below.refl _ w2).alloc (Nat.le_refl _) (.cells #[.int .u8 98] 5)))
  clear H2
  go_wp2_with fail
  refine (st_put HS.out (by decide) ⟨w2.heap.size, 0, none⟩ 1 1 [98] rfl (lit1 w2 98) (by decide) (by decide)).mono ?_
  rintro e w3 ⟨rfl, H3⟩
  have HS := Lib.hid (H3.on ((Below.refl _ w3).alloc (Nat.le_refl _) (.cells #[.int .u8 99] 5)))
  clear H3
  go_wp2_with fail
  refine (st_put HS.out (by decide) ⟨w3.heap.size, 0, none⟩ 1 1 [99] rfl (lit1 w3 99) (by decide) (by decide)).mono ?_
  rintro e w4 ⟨rfl, H4⟩
  have HS := Lib.hid H4
  clear H4
  go_wp2_with fail
  refine (st_hold HS.out 0 [97] rfl).mono ?_
  rintro e w5 ⟨rfl, H5⟩
  have HS : Hid (St w w.heap.size [[98], [99], [97]] w5) := Lib.hid H5
  clear H5
  go_wp2_with fail
  refine (st_take HS.out 1 [99] rfl).mono ?_
  rintro e w6 ⟨g6, c6, rfl, hr6, -, H6⟩
  have HS : Hid (St w w.heap.size [[98], [97]] w6) := Lib.hid H6
  have HR := Lib.hid (same_lit (some ⟨g6, 0, none⟩) c6 [99] w6 (by decide) hr6)
  have HB6 := Lib.hid ((Below.refl _ w6).alloc (Nat.le_refl _) (.cells #[.int .u8 99] 5))
  clear H6 hr6
  go_wp2_with fail
  refine HR.out.mono ?_
  rintro e w7 ⟨rfl, hb7⟩
  have HS := Lib.hid (HS.out.on hb7)
  clear hb7
  go_wp2_with fail
  refine (st_len HS.out).mono ?_
  rintro e w8 ⟨rfl, rfl⟩
  go_wp2_with fail
  refine (st_drop_no HS.out 5 (by decide)).mono ?_
  rintro e w9 ⟨rfl, rfl⟩
  go_wp2_with fail
  go_ret
  exact ⟨rfl, HS.out.below⟩
end Go.Proofs.Ythjcllgjojldjaa.Bg
