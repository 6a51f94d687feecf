/- commit: CommitPlays, walked. -/
import Derived.Test.YtklalpamcfkngaaG4
namespace Go.Proofs.Ytklalpamcfkngaa.Cm
open Go Go.RowKit
def PlI (w0 : World) (p q k : Nat) (w : World) : Prop := ∃ RM T, Pair X0 w0 k p q RM T (fun _ => False) w
theorem ob_cells {w : World} {b : Nat} {a0 a1 a2 a3 a4 a5 a6 a7 : Value} {T : TypeId} (h : w.heap[b]? = some (.cells #[a0, a1, a2, a3, a4, a5, a6, a7] T (0, 0))) :
    w.cell? ⟨b, 0, none⟩ = some a0 ∧ w.cell? ⟨b, 1, none⟩ = some a1 ∧ w.cell? ⟨b, 2, none⟩ = some a2 ∧ w.cell? ⟨b, 3, none⟩ = some a3 ∧ w.cell? ⟨b, 4, none⟩ = some a4 ∧ w.cell? ⟨b, 5, none⟩ = some a5 ∧ w.cell? ⟨b, 6, none⟩ = some a6 ∧ w.cell? ⟨b, 7, none⟩ = some a7 := by
  simp [World.cell?, h]
set_option maxRecDepth 100000 in
set_option maxHeartbeats 8000000 in
theorem plays_law (so : Option Addr) (N c : Nat) (Os : List OpI) (w : World) (hl : Os.length = N) (hr : RdO w so Os) (hok : ∀ o ∈ Os, OkI w o) :
    Calls Try.prog 3 #[.slice so N c] w fun e w' => e = .returned (.bool true) ∧ Below w.heap.size w w' := by
  have HI := Lib.hid (And.intro hl (And.intro hr hok))
  clear hl hr hok
  go_enter Try.func3, Try.ntmps3
  go_wp2_with (first
    | (have hh := H1; clear hh; go_at_call 8; refine (new_any w.heap.size _ H1.out.size).mono ?_; rintro e w2 ⟨rfl, hk, hb⟩; have H2 := Lib.hid (And.intro hk (And.intro (H1.out.trans (hb.mono H1.out.size)) (show w1.heap.size ≤ w2.heap.size from hb.size))); clear hk hb)
    | (go_at_call 7; refine (awake_any _).mono ?_; rintro e w1 ⟨rfl, hb⟩; have H1 := Lib.hid hb; clear hb))
  have H3 := Lib.hid (show PlI w (w1.heap.size + 2) w2.heap.size 0 (w2.alloc (.cells #[.slice none 0 0, .slice none 0 0] 30)) from ⟨_, _, pair_new ext_x0 H2.out.2.1 H2.out.1 (G := fun _ => False) (fun _ => id) (fun _ _ => id)⟩)
  clear H1 H2
  generalize w2.alloc (.cells #[.slice none 0 0, .slice none 0 0] 30) = W at H3 ⊢
  generalize w1.heap.size + 2 = p at H3 ⊢
  generalize w2.heap.size = q at H3 ⊢
  go_loopw [15] (fun iv wr => ∃ k : Nat, k ≤ N ∧ k ≤ 150 ∧ iv = .int .i64 k ∧ Hid (PlI w p q k wr)) (fun i _ => N - (intOf i).toNat)
  case atStart => exact ⟨0, Nat.zero_le _, Nat.zero_le _, rfl, H3⟩
  case round =>
    obtain ⟨k, hk, h150, rfl, HR⟩ := hrel
    clear H3
    by_cases hlt : k < N
    · obtain ⟨o, ho⟩ : ∃ o, Os[k]? = some o := ⟨_, List.getElem?_eq_getElem (by rw [HI.out.1]; exact hlt)⟩
      obtain ⟨RM, T, hp⟩ := HR.out
      obtain ⟨b, off, rfl, c0, c1, c2, c3, c4, c5, c6, c7⟩ := (HI.out.2.1.on (pair_ahead hp) (Nat.le_refl _)).at ho
      have HO := Lib.hid (HI.out.2.2 o (List.mem_of_getElem? ho))
      have HP := Lib.hid (pair_box ext_x0 hp #[.int .u8 o.kd, .int .u8 o.t.1, .int .u32 o.t.2.1, .int .u32 o.t.2.2, .slice o.ao o.n o.c, .int .u8 o.x, .bool o.yes, .int .i64 o.nn] 36)
      clear ho hp
      by_cases h1 : k < 150
      · have b1 : decide ((150 : Int) ≤ (k : Int)) = false := by simp; omega
        by_cases h8 : k < 8
        · have b8 : decide ((k : Int) < 8) = true := by simp; omega
          go_wp2_with (first
            | (have hh := K3; clear hh; go_at_call 9; refine (play_nil (ext_xa ext_x0) o HO.out K3.out).mono ?_; rintro e w4 ⟨rfl, hz, _⟩; have K4 := Lib.hid hz; clear hz)
            | (go_at_call 9; refine (play_pair (ext_xa ext_x0) o HO.out (by omega) HP.out).mono ?_; rintro e w3 ⟨rfl, hz, _⟩; have K3 := Lib.hid hz; obtain ⟨d0, d1, d2, d3, d4, d5, d6, d7⟩ := ob_cells (pair_has hz); clear hz))
          have HN := Lib.hid (show PlI w p q (k + 1) w4 from ⟨_, _, pair_out K4.out⟩)
          go_roundw
          case rel => exact ⟨k + 1, by omega, by omega, by go_num, HN⟩
          case measure => simp [intOf]; omega
        · have b8 : decide ((k : Int) < 8) = false := by simp; omega
          go_wp2_with (go_at_call 9; refine (play_pair (ext_xa ext_x0) o HO.out (by omega) HP.out).mono ?_; rintro e w3 ⟨rfl, hz, _⟩; have K3 := Lib.hid hz; clear hz)
          have HN := Lib.hid (show PlI w p q (k + 1) w3 from ⟨_, _, pair_out K3.out⟩)
          go_roundw
          case rel => exact ⟨k + 1, by omega, by omega, by go_num, HN⟩
          case measure => simp [intOf]; omega
      · have b1 : decide ((150 : Int) ≤ (k : Int)) = true := by simp; omega
        have HF := Lib.hid (pair_ahead HP.out)
        go_wp2_with fail
        go_ret
        exact ⟨rfl, HF.out⟩
    · obtain ⟨RM, T, hp⟩ := HR.out
      have HF := Lib.hid (pair_ahead hp)
      clear hp
      go_wp2_with fail
      go_ret
      exact ⟨rfl, HF.out⟩
end Go.Proofs.Ytklalpamcfkngaa.Cm
