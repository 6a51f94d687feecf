/- place: the laws' awake, walked. -/
import Derived.Test.YtlpbldkblchkpaaA5
namespace Go.Proofs.Ytlpbldkblchkpaa.Pl
open Go Go.RowKit
theorem did_below {b : Nat} {W w w' : World} {B : Nat} (h : Below B W w) (hd : Did b w w') (hB : B ≤ b) (hs : B ≤ w.heap.size) : Below B W w' :=
  h.trans (hd.below hs (fun k e => by have : k = b := e; omega))
set_option maxRecDepth 100000 in
theorem awake_any (w : World) : Calls Try.prog 6 #[] w fun e w' => e = .returned (.bool true) ∧ Below w.heap.size w w' := by
  have H0 := new_any 3 w (by decide) (by decide)
  have he := run_eql37 (7, 1, 0) (7, 1, 0)
  rw [eqE_iff] at he
  simp only [ev, decide_true] at he
  go_enter Try.func6, Try.ntmps6
  go_wp2_with fail
  refine H0.mono ?_
  rintro e w1 ⟨rfl, hd, hs, hb⟩
  have H1 := Lib.hid (And.intro hd (And.intro hs hb))
  have HO := owner_ok hd 7 (by decide)
  simp only [ev, show home 3 (at_ 7) = (7, 1, 0) from by decide] at HO
  clear hd hs hb H0
  go_wp2_with fail
  refine HO.mono ?_
  rintro e w2 ⟨rfl, hb2⟩
  have hd2 := (H1.out.1.on (Z := fun _ => False) (below_any hb2) id).on (Z := fun _ => False) (below_any ((Below.refl _ w2).alloc (Nat.le_refl _) (.cells #[.int .u32 7, .int .u8 1, .int .u32 0] 37))) id
  have H2 := Lib.hid (And.intro hd2 (((H1.out.2.2).trans (hb2.mono H1.out.2.2.size)).alloc (by have := H1.out.2.1; have := hb2.size; omega) (.cells #[.int .u32 7, .int .u8 1, .int .u32 0] 37)))
  clear hb2 hd2 HO
  go_wp2_with fail
  refine (move_any H2.out.1 7 2 1 (by decide) (by decide)).mono ?_
  rintro e w3 ⟨rfl, hd3, ht3⟩
  have H3 := Lib.hid (And.intro hd3 (did_below H2.out.2 ht3 (Nat.le_refl _) H2.out.2.size))
  clear hd3 ht3
  rw [show moveE 3 (home 3) 7 2 1 = 0 from by decide]
  go_wp2_with fail
  refine (check_any H3.out.1 7 2 1 (by decide) (by decide)).mono ?_
  rintro e w4 ⟨rfl, rfl⟩
  rw [show checkE 3 (moveG 3 (home 3) 7 2 1) 7 2 1 = 0 from by decide]
  go_wp2_with fail
  refine (check_any H3.out.1 7 1 0 (by decide) (by decide)).mono ?_
  rintro e w4 ⟨rfl, rfl⟩
  rw [show checkE 3 (moveG 3 (home 3) 7 2 1) 7 1 0 = 6 from by decide]
  go_wp2_with fail
  refine (move_any H3.out.1 7 0 1 (by decide) (by decide)).mono ?_
  rintro e w5 ⟨rfl, hd5, ht5⟩
  have H5 := Lib.hid (did_below H3.out.2 ht5 (Nat.le_refl _) H3.out.2.size)
  rw [show moveE 3 (moveG 3 (home 3) 7 2 1) 7 0 1 = 15 from by decide]
  clear hd5 ht5
  go_wp2_with fail
  go_ret
  exact ⟨rfl, H5.out⟩
end Go.Proofs.Ytlpbldkblchkpaa.Pl
