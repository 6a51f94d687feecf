/- fault: the reference's Text. -/
import Derived.Test.YtkhnjgadagkpjaaDoorF10
import Derived.BigQuiet
import Derived.Deep.QuietTactic
namespace Go.Proofs.YtkhnjgadagkpjaaDoor.Flt
open Go Go.RowKit
/-- A number's text. -/
def num (n : Int) : ByteArray := ⟨(Lib.itoa n).toArray⟩
/-- The text of one link. -/
def linkT (l : Int × Int) : ByteArray := (({ data := #[111, 112, 32] } : ByteArray) ++ num l.1 ++ { data := #[32, 118, 101, 114, 116, 101, 120, 32] }) ++ num l.2 ++ { data := #[58, 32] }
/-- The texts of links, one behind the other. -/
def linksT (L : List (Int × Int)) : ByteArray := L.foldl (fun s l => s ++ linkT l) { data := #[] }
theorem linksT_snoc (L : List (Int × Int)) (l : Int × Int) : linksT (L ++ [l]) = linksT L ++ linkT l := by unfold linksT; rw [List.foldl_append]; rfl
theorem num_size (n : Int) (h0 : -9223372036854775808 ≤ n) (h1 : n ≤ 9223372036854775807) : (num n).size ≤ 21 := by
  show (Lib.itoa n).toArray.size ≤ 21
  unfold Lib.itoa
  have h2 := digits_len n.natAbs (by omega)
  have h3 := digits_len n.toNat (by omega)
  split <;> simp <;> omega
theorem linkT_size (l : Int × Int) (h0 : -9223372036854775808 ≤ l.1) (h1 : l.1 ≤ 9223372036854775807) (h2 : 0 ≤ l.2) (h3 : l.2 ≤ 4294967295) : (linkT l).size ≤ 60 := by
  have a := num_size l.1 h0 h1
  have b := num_size l.2 (by omega) (by omega)
  unfold linkT
  simp only [ByteArray.size_append]
  show 3 + (num l.1).size + 8 + (num l.2).size + 2 ≤ 60
  omega
theorem dec_num (n : Int) (h0 : -9223372036854775808 ≤ n) (h1 : n ≤ 9223372036854775807) (w : World) : Calls Tryd.prog 29 #[.int .i64 n] w fun e w' => e = .returned (.string (num n)) ∧ w' = w :=
  (dec_any n h0 h1 w).mono fun e w' h => ⟨h.1, h.2.symm⟩
/-- The text of a chain. -/
def chainT (L : List (Int × Int)) (r : Int) : ByteArray := linksT L ++ { data := #[101, 114, 114, 111, 114, 32] } ++ num r
theorem linksT_take {L : List (Int × Int)} {j : Nat} (h : j < L.length) : linksT (L.take (j + 1)) = linksT (L.take j) ++ linkT (L.getD j (0, 0)) := by
  rw [List.take_succ_eq_append_getElem h, linksT_snoc, List.getD_eq_getElem?_getD, List.getElem?_eq_getElem h]
  rfl
theorem bdrewN {B : Nat} {a w : World} (h : Below B a w) (n : Nat) : Below B a (w.drewN n) := ⟨h.os, h.tape, h.output, h.size, h.block⟩
end Go.Proofs.YtkhnjgadagkpjaaDoor.Flt
