/- fault: the library's contracts as the text's walk wants them. -/
import Derived.Test.YtkhnjgadagkpjaaDoorG3
import Derived.Test.YtkhnjgadagkpjaaDoorF11
import Derived.Test.YtkhnjgadagkpjaaDoorShelf
import Derived.Shelf.Strings.Builder1
import Derived.Shelf.Strconv.Itoa3
namespace Go.Proofs.YtkhnjgadagkpjaaDoor.Flt
open Go Go.RowKit Go.Stop Go.Shelf
theorem extra166 : Builder.Extra Tryd.prog Tryd.lays166_ren := { sizeBuilder := by kernel_rfl, liesBuilder := by kernel_rfl, t5 := Tryd.underlying5, a5 := Tryd.isAgg5, z5 := Tryd.sizeOf5, v5 := Tryd.zeroValue5, infoByte := by kernel_rfl, cellsByte := by kernel_rfl, sizeByte := by kernel_rfl, neB5 := by decide }
theorem extra169 : Builder.Extra Tryd.prog Tryd.lays169_ren := { sizeBuilder := by kernel_rfl, liesBuilder := by kernel_rfl, t5 := Tryd.underlying5, a5 := Tryd.isAgg5, z5 := Tryd.sizeOf5, v5 := Tryd.zeroValue5, infoByte := by kernel_rfl, cellsByte := by kernel_rfl, sizeByte := by kernel_rfl, neB5 := by decide }
/-- A builder in block b that holds this text. -/
def Bld (b : Nat) (s : ByteArray) (w : World) : Prop := Lib.IsBuilder 59 5 b b (Lib.strCells s) w
theorem strCells_app (s t : ByteArray) : Lib.strCells (s ++ t) = Lib.strCells s ++ Lib.strCells t := by
  unfold Lib.strCells
  rw [← List.map_append]
  congr 1
theorem Bld.lt {b : Nat} {s : ByteArray} {w : World} (h : Bld b s w) : b < w.heap.size := h.elim (fun x => x.lt) (fun x => x.lt)
theorem builder_on {b : Nat} {p : Value} {bs : List Value} {w w' : World} (h : Lib.BuilderAt 59 5 b b p bs w) (hb : Below w.heap.size w w') : Lib.BuilderAt 59 5 b b p bs w' := by
  have hlt := h.lt
  obtain ⟨h1, v, h2, h3, h4⟩ := h
  refine ⟨h1, v, (hb.block b hlt).trans h2, World.ownsRow.kept h3 (grown_of_below hb) ?_, h4⟩
  cases v.ownBlock <;> simp
theorem Bld.on {b : Nat} {s : ByteArray} {w w' : World} (h : Bld b s w) (hb : Below w.heap.size w w') : Bld b s w' :=
  h.elim (fun x => .inl (builder_on x hb)) (fun x => .inr (builder_on x hb))
theorem write_string (b : Nat) (s t : ByteArray) (w : World) (h : Bld b s w) (hl : s.size + t.size ≤ 140737488355328) :
    Calls Tryd.prog 24 #[.pointer (some ⟨b, 0, none⟩), .string t] w fun e w' => e = .returned (.tuple #[.int .i64 t.size, .nilIface]) ∧ Bld b (s ++ t) w' ∧ Below b w w' := by
  have hc := Any.Builder_WriteString Tryd.lays166 extra166 b b (Lib.strCells s) t w h (by rw [Lib.strCells_length]; exact hl) (Nat.le_of_lt h.lt)
  change Calls Tryd.prog 24 _ _ _ at hc
  exact hc.mono fun e w' ⟨he, hb, hw⟩ => ⟨he, .inr (by rw [strCells_app]; exact hb), hw⟩
theorem string_of (b : Nat) (s : ByteArray) (w : World) (h : Bld b s w) :
    Calls Tryd.prog 28 #[.pointer (some ⟨b, 0, none⟩)] w fun e w' => e = .returned (.string s) ∧ Below b w w' := by
  have hc := Any.Builder_String_any Tryd.lays169 extra169 b b s.data.toList w h (Nat.le_of_lt h.lt)
  exact hc
/-- What strconv.Itoa and FormatUint say of a number, in worlds behind w0. -/
def SaysI (w0 : World) (n : Int) : Prop := ∀ w, Below w0.heap.size w0 w → Calls Tryd.prog 25 #[.int .i64 n] w fun e w' => e = .returned (.string (num n)) ∧ Below w.heap.size w w'
def SaysU (w0 : World) (n : Int) : Prop := ∀ w, Below w0.heap.size w0 w → Calls Tryd.prog 26 #[.int .u64 n, .int .i64 10] w fun e w' => e = .returned (.string (num n)) ∧ Below w.heap.size w w'
theorem saysI_small (w0 : World) (i : Nat) (hi : i < 100) : SaysI w0 i := fun w _ =>
  (Any.strconv_Itoa_small Tryd.lays171 i hi w).mono fun e w' ⟨he, hw⟩ => ⟨he.trans (by unfold num; rw [Lib.itoa_nonneg]), by subst hw; exact Below.refl _ _⟩
theorem uint_small (i : Nat) (hi : i < 100) (w : World) : Calls Tryd.prog 42 #[.int .u64 i, .int .i64 10] w fun e w' => e = .returned (.string (num i)) ∧ w' = w := by
  have hc : Calls Tryd.prog 51 #[.int .i64 i] w fun e w' => e = .returned (.string ⟨(Lib.decDigits i).toArray⟩) ∧ w' = w := Any.internal_strconv_small Tryd.lays283 i hi w
  have hw : IntKind.i64.wrap (i : Int) = i := by simp [IntKind.wrap, IntKind.bits, IntKind.signed]; omega
  have e : num (i : Int) = ⟨(Lib.decDigits i).toArray⟩ := by unfold num; rw [Lib.itoa_nonneg]
  have hlt : (i : Int) < 100 := by omega
  rw [e]
  go_enter Tryd.func42, Tryd.ntmps42
  go_wp2_with fail
  refine hc.mono ?_
  rintro e w1 ⟨rfl, rfl⟩
  go_wp2_with fail
  go_ret
  exact ⟨rfl, rfl⟩
theorem saysU_small (w0 : World) (i : Nat) (hi : i < 100) : SaysU w0 i := fun w _ => by
  have hc := uint_small i hi w
  generalize num (i : Int) = s at *
  go_enter Tryd.func26, Tryd.ntmps26
  go_wp2_with fail
  refine hc.mono ?_
  rintro e w1 ⟨rfl, rfl⟩
  go_wp2_with fail
  go_ret
  exact ⟨rfl, Below.refl _ _⟩
theorem errText (w0 w : World) (n : Int) (h : SaysI w0 n) (hw : Below w0.heap.size w0 w) (hn : (num n).size ≤ 21) :
    Calls Tryd.prog 27 #[.int .i64 n] w fun e w' => e = .returned (.string ({ data := #[101, 114, 114, 111, 114, 32] } ++ num n)) ∧ Below w.heap.size w w' := by
  have hc := h w hw
  generalize num n = s at *
  have h6 : ({ data := #[101, 114, 114, 111, 114, 32] } : ByteArray).size = 6 := rfl
  have hm : ({ data := #[101, 114, 114, 111, 114, 32] } : ByteArray).size + s.size ≤ maxLen := by rw [h6]; unfold maxLen; omega
  go_enter Tryd.func27, Tryd.ntmps27
  go_wp2_with fail
  refine hc.mono ?_
  rintro e w1 ⟨rfl, hb⟩
  go_wp2_with fail
  go_ret
  exact ⟨rfl, hb⟩
end Go.Proofs.YtkhnjgadagkpjaaDoor.Flt
