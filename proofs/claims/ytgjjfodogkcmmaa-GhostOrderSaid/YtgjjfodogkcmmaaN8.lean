/- ghost: a row of the call's own that holds vertices reads as such. -/
import Derived.Test.YtgjjfodogkcmmaaN7
import Derived.Test.YtgjjfodogkcmmaaU1
namespace Go.Proofs.Ytgjjfodogkcmmaa.Gh
open Go Go.RowKit Ytgjjfodogkcmmaa.So Ytgjjfodogkcmmaa.Vl
def vc4 (v : Vx) : List Value := [.int .u32 v.id, .bool v.th, .slice v.po v.pl v.pc, .slice v.ho v.L.length v.hc]
def vrow (Vs : List Vx) : List Value := Vs.flatMap vc4
theorem vrow_app (A B : List Vx) : vrow (A ++ B) = vrow A ++ vrow B := by simp [vrow]
theorem vrow_len (M : List Vx) : (vrow M).length = M.length * 4 := by
  induction M with
  | nil => rfl
  | cons t M ih => rw [show t :: M = [t] ++ M from rfl, vrow_app, List.length_append, ih]; simp [vrow, vc4]; omega
theorem vrow_at {M : List Vx} : ∀ {i : Nat} {t : Vx}, M[i]? = some t → ∀ j, j < 4 → (vrow M)[i * 4 + j]? = (vc4 t)[j]? := by
  induction M with
  | nil => intro i t h; simp at h
  | cons a M ih =>
    intro i t h j hj
    rw [show a :: M = [a] ++ M from rfl, vrow_app]
    cases i with
    | zero =>
      simp at h
      subst h
      rw [List.getElem?_append_left (by simp [vrow, vc4]; omega)]
      simp [vrow]
    | succ i =>
      have h2 : M[i]? = some t := by simpa using h
      rw [List.getElem?_append_right (by simp [vrow, vc4]; omega), ← ih h2 j hj]
      congr 1
      simp [vrow, vc4]
      omega
/-- The vertices of an own row stand where it says. -/
theorem own_rdv {w : World} {B : Nat} {T : TypeId} {ao : Option Addr} {cap n : Nat} {Vs : List Vx} (h : w.ownsRow B T 4 (.slice ao n cap) Vs.length (vrow Vs)) (hok : ∀ v ∈ Vs, v.ok w) : RdV w ao Vs := by
  intro i t ht
  refine ⟨hok t (List.mem_of_getElem? ht), ?_⟩
  rcases h.2 with ⟨h0, h1⟩ | ⟨g, cap', cur, h0, h1, h2, h3, h4⟩
  · rw [List.eq_nil_of_length_eq_zero h1] at ht; simp at ht
  · simp only [Value.slice.injEq] at h0
    obtain ⟨rfl, _, _⟩ := h0
    have hcell : ∀ j x, j < 4 → (vc4 t)[j]? = some x → w.cell? ⟨g, i * 4 + j, none⟩ = some x := fun j x hj hx => by
      have := h.cells (g := g) rfl (i * 4 + j) x (by rw [vrow_at ht j hj]; exact hx)
      rwa [Go.WideShapes.add_plain, Nat.zero_add] at this
    exact ⟨g, 0, rfl, (Array.getElem?_eq_some_iff.1 h2).1, by rw [Nat.zero_add]; exact hcell 0 _ (by decide) rfl, by rw [Nat.zero_add]; exact hcell 1 _ (by decide) rfl, by rw [Nat.zero_add]; exact hcell 2 _ (by decide) rfl, by rw [Nat.zero_add]; exact hcell 3 _ (by decide) rfl⟩
end Go.Proofs.Ytgjjfodogkcmmaa.Gh
