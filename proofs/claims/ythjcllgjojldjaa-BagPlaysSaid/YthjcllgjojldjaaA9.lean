/- bag: the document's Take. -/
import Derived.Test.YthjcllgjojldjaaA8
namespace Go.Proofs.Ythjcllgjojldjaa.Bg
open Go Go.RowKit
theorem dtake_nil (i : Int) (s l : Bool) (w : World) : Calls Try.prog 22 #[.pointer none, .int .i64 i, .bool s, .bool l] w fun e w' => e = .returned (.tuple #[.slice none 0 0, .int .i64 6]) ∧ w = w' := by
  go_enter Try.func22, Try.ntmps22
  go_wp2
  exact bodyPost_ret (v := .tuple #[.slice none 0 0, .int .i64 6]) (by simp [results, Try.results22, go_sem]) rfl ⟨rfl, rfl⟩
theorem dtake_no {B : Nat} {w : World} {X : Bx} (h : BagAt 29 B w X) (i : Int) (s l : Bool) (hi : ¬ (0 ≤ i ∧ i < X.M.length)) : Calls Try.prog 22 #[.pointer (some ⟨X.p, 0, none⟩), .int .i64 i, .bool s, .bool l] w fun e w' => e = .returned (.tuple #[.slice none 0 0, .int .i64 6]) ∧ w = w' := by
  have c0 := h.c0
  obtain ⟨ao', cap, hv, _⟩ := row_form h.row
  rw [hv] at c0
  clear h hv
  generalize X.M.length = n at *
  by_cases h0 : i < 0
  · clear hi
    go_enter Try.func22, Try.ntmps22
    go_wp2
    exact bodyPost_ret (v := .tuple #[.slice none 0 0, .int .i64 6]) (by simp [results, Try.results22, go_sem]) rfl ⟨rfl, rfl⟩
  · have h1 : (n : Int) ≤ i := by omega
    clear hi
    go_enter Try.func22, Try.ntmps22
    go_wp2
    exact bodyPost_ret (v := .tuple #[.slice none 0 0, .int .i64 6]) (by simp [results, Try.results22, go_sem]) rfl ⟨rfl, rfl⟩
theorem dtake_stays {B : Nat} {w : World} {X : Bx} (h : BagAt 29 B w X) (i : Nat) (m : Mg) (l : Bool) (hm : X.M[i]? = some m) : Calls Try.prog 22 #[.pointer (some ⟨X.p, 0, none⟩), .int .i64 i, .bool true, .bool l] w fun e w' => e = .returned (.tuple #[mv m, .int .i64 0]) ∧ w = w' := by
  have c0 := h.c0
  obtain ⟨g, cap, hv, _, _, hnc, hcm, hc⟩ := row_at h.row (rowM_at hm)
  rw [hv] at c0
  have hi : i < X.M.length := (List.getElem?_eq_some_iff.1 hm).1
  clear h hv
  generalize X.M.length = n at *
  have h1 : ¬ (n : Int) ≤ (i : Int) := by omega
  clear hm
  unfold mv at *
  go_enter Try.func22, Try.ntmps22
  go_wp2
  exact bodyPost_ret (v := .tuple #[.slice (some ⟨m.g, 0, none⟩) m.l.length m.cap, .int .i64 0]) (by simp [results, Try.results22, go_sem]) rfl ⟨rfl, rfl⟩
def restM (M : List Mg) (i : Nat) : List Mg := M.take i ++ M.drop (i + 1)
theorem restM_step {M : List Mg} {i j : Nat} {m : Mg} (hm : M[j]? = some m) : restM (M.take (j + 1)) i = if j = i then restM (M.take j) i else restM (M.take j) i ++ [m] := by
  obtain ⟨hlt, hget⟩ := List.getElem?_eq_some_iff.1 hm
  unfold restM
  have e : M.take (j + 1) = M.take j ++ [m] := by rw [List.take_add_one, hm]; rfl
  have hl : (M.take j).length = j := by rw [List.length_take]; omega
  rw [e]
  by_cases h1 : j = i
  · subst h1
    have a1 : (M.take j ++ [m]).take j = M.take j := by rw [List.take_append_of_le_length (by omega), List.take_of_length_le (by omega)]
    have a2 : (M.take j ++ [m]).drop (j + 1) = [] := List.drop_of_length_le (by simp; omega)
    have a3 : (M.take j).take j = M.take j := List.take_of_length_le (by omega)
    have a4 : (M.take j).drop (j + 1) = [] := List.drop_of_length_le (by omega)
    rw [if_pos rfl, a1, a2, a3, a4]
  · rw [if_neg h1]
    by_cases h2 : j < i
    · have a1 : (M.take j ++ [m]).take i = M.take j ++ [m] := List.take_of_length_le (by simp; omega)
      have a2 : (M.take j ++ [m]).drop (i + 1) = [] := List.drop_of_length_le (by simp; omega)
      have a3 : (M.take j).take i = M.take j := List.take_of_length_le (by omega)
      have a4 : (M.take j).drop (i + 1) = [] := List.drop_of_length_le (by omega)
      rw [a1, a2, a3, a4]
      simp
    · rw [List.take_append_of_le_length (by omega), List.drop_append_of_le_length (by omega), List.append_assoc]
theorem restM_len_le (M : List Mg) (i : Nat) : (restM M i).length ≤ M.length := by
  unfold restM
  simp
  omega
/-- The row that the document's Take lays, as far as it has come. -/
structure OutR (w wr : World) (v : Value) (k : Nat) (M : List Mg) : Prop where
  row : wr.ownsRow w.heap.size 30 1 v k (rowM M)
  below : Below w.heap.size w wr
theorem base_less {w : World} {B C e n : Nat} {v : Value} {xs : List Value} (h : w.ownsRow B e 1 v n xs) (hC : C ≤ B) : w.ownsRow C e 1 v n xs := by
  refine ⟨h.1, ?_⟩
  rcases h.2 with h1 | ⟨g, cap, cur, h1, h2, h3⟩
  · exact .inl h1
  · exact .inr ⟨g, cap, cur, h1, Nat.le_trans hC h2, h3⟩
/-- A bag whose row is another one, of messages that were its own. -/
theorem new_row {T : TypeId} {B : Nat} {w wr : World} {X : Bx} {v : Value} {k : Nat} {M : List Mg} (hT5 : T ≠ 5) (h : BagAt T B w X) (hB : B ≤ w.heap.size) (ho : OutR w wr v k M) (hk : M.length = k) (hsub : ∀ m ∈ M, m ∈ X.M) (hd : (M.map Mg.g).Nodup) (hf : k ≤ 2000) :
    DidB T B X (M.map Mg.l) w (wr.setCell ⟨X.p, 0, none⟩ v) := by
  subst hk
  have h1 := h.below ho.below
  have ht : Turned X.top w (wr.setCell ⟨X.p, 0, none⟩ v) := (below_any ho.below).trans (turned_set _ _ _ _) (fun k hk => .inl (.inl hk))
  have hx : ∀ g, v.ownBlock = some g → w.heap.size ≤ g ∧ g < wr.heap.size := fun g hg => World.ownsRow.lt ho.row g hg
  have hpl := h.lt (.inl rfl)
  refine ⟨⟨X.p, v, M⟩, rfl, rfl, ⟨set_block (i := 0) h1.cell, h.base, own_on (base_less ho.row hB) (fun g hg => ?_), fun m hm => ?_, fun m hm => h.far m (hsub m hm), hd, hf⟩, fun k hk => ?_, ht⟩
  · have := hx g hg
    exact (grown_set wr X.p 0 v).block g this.2 (by
      simp only [ne_eq, Option.some.injEq]
      omega)
  · have hm0 := hsub m hm
    exact (h.msg m hm0).on (ht.block m.g (h.msg m hm0).lt (h.top_msg hT5 hm0))
  · rcases hk with hk | hk | ⟨m', hm', hk⟩
    · exact .inl (.inl hk)
    · exact .inr (hx k hk).1
    · exact .inl (.inr (.inr ⟨m', hsub m' hm', hk⟩))
theorem pick_apart {M : List Mg} {i : Nat} {m : Mg} (hd : (M.map Mg.g).Nodup) (hm : M[i]? = some m) : ((restM M i ++ [m]).map Mg.g).Nodup := by
  have he : M = M.take i ++ m :: M.drop (i + 1) := by
    obtain ⟨hlt, hget⟩ := List.getElem?_eq_some_iff.1 hm
    conv => lhs; rw [← List.take_append_drop i M, List.drop_eq_getElem_cons hlt, hget]
  unfold restM
  have hp : List.Perm ((M.take i ++ M.drop (i + 1) ++ [m]).map Mg.g) (M.map Mg.g) := by
    refine List.Perm.map _ ?_
    conv => rhs; rw [he]
    rw [List.append_assoc]
    exact List.Perm.append_left _ (List.perm_append_singleton _ _)
  exact hp.nodup_iff.2 hd
def DTakeR (B : Nat) (X : Bx) (i : Nat) (m : Mg) (last : Bool) (w : World) (e : Ending) (w' : World) : Prop :=
  e = .returned (.tuple #[mv m, .int .i64 0]) ∧ MgAt w' m ∧ DidB 29 B X (restL (X.M.map Mg.l) i ++ if last then [m.l] else []) w w'
set_option maxHeartbeats 4000000 in
theorem dtake_any {B : Nat} {w : World} {X : Bx} (h : BagAt 29 B w X) (hB : B ≤ w.heap.size) (i : Nat) (m : Mg) (last : Bool) (hm : X.M[i]? = some m) : Calls Try.prog 22 #[.pointer (some ⟨X.p, 0, none⟩), .int .i64 i, .bool false, .bool last] w (DTakeR B X i m last w) := by
  have hfew := h.few
  have hi : i < X.M.length := (List.getElem?_eq_some_iff.1 hm).1
  obtain ⟨g, cap, hv, _, hgl, hnc, hcm, hc⟩ := row_at h.row (rowM_at hm)
  have c0 := h.c0
  have H := Lib.hid h
  have HM := Lib.hid hm
  have hpl := h.lt (.inl rfl)
  obtain ⟨i0, hi0, hz0, hz1, hz2⟩ := info_parts info30
  have HI := Lib.hid (And.intro hi0 (And.intro hz0 (And.intro hz1 hz2)))
  clear hi0 hz0 hz1 hz2
  rw [hv] at c0
  have HV := Lib.hid hv
  clear h hm hv
  unfold mv at hc
  generalize hnn : X.M.length = n at *
  have HN := Lib.hid hnn
  clear hnn
  have h1 : ¬ (n : Int) ≤ (i : Int) := by omega
  have hf : (n : Int) ≤ 2000 := by omega
  go_enter Try.func22, Try.ntmps22
  go_wp2_with fail
  go_loopw [11, 43] (fun o x wr => ∃ (j k oc : Nat) (ao : Option Addr), x = .int .i64 j ∧ o = .slice ao k oc ∧ j ≤ n ∧ k ≤ j ∧ Hid ((restM (X.M.take j) i).length = k) ∧ Hid (OutR w wr (.slice ao k oc) k (restM (X.M.take j) i))) (fun _ x _ => n + 1 - (intOf x).toNat)
  case atStart => exact ⟨0, 0, 0, none, rfl, rfl, Nat.zero_le _, Nat.le_refl _, Lib.hid (by simp [restM]), Lib.hid ⟨by rw [show restM (X.M.take 0) i = [] by simp [restM]]; exact World.ownsRow_nil _ _ _ _, .refl _ _⟩⟩
  case round =>
    obtain ⟨j, k, oc, ao, rfl, rfl, hj, hkj, HK, HO⟩ := hrel
    by_cases hjn : j < n
    · obtain ⟨m2, hm2⟩ : ∃ m2, X.M[j]? = some m2 := ⟨_, List.getElem?_eq_getElem (by have := HN.out; omega)⟩
      have hX := H.out.below HO.out.below
      obtain ⟨g', gcap, hv, _, hgl', _, _, hc2⟩ := row_at hX.row (rowM_at hm2)
      rw [HV.out] at hv
      simp only [Value.slice.injEq, Option.some.injEq, Addr.mk.injEq, and_true] at hv
      obtain ⟨rfl, -, rfl⟩ := hv
      unfold mv at hc2
      have hst := restM_step (i := i) hm2
      have hj1 : j + 1 ≤ n := hjn
      by_cases hji : j = i
      · rw [if_pos hji] at hst
        have HS := Lib.hid hst
        have hq : ((j : Int) != (i : Int)) = false := by simp [hji]
        have hji' := Lib.hid hji
        clear hji hst hX hm2
        go_wp2_with fail
        go_roundw
        case rel => exact ⟨j + 1, k, oc, ao, by go_num, rfl, hj1, by omega, Lib.hid (by rw [HS.out]; exact HK.out), Lib.hid (by rw [HS.out]; exact HO.out)⟩
        case measure => simp [intOf] <;> omega
      · rw [if_neg hji] at hst
        have HS := Lib.hid hst
        have hq : ((j : Int) != (i : Int)) = true := by rw [bne_iff_ne]; omega
        have hO3 := Lib.hid (HO.out.row.alloc (.cells #[.slice (some ⟨m2.g, 0, none⟩) m2.l.length m2.cap] 30))
        have z2 := HO.out.below.size
        have hk2 : k ≤ 2000 := by omega
        have hji' := Lib.hid hji
        clear hji hst hX hm2
        go_wp2_with (at_builtin; refine wpList_append_lies _ rfl (.tmp 51) (.tmp 53) 27 rfl w.heap.size 30 i0 _ 1 24 Try.underlying27 HI.out.1 HI.out.2.1 HI.out.2.2.1 HI.out.2.2.2 rfl (by decide) (.slice ao k oc) k (rowM (restM (X.M.take j) i)) rfl hO3.out ⟨wr.heap.size, 0, none⟩ 1 1 [.slice (some ⟨m2.g, 0, none⟩) m2.l.length m2.cap] rfl rfl (news_one wr _ 30) (one_slice _ _ _) (by decide) (by unfold maxLen; omega) (by omega) (by simp; omega) (wr.heap.size + 1) (by simp) ?_; intro g3 c3 w3 hown3 hgrow3 hgn3 _; have HO4 := Lib.hid (And.intro hown3 hgrow3); clear hown3 hgrow3 hgn3)
        go_roundw
        case rel => exact ⟨j + 1, k + 1, c3, _, by go_num, rfl, hj1, by omega, Lib.hid (by rw [HS.out, List.length_append, HK.out]; rfl), Lib.hid ⟨by rw [HS.out, rowM_app]; exact HO4.out.1, HO.out.below.trans ((((Below.refl _ wr).alloc (Nat.le_refl _) _).mono z2).trans ((Below.refl _ _).grown HO4.out.2 (by simp; omega) (fun kk hk => (World.ownsRow.lt HO.out.row kk hk).1)))⟩⟩
        case measure => simp [intOf] <;> omega
    · have hjE : n = j := by omega
      subst hjE
      clear hjn hj
      have hk0 : k < 2000 := by
        have e := HK.out
        rw [List.take_of_length_le (by have := HN.out; omega)] at e
        have := rest_len (M := X.M) (i := i) (by have := HN.out; omega)
        unfold restM at e
        have := HN.out
        omega
      have HO' : Hid (OutR w wr (.slice ao k oc) k (restM X.M i)) := Lib.hid (by
        have := HO.out
        rwa [List.take_of_length_le (by have := HN.out; omega)] at this)
      have HK' : Hid ((restM X.M i).length = k) := Lib.hid (by
        have := HK.out
        rwa [List.take_of_length_le (by have := HN.out; omega)] at this)
      have hX := H.out.below HO'.out.below
      have hmem := List.mem_of_getElem? HM.out
      have z2 := HO'.out.below.size
      have c2 : wr.cell? ⟨X.p, 0, none⟩ = some X.v := hX.c0
      rw [HV.out] at c2
      have f2 : wr.frozen? ⟨X.p, 0, none⟩ = false := by simp [World.frozen?, hX.cell]
      clear hX HO HK
      cases last
      · have HR := Lib.hid (new_row (T := 29) (by decide) H.out hB HO'.out HK'.out (fun m' hm' => sub_rest hm') (nodup_rest i H.out.dis) (by omega))
        have hmg : Hid (MgAt (wr.setCell ⟨X.p, 0, none⟩ (.slice ao k oc)) m) := Lib.hid (((H.out.msg m hmem).on (HO'.out.below.block m.g (H.out.msg m hmem).lt)).on ((grown_set wr X.p 0 _).block m.g (Nat.lt_of_lt_of_le (H.out.msg m hmem).lt z2) (by simp only [ne_eq, Option.some.injEq]; exact H.out.p_msg (by decide) hmem)))
        clear hmem
        go_wp2_with fail
        refine bodyPost_ret (v := .tuple #[.slice (some ⟨m.g, 0, none⟩) m.l.length m.cap, .int .i64 0]) (by simp [results, Try.results22, go_sem]) rfl ⟨rfl, hmg.out, ?_⟩
        have := HR.out
        rw [show (restM X.M i).map Mg.l = restL (X.M.map Mg.l) i from rest_L X.M i] at this
        simpa using this
      · have hO3 := Lib.hid (HO'.out.row.alloc (.cells #[.slice (some ⟨m.g, 0, none⟩) m.l.length m.cap] 30))
        have hwp : X.p < wr.heap.size := Nat.lt_of_lt_of_le hpl z2
        clear hmem
        go_wp2_with (at_builtin; refine wpList_append_lies _ rfl (.tmp 57) (.tmp 59) 27 rfl w.heap.size 30 i0 _ 1 24 Try.underlying27 HI.out.1 HI.out.2.1 HI.out.2.2.1 HI.out.2.2.2 rfl (by decide) (.slice ao k oc) k (rowM (restM X.M i)) rfl hO3.out ⟨wr.heap.size, 0, none⟩ 1 1 [.slice (some ⟨m.g, 0, none⟩) m.l.length m.cap] rfl rfl (news_one wr _ 30) (one_slice _ _ _) (by decide) (by unfold maxLen; omega) (by omega) (by simp; omega) (wr.heap.size + 1) (by simp) ?_; intro g3 c3 w3 hown3 hgrow3 hgn3 _; have HB3 : Hid (Below w.heap.size w w3) := Lib.hid (HO'.out.below.trans ((((Below.refl _ wr).alloc (Nat.le_refl _) _).mono z2).trans ((Below.refl _ _).grown hgrow3 (by simp; omega) (fun kk hk => (World.ownsRow.lt HO'.out.row kk hk).1)))); have HX3 := Lib.hid (H.out.below HB3.out); have q3 : w3.cell? ⟨X.p, 0, none⟩ = some (.slice (some ⟨g, 0, none⟩) n cap) := HV.out ▸ HX3.out.c0; have f3 : w3.frozen? ⟨X.p, 0, none⟩ = false := (by simp [World.frozen?, HX3.out.cell]); have HO4 := Lib.hid (And.intro hown3 hgrow3); clear hown3 hgrow3 hgn3)
        have hmem := List.mem_of_getElem? HM.out
        have z3 := HB3.out.size
        refine bodyPost_ret (v := .tuple #[.slice (some ⟨m.g, 0, none⟩) m.l.length m.cap, .int .i64 0]) (by simp [results, Try.results22, go_sem]) rfl ⟨rfl, ?_, ?_⟩
        · exact ((H.out.msg m hmem).on (HB3.out.block m.g (H.out.msg m hmem).lt)).on ((grown_set w3 X.p 0 _).block m.g (Nat.lt_of_lt_of_le (H.out.msg m hmem).lt z3) (by simp only [ne_eq, Option.some.injEq]; exact H.out.p_msg (by decide) hmem))
        · have hr := new_row (T := 29) (X := X) (v := .slice (some ⟨g3, 0, none⟩) (k + 1) c3) (k := k + 1) (M := restM X.M i ++ [m]) (by decide) H.out hB ⟨by rw [rowM_app]; exact HO4.out.1, HB3.out⟩ (by rw [List.length_append, HK'.out]; rfl) (fun m' hm' => (List.mem_append.1 hm').elim (fun h => sub_rest h) (fun h => by simp at h; subst h; exact hmem)) (pick_apart H.out.dis HM.out) (by omega)
          rw [List.map_append, show (restM X.M i).map Mg.l = restL (X.M.map Mg.l) i from rest_L X.M i] at hr
          exact hr
end Go.Proofs.Ythjcllgjojldjaa.Bg
