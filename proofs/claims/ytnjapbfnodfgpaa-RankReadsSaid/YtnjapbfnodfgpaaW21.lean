/- The law on rows that are parted again, walked. -/
import Derived.Test.YtnjapbfnodfgpaaW20
import Derived.BigRegion
import Derived.Deep.Light
namespace Go.Proofs.Ytnjapbfnodfgpaa.Rk
open Go Go.RowKit
theorem own_slice_rd {w : World} {B : Nat} {ao : Option Addr} {c : Nat} {l : List Int} (h : Own w B (.slice ao l.length c) l) : Rd w ao l := by
  obtain ⟨ao', c', h1, h2⟩ := h.rd
  simp only [Value.slice.injEq] at h1
  rw [h1.1]; exact h2
theorem tri_some (k : IntKind) (n i : Int) : tri k (some (n, i)) = .tuple #[.int k n, .int .i64 i, .int .i64 0] := rfl
theorem uintC_byte (n : Nat) (h : n < 18446744073709551616) : ∀ x ∈ uintC n, 0 ≤ x ∧ x ≤ 255 := by
  intro x hx
  have := len256_le n h
  unfold uintC at hx
  rcases List.mem_cons.1 hx with rfl | hx
  · omega
  · exact dig_byte n x hx
theorem intC_byte (n : Int) (h0 : -9223372036854775808 ≤ n) (h1 : n ≤ 9223372036854775807) : ∀ x ∈ intC n, 0 ≤ x ∧ x ≤ 255 := by
  intro x hx
  unfold intC at hx
  split at hx
  · have := len256_le n.toNat (by omega)
    rcases List.mem_cons.1 hx with rfl | hx
    · omega
    · exact dig_byte _ x hx
  · have := len256_le (-1 - n).toNat (by omega)
    rcases List.mem_cons.1 hx with rfl | hx
    · omega
    · exact tn_byte (dig_byte _) x hx
theorem textC_byte {l : List Int} (h : ∀ x ∈ l, 0 ≤ x ∧ x ≤ 255) : ∀ x ∈ textC l, 0 ≤ x ∧ x ≤ 255 := by
  intro x hx
  unfold textC at hx
  rcases List.mem_append.1 hx with hx | hx
  · exact esc_byte l h x hx
  · simp at hx; omega
theorem rowC_byte {N : Int} {l : List Int} {M : Nat} (h0 : -9223372036854775808 ≤ N) (h1 : N ≤ 9223372036854775807) (hM : M < 18446744073709551616) (h : ∀ x ∈ l, 0 ≤ x ∧ x ≤ 255) : ∀ x ∈ rowC N l M, 0 ≤ x ∧ x ≤ 255 := by
  intro x hx
  unfold rowC at hx
  rcases List.mem_append.1 hx with hx | hx
  · rcases List.mem_append.1 hx with hx | hx
    · exact intC_byte N h0 h1 x hx
    · exact textC_byte h x hx
  · exact uintC_byte M hM x hx
set_option maxRecDepth 100000 in
set_option maxHeartbeats 20000000 in
theorem apart (ao bo : Option Addr) (n m c d : Nat) (N M N' M' : Int) (la lb : List Int) (w : World) (hnc : n ≤ c) (hmd : m ≤ d) (_hc : c ≤ maxLen) (_hd : d ≤ maxLen) (hla : la.length = n) (hlb : lb.length = m)
    (ha : Rd w ao la) (hb : Rd w bo lb) (ba : ∀ x ∈ la, 0 ≤ x ∧ x ≤ 255) (bb : ∀ x ∈ lb, 0 ≤ x ∧ x ≤ 255)
    (n0 : -9223372036854775808 ≤ N) (n1 : N ≤ 9223372036854775807) (n0' : -9223372036854775808 ≤ N') (n1' : N' ≤ 9223372036854775807) (m0 : 0 ≤ M) (m1 : M ≤ 18446744073709551615) (m0' : 0 ≤ M') (m1' : M' ≤ 18446744073709551615) :
    Calls Try.prog 8 #[.agg #[.int .i64 N, .slice ao n c, .int .u64 M], .agg #[.int .i64 N', .slice bo m d, .int .u64 M']] w fun e w' => e = .returned (.bool true) ∧ Below w.heap.size w w' := by
  unfold maxLen at _hc _hd
  obtain ⟨n', hn'⟩ : ∃ n', n' = min n 500 := ⟨_, rfl⟩
  obtain ⟨m', hm'⟩ : ∃ m', m' = min m 500 := ⟨_, rfl⟩
  have en : (min (n : Int) 500).toNat = n' := by omega
  have em : (min (m : Int) 500).toNat = m' := by omega
  have q1 : (min (n : Int) 500) ≤ c := by omega
  have q2 : (min (m : Int) 500) ≤ d := by omega
  have q3 : 0 ≤ (min (n : Int) 500) := by omega
  have q4 : 0 ≤ (min (m : Int) 500) := by omega
  have la' : (la.take 500).length = n' := by rw [List.length_take]; omega
  have lb' : (lb.take 500).length = m' := by rw [List.length_take]; omega
  have ra0 := ha.take 500
  have rb0 := hb.take 500
  have ba' := take_byte 500 ba
  have bb' := take_byte 500 bb
  clear ha hb ba bb hla hlb
  generalize la.take 500 = A at *
  generalize lb.take 500 = B at *
  have ei := riR_code N n0 n1
  have et := fun r => rt_text 500 A r (by omega)
  have eu := ruR_code M.toNat (by omega)
  have eM : ((M.toNat : Nat) : Int) = M := by omega
  have oi := rowC_one n0 n1 n0' n1' ba' bb' (show M.toNat < 18446744073709551616 by omega) (show M'.toNat < 18446744073709551616 by omega)
  have li := intC_len N n0 n1
  have lt := textC_len A
  have lu := uintC_len M.toNat (by omega)
  have lt0 := textC_pos_len A
  have lu0 := uintC_pos_len M.toNat
  have byP : ∀ x ∈ rowC N A M.toNat, 0 ≤ x ∧ x ≤ 255 := rowC_byte n0 n1 (by omega) ba'
  have GA := Lib.hid (fun w (h : Rd w ao A) => row_gives ao n' c N M A w la' (by omega) h n0 n1 m0 m1)
  have GB := Lib.hid (fun w (h : Rd w bo B) => row_gives bo m' d N' M' B w lb' (by omega) h n0' n1' m0' m1')
  have LP := Lib.hid (le_max (rowC_len n0 n1 (show M.toNat < 18446744073709551616 by omega) (show A.length ≤ 500 by omega)) (by decide))
  have LQ := Lib.hid (le_max (rowC_len n0' n1' (show M'.toNat < 18446744073709551616 by omega) (show B.length ≤ 500 by omega)) (by decide))
  have LA := Lib.hid (le_max (show A.length ≤ 500 by omega) (by decide))
  have LB := Lib.hid (le_max (show B.length ≤ 500 by omega) (by decide))
  have EA := Lib.hid la'
  have EB := Lib.hid lb'
  have RA0 := Lib.hid ra0
  have RB0 := Lib.hid rb0
  have HX : ((N = N' ∧ A = B ∧ M = M') ∧ rowC N A M.toNat = rowC N' B M'.toNat) ∨ (¬ (N = N' ∧ A = B ∧ M = M') ∧ (Lt (rowC N A M.toNat) (rowC N' B M'.toNat) ∨ Lt (rowC N' B M'.toNat) (rowC N A M.toNat))) := by
    rcases oi with ⟨h1, h2, h3⟩ | h | h
    · exact .inl ⟨⟨h1, h2, by omega⟩, by rw [h1, h2, h3]⟩
    · exact .inr ⟨fun ⟨h1, h2, h3⟩ => h.ne (by rw [h1, h2, h3]), .inl h⟩
    · exact .inr ⟨fun ⟨h1, h2, h3⟩ => h.ne (by rw [h1, h2, h3]), .inr h⟩
  have hPu : rowC N A M.toNat = intC N ++ (textC A ++ uintC M.toNat) := by unfold rowC; rw [List.append_assoc]
  have ei2 : riR (rowC N A M.toNat) = some (N, ((intC N).length : Int)) := by rw [hPu]; exact ei _
  have et2 := et (uintC M.toNat)
  have eu2 : ruR (uintC M.toNat) = some (M, ((uintC M.toNat).length : Int)) := by have := eu []; rw [List.append_nil, eM] at this; exact this
  have byT : ∀ x ∈ textC A ++ uintC M.toNat, 0 ≤ x ∧ x ≤ 255 := fun x hx => byP x (by rw [hPu]; exact List.mem_append_right _ hx)
  have byU : ∀ x ∈ uintC M.toNat, 0 ≤ x ∧ x ≤ 255 := fun x hx => byT x (List.mem_append_right _ hx)
  obtain ⟨hone, hpre⟩ := rowC_apart HX
  generalize rowC N A M.toNat = P at *
  generalize rowC N' B M'.toNat = Q at *
  generalize intC N = I at *
  generalize textC A = T at *
  generalize uintC M.toNat = U at *
  obtain ⟨one, h1⟩ : ∃ one : Bool, one = decide (N = N' ∧ A = B ∧ M = M') := ⟨_, rfl⟩
  have HSame : Hid (decide (P = Q) = one) := Lib.hid (by rw [h1]; exact decide_eq_decide.2 hone)
  have Hone := Lib.hid h1
  have Hpre := Lib.hid hpre
  have HPu := Lib.hid hPu
  have HByP := Lib.hid byP
  have HByT := Lib.hid byT
  have HByU := Lib.hid byU
  have Hei := Lib.hid ei2
  have Het := Lib.hid et2
  have Heu := Lib.hid eu2
  have hPlen : P.length = I.length + (T.length + U.length) := by rw [hPu]; simp
  have HPlen := Lib.hid hPlen
  clear hPlen
  clear oi HX hone hpre h1 hPu ei et eu ei2 et2 eu2 byP byT byU
  clear hn' hm' la' lb' ra0 rb0 ba' bb' n0 n1 n0' n1' m0 m1 m0' m1' eM
  go_enter Try.func8, Try.ntmps8
  go_wp2_with fail
  refine (awake_any _).mono ?_
  rintro e w1 ⟨rfl, hB1⟩
  have hs1 := hB1.size
  have a0 := (hB1.cell (p := ⟨w.heap.size, 0, none⟩) (by simp; omega)).trans (show _ = some (Value.int .i64 N) by simp)
  have a1 := (hB1.cell (p := ⟨w.heap.size, 1, none⟩) (by simp; omega)).trans (show _ = some (Value.slice ao n c) by simp)
  have a2 := (hB1.cell (p := ⟨w.heap.size, 2, none⟩) (by simp; omega)).trans (show _ = some (Value.int .u64 M) by simp)
  have b0 := (hB1.cell (p := ⟨w.heap.size + 1, 0, none⟩) (by simp)).trans (show _ = some (Value.int .i64 N') by simp)
  have b1 := (hB1.cell (p := ⟨w.heap.size + 1, 1, none⟩) (by simp)).trans (show _ = some (Value.slice bo m d) by simp)
  have b2 := (hB1.cell (p := ⟨w.heap.size + 1, 2, none⟩) (by simp)).trans (show _ = some (Value.int .u64 M') by simp)
  have fa : w1.frozen? ⟨w.heap.size, 1, none⟩ = false := (hB1.frozen (p := ⟨w.heap.size, 1, none⟩) (by simp; omega)).trans (by simp)
  have fb : w1.frozen? ⟨w.heap.size + 1, 1, none⟩ = false := (hB1.frozen (p := ⟨w.heap.size + 1, 1, none⟩) (by simp)).trans (by simp)
  have hb1 : Below w.heap.size w w1 := (((Below.refl _ _).alloc (Nat.le_refl _) _).alloc (by simp) _).trans (hB1.mono (by simp; omega))
  simp only [World.size_alloc] at hs1
  clear hB1
  go_wp2_with fail
  go_region
  have hbW := ((hb1.setCell (p := ⟨w.heap.size, 1, none⟩) (Nat.le_refl _) (.slice ao n' c)).setCell (p := ⟨w.heap.size + 1, 1, none⟩) (by simp) (.slice bo m' d)).drew
  have sW : w.heap.size + 2 ≤ (((w1.setCell ⟨w.heap.size, 1, none⟩ (.slice ao n' c)).setCell ⟨w.heap.size + 1, 1, none⟩ (.slice bo m' d)).drew).heap.size := by
    show _ ≤ ((w1.setCell ⟨w.heap.size, 1, none⟩ (.slice ao n' c)).setCell ⟨w.heap.size + 1, 1, none⟩ (.slice bo m' d)).heap.size
    simp; omega
  obtain ⟨⟨x0, x1, x2⟩, y0, y1, y2⟩ := two_set (.slice ao n' c) (.slice bo m' d) (by omega : w.heap.size ≠ w.heap.size + 1) a0 a1 a2 b0 b1 b2
  clear a0 a1 a2 b0 b1 b2 fa fb hb1 hs1
  generalize (((w1.setCell ⟨w.heap.size, 1, none⟩ (.slice ao n' c)).setCell ⟨w.heap.size + 1, 1, none⟩ (.slice bo m' d)).drew) = w2 at *
  have a0 := x0
  have a1 := x1
  have a2 := x2
  have b0 := y0
  have b1 := y1
  have b2 := y2
  clear x0 x1 x2 y0 y1 y2
  have RA := Lib.hid (RA0.out.on hbW (Nat.le_refl _))
  have RB := Lib.hid (RB0.out.on hbW (Nat.le_refl _))
  clear RA0 RB0
  go_upto_region 4 with fail
  go_region_held3 (fun w' => w'.cell? ⟨w.heap.size, 0, none⟩ = some (.int .i64 N) ∧ w'.cell? ⟨w.heap.size, 1, none⟩ = some (.slice ao n' c) ∧ w'.cell? ⟨w.heap.size, 2, none⟩ = some (.int .u64 M) ∧ w'.cell? ⟨w.heap.size + 1, 0, none⟩ = some (.int .i64 N') ∧ w'.cell? ⟨w.heap.size + 1, 1, none⟩ = some (.slice bo m' d) ∧ w'.cell? ⟨w.heap.size + 1, 2, none⟩ = some (.int .u64 M'))
    (first | exact ⟨a0, a1, a2, b0, b1, b2⟩ | exact ⟨c0, c1, c2, d0, d1, d2⟩ | exact ⟨e0, e1, e2, f0, f1, f2⟩)
    (first
      | (have hh := RB1; clear hh; go_at_call 27; refine (GB.out _ RB1).mono ?_; rintro e x2 ⟨p2, qc, rfl, ⟨hoq, rq⟩, hX2⟩; obtain ⟨e0, e1, e2, f0, f1, f2⟩ := six_on hX2 z1 c0 c1 c2 d0 d1 d2; have hBX2 : Below w.heap.size w x2 := hBX1.trans (hX2.mono hBX1.size))
      | (go_at_call 27; refine (GA.out _ (RA.out.on (Below.refl _ _).drew (Nat.le_refl _))).mono ?_; rintro e x1 ⟨p1, pc, rfl, ⟨hop, rp⟩, hX1⟩; obtain ⟨c0, c1, c2, d0, d1, d2⟩ := six_on (hX1 : Below w2.heap.size w2.drew x1) sW a0 a1 a2 b0 b1 b2; have z1 : w.heap.size + 2 ≤ x1.heap.size := Nat.le_trans sW hX1.size; have hBX1 : Below w.heap.size w x1 := hbW.drew.trans (hX1.mono hbW.size); have RB1 := (RB.out.on (Below.refl w2.heap.size w2).drew (Nat.le_refl _)).on hX1 (Nat.le_refl _)))
  have hst : St w x2 ao bo (some ⟨p1, 0, none⟩) (some ⟨p2, 0, none⟩) A B P Q n' c m' d N M N' M' :=
    ⟨hBX2, Nat.le_trans z1 hX2.size, e0, e1, e2, f0, f1, f2, ((RA.out.on (Below.refl w2.heap.size w2).drew (Nat.le_refl _)).on hX1 (Nat.le_refl _)).on hX2 (Nat.le_refl _), RB1.on hX2 (Nat.le_refl _), rp.on hX2 (Nat.le_refl _), rq⟩
  have hcp := own_cap hop
  have hcq := own_cap hoq
  unfold maxLen at hcp hcq
  have Hst := Lib.hid hst
  clear hst hop hoq rp rq hX1 hX2 hBX1 hBX2 z1 RB1 RA RB GA GB sW hbW a0 a1 a2 b0 b1 b2 c0 c1 c2 d0 d1 d2 e0 e1 e2 f0 f1 f2
  rename_i hheld
  clear hheld
  go_upto_region 5 with fail
  go_cut [7] from 17 (fun s7 wx => s7 = .bool one ∧ Hid (St w wx ao bo (some ⟨p1, 0, none⟩) (some ⟨p2, 0, none⟩) A B P Q n' c m' d N M N' M'))
  case first =>
    as_aux_lemma =>
      rename_i _ hbig _ _ _ _
      clear hbig
      have a0 := Hst.out.a0
      have a1 := Hst.out.a1
      have a2 := Hst.out.a2
      have b0 := Hst.out.b0
      have b1 := Hst.out.b1
      have b2 := Hst.out.b2
      by_cases hN : N = N'
      · have hN1 : (N == N') = true := by rw [beq_iff_eq]; exact hN
        by_cases hS : A = B
        · have HS := Lib.hid (same_says' (x := true) c d EA.out EB.out LA.out Hst.out.ra Hst.out.rb (decide_eq_true hS))
          have ho : one = (M == M') := by rw [Hone.out, ← beq_of]; simp [hN, hS]
          have Ho := Lib.hid ho
          clear ho hN hS
          go_wp2_with fail
          refine HS.out.mono ?_
          rintro e w3 ⟨rfl, hB3⟩
          have Hst3 := Lib.hid (Hst.out.on hB3)
          have c0 := Hst3.out.a2
          have c1 := Hst3.out.b2
          clear a0 a1 a2 b0 b1 b2 HS hB3
          go_wp2_with fail
          go_meet
          exact ⟨by rw [Ho.out], Hst3⟩
        · have HS := Lib.hid (same_says' (x := false) c d EA.out EB.out LA.out Hst.out.ra Hst.out.rb (decide_eq_false hS))
          have ho : one = false := by rw [Hone.out]; simp [hS]
          have Ho := Lib.hid ho
          clear ho hN hS
          go_wp2_with fail
          refine HS.out.mono ?_
          rintro e w3 ⟨rfl, hB3⟩
          have Hst3 := Lib.hid (Hst.out.on hB3)
          clear a0 a1 a2 b0 b1 b2 HS hB3
          go_wp2_with fail
          go_meet
          exact ⟨by rw [Ho.out], Hst3⟩
      · have hN1 : (N == N') = false := by rw [beq_eq_false_iff_ne]; exact hN
        have ho : one = false := by rw [Hone.out]; simp [hN]
        have Ho := Lib.hid ho
        clear ho hN
        go_wp2_with fail
        go_meet
        exact ⟨by rw [Ho.out], Hst⟩
  case rest =>
    as_aux_lemma =>
      obtain ⟨rfl, Hst⟩ := hcut
      go_upto_region 6 with fail
      go_cut [77] from 17 (fun s77 wy => s77 = .bool false ∧ Hid (St w wy ao bo (some ⟨p1, 0, none⟩) (some ⟨p2, 0, none⟩) A B P Q n' c m' d N M N' M'))
      case first =>
        as_aux_lemma =>
          rename_i _ hbig _ _ _ _
          clear hbig
          by_cases hlen : P.length < Q.length
          · have ht : (Q.take P.length).length = P.length := by rw [List.length_take]; omega
            have HT := Lib.hid ht
            have HS := Lib.hid (same_says' (x := false) pc qc rfl HT.out LP.out Hst.out.rp (Hst.out.rq.take P.length) (decide_eq_false (Hpre.out hlen)))
            clear ht
            go_wp2_with fail
            refine HS.out.mono ?_
            rintro e w3 ⟨rfl, hB3⟩
            have Hst3 := Lib.hid (Hst.out.on hB3)
            have HS3 := Lib.hid (same_says (x := one) pc qc LP.out Hst3.out.rp Hst3.out.rq HSame.out)
            clear HS hB3
            go_wp2_with fail
            refine HS3.out.mono ?_
            rintro e w4 ⟨rfl, hB4⟩
            have Hst4 := Lib.hid (Hst3.out.on hB4)
            clear HS3 hB4
            go_wp2_with fail
            go_meet
            exact ⟨by simp, Hst4⟩
          · have HS3 := Lib.hid (same_says (x := one) pc qc LP.out Hst.out.rp Hst.out.rq HSame.out)
            go_wp2_with fail
            refine HS3.out.mono ?_
            rintro e w4 ⟨rfl, hB4⟩
            have Hst4 := Lib.hid (Hst.out.on hB4)
            clear HS3 hB4
            go_wp2_with fail
            go_meet
            exact ⟨by simp, Hst4⟩
      case rest =>
        as_aux_lemma =>
          obtain ⟨rfl, Hsu⟩ := hcut
          clear Hst
          have Hst := Hsu
          clear Hsu
          have H := ri_any (some ⟨p1, 0, none⟩) P.length pc P _ hcp.1 (by unfold maxLen; exact hcp.2) rfl Hst.out.rp HByP.out
          rw [Hei.out, tri_some] at H
          have H8 := Lib.hid H
          clear H
          have hpl : P.length = I.length + (T.length + U.length) := HPlen.out
          have f1 : ¬ pc = I.length := by omega
          have f2 : P.length - I.length = T.length + U.length := by omega
          have f3 : ¬ pc = I.length + T.length := by omega
          have f4 : P.length - (I.length + T.length) = U.length := by omega
          have f5 : ((I.length : Int) + T.length + U.length == (P.length : Int)) = true := by rw [beq_iff_eq]; omega
          have f6 : (I.length : Int) ≤ P.length := by omega
          have f7 : (I.length : Int) + T.length ≤ P.length := by omega
          have g1 : T.length + U.length ≤ pc - I.length := by omega
          have g2 : pc - I.length ≤ maxLen := by unfold maxLen; omega
          have g3 : U.length ≤ pc - (I.length + T.length) := by omega
          have g4 : pc - (I.length + T.length) ≤ maxLen := by unfold maxLen; omega
          have f8 : (I.length : Int) + T.length + U.length ≤ pc := by omega
          have G1 := Lib.hid g1
          have G2 := Lib.hid g2
          have G3 := Lib.hid g3
          have G4 := Lib.hid g4
          clear hpl g1 g2 g3 g4
          go_wp2_with fail
          refine H8.out.mono ?_
          clear H8
          rintro e w5 ⟨rfl, hB5⟩
          have Hst5 := Lib.hid (Hst.out.on hB5)
          have hr5 : Rd w5 (some ⟨p1, 0, none⟩) (I ++ (T ++ U)) := by have := Hst5.out.rp; rwa [HPu.out] at this
          have hd5 := hr5.drop
          rw [Nat.zero_add] at hd5
          have H11 := Lib.hid (rt_any (some ⟨p1, I.length, none⟩) (T.length + U.length) (pc - I.length) 500 (T ++ U) w5 (by omega) (Nat.le_trans G1.out G2.out) (by simp) hd5 HByT.out)
          rw [Het.out] at H11
          clear hr5 hd5 hB5 Hst
          go_wp2_with fail
          refine H11.out.mono ?_
          clear H11
          rintro e w6 ⟨hB6, ao6, c6, rfl, ho6⟩
          have Hst6 := Lib.hid (Hst5.out.on hB6)
          have Hr6 := Lib.hid (own_slice_rd ho6)
          have hr6 : Rd w6 (some ⟨p1, 0, none⟩) ((I ++ T) ++ U) := by have := Hst6.out.rp; rw [HPu.out] at this; rwa [List.append_assoc]
          have hd6 := hr6.drop
          rw [Nat.zero_add, List.length_append] at hd6
          have h14 := ru_any (some ⟨p1, I.length + T.length, none⟩) U.length (pc - (I.length + T.length)) U w6 G3.out G4.out rfl hd6 HByU.out
          rw [Heu.out, tri_some] at h14
          have H14 := Lib.hid h14
          clear h14 hr6 hd6 hB6 ho6 Hst5
          go_wp2_with fail
          refine H14.out.mono ?_
          clear H14
          rintro e w7 ⟨rfl, hB7⟩
          have Hst7 := Lib.hid (Hst6.out.on hB7)
          have Hr7 := Lib.hid (Hr6.out.on hB7 (Nat.le_refl _))
          have H15 := Lib.hid (same_says' (x := true) c6 c rfl EA.out LA.out Hr7.out Hst7.out.ra (decide_eq_true rfl))
          have a0 := Hst7.out.a0
          have a1 := Hst7.out.a1
          clear hB7 Hst6 Hr6
          go_wp2_with fail
          refine H15.out.mono ?_
          clear H15
          rintro e w8 ⟨rfl, hB8⟩
          have Hst8 := Lib.hid (Hst7.out.on hB8)
          have a2 := Hst8.out.a2
          clear hB8 Hst7 Hr7 a0 a1
          go_wp2_with fail
          go_ret
          exact ⟨by simp, Hst8.out.below⟩
end Go.Proofs.Ytnjapbfnodfgpaa.Rk
