/- span: Drop, walked. -/
import Derived.Test.YtgbhdccadelcfaaS8
namespace Go.Proofs.Ytgbhdccadelcfaa.Sp
open Go Go.RowKit
def DropR (w : World) (B : Nat) (F : Nat → Prop) (p : Nat) (L : SL) (a b : Int) (e : Ending) (w' : World) : Prop :=
  e = .returned (.int .i64 0) ∧ ∃ M : SL, (∀ n, mem M n ↔ mem L n ∧ ¬ (a ≤ n ∧ n ≤ b)) ∧ M.length ≤ L.length + 2 ∧ Did w B F p M w'
def DPlace (L : SL) (a b : Int) (i k : Nat) : Prop :=
  i ≤ k ∧ k ≤ L.length ∧ Canon (dropL L a b i k) ∧ (rest a b (mid L i k)).length ≤ 2 ∧ ∀ n, mem (dropL L a b i k) n ↔ mem L n ∧ ¬ (a ≤ n ∧ n ≤ b)
theorem place_drop {L : SL} (hc : Canon L) (a b : Int) (i k : Nat) (h0 : 0 ≤ a) (hab : a ≤ b) (hb : b ≤ 4294967295) (hi : i ≤ L.length) (i1 : i = 0 ∨ (L.getD (i - 1) (0, 0)).2 < a) (i2 : i = L.length ∨ a ≤ (L.getD i (0, 0)).2)
    (hk : k ≤ L.length) (k1 : k = 0 ∨ (L.getD (k - 1) (0, 0)).1 ≤ b) (k2 : k = L.length ∨ b < (L.getD k (0, 0)).1) : DPlace L a b i k := by
  have e1 := ends_take hc i _ hi i1
  have e2 := ends_drop hc i _ hi i2
  have e3 := begins_take hc k _ hk k1
  have e4 := begins_drop hc k _ hk k2
  have hik := places hc a b i k hi hab e1 e4
  exact ⟨hik, hk, drop_math L a b i k hc h0 hab hb hik e1 e2 e3 e4⟩
theorem drop_len (L : SL) (a b : Int) (i k : Nat) (h : DPlace L a b i k) : (dropL L a b i k).length ≤ L.length + 2 := by
  have := h.2.2.2.1
  have := h.1
  have := h.2.1
  simp [dropL]; omega
theorem rest_bound (a b : Int) (X : SL) : (rest a b X).length ≤ 2 * X.length := by
  induction X with
  | nil => simp [rest]
  | cons t X ih =>
    rw [rest_cons, List.length_append, List.length_cons]
    have : (rest1 a b t).length ≤ 2 := by unfold rest1; split <;> split <;> simp
    omega
theorem rest_next (a b : Int) (X : SL) (j : Nat) (t : Int × Int) (h : X[j]? = some t) : rest a b (X.take (j + 1)) = rest a b (X.take j) ++ rest1 a b t := by
  obtain ⟨hj, e⟩ := List.getElem?_eq_some_iff.1 h
  rw [List.take_succ_eq_append_getElem hj, rest_app, e]
  simp [rest]
/-- What is left, in a row that rises from nil. -/
def DropI (w : World) (X : SL) (a b : Int) (j : Nat) (lv : Value) (wr : World) : Prop :=
  wr.ownsRow w.heap.size 46 2 lv (rest a b (X.take j)).length (fl (rest a b (X.take j))) ∧ Below w.heap.size w wr
theorem news2 (w : World) (x y : Int) : ∀ j u, (fl [(x, y)])[j]? = some u → (w.alloc (.cells #[.int .u32 x, .int .u32 y] 46)).cell? ((⟨w.heap.size, 0, none⟩ : Addr).add j) = some u :=
  World.news_of_block (heap_alloc_new w (.cells #[.int .u32 x, .int .u32 y] 46))
theorem src_own {w : World} {B : Nat} {v lv : Value} {ys : SL} {so : Option Addr} {m sc : Nat} (e : lv = .slice so m sc) (h : w.ownsRow B 46 2 lv ys.length (fl ys)) (hv : ∀ g, v.ownBlock = some g → g < B) : m = ys.length ∧ SrcY w v so m ys := by
  subst e
  rcases h.2 with ⟨h0, h1⟩ | ⟨g, cap, cur, h1, h2, h3, h4, h5, h6, h7⟩
  · simp only [Value.slice.injEq] at h0
    obtain ⟨rfl, rfl, rfl⟩ := h0
    exact ⟨h1.symm, h1, fun h => by omega⟩
  · simp only [Value.slice.injEq] at h1
    obtain ⟨rfl, rfl, rfl⟩ := h1
    refine ⟨rfl, rfl, fun _ => ⟨g, rfl, fun e => by have := hv g e; omega, cur, h3, fun k u hu => ?_⟩⟩
    rw [← h7, List.getElem?_take] at hu
    split at hu
    · simpa using hu
    · cases hu
/-- A row of one's own behind two blocks more; what is to be appended stands in the second. -/
theorem ready2 {w wr : World} {lv : Value} {n : Nat} {xs : List Value} (h : wr.ownsRow w.heap.size 46 2 lv n xs) (hb : Below w.heap.size w wr) (x y u v : Int) :
    ((wr.alloc (.cells #[.int .u32 x, .int .u32 y] 46)).alloc (.cells #[.int .u32 u, .int .u32 v] 46)).ownsRow w.heap.size 46 2 lv n xs ∧
    (∀ j z, (fl [(u, v)])[j]? = some z → ((wr.alloc (.cells #[.int .u32 x, .int .u32 y] 46)).alloc (.cells #[.int .u32 u, .int .u32 v] 46)).cell? ((⟨wr.heap.size + 1, 0, none⟩ : Addr).add j) = some z) ∧
    Below w.heap.size w ((wr.alloc (.cells #[.int .u32 x, .int .u32 y] 46)).alloc (.cells #[.int .u32 u, .int .u32 v] 46)) ∧
    ((wr.alloc (.cells #[.int .u32 x, .int .u32 y] 46)).alloc (.cells #[.int .u32 u, .int .u32 v] 46)).heap[wr.heap.size]? = some (.cells #[.int .u32 x, .int .u32 y] 46 (0, 0)) ∧ lv.ownBlock ≠ some wr.heap.size := by
  have hb1 := hb.alloc hb.size (.cells #[.int .u32 x, .int .u32 y] 46)
  refine ⟨World.ownsRow.alloc (World.ownsRow.alloc h _) _, fun j z hz => ?_, hb1.alloc hb1.size _, ?_, fun e => ?_⟩
  · have := news2 (wr.alloc (.cells #[.int .u32 x, .int .u32 y] 46)) u v j z hz
    rwa [World.size_alloc] at this
  · rw [heap_alloc_old _ _ (by simp), heap_alloc_new]
  · have := (World.ownsRow.lt h _ e).2
    omega
theorem done3 {w W w3 : World} {lv : Value} {n : Nat} {xs : List Value} (h : W.ownsRow w.heap.size 46 2 lv n xs) (hg : W.grownBy w3 lv.ownBlock) (hb : Below w.heap.size w W) : Below w.heap.size w w3 :=
  ⟨hg.os.trans hb.os, hg.tape.trans hb.tape, hg.output.trans hb.output, Nat.le_trans hb.size hg.size, fun j hj => (hg.block j (by have := hb.size; omega) (fun e => by have := (World.ownsRow.lt h j e.symm).1; omega)).trans (hb.block j hj)⟩
theorem ready3 {w W w3 : World} {lv lv3 : Value} {n n3 z : Nat} {xs xs3 : List Value} {x y : Int} (h : W.ownsRow w.heap.size 46 2 lv n xs) (h3 : w3.ownsRow w.heap.size 46 2 lv3 n3 xs3) (hg : W.grownBy w3 lv.ownBlock) (hb : Below w.heap.size w W)
    (hn : W.heap[z]? = some (.cells #[.int .u32 x, .int .u32 y] 46 (0, 0)) ∧ lv.ownBlock ≠ some z) (u v : Int) :
    (w3.alloc (.cells #[.int .u32 u, .int .u32 v] 46)).ownsRow w.heap.size 46 2 lv3 n3 xs3 ∧
    (∀ j z, (fl [(u, v)])[j]? = some z → (w3.alloc (.cells #[.int .u32 u, .int .u32 v] 46)).cell? ((⟨w3.heap.size, 0, none⟩ : Addr).add j) = some z) ∧
    Below w.heap.size w (w3.alloc (.cells #[.int .u32 u, .int .u32 v] 46)) ∧ w3.heap[z]? = some (.cells #[.int .u32 x, .int .u32 y] 46 (0, 0)) := by
  have hb3 := done3 h hg hb
  exact ⟨World.ownsRow.alloc h3 _, news2 w3 u v, hb3.alloc hb3.size _, (hg.block z (Array.getElem?_eq_some_iff.1 hn.1).1 (fun e => hn.2 e.symm)).trans hn.1⟩
theorem near_cells3 {w : World} {z : Nat} {x y : Int} (h : w.heap[z]? = some (.cells #[.int .u32 x, .int .u32 y] 46 (0, 0))) : w.cell? ⟨z, 0, none⟩ = some (.int .u32 x) ∧ w.cell? ⟨z, 1, none⟩ = some (.int .u32 y) := by simp [World.cell?, h]
theorem drop_tail (B p : Nat) (F : Nat → Prop) (v : Value) (L : SL) (a b : Int) (i k : Nat) (so : Option Addr) (m sc : Nat) (w wr : World) (h : SpanAt w B F p v L) (hp : DPlace L a b i k) (hm : (rest a b (mid L i k)).length = m)
    (hown : wr.ownsRow w.heap.size 46 2 (.slice so m sc) m (fl (rest a b (mid L i k)))) (hb : Below w.heap.size w wr) (hL : L.length ≤ 1000) :
    Calls Try.prog 30 #[.pointer (some ⟨p, 0, none⟩), .int .i64 i, .int .i64 k, .slice so m sc] wr fun e w' => e = .returned (.tuple #[]) ∧ Did w B F p (dropL L a b i k) w' := by
  subst hm
  have hs := (src_own (v := v) rfl hown (fun g e => h.hi g (h.fv g e))).2
  refine (put_any B p F v L i k so _ sc _ wr (h.below hb) hp.1 hp.2.1 (by omega) hp.2.2.2.1 hs hp.2.2.1).mono ?_
  rintro e w' ⟨rfl, hd⟩
  exact ⟨rfl, hd.ahead hb⟩
set_option maxRecDepth 100000 in
set_option maxHeartbeats 1000000 in
theorem drop_ok (B p : Nat) (F : Nat → Prop) (v : Value) (L : SL) (a b : Int) (w : World) (h : SpanAt w B F p v L) (h0 : 0 ≤ a) (hab : a ≤ b) (hb : b ≤ 4294967295) (hL : L.length ≤ 1000) :
    Calls Try.prog 11 #[.pointer (some ⟨p, 0, none⟩), .int .u32 a, .int .u32 b] w (DropR w B F p L a b) := by
  obtain ⟨i0, hi0, hz0, hz1, hz2⟩ := info_parts info46
  have H := Lib.hid h
  have HR := Lib.hid h0
  have HZ := Lib.hid (And.intro hi0 (And.intro hz0 (And.intro hz1 hz2)))
  clear h hi0 hz0 hz1 hz2
  go_enter Try.func11, Try.ntmps11
  go_upto_region 5 with (first
    | (go_at_call 25; refine (check_ok p a b w hab).mono ?_; rintro e _ ⟨rfl, rfl⟩)
    | (go_at_call 26; refine (end_any B p v L a w H.out.at_ (by omega)).mono ?_; rintro e w1 ⟨i, rfl, hi, i1, i2, hb1⟩; have HI := Lib.hid (And.intro i1 (And.intro i2 hb1)); clear i1 i2 hb1)
    | (go_at_call 28; refine (begin_any B p v L b w1 (H.out.below HI.out.2.2).at_ (by omega)).mono ?_; rintro e w2 ⟨k, rfl, hk, k1, k2, hb2⟩; have HK := Lib.hid (And.intro k1 (And.intro k2 (HI.out.2.2.trans (hb2.mono HI.out.2.2.size)))); clear k1 k2 hb2))
  have hp := place_drop H.out.can a b i k HR.out hab hb hi HI.out.1 HI.out.2.1 hk HK.out.1 HK.out.2.1
  have hik := hp.1
  have HP := Lib.hid hp
  have hB2 := HK.out.2.2
  have h3 := H.out.below hB2
  have H3 := Lib.hid h3
  have c0 := cell1 h3.at_.1
  obtain ⟨ao, cap, ev, hnc, hno, hcells⟩ := own_slice h3.at_.2
  have HB2 := Lib.hid hB2
  rcases Nat.lt_or_ge i k with hlt | hge
  · obtain ⟨g, rfl, hcells⟩ := hcells (by omega)
    subst ev
    have q1 : (i : Int) ≤ (k : Int) := by omega
    have q2 : (k : Int) ≤ (cap : Int) := by omega
    have hci : ¬ cap = i := by omega
    clear hp hB2 h3 hno hcells
    go_wp2_with fail
    go_loopw [34, 10] (fun u lv wr => ∃ j : Nat, j ≤ k - i ∧ u = .int .i64 j ∧ Hid (DropI w (mid L i k) a b j lv wr)) (fun u _ _ => k - i - (intOf u).toNat)
    case atStart => exact ⟨0, by omega, rfl, Lib.hid ⟨World.ownsRow_nil _ _ _ _, HB2.out⟩⟩
    case round =>
      obtain ⟨j, hj, rfl, HA⟩ := hrel
      by_cases hlt2 : j < k - i
      · obtain ⟨t, ht1, ht2⟩ := mid_at L i k j hlt2 hk
        obtain ⟨d1, d2⟩ := row_at (H.out.below HA.out.2).at_.2 ht2
        rw [show (i + j) * 2 = i * 2 + j * 2 by omega] at d1 d2
        have hN := rest_next a b (mid L i k) j t ht1
        have hT := H.out.can.2 t (List.mem_of_getElem? ht2)
        have hl := rest_bound a b ((mid L i k).take j)
        have hl2 : ((mid L i k).take j).length ≤ 1000 := by rw [List.length_take]; omega
        generalize hrs : rest a b ((mid L i k).take j) = R at hN hl
        have hA := HA.out
        unfold DropI at hA
        rw [hrs] at hA
        have HN := Lib.hid hN
        have HA2 := Lib.hid hA
        have hs0 := hA.2.size
        obtain ⟨t1, t2, t3⟩ := hT
        clear ht1 ht2 hN hrs hA
        by_cases c1 : t.1 < a <;> by_cases c2 : b < t.2
        · have wr1 : IntKind.u32.wrap (a - 1) = a - 1 := by simp [IntKind.wrap, IntKind.bits, IntKind.signed]; omega
          have wr2 : IntKind.u32.wrap (b + 1) = b + 1 := by simp [IntKind.wrap, IntKind.bits, IntKind.signed]; omega
          have hrt : rest1 a b t = [(t.1, a - 1)] ++ [(b + 1, t.2)] := by simp only [rest1, if_pos c1, if_pos c2]
          have HRT := Lib.hid hrt
          have H4 := Lib.hid (ready2 HA2.out.1 HA2.out.2 t.1 t.2 t.1 (a - 1))
          clear hrt
          go_wp2_with (first
            | (at_builtin; refine wpList_append_lies _ rfl (.tmp 42) (.tmp 48) 37 rfl w.heap.size 46 i0 _ 2 8 Try.underlying37 HZ.out.1 HZ.out.2.1 HZ.out.2.2.1 HZ.out.2.2.2 rfl (by decide) _ R.length (fl R) rfl H4.out.1 ⟨wr.heap.size + 1, 0, none⟩ 1 1 (fl [(t.1, a - 1)]) rfl (by rw [fl_len]; rfl) H4.out.2.1 (fl_one _) (by decide) (by unfold maxLen; omega) (by omega) H4.out.2.2.1.size _ rfl ?_; intro g3 c3 w3 hown3 hgrow3 _ _; have H5 := Lib.hid (ready3 H4.out.1 hown3 hgrow3 H4.out.2.2.1 H4.out.2.2.2 (b + 1) t.2); obtain ⟨n1, n2⟩ := near_cells3 H5.out.2.2.2; clear hown3 hgrow3)
            | (at_builtin; refine wpList_append_lies _ rfl (.tmp 54) (.tmp 60) 37 rfl w.heap.size 46 i0 _ 2 8 Try.underlying37 HZ.out.1 HZ.out.2.1 HZ.out.2.2.1 HZ.out.2.2.2 rfl (by decide) _ (R.length + 1) (fl R ++ fl [(t.1, a - 1)]) rfl H5.out.1 ⟨w3.heap.size, 0, none⟩ 1 1 (fl [(b + 1, t.2)]) rfl (by rw [fl_len]; rfl) H5.out.2.1 (fl_one _) (by decide) (by unfold maxLen; omega) (by omega) H5.out.2.2.1.size _ rfl ?_; intro g4 c4 w4 hown4 hgrow4 _ _; have H6 := Lib.hid (And.intro hown4 (done3 H5.out.1 hgrow4 H5.out.2.2.1)); clear hown4 hgrow4))
          refine ⟨⟨j + 1, by omega, rfl, Lib.hid ⟨?_, ?_⟩⟩, by simp [intOf]; omega⟩
          · rw [HN.out, HRT.out, fl_app, fl_app, ← List.append_assoc (fl R), List.length_append, List.length_append, ← Nat.add_assoc]
            exact H6.out.1
          · exact H6.out.2
        · have wr1 : IntKind.u32.wrap (a - 1) = a - 1 := by simp [IntKind.wrap, IntKind.bits, IntKind.signed]; omega
          have hrt : rest1 a b t = [(t.1, a - 1)] := by simp only [rest1, if_pos c1, if_neg c2, List.append_nil]
          have HRT := Lib.hid hrt
          have H4 := Lib.hid (ready2 HA2.out.1 HA2.out.2 t.1 t.2 t.1 (a - 1))
          clear hrt
          go_wp2_with (at_builtin; refine wpList_append_lies _ rfl (.tmp 42) (.tmp 48) 37 rfl w.heap.size 46 i0 _ 2 8 Try.underlying37 HZ.out.1 HZ.out.2.1 HZ.out.2.2.1 HZ.out.2.2.2 rfl (by decide) _ R.length (fl R) rfl H4.out.1 ⟨wr.heap.size + 1, 0, none⟩ 1 1 (fl [(t.1, a - 1)]) rfl (by rw [fl_len]; rfl) H4.out.2.1 (fl_one _) (by decide) (by unfold maxLen; omega) (by omega) H4.out.2.2.1.size _ rfl ?_; intro g3 c3 w3 hown3 hgrow3 _ _; have H5 := Lib.hid (ready3 H4.out.1 hown3 hgrow3 H4.out.2.2.1 H4.out.2.2.2 (b + 1) t.2); have H6 := Lib.hid (And.intro hown3 (done3 H4.out.1 hgrow3 H4.out.2.2.1)); obtain ⟨n1, n2⟩ := near_cells3 H5.out.2.2.2; clear hown3 hgrow3)
          refine ⟨⟨j + 1, by omega, rfl, Lib.hid ⟨?_, ?_⟩⟩, by simp [intOf]; omega⟩
          · rw [HN.out, HRT.out, fl_app, List.length_append]
            exact H6.out.1
          · exact H6.out.2
        · have wr2 : IntKind.u32.wrap (b + 1) = b + 1 := by simp [IntKind.wrap, IntKind.bits, IntKind.signed]; omega
          have hrt : rest1 a b t = [(b + 1, t.2)] := by simp only [rest1, if_neg c1, if_pos c2, List.nil_append]
          have HRT := Lib.hid hrt
          have H4 := Lib.hid (ready2 HA2.out.1 HA2.out.2 t.1 t.2 (b + 1) t.2)
          clear hrt
          go_wp2_with (at_builtin; refine wpList_append_lies _ rfl (.tmp 54) (.tmp 60) 37 rfl w.heap.size 46 i0 _ 2 8 Try.underlying37 HZ.out.1 HZ.out.2.1 HZ.out.2.2.1 HZ.out.2.2.2 rfl (by decide) _ R.length (fl R) rfl H4.out.1 ⟨wr.heap.size + 1, 0, none⟩ 1 1 (fl [(b + 1, t.2)]) rfl (by rw [fl_len]; rfl) H4.out.2.1 (fl_one _) (by decide) (by unfold maxLen; omega) (by omega) H4.out.2.2.1.size _ rfl ?_; intro g3 c3 w3 hown3 hgrow3 _ _; have H6 := Lib.hid (And.intro hown3 (done3 H4.out.1 hgrow3 H4.out.2.2.1)); clear hown3 hgrow3)
          refine ⟨⟨j + 1, by omega, rfl, Lib.hid ⟨?_, ?_⟩⟩, by simp [intOf]; omega⟩
          · rw [HN.out, HRT.out, fl_app, List.length_append]
            exact H6.out.1
          · exact H6.out.2
        · go_wp2_with fail
          refine ⟨⟨j + 1, by omega, rfl, Lib.hid ⟨?_, ?_⟩⟩, by simp [intOf]; omega⟩
          · rw [HN.out]
            simp only [rest1, if_neg c1, if_neg c2, List.append_nil]
            exact World.ownsRow.alloc HA2.out.1 _
          · exact HA2.out.2.alloc HA2.out.2.size _
      · obtain rfl : j = k - i := by omega
        have hA := HA.out
        unfold DropI at hA
        rw [List.take_of_length_le (by rw [mid_len L i k hk]; omega)] at hA
        obtain ⟨so, sc, ev, _⟩ := own_slice hA.1
        subst ev
        have HA2 := Lib.hid hA
        generalize hm : (rest a b (mid L i k)).length = m
        clear hA
        go_wp2_with fail
        refine (drop_tail B p F _ L a b i k so m sc w wr H.out HP.out hm (by rw [← hm]; exact HA2.out.1) HA2.out.2 hL).mono ?_
        rintro e w6 ⟨rfl, hd⟩
        have HD := Lib.hid hd
        clear hd
        go_wp2_with fail
        go_ret
        exact ⟨rfl, _, HP.out.2.2.2.2, drop_len L a b i k HP.out, HD.out⟩
  · obtain rfl : i = k := by omega
    subst ev
    have q2 : (i : Int) ≤ (cap : Int) := by omega
    have hm0 : (rest a b (mid L i i)).length = 0 := by simp [mid, rest]
    clear hp hB2 h3 hno hcells
    by_cases hci : cap = i
    all_goals
      go_wp2_with fail
      go_loopw [34, 10] (fun u lv wr => u = .int .i64 0 ∧ lv = .slice none 0 0 ∧ Hid (Below w.heap.size w wr)) (fun _ _ _ => 0)
      case atStart => exact ⟨rfl, rfl, Lib.hid HB2.out⟩
      case round =>
        obtain ⟨rfl, rfl, HA⟩ := hrel
        have HT := Lib.hid (drop_tail B p F _ L a b i i none 0 0 w wr H.out HP.out hm0 (by rw [List.eq_nil_of_length_eq_zero hm0]; exact World.ownsRow_nil _ _ _ _) HA.out hL)
        clear hm0
        go_wp2_with fail
        refine HT.out.mono ?_
        rintro e w6 ⟨rfl, hd⟩
        have HD := Lib.hid hd
        clear hd
        go_wp2_with fail
        go_ret
        exact ⟨rfl, _, HP.out.2.2.2.2, drop_len L a b i i HP.out, HD.out⟩
end Go.Proofs.Ytgbhdccadelcfaa.Sp
