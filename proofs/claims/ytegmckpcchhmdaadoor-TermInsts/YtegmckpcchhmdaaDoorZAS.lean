/- TermWords: its walk. -/
import Derived.Test.YtegmckpcchhmdaaDoorZAF
import Derived.Test.YtegmckpcchhmdaaDoorZAR
set_option linter.unusedVariables false
set_option linter.unusedSimpArgs false

/- The writer: a list, out of its terms. -/
namespace Go.Proofs.YtegmckpcchhmdaaDoor
open Go Go.RowKit
def ltext (l : List Tm) : List UInt8 := joinT (l.map Tm.text)
theorem ltext_more {l : List Tm} {i : Nat} (h : i < l.length) : ltext (l.take (i + 1)) = ltext (l.take i) ++ ((if i = 0 then [] else [32]) ++ l[i].text) := by
  unfold ltext
  rw [take_more h, List.map_append, List.map_cons, List.map_nil, joinT_snoc]
  by_cases h0 : i = 0
  · subst h0; simp
  · have : ¬ (List.map Tm.text (List.take i l) = []) := by
      intro e
      have := congrArg List.length e
      simp only [List.length_map, List.length_take, List.length_nil] at this
      omega
    rw [if_neg this, if_neg h0]
theorem ltext_le {l : List Tm} {i : Nat} (h : i ≤ l.length) : (ltext (l.take i)).length ≤ (ltext l).length := by
  obtain ⟨j, hj⟩ : ∃ j, i + j = l.length := ⟨l.length - i, by omega⟩
  induction j generalizing i with
  | zero => rw [List.take_of_length_le (by omega)]; exact Nat.le_refl _
  | succ j ih =>
    have h1 := ih (i := i + 1) (by omega) (by omega)
    rw [ltext_more (by omega)] at h1
    simp only [List.length_append] at h1
    omega
def WrTermC (d : Nat) : Prop := ∀ (B r : Nat) (w : World) (b o : Nat) (t : Tm) (k : Nat) (x : List UInt8), TmAt w B d b o t → RL w → WB w B r x → k + d ≤ 65536 → x.length + t.text.length ≤ 2147483647 →
    Calls Tryd.prog 29 #[.pointer (some ⟨r, 0, none⟩), .pointer (some ⟨b, o, none⟩), .int .i64 k] w (TP B r (x ++ t.text) w)
def WListC (d : Nat) : Prop := ∀ (B r : Nat) (w : World) (a : Option Addr) (n c : Nat) (l : List Tm) (k : Nat) (x : List UInt8), Row B a n c 7 (TR w B d l) → n = l.length → 0 < B → RL w → WB w B r x → k + d ≤ 65536 → x.length + (ltext l).length ≤ 2147483647 →
    Calls Tryd.prog 46 #[.pointer (some ⟨r, 0, none⟩), .slice a n c, .int .i64 k] w (TP B r (x ++ ltext l) w)
theorem WB.cells {w : World} {B r : Nat} {x : List UInt8} (h : WB w B r x) : r < w.heap.size ∧ w.cell? ⟨r, 2, none⟩ = some (.bool false) ∧ w.frozen? ⟨r, 2, none⟩ = false := by
  obtain ⟨_, p, v, _, h, _⟩ := h
  obtain ⟨h1, h2, h3⟩ := blk h
  exact ⟨h1, h2 2 _ rfl, h3 2⟩
theorem WB.set2 {w : World} {B r : Nat} {x : List UInt8} (h : WB w B r x) : WB (w.setCell ⟨r, 2, none⟩ (.bool false)) B r x := by
  obtain ⟨h1, p, v, hp, h2, h3, h4⟩ := h
  refine ⟨h1, p, v, hp, set_block (o := 2) h2 (.bool false), own_same h3 fun k hk => Below.heap_setCell w ⟨r, 2, none⟩ _ k fun e => ?_, h4⟩
  subst e
  exact Lib.ownBlock_ne h3 h2 (by decide) hk
set_option maxRecDepth 1000000 in
set_option maxHeartbeats 16000000 in
theorem wlist_of {d : Nat} (ht : WrTermC d) : WListC d := by
  intro B r w a n c l k x hRow hn hB0 hR hW hk hx
  have HT := hide ht
  have hBr := hW.1
  obtain ⟨hr, m2, mf⟩ := hW.cells
  have hmax : n ≤ 281474976710656 := by have := hRow.1; have := hRow.2.1; omega
  have HRow := hide hRow
  have HN := hide hn
  have HX := hide hx
  have HK := hide hk
  have dk : decide ((65536 : Int) < (k : Int)) = false := by simp; omega
  have HW2 := hide hW.set2
  have HF2 := hide ((WF.refl B r w).set hBr 2 (.bool false))
  have HR := hide hR
  clear ht hRow hn hx hk hW hR
  go_enter Tryd.func46, Tryd.ntmps46
  go_wp2
  go_loopw [20] (fun iv wr => ∃ i : Nat, i ≤ n ∧ iv = .int .i64 (i : Int) ∧ WB wr B r (x ++ ltext (l.take i)) ∧ WF B r w wr) (fun iv _ => (n - (intOf iv).toNat))
  case atStart => exact ⟨0, Nat.zero_le _, rfl, by simpa [ltext, joinT] using unhide HW2, unhide HF2⟩
  case round =>
    obtain ⟨i, hi, rfl, hWi, hFi⟩ := hrel
    by_cases hlt : i < n
    · have h1 : i < l.length := by have := unhide HN; omega
      have hd1 : decide ((i : Int) < (n : Int)) = true := by simp; omega
      have hXi : (i : Int) < (n : Int) := by omega
      have hcap : (i : Int) < 281474976710656 := by omega
      have hmore := ltext_more h1
      have hle := ltext_le (l := l) (i := i + 1) (by omega)
      have hle0 := ltext_le (l := l) (i := i) (by omega)
      rw [hmore] at hle
      simp only [List.length_append] at hle
      obtain ⟨hri, n2, nf⟩ := hWi.cells
      obtain ⟨y, hy⟩ : ∃ y, x ++ ltext (l.take i) = y := ⟨_, rfl⟩
      have hyl : y.length = x.length + (ltext (l.take i)).length := by rw [← hy, List.length_append]
      rw [hy] at hWi
      have hlen : decide ((2147483647 : Int) < (y.length : Int)) = false := by have := unhide HX; simp; omega
      obtain ⟨b, off, rfl, hbB, hj⟩ := (unhide HRow).2.2 (by omega)
      have hbel : Below B w wr := hFi.below (by omega)
      have hA := (hj i hlt _ (List.getElem?_eq_getElem h1)).more hbel (Nat.le_refl _) (Nat.le_refl _)
      have HA := hide hA
      have HWi := hide hWi
      have HFi := hide hFi
      have HLen := hide (wlen_any B r y wr hWi)
      have HM := hide (And.intro hmore (And.intro hle (And.intro hy hyl)))
      have HRi := hide ((unhide HR).below hbel hB0)
      clear hj hA hWi hFi hmore hle hle0 hy hyl hbel
      by_cases h0 : i = 0
      · subst h0
        go_wp2_with fail
        refine (unhide HLen).mono ?_
        rintro e w' ⟨rfl, rfl⟩
        go_wp2_with fail
        obtain ⟨hmore, hle, hy, hyl⟩ := unhide HM
        refine (unhide HT B r _ b (off + 0 * 7) l[0] k y (unhide HA) (unhide HRi) (unhide HWi) (unhide HK) (by have := unhide HX; rw [if_pos trivial] at hle; simp only [List.length_nil] at hle; omega)).mono ?_
        rintro e w4 ⟨rfl, h4, h5⟩
        have H4 := hide (And.intro h4 h5)
        clear h4 h5
        have HM2 := hide (And.intro hmore hy)
        clear hmore hle hy hyl
        go_wp2
        refine ⟨⟨1, by omega, rfl, ?_, (unhide HFi).trans (unhide H4).2⟩, by simp only [intOf]; omega⟩
        rw [(unhide HM2).1]
        have := (unhide H4).1
        rw [← (unhide HM2).2] at this
        simpa using this
      · have hposN : 0 < i := by omega
        have H0 := hide h0
        clear h0
        go_wp2_with fail
        refine (unhide HLen).mono ?_
        rintro e w' ⟨rfl, rfl⟩
        go_wp2_with fail
        have hB32 := wbyte_any B r y 32 _ (unhide HWi) (by have := (unhide HM).2.2.2; have := unhide HX; have := (unhide HM).2.1; omega)
        refine hB32.mono ?_
        rintro e w3 ⟨rfl, h3, h3f⟩
        have hA3 := (unhide HA).more (h3f.below (by have := (unhide HFi).size; omega)) (Nat.le_refl _) (Nat.le_refl _)
        have hR3 := (unhide HRi).below (h3f.below (by have := (unhide HFi).size; omega)) hB0
        have H3 := hide (And.intro h3 (And.intro h3f (And.intro hA3 hR3)))
        clear h3 h3f hB32 hA3 hR3
        go_wp2_with fail
        obtain ⟨hmore, hle, hy, hyl⟩ := unhide HM
        rw [if_neg (unhide H0)] at hle hmore
        refine (unhide HT B r _ b (off + i * 7) l[i] k (y ++ [32]) (unhide H3).2.2.1 (unhide H3).2.2.2 (unhide H3).1 (unhide HK) (by have := unhide HX; simp only [List.length_append, List.length_cons, List.length_nil] at *; omega)).mono ?_
        rintro e w4 ⟨rfl, h4, h5⟩
        have H4 := hide (And.intro h4 h5)
        clear h4 h5
        have HM2 := hide (And.intro hmore hy)
        clear hmore hle hy hyl
        go_wp2
        refine ⟨⟨i + 1, by omega, rfl, ?_, (unhide HFi).trans ((unhide H3).2.1.trans (unhide H4).2)⟩, by simp only [intOf]; omega⟩
        rw [(unhide HM2).1]
        have := (unhide H4).1
        rw [← (unhide HM2).2] at this
        simpa only [List.append_assoc] using this
    · have hin : i = n := by omega
      have hd1 : decide ((i : Int) < (n : Int)) = false := by simp; omega
      have hall : x ++ ltext (l.take i) = x ++ ltext l := by rw [List.take_of_length_le (by have := unhide HN; omega)]
      rw [hall] at hWi
      have HF := hide (And.intro hWi hFi)
      clear hall hWi hFi hin
      go_wp2
      go_end0
      exact ⟨rfl, (unhide HF).1, (unhide HF).2⟩
end Go.Proofs.YtegmckpcchhmdaaDoor

/- The writer: a TAll. -/
namespace Go.Proofs.YtegmckpcchhmdaaDoor
open Go Go.RowKit
def vtext (l : List (ByteArray × Int)) : List UInt8 := joinT (l.map varT)
theorem vtext_more {l : List (ByteArray × Int)} {i : Nat} (h : i < l.length) : vtext (l.take (i + 1)) = vtext (l.take i) ++ ((if i = 0 then [] else [32]) ++ varT l[i]) := by
  unfold vtext
  rw [take_more h, List.map_append, List.map_cons, List.map_nil, joinT_snoc]
  by_cases h0 : i = 0
  · subst h0; simp
  · have : ¬ (List.map varT (List.take i l) = []) := by
      intro e
      have := congrArg List.length e
      simp only [List.length_map, List.length_take, List.length_nil] at this
      omega
    rw [if_neg this, if_neg h0]
theorem vtext_le {l : List (ByteArray × Int)} {i : Nat} (h : i ≤ l.length) : (vtext (l.take i)).length ≤ (vtext l).length := by
  obtain ⟨j, hj⟩ : ∃ j, i + j = l.length := ⟨l.length - i, by omega⟩
  induction j generalizing i with
  | zero => rw [List.take_of_length_le (by omega)]; exact Nat.le_refl _
  | succ j ih =>
    have h1 := ih (i := i + 1) (by omega) (by omega)
    rw [vtext_more (by omega)] at h1
    simp only [List.length_append] at h1
    omega
theorem sortT_eq (x : Int) : sortT x = (sortW x).data.toList := by
  unfold sortT sortW
  split
  · rfl
  · split
    · rfl
    · split <;> rfl
theorem sortW_size (x : Int) : (sortW x).size ≤ 4 := by
  unfold sortW
  split
  · decide
  · split
    · decide
    · split <;> decide
theorem keep_wf {B r : Nat} {w w' : World} (h : WF B r w w') {q : Nat} {cs : Array Value} {ty : TypeId} (hx : w.heap[q]? = some (.cells cs ty)) (hq : q ≠ r) (ht : ty ≠ 5) : w'.heap[q]? = some (.cells cs ty) := h.blk hx hq ht
theorem WB.alloc {w : World} {B r : Nat} {x : List UInt8} (h : WB w B r x) (o : Obj) : WB (w.alloc o) B r x := h.below ((Below.refl w.heap.size w).alloc (Nat.le_refl _) o) (Nat.le_refl _)
/-- Behind the bound variables: their part of the text. -/
def allTail (vars : List (ByteArray × Int)) (jp jl : List UInt8) : List UInt8 := [41, 32, 40, 112, 97, 116, 116, 101, 114, 110, 32] ++ (jp ++ ([41, 32] ++ (jl ++ [41])))
def allText (vars : List (ByteArray × Int)) (jp jl : List UInt8) : List UInt8 := [40, 102, 111, 114, 97, 108, 108, 32, 40] ++ (vtext vars ++ allTail vars jp jl)
set_option maxRecDepth 1000000 in
set_option maxHeartbeats 16000000 in
theorem wall_of {d : Nat} (hl : WListC d) {B r : Nat} {w : World} {b o : Nat} {t : Tm} {k : Nat} {x : List UInt8} (hT : TmAt w B (d + 1) b o t) (hR : RL w) (hW : WB w B r x) (hk : k + (d + 1) ≤ 65536) (hx : x.length + (allText t.vars (ltext t.pat) (ltext t.l)).length ≤ 2147483647) :
    Calls Tryd.prog 42 #[.pointer (some ⟨r, 0, none⟩), .agg #[.pointer (some ⟨b, o, none⟩)], .int .i64 k] w (TP B r (x ++ allText t.vars (ltext t.pat) (ltext t.l)) w) := by
  have HL := hide hl
  have hBr := hW.1
  have hrw := hW.lt
  obtain ⟨hb, _, _, aL, aV, aP, cL, cV, cP, hrg, hL, hV, hP, _⟩ := hT
  have hbw : b < w.heap.size := by omega
  have hB0 : 0 < B := by omega
  have HG := hide hrg
  have HRows := hide (And.intro hL (And.intro hV hP))
  have HR := hide hR
  have HW := hide hW
  have hvmax : t.vars.length ≤ 281474976710656 := by have := hV.1; have := hV.2.1; omega
  have HXL : Hid (x.length + 9 + (vtext t.vars).length + 11 + (ltext t.pat).length + 2 + (ltext t.l).length + 1 ≤ 2147483647) := by
    unfold allText allTail at hx
    simp only [List.length_append, List.length_cons, List.length_nil] at hx
    show _ ≤ _
    omega
  obtain ⟨nv, hnv⟩ : ∃ n, t.vars.length = n := ⟨_, rfl⟩
  have HNV := hide hnv
  rw [hnv] at hvmax
  clear hl hrg hL hV hP hR hW hx hnv
  go_enter Tryd.func42, Tryd.ntmps42
  go_wp2_with fail
  obtain ⟨w1, e1, hb1, hs1, hc1, hh1⟩ := box_new w #[.pointer (some ⟨b, o, none⟩)] 82
  rw [e1]
  have hw1 := wstr_any B r x ⟨#[40, 102, 111, 114, 97, 108, 108, 32, 40]⟩ w1 ((unhide HW).below hb1 (Nat.le_refl _)) (by have := unhide HXL; show x.length + 9 ≤ _; omega)
  refine hw1.mono ?_
  rintro e w2 ⟨rfl, h2, h2f⟩
  have hqr : w.heap.size ≠ r := by omega
  have hq2 := keep_wf h2f hh1 hqr (by decide)
  have hF2 : WF B r w w2 := (WF.of hb1 (Nat.le_refl _)).trans h2f
  have hbel2 : Below B w w2 := hF2.below (by omega)
  have q2 : w2.cell? ⟨w.heap.size, 0, none⟩ = some (.pointer (some ⟨b, o, none⟩)) := (blk hq2).2.1 0 _ rfl
  have c5 : w2.cell? ⟨b, o + 5, none⟩ = some (.slice aV nv cV) := by
    rw [← unhide HNV]
    exact (hbel2.cell (p := ⟨b, o + 5, none⟩) hb).trans ((unhide HG) 5 _ rfl)
  have H2 := hide (And.intro h2 (And.intro hF2 hq2))
  clear h2 h2f hF2 hq2 hbel2 hw1 e1 hb1 hs1 hc1 hh1
  go_wp2
  go_loopw [19] (fun iv wr => ∃ i : Nat, i ≤ nv ∧ iv = .int .i64 (i : Int) ∧ WB wr B r (x ++ ([40, 102, 111, 114, 97, 108, 108, 32, 40] ++ vtext (t.vars.take i))) ∧ WF B r w wr ∧ wr.heap[w.heap.size]? = some (.cells #[.pointer (some ⟨b, o, none⟩)] 82)) (fun iv _ => (nv - (intOf iv).toNat))
  case atStart => exact ⟨0, Nat.zero_le _, rfl, by simpa [vtext, joinT] using (unhide H2).1, (unhide H2).2⟩
  case round =>
    obtain ⟨i, hi, rfl, hWi, hFi, hqi⟩ := hrel
    by_cases hlt : i < nv
    · have h1 : i < t.vars.length := by have := unhide HNV; omega
      have hd1 : decide ((i : Int) < (nv : Int)) = true := by simp; omega
      have hXi : (i : Int) < (nv : Int) := by omega
      have hcap : (i : Int) < 281474976710656 := by omega
      have hmore := vtext_more h1
      have hle := vtext_le (l := t.vars) (i := i + 1) (by omega)
      rw [hmore] at hle
      simp only [List.length_append] at hle
      obtain ⟨y, hy⟩ : ∃ y, x ++ ([40, 102, 111, 114, 97, 108, 108, 32, 40] ++ vtext (t.vars.take i)) = y := ⟨_, rfl⟩
      have hyl : y.length = x.length + (9 + (vtext (t.vars.take i)).length) := by rw [← hy, List.length_append, List.length_append]; rfl
      rw [hy] at hWi
      obtain ⟨bv, ov, rfl, hbvB, hj⟩ := (unhide HRows).2.1.2.2 (by omega)
      have hbel : Below B w wr := hFi.below (by omega)
      obtain ⟨rg, hfit⟩ := hj i (by omega) _ (List.getElem?_eq_getElem h1)
      generalize hu : t.vars[i] = u at *
      obtain ⟨u1, u2⟩ := u
      have p0 : wr.cell? ⟨bv, ov + i * 2, none⟩ = some (.string u1) := (hbel.cell (p := ⟨bv, ov + i * 2, none⟩) hbvB).trans (rg 0 _ rfl)
      have p1 : wr.cell? ⟨bv, ov + i * 2 + 1, none⟩ = some (.int .i64 u2) := (hbel.cell (p := ⟨bv, ov + i * 2 + 1, none⟩) hbvB).trans (rg 1 _ rfl)
      have hbv : bv < wr.heap.size := by have := hFi.size; omega
      have hvt : varT (u1, u2) = (u1 ++ (⟨#[32]⟩ : ByteArray) ++ sortW u2).data.toList := by
        unfold varT
        rw [sortT_eq]
        simp [ByteArray.data_append]
      have hvl : (varT (u1, u2)).length = (u1 ++ (⟨#[32]⟩ : ByteArray) ++ sortW u2).size := by rw [hvt]; rfl
      have hus : u1.size + 1 + (sortW u2).size = (varT (u1, u2)).length := by
        rw [hvl, ByteArray.size_append, ByteArray.size_append]
        rfl
      have hsz : u1.size ≤ 2147483647 := by have := unhide HXL; omega
      have hsz2 : (u1 ++ (⟨#[32]⟩ : ByteArray)).size ≤ 2147483648 := by rw [ByteArray.size_append]; show u1.size + 1 ≤ _; omega
      have hsw := sortW_size u2
      have f1 : (9223372036854775807 ≤ u1.size) = False := by simp; omega
      have f2 : (9223372036854775807 < u1.size + 1) = False := by simp; omega
      have f3 : (9223372036854775807 < u1.size + 1 + (sortW u2).size) = False := by simp; omega
      have HSz := hide (And.intro hsz (And.intro hsz2 hsw))
      clear hsz hsz2 hsw
      have HM := hide (And.intro hmore (And.intro hle (And.intro hy (And.intro hyl (And.intro hvt hvl)))))
      have HI := hide (And.intro hWi (And.intro hFi hqi))
      clear hj rg hfit hu hmore hle hy hyl hvt hvl hWi hFi hqi hbel hus
      obtain ⟨V, eV, hbV, hsV, hcV, hhV⟩ := box_new wr #[.string u1, .int .i64 u2] 36
      have hvr : wr.heap.size ≠ r := by have := (unhide HI).1.lt; omega
      have HVV := hide (And.intro hbV hhV)
      have HWV := hide ((unhide HI).1.below hbV (Nat.le_refl _))
      have HFV : Hid (WF B r w V) := (unhide HI).2.1.trans (WF.of hbV (Nat.le_refl _))
      have hqlt : w.heap.size ≠ r := by omega
      have HQV := hide ((hbV.block w.heap.size (Array.getElem?_eq_some_iff.1 (unhide HI).2.2).1).trans (unhide HI).2.2)
      clear hsV hcV hhV hbV
      by_cases h0 : i = 0
      · have hd0 : decide (0 < i) = false := by simp [h0]
        have H0 := hide h0
        clear h0
        go_wp2
        clear eV
        have HSv : Hid (∀ w', WF B r V w' → (w'.cell? ⟨wr.heap.size, 0, none⟩ = some (.string u1) ∧ w'.cell? ⟨wr.heap.size, 1, none⟩ = some (.int .i64 u2))) := fun w' h => ⟨(blk (keep_wf h (unhide HVV).2 hvr (by decide))).2.1 0 _ rfl, (blk (keep_wf h (unhide HVV).2 hvr (by decide))).2.1 1 _ rfl⟩
        obtain ⟨v0, v1⟩ := unhide HSv _ (WF.refl B r V)
        have HStr := hide (wstr_any B r y (u1 ++ (⟨#[32]⟩ : ByteArray) ++ sortW u2) V.drew (show WB V.drew B r y from (unhide HWV)) (by have := (unhide HM).2.2.2.1; have := (unhide HM).2.1; have := (unhide HM).2.2.2.2.2; have := unhide HXL;  omega))
        go_region_held3 (fun w' => w'.cell? ⟨wr.heap.size, 0, none⟩ = some (.string u1) ∧ w'.cell? ⟨wr.heap.size, 1, none⟩ = some (.int .i64 u2)) (first | exact unhide HSv _ (unhide H8).2 | exact unhide HSv _ (WF.of (keep0 _) (Nat.le_refl _)) | go_keep) (first | (go_at_call 63; refine (sortWord_any u2 _).mono ?_; rintro e w' ⟨rfl, rfl⟩) | (go_at_call 44; refine (unhide HStr).mono ?_; rintro e w8 ⟨rfl, h8⟩; have H8 : Hid (WB w8 B r (y ++ (u1 ++ (⟨#[32]⟩ : ByteArray) ++ sortW u2).data.toList) ∧ WF B r V w8) := ⟨h8.1, (WF.of (keep0 _) (Nat.le_refl _)).trans h8.2⟩; clear h8))
        clear HSv HStr v0 v1
        go_wp2
        obtain ⟨hmore, hle, hy, hyl, hvt, hvl⟩ := unhide HM
        refine ⟨⟨i + 1, by omega, rfl, ?_, (unhide HFV).trans (unhide H8).2, keep_wf (unhide H8).2 (unhide HQV) hqlt (by decide)⟩, by simp only [intOf]; omega⟩
        rw [hmore, if_pos (unhide H0), hvt]
        have := (unhide H8).1
        rw [← hy] at this
        simpa only [List.append_assoc, List.nil_append] using this
      · have hposN : 0 < i := by omega
        have H0 := hide h0
        clear h0
        go_wp2_with fail
        have hB32 := wbyte_any B r y 32 V (unhide HWV) (by have := (unhide HM).2.2.2.1; have := (unhide HM).2.1; have := unhide HXL; omega)
        refine hB32.mono ?_
        rintro e w7 ⟨rfl, h7, h7f⟩
        have HV7 := hide (keep_wf h7f (unhide HVV).2 hvr (by decide))
        have HQ7 := hide (keep_wf h7f (unhide HQV) hqlt (by decide))
        have HF7 := hide ((unhide HFV).trans h7f)
        have H7 := hide h7
        clear h7 h7f hB32 eV
        go_wp2
        have HSv : Hid (∀ w', WF B r w7 w' → (w'.cell? ⟨wr.heap.size, 0, none⟩ = some (.string u1) ∧ w'.cell? ⟨wr.heap.size, 1, none⟩ = some (.int .i64 u2))) := fun w' h => ⟨(blk (keep_wf h (unhide HV7) hvr (by decide))).2.1 0 _ rfl, (blk (keep_wf h (unhide HV7) hvr (by decide))).2.1 1 _ rfl⟩
        obtain ⟨v0, v1⟩ := unhide HSv _ (WF.refl B r w7)
        have HStr := hide (wstr_any B r (y ++ [32]) (u1 ++ (⟨#[32]⟩ : ByteArray) ++ sortW u2) w7.drew (show WB w7.drew B r (y ++ [32]) from (unhide H7)) (by have := (unhide HM).2.2.2.1; have := (unhide HM).2.1; have := (unhide HM).2.2.2.2.2; have := unhide HXL; rw [if_neg (unhide H0)] at *; simp only [List.length_append, List.length_cons, List.length_nil] at *; omega))
        go_region_held3 (fun w' => w'.cell? ⟨wr.heap.size, 0, none⟩ = some (.string u1) ∧ w'.cell? ⟨wr.heap.size, 1, none⟩ = some (.int .i64 u2)) (first | exact unhide HSv _ (unhide H8).2 | exact unhide HSv _ (WF.of (keep0 _) (Nat.le_refl _)) | go_keep) (first | (go_at_call 63; refine (sortWord_any u2 _).mono ?_; rintro e w' ⟨rfl, rfl⟩) | (go_at_call 44; refine (unhide HStr).mono ?_; rintro e w8 ⟨rfl, h8⟩; have H8 : Hid (WB w8 B r ((y ++ [32]) ++ (u1 ++ (⟨#[32]⟩ : ByteArray) ++ sortW u2).data.toList) ∧ WF B r w7 w8) := ⟨h8.1, (WF.of (keep0 _) (Nat.le_refl _)).trans h8.2⟩; clear h8))
        clear HSv HStr v0 v1
        go_wp2
        obtain ⟨hmore, hle, hy, hyl, hvt, hvl⟩ := unhide HM
        refine ⟨⟨i + 1, by omega, rfl, ?_, (unhide HF7).trans (unhide H8).2, keep_wf (unhide H8).2 (unhide HQ7) hqlt (by decide)⟩, by simp only [intOf]; omega⟩
        rw [hmore, if_neg (unhide H0), hvt]
        have := (unhide H8).1
        rw [← hy] at this
        simpa only [List.append_assoc, List.nil_append] using this
    · have hin : i = nv := by omega
      have hd1 : decide ((i : Int) < (nv : Int)) = false := by simp; omega
      have hall : vtext (t.vars.take i) = vtext t.vars := by rw [List.take_of_length_le (by have := unhide HNV; omega)]
      rw [hall] at hWi
      obtain ⟨y, hy⟩ : ∃ y, x ++ ([40, 102, 111, 114, 97, 108, 108, 32, 40] ++ vtext t.vars) = y := ⟨_, rfl⟩
      have hyl : y.length = x.length + (9 + (vtext t.vars).length) := by rw [← hy, List.length_append, List.length_append]; rfl
      rw [hy] at hWi
      have HY := hide (And.intro hy hyl)
      have HI := hide (And.intro hWi (And.intro hFi hqi))
      have hqlt : w.heap.size ≠ r := by omega
      clear hall hWi hFi hqi hin hy hyl H2 c5 q2
      go_wp2_with fail
      have h3 := wstr_any B r y ⟨#[41, 32, 40, 112, 97, 116, 116, 101, 114, 110, 32]⟩ wr (unhide HI).1 (by have := (unhide HY).2; have := unhide HXL; show y.length + 11 ≤ _; omega)
      refine h3.mono ?_
      rintro e w3 ⟨rfl, g3, g3f⟩
      have hq3 := keep_wf g3f (unhide HI).2.2 hqlt (by decide)
      have hF3 := (unhide HI).2.1.trans g3f
      have hbel3 : Below B w w3 := hF3.below (by omega)
      have q3 : w3.cell? ⟨w.heap.size, 0, none⟩ = some (.pointer (some ⟨b, o, none⟩)) := (blk hq3).2.1 0 _ rfl
      have c6 : w3.cell? ⟨b, o + 6, none⟩ = some (.slice aP t.pat.length cP) := (hbel3.cell (p := ⟨b, o + 6, none⟩) hb).trans ((unhide HG) 6 _ rfl)
      have HP := hide (unhide HL B r w3 aP t.pat.length cP t.pat (k + 1) (y ++ [41, 32, 40, 112, 97, 116, 116, 101, 114, 110, 32]) ((unhide HRows).2.2.below hbel3) rfl hB0 ((unhide HR).below hbel3 hB0) g3 (by omega) (by have := (unhide HY).2; have := unhide HXL; simp only [List.length_append, List.length_cons, List.length_nil]; omega))
      rw [show ((k + 1 : Nat) : Int) = (k : Int) + 1 by omega] at HP
      have H3 := hide (And.intro hq3 hF3)
      clear h3 g3 g3f hq3 hF3 hbel3
      go_wp2_with fail
      refine (unhide HP).mono ?_
      rintro e w4 ⟨rfl, g4, g4f⟩
      have hq4 := keep_wf g4f (unhide H3).1 hqlt (by decide)
      have hF4 := (unhide H3).2.trans g4f
      have H4 := hide (And.intro g4 (And.intro hq4 hF4))
      clear g4 g4f hq4 hF4 HP c6 q3
      go_wp2_with fail
      have h5 := wstr_any B r _ ⟨#[41, 32]⟩ w4 (unhide H4).1 (by have := (unhide HY).2; have := unhide HXL; simp only [List.length_append, List.length_cons, List.length_nil]; show _ + 2 ≤ _; omega)
      refine h5.mono ?_
      rintro e w5 ⟨rfl, g5, g5f⟩
      have hq5 := keep_wf g5f (unhide H4).2.1 hqlt (by decide)
      have hF5 := (unhide H4).2.2.trans g5f
      have hbel5 : Below B w w5 := hF5.below (by omega)
      have q5 : w5.cell? ⟨w.heap.size, 0, none⟩ = some (.pointer (some ⟨b, o, none⟩)) := (blk hq5).2.1 0 _ rfl
      have c4 : w5.cell? ⟨b, o + 4, none⟩ = some (.slice aL t.l.length cL) := (hbel5.cell (p := ⟨b, o + 4, none⟩) hb).trans ((unhide HG) 4 _ rfl)
      have HLc := hide (unhide HL B r w5 aL t.l.length cL t.l (k + 1) _ ((unhide HRows).1.below hbel5) rfl hB0 ((unhide HR).below hbel5 hB0) g5 (by omega) (by have := (unhide HY).2; have := unhide HXL; simp only [List.length_append, List.length_cons, List.length_nil]; omega))
      rw [show ((k + 1 : Nat) : Int) = (k : Int) + 1 by omega] at HLc
      have H5 := hide hF5
      clear h5 g5 g5f hq5 hF5 hbel5
      go_wp2_with fail
      refine (unhide HLc).mono ?_
      rintro e w6 ⟨rfl, g6, g6f⟩
      have H6 := hide (And.intro g6 ((unhide H5).trans g6f))
      clear g6 g6f HLc c4 q5
      go_wp2_with fail
      have h7 := wbyte_any B r _ 41 w6 (unhide H6).1 (by have := (unhide HY).2; have := unhide HXL; simp only [List.length_append, List.length_cons, List.length_nil]; omega)
      refine h7.mono ?_
      rintro e w7 ⟨rfl, g7, g7f⟩
      have H7 := hide (And.intro g7 ((unhide H6).2.trans g7f))
      clear g7 g7f h7
      go_wp2
      go_end0
      refine ⟨rfl, ?_, (unhide H7).2⟩
      have := (unhide H7).1
      rw [← (unhide HY).1] at this
      unfold allText allTail
      simpa only [List.append_assoc, List.nil_append, List.cons_append] using this
end Go.Proofs.YtegmckpcchhmdaaDoor

/- The writer: a term; a term's text. -/
namespace Go.Proofs.YtegmckpcchhmdaaDoor
open Go Go.RowKit
theorem text_num {t : Tm} (h : t.op = 1) : t.text = numT t.num := by rw [Tm.text_eq, bodyT, if_pos h]
theorem text_all {t : Tm} (h : t.op = 19) : t.text = allText t.vars (ltext t.pat) (ltext t.l) := by rw [Tm.text_eq, bodyT, if_neg (by omega), if_pos h]; rfl
theorem text_alone {t : Tm} (h1 : t.op ≠ 1) (h19 : t.op ≠ 19) (ha : aloneT t.op t.l.length = true) : t.text = (wordT t.op t.name).data.toList := by rw [Tm.text_eq, bodyT, if_neg h1, if_neg h19, if_pos ha]
theorem text_op {t : Tm} (h1 : t.op ≠ 1) (h19 : t.op ≠ 19) (ha : aloneT t.op t.l.length = false) : t.text = 40 :: ((wordT t.op t.name).data.toList ++ ((if t.l.length = 0 then [] else [32]) ++ (ltext t.l ++ [41]))) := by rw [Tm.text_eq, bodyT, if_neg h1, if_neg h19, ha]; rfl
set_option maxRecDepth 1000000 in
set_option maxHeartbeats 16000000 in
theorem wterm_of {d : Nat} (hl : WListC d) : WrTermC (d + 1) := by
  intro B r w b o t k x hT hR hW hk hx
  have HAll := hide (fun (w : World) (hT : TmAt w B (d + 1) b o t) hR hW => wall_of (k := k) (x := x) (r := r) hl hT hR hW hk)
  have HL := hide hl
  have HT := hide hT
  have hBr := hW.1
  have hrw := hW.lt
  obtain ⟨hb, _, _, aL, aV, aP, cL, cV, cP, hrg, hL, hV, hP, _⟩ := hT
  have hbw : b < w.heap.size := by omega
  have hB0 : 0 < B := by omega
  have h0w : 0 < w.heap.size := by omega
  have HG := hide hrg
  have HRow := hide hL
  have HR := hide hR
  have HW := hide hW
  have HX := hide hx
  have c0 : w.cell? ⟨b, o, none⟩ = some (.int .i64 t.op) := hrg 0 _ rfl
  clear hl hrg hL hV hP hR hW hx
  go_enter Tryd.func29, Tryd.ntmps29
  go_wp2_with fail
  refine (view_any b o t.op w c0 hbw).mono ?_
  rintro e w1 ⟨rfl, hb1⟩
  have HB1 := hide hb1
  by_cases h1 : t.op = 1
  · have hkk : kindOf t.op = 108 := by rw [h1]; rfl
    rw [hkk]
    have hx := unhide HX
    rw [text_num h1] at hx
    have HE := hide (text_num h1)
    have ta1 := fun w => ta_yes (ty := 108) (v := .agg #[.pointer (some ⟨b, o, none⟩)]) (w := w) rfl rfl
    obtain ⟨V, eV, hbV, hsV, hcV, hhV⟩ := box_new w1 #[.pointer (some ⟨b, o, none⟩)] 108
    have hbb : Below w.heap.size w V := hb1.trans (hbV.mono hb1.size)
    have c3 : V.cell? ⟨b, o + 3, none⟩ = some (.string t.num) := (hbb.cell (p := ⟨b, o + 3, none⟩) hbw).trans ((unhide HG) 3 _ rfl)
    have v0 : V.cell? ⟨w1.heap.size, 0, none⟩ = some (.pointer (some ⟨b, o, none⟩)) := hcV 0 _ rfl
    have HN := hide (number_any B r x t.num V ((unhide HW).below hbb (Nat.le_refl _)) (by omega))
    have HBB := hide hbb
    clear hbb hbV hsV hcV hhV hx h1 hkk hb1 c0
    go_wp2_with fail
    refine (unhide HN).mono ?_
    rintro e w2 ⟨rfl, h2, h3⟩
    have H2 := hide (And.intro h2 h3)
    clear h2 h3
    go_wp2
    go_end0
    exact ⟨rfl, by rw [unhide HE]; exact (unhide H2).1, (WF.of (unhide HBB) (Nat.le_refl _)).trans (unhide H2).2⟩
  by_cases h19 : t.op = 19
  · have hkk : kindOf t.op = 82 := by rw [h19]; rfl
    rw [hkk]
    have hx := unhide HX
    rw [text_all h19] at hx
    have HE := hide (text_all h19)
    have ta0 := fun w => ta_no (k := 82) (ty := 108) (v := .agg #[.pointer (some ⟨b, o, none⟩)]) (z := .agg #[.pointer none]) (w := w) (by decide) rfl rfl (by go_simp)
    have ta1 := fun w => ta_yes (ty := 82) (v := .agg #[.pointer (some ⟨b, o, none⟩)]) (w := w) rfl rfl
    have HX2 := hide hx
    clear hx h19 hkk c0 h1 hb1
    go_wp2_with fail
    have hb1 := unhide HB1
    obtain ⟨V, eV, hbb⟩ : ∃ V, (w1.alloc (.cells #[.pointer none] 108)).alloc (.cells #[.pointer (some ⟨b, o, none⟩)] 82) = V ∧ Below w.heap.size w V := ⟨_, rfl, (hb1.alloc hb1.size _).alloc (by have := hb1.size; simp; omega) _⟩
    rw [eV]
    have HA := hide (unhide HAll V ((unhide HT).more (hbb.mono (by omega)) (Nat.le_refl _) (Nat.le_refl _)) ((unhide HR).below hbb h0w) ((unhide HW).below hbb (Nat.le_refl _)) (unhide HX2))
    have HBB := hide hbb
    clear hbb eV hb1
    refine (unhide HA).mono ?_
    rintro e w2 ⟨rfl, h2, h3⟩
    have H2 := hide (And.intro h2 h3)
    clear h2 h3
    go_wp2
    go_end0
    exact ⟨rfl, by rw [unhide HE]; exact (unhide H2).1, (WF.of (unhide HBB) (Nat.le_refl _)).trans (unhide H2).2⟩
  · have hk1 : kindOf t.op ≠ 108 := by
      rcases op_kind (op := t.op) with ⟨h, e⟩ | ⟨h, e⟩ | ⟨h, e⟩ | ⟨h, e⟩ | ⟨h, e⟩ | ⟨h, e⟩ | ⟨h, e⟩ <;> first | exact absurd h h1 | (rw [e]; decide)
    have hk2 : kindOf t.op ≠ 82 := kindOf_all h19
    have HWord := hide (fun (w : World) (h : b < w.heap.size) (h0 : 0 < w.heap.size) c0 c1 c4 hR => wordOf_any (w := w) (b := b) (o := o) (op := t.op) (name := t.name) (n := t.l.length) (c := cL) (a := aL) h h0 c0 c1 c4 hR h1 h19)
    have HE := hide (And.intro h1 h19)
    obtain ⟨n, hn⟩ : ∃ n, t.l.length = n := ⟨_, rfl⟩
    have HN := hide hn
    rw [hn] at HWord
    clear h1 h19 hb1 hn
    generalize hkk : kindOf t.op = kk at *
    clear hkk c0
    have ta1 := fun w => ta_no (ty := 108) (v := .agg #[.pointer (some ⟨b, o, none⟩)]) (z := .agg #[.pointer none]) (w := w) hk1 rfl rfl (by go_simp)
    have ta2 := fun w => ta_no (ty := 82) (v := .agg #[.pointer (some ⟨b, o, none⟩)]) (z := .agg #[.pointer none]) (w := w) hk2 rfl rfl (by go_simp)
    go_wp2_with fail
    have hb1 := unhide HB1
    obtain ⟨V, eV, hbb⟩ : ∃ V, (w1.alloc (.cells #[.pointer none] 108)).alloc (.cells #[.pointer none] 82) = V ∧ Below w.heap.size w V := ⟨_, rfl, (hb1.alloc hb1.size _).alloc (by have := hb1.size; simp; omega) _⟩
    rw [eV]
    have hV1 := (hbb.cell (p := ⟨b, o + 1, none⟩) hbw).trans ((unhide HG) 1 _ rfl)
    have hV4 := (hbb.cell (p := ⟨b, o + 4, none⟩) hbw).trans ((unhide HG) 4 _ rfl)
    rw [unhide HN] at hV4
    refine (unhide HWord V (Nat.lt_of_lt_of_le hbw hbb.size) (Nat.lt_of_lt_of_le h0w hbb.size) ((hbb.cell (p := ⟨b, o, none⟩) hbw).trans ((unhide HG) 0 _ rfl)) hV1 hV4 ((unhide HR).below hbb h0w)).mono ?_
    rintro e w2 ⟨rfl, hb2⟩
    have hb02 : Below w.heap.size w w2 := hbb.trans (hb2.mono hbb.size)
    have hW2 : WB w2 B r x := (unhide HW).below hb02 (Nat.le_refl _)
    have HB2 := hide (And.intro hb02 hW2)
    clear eV hbb hV1 hV4 hb1 hb2 hb02 hW2 HB1 ta1 ta2 HWord hk1 hk2
    unfold wval
    cases ha : aloneT t.op n with
    | true =>
      have HTx := hide (text_alone (unhide HE).1 (unhide HE).2 (by rw [unhide HN]; exact ha))
      clear ha
      have hx := unhide HX
      rw [unhide HTx] at hx
      generalize wordT t.op t.name = wd at *
      have hs := wstr_any B r x wd w2 (unhide HB2).2 (by have : wd.size = wd.data.toList.length := rfl; omega)
      have HS := hide hs
      clear hs hx
      go_wp2_with fail
      refine (unhide HS).mono ?_
      rintro e w3 ⟨rfl, h2, h3⟩
      have H2 := hide (And.intro h2 h3)
      clear h2 h3
      go_wp2
      go_end0
      exact ⟨rfl, by rw [unhide HTx]; exact (unhide H2).1, (WF.of (unhide HB2).1 (Nat.le_refl _)).trans (unhide H2).2⟩
    | false =>
      have HTx := hide (text_op (unhide HE).1 (unhide HE).2 (by rw [unhide HN]; exact ha))
      clear ha
      have hx := unhide HX
      rw [unhide HTx, unhide HN] at hx
      generalize wordT t.op t.name = wd at *
      have hwd : wd.size = wd.data.toList.length := rfl
      simp only [List.length_append, List.length_cons, List.length_nil] at hx
      have f1 : (9223372036854775807 < 1 + wd.size) = False := by simp; omega
      have hs := wstr_any B r x ((⟨#[40]⟩ : ByteArray) ++ wd) w2 (unhide HB2).2 (by rw [ByteArray.size_append]; show x.length + (1 + wd.size) ≤ _; omega)
      have e40 : ((⟨#[40]⟩ : ByteArray) ++ wd).data.toList = 40 :: wd.data.toList := by rw [ByteArray.data_append]; simp
      rw [e40] at hs
      have HS := hide hs
      have HX2 := hide (And.intro hx hwd)
      clear hs hx hwd e40
      go_wp2_with fail
      refine (unhide HS).mono ?_
      rintro e w3 ⟨rfl, h2, h3⟩
      have hF3 := (WF.of (unhide HB2).1 (Nat.le_refl _) (r := r) (B := B)).trans h3
      have hbel3 : Below B w w3 := hF3.below (by omega)
      have c4 : w3.cell? ⟨b, o + 4, none⟩ = some (.slice aL n cL) := by
        rw [← unhide HN]
        exact (hbel3.cell (p := ⟨b, o + 4, none⟩) hb).trans ((unhide HG) 4 _ rfl)
      have H3 := hide (And.intro h2 hF3)
      clear h2 h3 hF3 hbel3 HS f1
      by_cases hn0 : n = 0
      · have hN0 : decide (0 < n) = false := by simp [hn0]
        have H0 := hide hn0
        clear hn0
        have hbel3 : Below B w w3 := (unhide H3).2.below (by omega)
        have HB3 := hide hbel3
        clear hbel3
        have HLc := hide (unhide HL B r w3 aL t.l.length cL t.l (k + 1) _ ((unhide HRow).below (unhide HB3)) rfl hB0 ((unhide HR).below (unhide HB3) hB0) (unhide H3).1 (by omega) (by have := (unhide HX2).1; have := (unhide HX2).2; rw [if_pos (unhide H0)] at *; simp only [List.length_append, List.length_cons, List.length_nil] at *; omega))
        rw [show ((k + 1 : Nat) : Int) = (k : Int) + 1 by omega, unhide HN] at HLc
        go_wp2_with fail
        refine (unhide HLc).mono ?_
        rintro e w6 ⟨rfl, g6, g6f⟩
        have H6 := hide (And.intro g6 ((unhide H3).2.trans g6f))
        clear g6 g6f HLc
        go_wp2_with fail
        have h7 := wbyte_any B r _ 41 w6 (unhide H6).1 (by have := (unhide HX2).1; have := (unhide HX2).2; rw [if_pos (unhide H0)] at *; simp only [List.length_append, List.length_cons, List.length_nil] at *; omega)
        refine h7.mono ?_
        rintro e w7 ⟨rfl, g7, g7f⟩
        have H7 := hide (And.intro g7 ((unhide H6).2.trans g7f))
        clear g7 g7f h7
        go_wp2
        go_end0
        refine ⟨rfl, ?_, (unhide H7).2⟩
        have := (unhide H7).1
        rw [unhide HTx, unhide HN, if_pos (unhide H0)]
        simpa only [List.append_assoc, List.nil_append, List.cons_append] using this
      · have hposN : 0 < n := by omega
        have H0 := hide hn0
        clear hn0
        go_wp2_with fail
        have h5 := wbyte_any B r _ 32 w3 (unhide H3).1 (by have := (unhide HX2).1; have := (unhide HX2).2; simp only [List.length_append, List.length_cons, List.length_nil] at *; omega)
        refine h5.mono ?_
        rintro e w4 ⟨rfl, g4, g4f⟩
        have hF4 := (unhide H3).2.trans g4f
        have hbel4 : Below B w w4 := hF4.below (by omega)
        have c4' : w4.cell? ⟨b, o + 4, none⟩ = some (.slice aL n cL) := by
          rw [← unhide HN]
          exact (hbel4.cell (p := ⟨b, o + 4, none⟩) hb).trans ((unhide HG) 4 _ rfl)
        have H4 := hide (And.intro g4 hF4)
        have HB4 := hide hbel4
        clear g4 g4f hF4 hbel4 h5 c4
        have HLc := hide (unhide HL B r w4 aL t.l.length cL t.l (k + 1) _ ((unhide HRow).below (unhide HB4)) rfl hB0 ((unhide HR).below (unhide HB4) hB0) (unhide H4).1 (by omega) (by have := (unhide HX2).1; have := (unhide HX2).2; rw [if_neg (unhide H0)] at *; simp only [List.length_append, List.length_cons, List.length_nil] at *; omega))
        rw [show ((k + 1 : Nat) : Int) = (k : Int) + 1 by omega, unhide HN] at HLc
        go_wp2_with fail
        refine (unhide HLc).mono ?_
        rintro e w6 ⟨rfl, g6, g6f⟩
        have H6 := hide (And.intro g6 ((unhide H4).2.trans g6f))
        clear g6 g6f HLc
        go_wp2_with fail
        have h7 := wbyte_any B r _ 41 w6 (unhide H6).1 (by have := (unhide HX2).1; have := (unhide HX2).2; rw [if_neg (unhide H0)] at *; simp only [List.length_append, List.length_cons, List.length_nil] at *; omega)
        refine h7.mono ?_
        rintro e w7 ⟨rfl, g7, g7f⟩
        have H7 := hide (And.intro g7 ((unhide H6).2.trans g7f))
        clear g7 g7f h7
        go_wp2
        go_end0
        refine ⟨rfl, ?_, (unhide H7).2⟩
        have := (unhide H7).1
        rw [unhide HTx, unhide HN, if_neg (unhide H0)]
        simpa only [List.append_assoc, List.nil_append, List.cons_append] using this
theorem wterm_any : ∀ d, WrTermC d
  | 0 => fun _ _ _ _ _ _ _ _ h => h.elim
  | d + 1 => wterm_of (wlist_of (wterm_any d))
theorem wrap0 (w : World) : (w.alloc (.cells #[.pointer none, .slice none 0 0, .bool false] 70)).heap[w.heap.size]? = some (.cells #[.pointer none, .slice none 0 0, .bool false] 70) := new_block w _ _
theorem WB.new (w : World) {B : Nat} (hB : B ≤ w.heap.size) : WB (w.alloc (.cells #[.pointer none, .slice none 0 0, .bool false] 70)) B w.heap.size [] :=
  ⟨hB, _, _, .inl rfl, wrap0 w, ⟨rfl, .inl ⟨rfl, rfl⟩⟩, fun _ => rfl⟩
set_option maxRecDepth 1000000 in
set_option maxHeartbeats 16000000 in
theorem Text_any {B d : Nat} {w : World} {v : Value} {t : Tm} (hT : IsT w B d v t) (hB : B ≤ w.heap.size) (h0 : 0 < B) (hR : RL w) (hd : d + 1 ≤ 65536) (hx : t.text.length ≤ 2147483647) :
    Calls Tryd.prog 12 #[v] w (VPost (.string ⟨t.text.toArray⟩) w) := by
  obtain ⟨x0, x1, x2, x3, x4, x5, x6, rfl⟩ := hT.form
  have HA := hide (hT.boxed hB)
  have HR := hide hR
  clear hT hR
  go_enter Tryd.func12, Tryd.ntmps12
  go_wp2_with fail
  obtain ⟨w1, e1, hb1, hs1, hc1, hh1⟩ := box_new w #[x0, x1, x2, x3, x4, x5, x6] 25
  obtain ⟨w2, e2, hb2, hs2, hc2, hh2⟩ := box_new w1 #[.pointer none, .slice none 0 0, .bool false] 70
  rw [e1] at HA
  have hWB : WB w2 (w.heap.size + 1) w1.heap.size [] := by rw [← e2]; exact WB.new w1 (by omega)
  have hTm : TmAt w2 (w.heap.size + 1) (d + 1) w.heap.size 0 t := (unhide HA).more (hb2.mono (by omega)) (Nat.le_refl _) (Nat.le_refl _)
  have hR2 : RL w2 := ((unhide HR).below hb1 (by omega)).below hb2 (by omega)
  have hw := wterm_any (d + 1) (w.heap.size + 1) w1.heap.size w2 w.heap.size 0 t 0 [] hTm hR2 hWB (by omega) (by simpa using hx)
  rw [hs1] at hw
  have hBB : Below w.heap.size w w2 := hb1.trans (hb2.mono (by omega))
  have HBB := hide hBB
  have HS := hide (And.intro hs1 hs2)
  rw [e1, e2]
  clear e1 e2 hb1 hb2 hs1 hs2 hc1 hc2 hh1 hh2 hWB hTm hR2 hBB
  refine hw.mono ?_
  rintro e w3 ⟨rfl, h3, h3f⟩
  have H3 := hide (And.intro h3 h3f)
  clear h3 h3f hw
  go_wp2_with fail
  refine (wout_all (w.heap.size + 1) (w.heap.size + 1) _ w3 (unhide H3).1).mono ?_
  rintro e w4 ⟨rfl, h4⟩
  have H4 := hide h4
  clear h4
  go_wp2
  go_ret
  refine ⟨rfl, (unhide HBB).trans (((unhide H3).2.below (by have := unhide HS; omega)).mono (by have := unhide HS; omega) |>.trans ((unhide H4).mono (by omega)))⟩
end Go.Proofs.YtegmckpcchhmdaaDoor

/- known. -/
namespace Go.Proofs.YtegmckpcchhmdaaDoor
open Go Go.RowKit
theorem lit93 {a : Act} (hn : a.tmps.size = 93) (hd : a.defers = []) : ∃ u : Nat → Value, a = ⟨#[u 0, u 1, u 2, u 3, u 4, u 5, u 6, u 7, u 8, u 9, u 10, u 11, u 12, u 13, u 14, u 15, u 16, u 17, u 18, u 19, u 20, u 21, u 22, u 23, u 24, u 25, u 26, u 27, u 28, u 29, u 30, u 31, u 32, u 33, u 34, u 35, u 36, u 37, u 38, u 39, u 40, u 41, u 42, u 43, u 44, u 45, u 46, u 47, u 48, u 49, u 50, u 51, u 52, u 53, u 54, u 55, u 56, u 57, u 58, u 59, u 60, u 61, u 62, u 63, u 64, u 65, u 66, u 67, u 68, u 69, u 70, u 71, u 72, u 73, u 74, u 75, u 76, u 77, u 78, u 79, u 80, u 81, u 82, u 83, u 84, u 85, u 86, u 87, u 88, u 89, u 90, u 91, u 92], []⟩ ∧ ∀ k, u k = a.tmps.getD k undef := by
  obtain ⟨tmps, dfr⟩ := a
  have hd' : dfr = [] := hd
  subst hd'
  have hl := arr_lit (show tmps.size = 93 from hn)
  have e : ((List.range 93).map fun i => tmps.getD i undef).toArray = #[tmps.getD 0 undef, tmps.getD 1 undef, tmps.getD 2 undef, tmps.getD 3 undef, tmps.getD 4 undef, tmps.getD 5 undef, tmps.getD 6 undef, tmps.getD 7 undef, tmps.getD 8 undef, tmps.getD 9 undef, tmps.getD 10 undef, tmps.getD 11 undef, tmps.getD 12 undef, tmps.getD 13 undef, tmps.getD 14 undef, tmps.getD 15 undef, tmps.getD 16 undef, tmps.getD 17 undef, tmps.getD 18 undef, tmps.getD 19 undef, tmps.getD 20 undef, tmps.getD 21 undef, tmps.getD 22 undef, tmps.getD 23 undef, tmps.getD 24 undef, tmps.getD 25 undef, tmps.getD 26 undef, tmps.getD 27 undef, tmps.getD 28 undef, tmps.getD 29 undef, tmps.getD 30 undef, tmps.getD 31 undef, tmps.getD 32 undef, tmps.getD 33 undef, tmps.getD 34 undef, tmps.getD 35 undef, tmps.getD 36 undef, tmps.getD 37 undef, tmps.getD 38 undef, tmps.getD 39 undef, tmps.getD 40 undef, tmps.getD 41 undef, tmps.getD 42 undef, tmps.getD 43 undef, tmps.getD 44 undef, tmps.getD 45 undef, tmps.getD 46 undef, tmps.getD 47 undef, tmps.getD 48 undef, tmps.getD 49 undef, tmps.getD 50 undef, tmps.getD 51 undef, tmps.getD 52 undef, tmps.getD 53 undef, tmps.getD 54 undef, tmps.getD 55 undef, tmps.getD 56 undef, tmps.getD 57 undef, tmps.getD 58 undef, tmps.getD 59 undef, tmps.getD 60 undef, tmps.getD 61 undef, tmps.getD 62 undef, tmps.getD 63 undef, tmps.getD 64 undef, tmps.getD 65 undef, tmps.getD 66 undef, tmps.getD 67 undef, tmps.getD 68 undef, tmps.getD 69 undef, tmps.getD 70 undef, tmps.getD 71 undef, tmps.getD 72 undef, tmps.getD 73 undef, tmps.getD 74 undef, tmps.getD 75 undef, tmps.getD 76 undef, tmps.getD 77 undef, tmps.getD 78 undef, tmps.getD 79 undef, tmps.getD 80 undef, tmps.getD 81 undef, tmps.getD 82 undef, tmps.getD 83 undef, tmps.getD 84 undef, tmps.getD 85 undef, tmps.getD 86 undef, tmps.getD 87 undef, tmps.getD 88 undef, tmps.getD 89 undef, tmps.getD 90 undef, tmps.getD 91 undef, tmps.getD 92 undef] := rfl
  rw [e] at hl
  refine ⟨fun i => tmps.getD i undef, ?_, fun _ => rfl⟩
  congr 1
theorem TmAt.seven {w : World} {B d b : Nat} {t : Tm} (h : TmAt w B (d + 1) b 0 t) : b < B ∧ ∃ (a4 a5 a6 : Option Addr) (c4 c5 c6 : Nat), (∀ (k : Nat) v, (tcells t a4 a5 a6 c4 c5 c6)[k]? = some v → w.cell? ⟨b, k, none⟩ = some v) ∧ IsT w B d (.agg (tcells t a4 a5 a6 c4 c5 c6).toArray) t := by
  obtain ⟨h0, h1, h2, aL, aV, aP, cL, cV, cP, hr, hL, hV, hP, _⟩ := h
  refine ⟨h0, aL, aV, aP, cL, cV, cP, fun k v hv => ?_, h1, h2, aL, aV, aP, cL, cV, cP, rfl, hL, hV, hP⟩
  have := hr k v hv
  rw [Nat.zero_add] at this
  exact this
theorem TmS.seven {w : World} {B d b : Nat} {t : Tm} (h : TmS w B (d + 1) b 0 t) : b < B ∧ ∃ (a4 a5 a6 : Option Addr) (c4 c5 c6 : Nat), (∀ (k : Nat) v, (tcells t a4 a5 a6 c4 c5 c6)[k]? = some v → w.cell? ⟨b, k, none⟩ = some v) ∧ IsP w (LT B) d (.agg (tcells t a4 a5 a6 c4 c5 c6).toArray) t := by
  obtain ⟨h0, h1, h2, aL, aV, aP, cL, cV, cP, hr, hL, hV, hP, _⟩ := h
  refine ⟨h0, aL, aV, aP, cL, cV, cP, fun k v hv => ?_, h1, h2, aL, aV, aP, cL, cV, cP, rfl, hL, hV, hP⟩
  have := hr k v hv
  rw [Nat.zero_add] at this
  exact this
theorem ok_known {P : ByteArray → Prop} (h : P ⟨#[48]⟩) : OkT P 5 tAll := by
  have hx : OkT P 2 tX := ⟨fun h => absurd h (by decide), by decide, by simp [tX], by rw [sz_tX]; omega, by rw [dp_tX]; omega, by simp [tX], by simp [tX]⟩
  have hx3 : OkT P 1 tX := ⟨fun h => absurd h (by decide), by decide, by simp [tX], by rw [sz_tX]; omega, by rw [dp_tX]; omega, by simp [tX], by simp [tX]⟩
  have h03 : OkT P 3 t0 := ⟨fun _ => h, by decide, by simp [t0], by rw [sz_t0]; omega, by rw [dp_t0]; omega, by simp [t0], by simp [t0]⟩
  have hf3 : OkT P 3 tFX := ⟨fun h => absurd h (by decide), by decide, by simp [tFX], by rw [sz_tFX]; omega, by rw [dp_tFX]; omega, fun u hu => by rw [List.mem_singleton.1 hu]; exact hx, by simp [tFX]⟩
  have hf4 : OkT P 4 tFX := ⟨fun h => absurd h (by decide), by decide, by simp [tFX], by rw [sz_tFX]; omega, by rw [dp_tFX]; omega, fun u hu => by
    rw [List.mem_singleton.1 hu]
    exact ⟨fun h => absurd h (by decide), by decide, by simp [tX], by rw [sz_tX]; omega, by rw [dp_tX]; omega, by simp [tX], by simp [tX]⟩, by simp [tFX]⟩
  have hle : OkT P 4 tLe := ⟨fun h => absurd h (by decide), by decide, by simp [tLe], by rw [sz_tLe]; omega, by rw [dp_tLe]; omega, fun u hu => by
    have hu' : u = t0 ∨ u = tFX := by simpa [tLe] using hu
    rcases hu' with rfl | rfl
    · exact h03
    · exact hf3, by simp [tLe]⟩
  exact ⟨fun h => absurd h (by decide), by decide, fun v hv => by rw [List.mem_singleton.1 hv]; decide, by rw [sz_tAll]; omega, by rw [dp_tAll]; omega, fun u hu => by rw [List.mem_singleton.1 hu]; exact hle, fun u hu => by rw [List.mem_singleton.1 hu]; exact hf4⟩
set_option maxRecDepth 1000000 in
set_option maxHeartbeats 16000000 in
theorem known_any {w : World} (hR : RL w) (h0 : 0 < w.heap.size) : Calls Tryd.prog 4 #[] w (VPost (.bool true) w) := by
  obtain ⟨X, eX, hbX, hsX, hcX, hhX⟩ := box_new w xC 25
  have HX := hide (And.intro hbX (And.intro hsX hhX))
  have HE := hide eX
  have HR := hide hR
  clear hbX hsX hcX hhX eX hR
  go_enter Tryd.func4, Tryd.ntmps4
  go_wp2_with fail
  rw [show w.alloc (.cells #[.int .i64 18, .string { data := #[120] }, .int .i64 1, .string { data := #[] }, .slice none 0 0, .slice none 0 0, .slice none 0 0] 25) = X from unhide HE]
  refine known_r2 (b1 := w.heap.size) rfl rfl (unhide HX).2.2 ?_
  intro a2 w2 hd2 hn2 _ hJ2
  obtain ⟨u, rfl, hu⟩ := lit93 hn2 hd2
  obtain ⟨r2, e2, hr2, hb2, hT2⟩ := hJ2
  have u2 : u 2 = .pointer (some ⟨r2, 0, none⟩) := (hu 2).trans e2
  rw [u2]
  obtain ⟨hlt2, a4, a5, a6, c4, c5, c6, hc2, hI2⟩ := hT2.seven
  have hb02 : Below w.heap.size w w2 := (unhide HX).1.trans (hb2.mono (by have := (unhide HX).2.1; omega))
  have f2 : ∀ x y, (((w2.alloc x).alloc y).cell? ⟨r2, 0, none⟩ = some (.int .i64 19) ∧ ((w2.alloc x).alloc y).cell? ⟨r2, 1, none⟩ = some (.string ⟨#[]⟩) ∧ ((w2.alloc x).alloc y).cell? ⟨r2, 2, none⟩ = some (.int .i64 0) ∧ ((w2.alloc x).alloc y).cell? ⟨r2, 3, none⟩ = some (.string ⟨#[]⟩) ∧ ((w2.alloc x).alloc y).cell? ⟨r2, 4, none⟩ = some (.slice a4 1 c4) ∧ ((w2.alloc x).alloc y).cell? ⟨r2, 5, none⟩ = some (.slice a5 1 c5) ∧ ((w2.alloc x).alloc y).cell? ⟨r2, 6, none⟩ = some (.slice a6 1 c6)) := fun x y => by
    have hb := ((Below.refl w2.heap.size w2).alloc (Nat.le_refl _) x).alloc (by simp) y
    exact ⟨(hb.cell (p := ⟨r2, 0, none⟩) hlt2).trans (hc2 0 _ rfl), (hb.cell (p := ⟨r2, 1, none⟩) hlt2).trans (hc2 1 _ rfl), (hb.cell (p := ⟨r2, 2, none⟩) hlt2).trans (hc2 2 _ rfl), (hb.cell (p := ⟨r2, 3, none⟩) hlt2).trans (hc2 3 _ rfl), (hb.cell (p := ⟨r2, 4, none⟩) hlt2).trans (hc2 4 _ rfl), (hb.cell (p := ⟨r2, 5, none⟩) hlt2).trans (hc2 5 _ rfl), (hb.cell (p := ⟨r2, 6, none⟩) hlt2).trans (hc2 6 _ rfl)⟩
  have g0 := fun x y => (f2 x y).1
  have g1 := fun x y => (f2 x y).2.1
  have g2 := fun x y => (f2 x y).2.2.1
  have g3 := fun x y => (f2 x y).2.2.2.1
  have g4 := fun x y => (f2 x y).2.2.2.2.1
  have g5 := fun x y => (f2 x y).2.2.2.2.2.1
  have g6 := fun x y => (f2 x y).2.2.2.2.2.2
  obtain ⟨Y, eY, hbY, hsY, hcY, hhY⟩ := box_new w2 #[.int .i64 1] 3
  obtain ⟨Z, eZ, hbZ, hsZ, hcZ, hhZ⟩ := box_new Y #[.string bF, .slice (some ⟨w2.heap.size, 0, none⟩) 1 1, .int .i64 1] 41
  have hb2Z : Below w2.heap.size w2 Z := hbY.trans (hbZ.mono (by omega))
  have hRZ : RL Z := (unhide HR).below (hb02.trans (hb2Z.mono hb02.size)) h0
  have hIZ : IsT Z Z.heap.size 4 (.agg #[.int .i64 19, .string ⟨#[]⟩, .int .i64 0, .string ⟨#[]⟩, .slice a4 1 c4, .slice a5 1 c5, .slice a6 1 c6]) tAll := (hI2.more hb2Z hb2Z.size (by omega))
  have hSig : Row Z.heap.size (some ⟨w2.heap.size + 1, 0, none⟩) 1 1 3 (SigR Z Z.heap.size sigF) := by
    refine ⟨Nat.le_refl _, by omega, fun _ => ⟨w2.heap.size + 1, 0, rfl, by omega, fun j hj f hf => ?_⟩⟩
    have hj0 : j = 0 := by omega
    subst hj0
    have hf' : f = ⟨bF, [1], 1⟩ := by simpa [sigF] using hf.symm
    subst hf'
    have hh : Z.heap[w2.heap.size + 1]? = some (.cells [.string bF, .slice (some ⟨w2.heap.size, 0, none⟩) 1 1, .int .i64 1].toArray 41) := by rw [← hsY]; exact hhZ
    refine ⟨some ⟨w2.heap.size, 0, none⟩, 1, range_block hh, (show fits 1 by unfold fits; omega), Nat.le_refl _, by simp, fun _ => ⟨w2.heap.size, 0, rfl, by omega, fun i hi x hx => ?_⟩⟩
    have hi0 : i = 0 := by simp at hi; omega
    subst hi0
    have hx' : x = 1 := by simpa using hx.symm
    subst hx'
    have hh2 : Z.heap[w2.heap.size]? = some (.cells #[.int .i64 1] 3) := (hbZ.block _ (by omega)).trans hhY
    exact ⟨(blk hh2).2.1 0 _ rfl, show fits 1 by unfold fits; omega⟩
  have HCk := hide (Check_any (rt := rtT) (B := Z.heap.size) (d := 4) (sig := sigF) hIZ hSig rfl (Nat.le_refl _) (by omega) hRZ (ok_known (pc_digit 48 (by decide))) (by rw [wt_tAll]; omega))
  rw [c_chk] at HCk
  have HEY := hide (And.intro eY eZ)
  have H2 := hide (And.intro hb02 (And.intro hT2 (And.intro hb2Z (And.intro hc2 hlt2))))
  clear hd2 hn2 hu e2 hr2 hb2 hT2 hlt2 hc2 hI2 hb02 f2 hbY hsY hcY hhY hbZ hsZ hcZ hhZ hb2Z hRZ hIZ hSig eY eZ u2
  go_wp2_with fail
  rw [show w2.alloc (.cells #[.int .i64 1] 3) = Y from (unhide HEY).1, show Y.alloc (.cells #[.string { data := #[102] }, .slice (some ⟨w2.heap.size, 0, none⟩) 1 1, .int .i64 1] 41) = Z from (unhide HEY).2]
  refine (unhide HCk).mono ?_
  rintro e w3 ⟨rfl, hb3⟩
  obtain ⟨hb02, hT2, hb2Z, hc2, hlt2⟩ := unhide H2
  have hb23 : Below w2.heap.size w2 w3 := hb2Z.trans (hb3.mono hb2Z.size)
  have hT3 := hT2.more hb23 hb23.size (Nat.le_refl _)
  have H3 := hide (And.intro (hb02.trans (hb23.mono hb02.size)) hb23)
  clear hb02 hT2 hb2Z hc2 hlt2 hb23 hb3 g0 g1 g2 g3 g4 g5 g6
  unfold pairV
  go_wp2_with fail
  refine known_r5 (b2 := r2) rfl rfl hT3 ?_
  intro a5 w5 hd5 hn5 hk5 hu7 hJ5
  obtain ⟨v, rfl, hv⟩ := lit93 hn5 hd5
  obtain ⟨r6, e6, hr6, hb5, hT5⟩ := hJ5
  have v6 : v 6 = .pointer (some ⟨r6, 0, none⟩) := (hv 6).trans e6
  have v7 : v 7 = .int .i64 0 := (hv 7).trans hu7
  have v2 : v 2 = .pointer (some ⟨r2, 0, none⟩) := Option.some.inj (hk5 2 (by decide))
  have v4 : v 4 = .int .i64 2 := Option.some.inj (hk5 4 (by decide))
  have v5 : v 5 = .int .i64 0 := Option.some.inj (hk5 5 (by decide))
  rw [v2, v4, v5, v6, v7]
  have hT25 := hT3.more hb5 hb5.size (Nat.le_refl _)
  obtain ⟨hlt2, a4, a5, a6, c4, c5, c6, hc2, hI2⟩ := hT25.seven
  obtain ⟨hlt6, b4, b5, b6, d4, d5, d6, hc6, hI6⟩ := hT5.seven
  have hb05 : Below w.heap.size w w5 := (unhide H3).1.trans (hb5.mono (unhide H3).1.size)
  have HC : Hid (∀ W, Below w5.heap.size w5 W → ((W.cell? ⟨r2, 0, none⟩ = some (.int .i64 19) ∧ W.cell? ⟨r2, 1, none⟩ = some (.string ⟨#[]⟩) ∧ W.cell? ⟨r2, 2, none⟩ = some (.int .i64 0) ∧ W.cell? ⟨r2, 3, none⟩ = some (.string ⟨#[]⟩) ∧ W.cell? ⟨r2, 4, none⟩ = some (.slice a4 1 c4) ∧ W.cell? ⟨r2, 5, none⟩ = some (.slice a5 1 c5) ∧ W.cell? ⟨r2, 6, none⟩ = some (.slice a6 1 c6)) ∧ (W.cell? ⟨r6, 0, none⟩ = some (.int .i64 10) ∧ W.cell? ⟨r6, 1, none⟩ = some (.string ⟨#[]⟩) ∧ W.cell? ⟨r6, 2, none⟩ = some (.int .i64 0) ∧ W.cell? ⟨r6, 3, none⟩ = some (.string ⟨#[]⟩) ∧ W.cell? ⟨r6, 4, none⟩ = some (.slice b4 2 d4) ∧ W.cell? ⟨r6, 5, none⟩ = some (.slice b5 0 d5) ∧ W.cell? ⟨r6, 6, none⟩ = some (.slice b6 0 d6)) ∧ IsT W W.heap.size 4 (.agg #[.int .i64 19, .string ⟨#[]⟩, .int .i64 0, .string ⟨#[]⟩, .slice a4 1 c4, .slice a5 1 c5, .slice a6 1 c6]) tAll ∧ IsP W (LT W.heap.size) 6 (.agg #[.int .i64 10, .string ⟨#[]⟩, .int .i64 0, .string ⟨#[]⟩, .slice b4 2 d4, .slice b5 0 d5, .slice b6 0 d6]) tR ∧ RL W ∧ Below w.heap.size w W)) := fun W hb => by
    refine ⟨⟨(hb.cell (p := ⟨r2, 0, none⟩) hlt2).trans (hc2 0 _ rfl), (hb.cell (p := ⟨r2, 1, none⟩) hlt2).trans (hc2 1 _ rfl), (hb.cell (p := ⟨r2, 2, none⟩) hlt2).trans (hc2 2 _ rfl), (hb.cell (p := ⟨r2, 3, none⟩) hlt2).trans (hc2 3 _ rfl), (hb.cell (p := ⟨r2, 4, none⟩) hlt2).trans (hc2 4 _ rfl), (hb.cell (p := ⟨r2, 5, none⟩) hlt2).trans (hc2 5 _ rfl), (hb.cell (p := ⟨r2, 6, none⟩) hlt2).trans (hc2 6 _ rfl)⟩, ⟨(hb.cell (p := ⟨r6, 0, none⟩) hlt6).trans (hc6 0 _ rfl), (hb.cell (p := ⟨r6, 1, none⟩) hlt6).trans (hc6 1 _ rfl), (hb.cell (p := ⟨r6, 2, none⟩) hlt6).trans (hc6 2 _ rfl), (hb.cell (p := ⟨r6, 3, none⟩) hlt6).trans (hc6 3 _ rfl), (hb.cell (p := ⟨r6, 4, none⟩) hlt6).trans (hc6 4 _ rfl), (hb.cell (p := ⟨r6, 5, none⟩) hlt6).trans (hc6 5 _ rfl), (hb.cell (p := ⟨r6, 6, none⟩) hlt6).trans (hc6 6 _ rfl)⟩, hI2.more hb hb.size (by omega), hI6.grown hb, (unhide HR).below (hb05.trans (hb.mono hb05.size)) h0, hb05.trans (hb.mono hb05.size)⟩
  have HZ := hide (show 0 < w5.heap.size by omega)
  clear hd5 hn5 hk5 hu7 hv e6 hr6 hb5 hT5 hT25 hlt2 hc2 hI2 hlt6 hc6 hI6 hb05 hT3 v2 v4 v5 v6 v7 H3 H2 HCk
  obtain ⟨⟨p0a, p1a, p2a, p3a, p4a, p5a, p6a⟩, ⟨q0a, q1a, q2a, q3a, q4a, q5a, q6a⟩, IAa, IRa, RLa, _⟩ := unhide HC w5 (Below.refl _ w5)
  have HK := hide (Check_any (rt := rtT) (B := w5.heap.size) (d := 4) (sig := []) IAa (row_nil (k := 3)) rfl (Nat.le_refl _) (unhide HZ) RLa (ok_known (pc_digit 48 (by decide))) (by rw [wt_tAll]; omega))
  rw [c_chk0] at HK
  clear IAa IRa RLa
  go_wp2_with fail
  refine (unhide HK).mono ?_
  rintro e w6 ⟨rfl, hb9⟩
  have hb : Below w5.heap.size w5 w6 := hb9
  clear p0a q0a p1a q1a p2a q2a p3a q3a p4a q4a p5a q5a p6a q6a
  obtain ⟨⟨p0b, p1b, p2b, p3b, p4b, p5b, p6b⟩, ⟨q0b, q1b, q2b, q3b, q4b, q5b, q6b⟩, IAb, IRb, RLb, _⟩ := unhide HC w6 hb
  have HK := hide (Text_any (B := w6.heap.size) (d := 6) (IRb.isT fun _ h => h) (Nat.le_refl _) (by have := hb.size; have := unhide HZ; omega) RLb (by omega) (by rw [tx_tR]; decide))
  rw [tx_tR] at HK
  have HBB := hide hb
  clear IAb IRb RLb hb hb9
  unfold pairV
  go_wp2_with fail
  refine (unhide HK).mono ?_
  rintro e w7 ⟨rfl, hb9⟩
  have hb : Below w5.heap.size w5 w7 := (unhide HBB).trans (hb9.mono (unhide HBB).size)
  clear p0b q0b p1b q1b p2b q2b p3b q3b p4b q4b p5b q5b p6b q6b
  obtain ⟨⟨p0c, p1c, p2c, p3c, p4c, p5c, p6c⟩, ⟨q0c, q1c, q2c, q3c, q4c, q5c, q6c⟩, IAc, IRc, RLc, _⟩ := unhide HC w7 hb
  have HK := hide (Text_any (B := w7.heap.size) (d := 4) IAc (Nat.le_refl _) (by have := hb.size; have := unhide HZ; omega) RLc (by omega) (by rw [tx_tAll]; decide))
  rw [tx_tAll] at HK
  have HBB := hide hb
  clear IAc IRc RLc hb hb9
  go_wp2_with fail
  refine (unhide HK).mono ?_
  rintro e w8 ⟨rfl, hb9⟩
  have hb : Below w5.heap.size w5 w8 := (unhide HBB).trans (hb9.mono (unhide HBB).size)
  clear p0c q0c p1c q1c p2c q2c p3c q3c p4c q4c p5c q5c p6c q6c
  obtain ⟨⟨p0d, p1d, p2d, p3d, p4d, p5d, p6d⟩, ⟨q0d, q1d, q2d, q3d, q4d, q5d, q6d⟩, IAd, IRd, RLd, _⟩ := unhide HC w8 hb
  have HK := hide (Ground_any (B := w8.heap.size) (d := 4) IAd (Nat.le_refl _) (by rw [sz_tAll]; omega) (by rw [dp_tAll]; omega))
  rw [gr_tAll] at HK
  have HBB := hide hb
  clear IAd IRd RLd hb hb9
  go_wp2_with fail
  refine (unhide HK).mono ?_
  rintro e w9 ⟨rfl, hb9⟩
  have hb : Below w5.heap.size w5 w9 := (unhide HBB).trans (hb9.mono (unhide HBB).size)
  clear p0d q0d p1d q1d p2d q2d p3d q3d p4d q4d p5d q5d p6d q6d
  obtain ⟨⟨p0e, p1e, p2e, p3e, p4e, p5e, p6e⟩, ⟨q0e, q1e, q2e, q3e, q4e, q5e, q6e⟩, IAe, IRe, RLe, _⟩ := unhide HC w9 hb
  have HK := hide (Ground_any (B := w9.heap.size) (d := 6) (IRe.isT fun _ h => h) (Nat.le_refl _) (by rw [sz_tR]; omega) (by rw [dp_tR]; omega))
  rw [gr_tR] at HK
  have HBB := hide hb
  clear IAe IRe RLe hb hb9
  go_wp2_with fail
  refine (unhide HK).mono ?_
  rintro e w10 ⟨rfl, hb9⟩
  have hb : Below w5.heap.size w5 w10 := (unhide HBB).trans (hb9.mono (unhide HBB).size)
  clear p0e q0e p1e q1e p2e q2e p3e q3e p4e q4e p5e q5e p6e q6e
  obtain ⟨⟨p0f, p1f, p2f, p3f, p4f, p5f, p6f⟩, ⟨q0f, q1f, q2f, q3f, q4f, q5f, q6f⟩, IAf, IRf, RLf, _⟩ := unhide HC w10 hb
  have HK := hide (Apps_any (B := w10.heap.size) (d := 6) IRf (Nat.le_refl _) (by omega) (by rw [sz_tR]; omega) (by rw [c_apps]; unfold szs; simp only [List.map_cons, List.map_nil, sz_tF3]; decide) (by rw [wt_tR]; omega))
  rw [c_apps] at HK
  have HBB := hide hb
  clear IAf IRf RLf hb hb9
  go_wp2_with fail
  refine (unhide HK).mono ?_
  rintro e w11 ⟨aa, ca, rfl, _, hb9⟩
  have hb : Below w5.heap.size w5 w11 := (unhide HBB).trans (hb9.mono (unhide HBB).size)
  clear p0f q0f p1f q1f p2f q2f p3f q3f p4f q4f p5f q5f p6f q6f
  obtain ⟨⟨p0g, p1g, p2g, p3g, p4g, p5g, p6g⟩, ⟨q0g, q1g, q2g, q3g, q4g, q5g, q6g⟩, IAg, IRg, RLg, _⟩ := unhide HC w11 hb
  have HK := hide (Size_any (B := w11.heap.size) (d := 6) (IRg.isT fun _ h => h) (Nat.le_refl _) (by rw [sz_tR]; omega) (by rw [dp_tR]; omega))
  rw [sz_tR] at HK
  have HBB := hide hb
  clear IAg IRg RLg hb hb9
  go_wp2_with fail
  refine (unhide HK).mono ?_
  rintro e w12 ⟨rfl, hb9⟩
  have hb : Below w5.heap.size w5 w12 := (unhide HBB).trans (hb9.mono (unhide HBB).size)
  clear p0g q0g p1g q1g p2g q2g p3g q3g p4g q4g p5g q5g p6g q6g
  obtain ⟨⟨p0h, p1h, p2h, p3h, p4h, p5h, p6h⟩, ⟨q0h, q1h, q2h, q3h, q4h, q5h, q6h⟩, IAh, IRh, RLh, _⟩ := unhide HC w12 hb
  have HK := hide (Depth_any (B := w12.heap.size) (d := 6) (IRh.isT fun _ h => h) (Nat.le_refl _) (by rw [sz_tR]; omega) (by rw [dp_tR]; omega))
  rw [dp_tR] at HK
  have HBB := hide hb
  clear IAh IRh RLh hb hb9
  go_wp2_with fail
  refine (unhide HK).mono ?_
  rintro e w13 ⟨rfl, hb9⟩
  have hb : Below w5.heap.size w5 w13 := (unhide HBB).trans (hb9.mono (unhide HBB).size)
  obtain ⟨_, _, _, _, _, hfin⟩ := unhide HC w13 hb
  have HFin := hide hfin
  clear hb hb9 hfin HC
  clear p0h q0h p1h q1h p2h q2h p3h q3h p4h q4h p5h q5h p6h q6h
  go_wp2
  go_ret
  exact ⟨rfl, unhide HFin⟩
end Go.Proofs.YtegmckpcchhmdaaDoor

namespace Go.Proofs.YtegmckpcchhmdaaDoor
open Go Go.RowKit
/-- So many w. -/
def ws (n : Nat) : ByteArray := ⟨(List.replicate n 119).toArray⟩
end Go.Proofs.YtegmckpcchhmdaaDoor
