/- avowref7: Check; avowlaw7: RupChecks. -/
import Derived.Test.YtmkkhpoedlbafaaQY
set_option linter.unusedVariables false
set_option linter.unusedSimpArgs false

namespace Go.Proofs.Ytmkkhpoedlbafaa
open Go Go.RowKit Go.Sort
theorem owns_below {w w2 : World} {B : Nat} {t : TypeId} {v : Value} {n : Nat} {xs : List Value} (h : w.ownsRow B t 1 v n xs) (hb : Below w.heap.size w w2) : w2.ownsRow B t 1 v n xs := by
  rcases h.2 with ⟨rfl, rfl⟩ | ⟨g, cap, cur, rfl, _, hg, _⟩
  · exact ⟨h.1, .inl ⟨rfl, rfl⟩⟩
  · exact owns_stay h (hb.block g (lt_of_heap hg))
/-- In the midst of the document's Check. -/
structure DR (w w' : World) (ls tr : List (List Int)) (i : Nat) (hv : Value) (e : Bool) : Prop where
  row : ∃ vs, w'.ownsRow w.heap.size 23 1 hv (ls.length + i) vs ∧ Vl w' w.heap.size vs (ls ++ tr.take i)
  em : e = true ↔ [] ∈ ls ++ tr.take i
  go : Goes ls tr i
  bl : Below w.heap.size w w'
theorem mem_one {ls tr : List (List Int)} {i : Nat} {c : List Int} (h : tr[i]? = some c) : [] ∈ ls ++ tr.take (i + 1) ↔ [] ∈ ls ++ tr.take i ∨ c = [] := by
  rw [take_one' h, ← List.append_assoc, List.mem_append, List.mem_singleton]
  exact or_congr Iff.rfl eq_comm
/-- One more clause. -/
theorem DR.more {w w2 : World} {ls tr : List (List Int)} {i : Nat} {hv u : Value} {e : Bool} {c : List Int} (h : DR w w2 ls tr i hv e) (hi : i ≤ tr.length) (hc : tr[i]? = some c) (hf : Fol (ls ++ tr.take i) c) (hu : Sl w w.heap.size u c) (hT : ls.length + tr.length ≤ 1000000) :
    ∃ v' w', (Builtin.append_ #[22, 22] 22 #[hv, .slice (some ⟨w2.heap.size, 0, none⟩) 1 1]).run Try.prog (w2.alloc (.cells #[u] 23)) = .ok v' w' ∧ ∀ e', (e' = true ↔ e = true ∨ c = []) → DR w w' ls tr (i + 1) v' e' := by
  obtain ⟨vs, o, k⟩ := h.row
  have hb1 : Below w.heap.size w (w2.alloc (.cells #[u] 23)) := h.bl.alloc h.bl.size _
  have hg : (w2.alloc (.cells #[u] 23)).heap[w2.heap.size]? = some (.cells #[u] 23) := heap_alloc_new w2 _
  have hr : Rd (w2.alloc (.cells #[u] 23)) (.slice (some ⟨w2.heap.size, 0, none⟩) 1 1) [u] := .inr ⟨_, 1, rfl, fun j x hx => by
    have hj : j = 0 := by
      have := (List.getElem?_eq_some_iff.1 hx).1
      simp at this; omega
    subst hj
    simp at hx
    subst hx
    rw [ad_add]
    exact cell_of_row _ _ 0 _ _ _ hg⟩
  have hl := (List.getElem?_eq_some_iff.1 hc).1
  obtain ⟨v', w', r, o', g'⟩ := app_rows (o.alloc _) hr (fun x hx => by simp at hx; subst hx; exact hu.one) (by simp; omega) hb1.size 22
  have hb2 : Below w.heap.size w w' := below_app hb1 g' (o.alloc _) hb1.size
  have hb3 : Below w.heap.size w2 w' := ⟨hb2.os.trans h.bl.os.symm, hb2.tape.trans h.bl.tape.symm, hb2.output.trans h.bl.output.symm, by have := g'.size; rw [World.size_alloc] at this; omega, fun q hq => (hb2.block q hq).trans (h.bl.block q hq).symm⟩
  refine ⟨v', w', r, fun e' he => ⟨⟨vs ++ [u], ?_, ?_⟩, ?_, h.go.more hc hf, hb2⟩⟩
  · have e1 : ls.length + (i + 1) = ls.length + i + [u].length := by simp; omega
    rw [e1]
    exact o'
  · rw [take_one' hc, ← List.append_assoc]
    exact (k.below hb3).app (Vl.single (hu.below hb2))
  · rw [he, h.em, mem_one hc]
/-- The document's Follows, asked in the midst of its Check. -/
theorem DR.asks {w w1 : World} {ls tr : List (List Int)} {j b off : Nat} {hv u : Value} {e : Bool} {c : List Int} (hd : DR w w1 ls tr j hv e) (hj : j ≤ tr.length) (hcl : tr[j]? = some c) (hS : Sl w w.heap.size u c) (hbB : b < w.heap.size) (hc0 : w.cell? ⟨b, off + j, none⟩ = some u) (hT : ls.length + tr.length ≤ 1000000) :
    Calls Try.prog 12 #[hv, u] w1 fun e2 w2 => ∃ bb, e2 = .returned (.bool bb) ∧ (bb = false → CkPost w ls tr (.returned (.tuple #[.int .i64 j, .int .i64 70])) w2) ∧ (bb = true → w2.cell? ⟨b, off + j, none⟩ = some u ∧ ∃ v' w3, (Builtin.append_ #[22, 22] 22 #[hv, .slice (some ⟨w2.heap.size, 0, none⟩) 1 1]).run Try.prog (w2.alloc (.cells #[u] 23)) = .ok v' w3 ∧ w3.cell? ⟨b, off + j, none⟩ = some u ∧ ∀ e', (e' = true ↔ e = true ∨ c = []) → DR w w3 ls tr (j + 1) v' e') := by
  have hjl := (List.getElem?_eq_some_iff.1 hcl).1
  obtain ⟨vs, o, k⟩ := hd.row
  have hlen : (ls ++ tr.take j).length = ls.length + j := by simp; omega
  refine (ref_follows _ _ u (ls ++ tr.take j) c _ (Nat.le_refl _) (Sl2.own (by rw [hlen]; exact o) (Nat.le_refl _) (k.mono hd.bl.size)) ((hS.below hd.bl).mono hd.bl.size)).mono ?_
  rintro e2 w2 ⟨bb, rfl, hbb, hb2⟩
  have hbl := hd.bl.trans (hb2.mono hd.bl.size)
  refine ⟨bb, rfl, fun e => ?_, fun e1 => ?_⟩
  · have hnf : ¬ Fol (ls ++ tr.take j) c := fun h => by rw [hbb.2 h] at e; cases e
    exact ⟨j, 70, rfl, hd.go.stop hcl hnf, by rw [if_pos hjl], hbl⟩
  · have hd2 : DR w w2 ls tr j hv e := ⟨⟨vs, owns_below o hb2, k.below (hb2.mono hd.bl.size)⟩, hd.em, hd.go, hbl⟩
    obtain ⟨v', w3, r3, h3⟩ := hd2.more hj hcl (hbb.1 e1) hS hT
    refine ⟨(hbl.cell (p := ⟨b, off + j, none⟩) hbB).trans hc0, v', w3, r3, ?_, h3⟩
    exact (((h3 (decide (e = true ∨ c = [])) (by simp)).bl).cell (p := ⟨b, off + j, none⟩) hbB).trans hc0
set_option maxRecDepth 100000 in
set_option maxHeartbeats 16000000 in
theorem ref_check (w : World) (vl vt : Value) (ls tr : List (List Int)) (hl : Sl2 w w.heap.size vl ls) (ht : Sl2 w w.heap.size vt tr) (hT : tot ls + tot tr ≤ 100000) :
    Calls Try.prog 15 #[vl, vt] w (CkPost w ls tr) := by
  have t1 := tot_len ls
  have t2 := tot_len tr
  obtain ⟨us, rs, ks⟩ := hl.vals
  have hus := ks.len
  obtain ⟨v0, w1, r0, o0, g0⟩ := app_rows (own_nil w w.heap.size 23) rs ks.one (by omega) (Nat.le_refl _) 22
  have b0 : Below w.heap.size w w1 := below_app (Below.refl _ w) g0 (own_nil w w.heap.size 23) (Nat.le_refl _)
  have h0 : ∀ e, (e = true ↔ [] ∈ ls) → DR w w1 ls tr 0 v0 e := fun e he => ⟨⟨us, by rw [Nat.add_zero, ← hus]; simpa using o0, by rw [List.take_zero, List.append_nil]; exact ks.below b0⟩, by rw [List.take_zero, List.append_nil]; exact he, fun j _ h => absurd h (Nat.not_lt_zero _), b0⟩
  have H0 := hide h0
  have R0' := hide r0
  obtain ⟨al, capl, rfl, hmaxl, hcl⟩ := hl.open
  obtain ⟨a, cap, rfl, hmax, hct⟩ := ht.open
  obtain ⟨m, hm⟩ : ∃ m, ls.length = m := ⟨_, rfl⟩
  obtain ⟨n, hn⟩ : ∃ n, tr.length = n := ⟨_, rfl⟩
  have HM := hide hm
  have HN := hide hn
  have HCL := hide hcl
  have HCT := hide hct
  have HB0 := hide b0
  have HT := hide (show ls.length + tr.length ≤ 1000000 by omega)
  have hmb : (m : Int) ≤ 1000000 := by omega
  have hnb : (n : Int) ≤ 1000000 := by omega
  rw [hm] at hmaxl R0' ⊢
  rw [hn] at hmax ⊢
  clear hl ht hT t1 t2 us rs ks hus r0 o0 g0 b0 h0 hm hn hcl hct
  go_enter Try.func15, Try.ntmps15
  go_wp2_with (at_builtin; refine app_run _ _ _ rfl rfl rfl rfl (unhide R0') ?_; clear R0')
  go_loop [7, 8] (fun ev iv => ∃ (e : Bool) (i : Nat), ev = .bool e ∧ iv = .int .i64 i ∧ i ≤ m ∧ Hid (e = true ↔ [] ∈ ls.take i)) (fun _ iv => m - (intOf iv).toNat)
  case atStart => exact ⟨false, 0, rfl, rfl, Nat.zero_le _, by show _ ↔ _; simp⟩
  case round =>
    obtain ⟨e, i, rfl, rfl, hi0, HE⟩ := hrel
    by_cases hi : i < m
    · have hil : i < ls.length := by rw [unhide HM]; exact hi
      obtain ⟨b, off, u, rfl, hc0, hbB, hS⟩ := unhide HCL i hil
      have hc := ((unhide HB0).cell (p := ⟨b, off + i, none⟩) hbB).trans hc0
      obtain ⟨c, hcl⟩ : ∃ c, ls[i]? = some c := ⟨_, List.getElem?_eq_getElem hil⟩
      have hce : ls[i] = c := (List.getElem?_eq_some_iff.1 hcl).2
      rw [hce] at hS
      obtain ⟨au, capu, rfl, _, _⟩ := hS.open
      have HMem : Hid ([] ∈ ls.take (i + 1) ↔ [] ∈ ls.take i ∨ c = []) := by
        show _ ↔ _
        have := mem_one (ls := []) hcl
        simpa using this
      obtain ⟨q, hq⟩ : ∃ q, c.length = q := ⟨_, rfl⟩
      rw [hq] at hc
      have HQ := hide hq
      have p1 : (0 : Int) ≤ (i : Int) := by omega
      have p2 : (i : Int) < (m : Int) := by omega
      clear hc0 hcl hce hS hil hq
      cases e with
      | true =>
        go_wp2
        exact ⟨⟨true, i + 1, rfl, by simp, by omega, by show _ ↔ _; rw [unhide HMem]; exact ⟨fun _ => .inl ((unhide HE).1 rfl), fun _ => rfl⟩⟩, by simp [intOf]; omega⟩
      | false =>
        by_cases hq0 : q = 0
        · subst hq0
          go_wp2
          exact ⟨⟨true, i + 1, rfl, by simp, by omega, by show _ ↔ _; rw [unhide HMem]; exact ⟨fun _ => .inr (List.eq_nil_of_length_eq_zero (unhide HQ)), fun _ => rfl⟩⟩, by simp [intOf]; omega⟩
        · have hq1 : ((q : Int) == 0) = false := by simp; omega
          have HQ0 := hide hq0
          clear hq0
          go_wp2
          refine ⟨⟨false, i + 1, rfl, by simp, by omega, ?_⟩, by simp [intOf]; omega⟩
          show _ ↔ _
          rw [unhide HMem]
          refine ⟨fun h => (by cases h), fun h => ?_⟩
          rcases h with h | h
          · exact (unhide HE).2 h
          · have := unhide HQ
            rw [h] at this
            exact absurd this.symm (unhide HQ0)
    · have hf : decide ((i : Int) < (m : Int)) = false := by simp; omega
      have hle : (m : Int) ≤ (i : Int) := by omega
      have HD : Hid (DR w w1 ls tr 0 v0 e) := unhide H0 e (by
        have h1 := unhide HE
        rw [List.take_of_length_le (show ls.length ≤ i by rw [unhide HM]; omega)] at h1
        exact h1)
      clear HE H0 HB0 HCL
      go_wp2
      go_loopw [6, 7, 9] (fun hv ev iv w' => ∃ (e : Bool) (j : Nat), ev = .bool e ∧ iv = .int .i64 j ∧ j ≤ n ∧ DR w w' ls tr j hv e) (fun _ _ iv _ => n - (intOf iv).toNat)
      case atStart => exact ⟨e, 0, rfl, rfl, Nat.zero_le _, unhide HD⟩
      case round =>
        clear HD
        obtain ⟨e, j, rfl, rfl, hj0, hd⟩ := hrel
        by_cases hj : j < n
        · have hjl : j < tr.length := by rw [unhide HN]; exact hj
          obtain ⟨b, off, u, rfl, hc0, hbB, hS⟩ := unhide HCT j hjl
          obtain ⟨c, hcl⟩ : ∃ c, tr[j]? = some c := ⟨_, List.getElem?_eq_getElem hjl⟩
          have hce : tr[j] = c := (List.getElem?_eq_some_iff.1 hcl).2
          rw [hce] at hS
          have hc := (hd.bl.cell (p := ⟨b, off + j, none⟩) hbB).trans hc0
          have HF := hide (hd.asks (by omega) hcl hS hbB hc0 (unhide HT))
          obtain ⟨au, capu, hu, _, _⟩ := hS.open
          obtain ⟨q, hq⟩ : ∃ q, c.length = q := ⟨_, rfl⟩
          rw [hq] at hu
          subst hu
          have HQ := hide hq
          have p1 : (0 : Int) ≤ (j : Int) := by omega
          have p2 : (j : Int) < (n : Int) := by omega
          clear hd hcl hce hS hjl hq hc0
          go_wp2_with fail
          refine (unhide HF).mono ?_
          rintro e2 w2 ⟨bb, rfl, h2, h3⟩
          have H2 := hide h2
          have H3 := hide h3
          clear h2 h3 HF hc
          cases bb with
          | false =>
            have H4 := hide (unhide H2 rfl)
            clear H2 H3
            go_wp2
            exact bodyPost_ret (res_two rfl rfl rfl) rfl (unhide H4)
          | true =>
            obtain ⟨hc2, v', w3, r3, hc3, h3⟩ := unhide H3 rfl
            have R3 := hide r3
            have HD3 := hide h3
            clear H2 H3 r3 h3
            cases e with
            | true =>
              go_wp2_with (at_builtin; refine app_run _ _ _ rfl rfl rfl rfl (unhide R3) ?_; clear R3)
              exact ⟨⟨true, j + 1, rfl, by simp, by omega, unhide HD3 true (by simp)⟩, by simp [intOf]; omega⟩
            | false =>
              by_cases hq0 : q = 0
              · have hcn : c = [] := List.eq_nil_of_length_eq_zero ((unhide HQ).trans hq0)
                have HD4 := hide (unhide HD3 true (by simp [hcn]))
                subst hq0
                clear HD3 hcn
                go_wp2_with (at_builtin; refine app_run _ _ _ rfl rfl rfl rfl (unhide R3) ?_; clear R3)
                exact ⟨⟨true, j + 1, rfl, by simp, by omega, unhide HD4⟩, by simp [intOf]; omega⟩
              · have hq1 : ((q : Int) == 0) = false := by simp; omega
                have HD4 := hide (unhide HD3 false (by
                  have : ¬ c = [] := fun h => by
                    have := unhide HQ
                    rw [h] at this
                    exact hq0 this.symm
                  simp [this]))
                clear HD3 hq0
                go_wp2_with (at_builtin; refine app_run _ _ _ rfl rfl rfl rfl (unhide R3) ?_; clear R3)
                exact ⟨⟨false, j + 1, rfl, by simp, by omega, unhide HD4⟩, by simp [intOf]; omega⟩
        · have hf : decide ((j : Int) < (n : Int)) = false := by simp; omega
          have hle : (n : Int) ≤ (j : Int) := by omega
          have hjn : j = n := by omega
          have htk : tr.take j = tr := List.take_of_length_le (by rw [unhide HN]; omega)
          have hemp := hd.em
          rw [htk] at hemp
          have hgo := hd.go
          rw [hjn, ← unhide HN] at hgo
          have HE : Hid (∀ er : Int, er = (if [] ∈ ls ++ tr then 0 else 70) → CkPost w ls tr (.returned (.tuple #[.int .i64 n, .int .i64 er])) _) := fun er he => ⟨n, er, rfl, by have := hgo.all; rwa [unhide HN] at this, by rw [if_neg (by rw [unhide HN]; omega)]; exact he, hd.bl⟩
          cases e with
          | true =>
            have H := hide (unhide HE 0 (by rw [if_pos (hemp.1 rfl)]))
            clear hd htk hemp hgo HE hjn
            go_wp2
            exact bodyPost_ret (res_two rfl rfl rfl) rfl (unhide H)
          | false =>
            have H := hide (unhide HE 70 (by rw [if_neg (fun h => by have := hemp.2 h; cases this)]))
            clear hd htk hemp hgo HE hjn
            go_wp2
            exact bodyPost_ret (res_two rfl rfl rfl) rfl (unhide H)
set_option maxRecDepth 100000 in
set_option maxHeartbeats 16000000 in
theorem rupchecks_walk (vl vt : Value) (ls tr : List (List Int)) (w : World) (hL : Sl2 w w.heap.size vl ls) (hM : Sl2 w w.heap.size vt tr) (hlen : ∀ d ∈ [ls, tr], ∀ c ∈ d, c.length ≤ 17592186044416) :
    Calls Try.prog 4 #[vl, vt] w (YesPost w) := by
  obtain ⟨B, hB⟩ : ∃ B, w.heap.size = B := ⟨_, rfl⟩
  have hBw : B ≤ w.heap.size := by omega
  rw [hB] at hL hM
  obtain ⟨al, capl, rfl, hmaxl, _⟩ := hL.open
  obtain ⟨al2, capl2, rfl, hmaxl2, _⟩ := hM.open
  have HAll : Hid (∀ W, Below B w W → Sl2 W B (.slice al ls.length capl) ls ∧ Sl2 W B (.slice al2 tr.length capl2) tr) := fun W h => ⟨hL.below h, hM.below h⟩
  obtain ⟨m, hm⟩ : ∃ m, ls.length = m := ⟨_, rfl⟩
  obtain ⟨m2, hm2⟩ : ∃ m2, tr.length = m2 := ⟨_, rfl⟩
  rw [hm, hm2] at HAll
  rw [hm, hm2]
  rw [hm] at hmaxl
  rw [hm2] at hmaxl2
  have HLen := hide hlen
  have HBB := hide hB
  clear hL hM hlen hB hm hm2
  go_enter Try.func4, Try.ntmps4
  go_wp2_with fail
  refine (known_any w).mono ?_
  rintro e w1 ⟨rfl, hb1⟩
  go_wp2_with fail
  have hB1 : B ≤ w1.heap.size := Nat.le_trans hBw hb1.size
  have hb1' := hb1.mono hBw
  obtain ⟨l1, l2⟩ := unhide HAll w1 hb1'
  have hP := pack1 hB1 l1 l2
  have hbW : Below w1.heap.size w1 (w1.alloc (.cells #[.slice al m capl, .slice al2 m2 capl2] 22)) := (Below.refl _ w1).alloc (Nat.le_refl _) _
  have hBW := hb1'.trans (hbW.mono hB1)
  refine (light_is _ _ _ _ hP (unhide HLen)).mono ?_
  clear hP l1 l2
  rintro e w2 ⟨bl, rfl, rfl, hbl⟩
  clear hbW
  generalize (w1.alloc (.cells #[.slice al m capl, .slice al2 m2 capl2] 22)) = w2 at *
  have H2 := hide hBW
  have HBl := hide hbl
  clear hBW hbl hb1 hb1' hB1
  cases bl with
  | false =>
    go_wp2
    go_ret
    exact ⟨rfl, by rw [unhide HBB]; exact unhide H2⟩
  | true =>
    have htot : tot ls + tot tr ≤ 1000 := by
      have := unhide HBl rfl
      simp [totl] at this
      omega
    have hB2 : B ≤ w2.heap.size := Nat.le_trans hBw (by have := (unhide H2).size; omega)
    have HC1 : Hid (Calls Try.prog 14 #[.slice al m capl, .slice al2 m2 capl2] w2 fun e w3 => ∃ (k : Nat) (er : Int), e = .returned (.tuple #[.int .i64 k, .int .i64 er]) ∧ Calls Try.prog 15 #[.slice al m capl, .slice al2 m2 capl2] w3 fun e' w4 => e' = .returned (.tuple #[.int .i64 k, .int .i64 er]) ∧ Below B w w4) := by
      obtain ⟨j1, j2⟩ := unhide HAll w2 (unhide H2)
      refine (rCheck_any w2 _ _ ls tr (j1.mono hB2) (j2.mono hB2) (by omega)).mono ?_
      rintro e w3 ⟨k, er, rfl, h1, h2, h3⟩
      have hb3 := (unhide H2).trans (h3.mono hB2)
      have hB3 : B ≤ w3.heap.size := Nat.le_trans hB2 h3.size
      obtain ⟨q1, q2⟩ := unhide HAll w3 hb3
      refine ⟨k, er, rfl, (ref_check w3 _ _ ls tr (q1.mono hB3) (q2.mono hB3) (by omega)).mono ?_⟩
      rintro e' w4 ⟨k', er', rfl, h4, h5, h6⟩
      have hk := Taken.one h4 h1
      subst hk
      have he : er' = er := by rw [h5, h2]
      subst he
      exact ⟨rfl, hb3.trans (h6.mono hB3)⟩
    clear htot hB2 HBl HLen HAll
    go_wp2_with (first
      | (go_at_call 14; refine (unhide HC1).mono ?_; intro e w3 h3; obtain ⟨k, er, rfl, h3⟩ := h3; have H3 := hide h3; clear h3)
      | (go_at_call 15; refine (unhide H3).mono ?_; intro e w4 h4; obtain ⟨rfl, h4⟩ := h4; have H4 := hide h4; clear h4))
    go_ret
    exact ⟨by simp, by rw [unhide HBB]; exact unhide H4⟩
end Go.Proofs.Ytmkkhpoedlbafaa
