/- Package parse: Program. -/
import Derived.Test.YtljhpbjngbbjbaaDoorZAS
import Derived.Test.YtljhpbjngbbjbaaDoorZAN
import Derived.Test.YtljhpbjngbbjbaaDoorZAC
import Derived.Test.YtljhpbjngbbjbaaDoorZAO
set_option linter.unusedVariables false
set_option linter.unusedSimpArgs false

/- The document's Tokens: rounds at numbers. -/
namespace Go.Proofs.YtljhpbjngbbjbaaDoor
open Go Go.RowKit

theorem kd_dig (s : ByteArray) (i : Nat) (h : kd s i = 3) : 48 ≤ By s i ∧ By s i ≤ 57 ∧ isDi (rn s i) = true := by
  have hd : isDi (rn s i) = true := by
    unfold kd at h
    cases h0 : noR s i <;> cases h1 : isBl (rn s i) <;> cases h2 : isLe (rn s i) <;> cases h3 : isDi (rn s i) <;> simp [h0, h1, h2, h3] at h ⊢
  have hl : rn s i < 128 := by unfold isDi at hd; simp at hd; omega
  have := (rn_low s i hl).1
  refine ⟨?_, ?_, hd⟩
  · unfold isDi at hd; simp at hd; omega
  · unfold isDi at hd; simp at hd; omega
theorem isDi_by (s : ByteArray) (j : Nat) : isDi (rn s j) = (decide ((48 : Int) ≤ ((By s j : Nat) : Int)) && decide (((By s j : Nat) : Int) ≤ 57)) := by
  by_cases hb : By s j < 128
  · rw [(rn_ascii s j hb).1]
    unfold isDi
    rw [Bool.eq_iff_iff]; simp; omega
  · have := rn_high s j hb
    have h1 : isDi (rn s j) = false := by unfold isDi; simp; omega
    rw [h1]
    have h2 : decide (((By s j : Nat) : Int) ≤ 57) = false := by simp; omega
    rw [h2, Bool.and_false]
set_option maxRecDepth 100000 in
set_option maxHeartbeats 16000000 in
theorem rr_num {Q : Exit → Act → World → Prop} {a : Act} {wr : World} {s : ByteArray} {ov : Value} {i B n : Nat} {xs : List Value} (hs : s.size ≤ 65536) (hT : Lib.Utf8Tabs 1 2 wr) (h : TS a s ov i) (hi : i < s.size) (hk : kd s i = 3)
    (hown : wr.ownsRow B 87 3 ov n xs) (hn : n ≤ 65536) (hB : B ≤ wr.heap.size)
    (hqe : ∀ e, rdNum s i = (0, 0, some (i, e)) → ∀ a' w', RS a' i e → Below wr.heap.size wr w' → Q .ret a' w')
    (hqt : ∀ j, rdNum s i = (3, j, none) → ∀ a' w' ov', TS a' s ov' j → Below B wr w' → w'.ownsRow B 87 3 ov' (n + 1) (xs ++ [.int .i64 3, .string (s.extract i j), .int .i64 i]) → Q .normal a' w') : Code.wp Tryd.prog (tBody Tryd.f32) Q a wr := by
  obtain ⟨u, rfl⟩ := h.lit
  have c := refAt_any s i hi wr hT
  have hd0 := kd_dig s i hk
  rw [hk] at c
  have hiz : (i : Int) < (s.size : Int) := by omega
  have hx : (s[i]'hi).toNat = By s i := by unfold By; rw [get_lt s i hi]
  have hb40 : (((By s i : Nat) : Int) == 40) = false := by simp; omega
  clear h hT
  replace hown := hide hown
  obtain ⟨m, hm⟩ : ∃ m, digEnd s (s.size - i) i = i + m := ⟨digEnd s (s.size - i) i - i, by have := digEnd_le s (s.size - i) i (by omega); omega⟩
  have hle : i + m ≤ s.size := by rw [← hm]; exact (digEnd_le s (s.size - i) i (by omega)).2
  have hm1 : 1 ≤ m := by
    obtain ⟨g, hg⟩ : ∃ g, s.size - i = g + 1 := ⟨s.size - i - 1, by omega⟩
    rw [hg] at hm
    unfold digEnd at hm
    rw [if_pos hi, if_pos hd0.2.2] at hm
    have := (digEnd_le s g (i + 1) hi).1
    omega
  have hrd : rdNum s i = if (By s i == 48 && decide (1 < m)) = true then (0, 0, some (i, 140)) else if 400 < m then (0, 0, some (i, 141)) else (3, i + m, none) := by
    unfold rdNum
    rw [hm, show i + m - i = m by omega]
  obtain ⟨t, ht⟩ : ∃ t, s.extract i (i + m) = t := ⟨_, rfl⟩
  have hsl := fun W => sl2 s i (i + m) ((i : Int) + m) (by omega) (by omega) hle W
  rw [ht] at hsl
  have htz : t.size = m := by rw [← ht, ext_size s i (i + m) (by omega) hle]; omega
  have ht0 : (t[0]'(by omega)).toNat = By s i := by
    have e : t.get! 0 = s.get! i := by
      rw [get_lt t 0 (by omega), get_lt s i hi]
      subst ht
      exact ByteArray.getElem_extract ..
    unfold By
    rw [← e, get_lt t 0 (by omega)]
  have ht0' : ∀ hh : 0 < t.size, (t[0]'hh).toNat = By s i := fun _ => ht0
  clear ht0
  have hqt' := hide (hqt (i + m))
  have hqe' := hide hqe
  rw [ht] at hqt'
  clear hqe hqt hd0
  replace hrd := hide hrd
  replace hm := hide hm
  replace ht := hide ht
  rcases Bool.eq_false_or_eq_true (decide ((i : Int) + 1 < (s.size : Int))) with hd4 | hd4
  all_goals
    conv => arg 2; whnf
    go_wp2_with (refine c.mono ?_; rintro e w2 ⟨rfl, hb⟩)
    go_loopw [6] (fun iv w3 => ∃ j f : Nat, iv = .int .i64 j ∧ w3 = w2 ∧ digEnd s f j = i + m ∧ s.size ≤ j + f ∧ j ≤ s.size ∧ i ≤ j) (fun iv _ => s.size - (intOf iv).toNat)
    case atStart => exact ⟨i, s.size - i, rfl, rfl, unhide hm, by omega, by omega, Nat.le_refl _⟩
    case round =>
      obtain ⟨j, f, rfl, rfl, hd, hf, hj, hij⟩ := hrel
      by_cases hst : j < s.size ∧ isDi (rn s j) = true
      · obtain ⟨hjl, hjd⟩ := hst
        have hstep := hide (digEnd_step s hd hf hjl hjd)
        rw [isDi_by] at hjd
        obtain ⟨e1, e2⟩ : decide ((48 : Int) ≤ ((By s j : Nat) : Int)) = true ∧ decide (((By s j : Nat) : Int) ≤ 57) = true := by simpa using hjd
        have hxj : (s[j]'hjl).toNat = By s j := by unfold By; rw [get_lt s j hjl]
        have hdj : decide ((j : Int) < (s.size : Int)) = true := by simp; omega
        clear hjd hd
        go_wp2
        exact ⟨⟨j + 1, f - 1, by simp, trivial, (unhide hstep).1, (unhide hstep).2, hjl, by omega⟩, by simp [intOf]; omega⟩
      · have hjm : j = i + m := by
          by_cases hjl : j < s.size
          · have : isDi (rn s j) = false := by
              cases hq : isDi (rn s j) with
              | true => exact absurd ⟨hjl, hq⟩ hst
              | false => rfl
            exact (digEnd_stop s hd hf hjl this).symm
          · exact (digEnd_end s hd hjl).symm
        have hex : (decide ((j : Int) < (s.size : Int)) = false ∧ ¬ j < s.size) ∨ (decide ((j : Int) < (s.size : Int)) = true ∧ ∃ hjl : j < s.size, (s[j]'hjl).toNat = By s j ∧ (decide ((48 : Int) ≤ ((By s j : Nat) : Int)) = false ∨ (decide ((48 : Int) ≤ ((By s j : Nat) : Int)) = true ∧ decide (((By s j : Nat) : Int) ≤ 57) = false))) := by
          by_cases hjl : j < s.size
          · refine .inr ⟨by simp; omega, hjl, by unfold By; rw [get_lt s j hjl], ?_⟩
            have hq : isDi (rn s j) = false := by
              cases hq : isDi (rn s j) with
              | true => exact absurd ⟨hjl, hq⟩ hst
              | false => rfl
            rw [isDi_by] at hq
            cases e1 : decide ((48 : Int) ≤ ((By s j : Nat) : Int)) with
            | false => exact .inl rfl
            | true => rw [e1] at hq; exact .inr ⟨rfl, by simpa using hq⟩
          · exact .inl ⟨by simp; omega, hjl⟩
        have hjz : (j : Int) = (i : Int) + m := by omega
        have hsl' := hsl
        rw [← hjz] at hsl'
        have htm : ((t.size : Nat) : Int) = (m : Int) := by rw [htz]
        have ht1 : 0 < t.size := by omega
        have ht00 := ht0' ht1
        have hmle : (m : Int) ≤ 65536 := by omega
        have hjm' := hide hjm
        clear hst hd hjm hsl hjz
        replace htz := hide htz
        have hout : (decide ((1 : Int) < (m : Int)) = true ∧ (((By s i : Nat) : Int) == 48) = true ∧ rdNum s i = (0, 0, some (i, 140))) ∨ (decide ((1 : Int) < (m : Int)) = true ∧ (((By s i : Nat) : Int) == 48) = false ∧ decide ((400 : Int) < (m : Int)) = true ∧ rdNum s i = (0, 0, some (i, 141))) ∨ (decide ((1 : Int) < (m : Int)) = false ∧ decide ((400 : Int) < (m : Int)) = false ∧ rdNum s i = (3, i + m, none)) ∨ (decide ((1 : Int) < (m : Int)) = true ∧ (((By s i : Nat) : Int) == 48) = false ∧ decide ((400 : Int) < (m : Int)) = false ∧ rdNum s i = (3, i + m, none)) := by
          rw [unhide hrd]
          by_cases h1 : 1 < m
          · by_cases h2 : By s i = 48
            · exact .inl ⟨by simp; omega, by simp; omega, by rw [if_pos (by simp [h1, h2])]⟩
            · by_cases h3 : 400 < m
              · exact .inr (.inl ⟨by simp; omega, by simp; omega, by simp; omega, by rw [if_neg (by simp [h2]), if_pos h3]⟩)
              · exact .inr (.inr (.inr ⟨by simp; omega, by simp; omega, by simp; omega, by rw [if_neg (by simp [h2]), if_neg h3]⟩))
          · exact .inr (.inr (.inl ⟨by simp; omega, by simp; omega, by rw [if_neg (by simp [h1]), if_neg (by omega)]⟩))
        rcases hout with ⟨o1, o2, o3⟩ | ⟨o1, o2, o3, o4⟩ | ⟨o1, o2, o3⟩ | ⟨o1, o2, o3, o4⟩
        · replace o3 := hide o3
          rcases hex with ⟨x1, x0⟩ | ⟨x1, hjl, x2, x3 | ⟨x3, x4⟩⟩
          all_goals
            go_wp2
            exact unhide hqe' 140 (unhide o3) _ _ ⟨rfl, rfl, rfl, rfl⟩ hb
        · replace o4 := hide o4
          rcases hex with ⟨x1, x0⟩ | ⟨x1, hjl, x2, x3 | ⟨x3, x4⟩⟩
          all_goals
            go_wp2
            exact unhide hqe' 141 (unhide o4) _ _ ⟨rfl, rfl, rfl, rfl⟩ hb
        · replace o3 := hide o3
          obtain ⟨v5, w5, R1, ho5, hb5⟩ := tok_new 3 t i 80 (own_same (unhide hown) hb) (by omega) (by have := hb.size; omega)
          replace R1 := hide R1
          replace ho5 := hide ho5
          replace hb5 := hide hb5
          rcases hex with ⟨x1, x0⟩ | ⟨x1, hjl, x2, x3 | ⟨x3, x4⟩⟩
          all_goals
            go_wp2_with (at_builtin; refine app_run _ _ _ rfl rfl rfl rfl (unhide R1) ?_; clear R1)
            refine unhide hqt' (unhide o3) _ _ _ ⟨rfl, rfl, rfl, rfl, ?_⟩ ((hb.mono hB).trans (unhide hb5)) (unhide ho5)
            rw [← unhide hjm']
            rfl
        · replace o4 := hide o4
          obtain ⟨v5, w5, R1, ho5, hb5⟩ := tok_new 3 t i 80 (own_same (unhide hown) hb) (by omega) (by have := hb.size; omega)
          replace R1 := hide R1
          replace ho5 := hide ho5
          replace hb5 := hide hb5
          rcases hex with ⟨x1, x0⟩ | ⟨x1, hjl, x2, x3 | ⟨x3, x4⟩⟩
          all_goals
            go_wp2_with (at_builtin; refine app_run _ _ _ rfl rfl rfl rfl (unhide R1) ?_; clear R1)
            refine unhide hqt' (unhide o4) _ _ _ ⟨rfl, rfl, rfl, rfl, ?_⟩ ((hb.mono hB).trans (unhide hb5)) (unhide ho5)
            rw [← unhide hjm']
            rfl
end Go.Proofs.YtljhpbjngbbjbaaDoor

/- The document's Tokens: rounds at names. -/
namespace Go.Proofs.YtljhpbjngbbjbaaDoor
open Go Go.RowKit

theorem le_bl {c : Nat} (h : isLe c = true) : isBl c = false := by
  unfold isLe at h
  unfold isBl
  simp at h ⊢
  omega
theorem di_bl {c : Nat} (h : isDi c = true) : isBl c = false ∧ isLe c = false := by
  unfold isDi at h
  unfold isBl isLe
  simp at h ⊢
  omega
theorem kd_name (s : ByteArray) (j : Nat) : inName s j = (kd s j == 2 || kd s j == 3) := by
  unfold inName kd
  cases h0 : noR s j with
  | true => rfl
  | false =>
    cases h2 : isLe (rn s j) with
    | true => rw [le_bl h2]; rfl
    | false =>
      cases h3 : isDi (rn s j) with
      | true => rw [(di_bl h3).1]; rfl
      | false => cases isBl (rn s j) <;> rfl
theorem u8_lt {w : World} (h : Lib.Utf8Tabs 1 2 w) : 2 < w.heap.size := by
  have := (h.2 0 (by omega)).1
  rcases Nat.lt_or_ge 2 w.heap.size with h1 | h1
  · exact h1
  · simp [World.cell?, Array.getElem?_eq_none h1] at this
theorem u8_below {w w' : World} (h : Lib.Utf8Tabs 1 2 w) {B : Nat} (hb : Below B w w') (hB : 2 < B) : Lib.Utf8Tabs 1 2 w' := by
  refine ⟨fun c hc => ?_, fun i hi => ⟨?_, ?_⟩⟩
  · rw [hb.cell (p := ⟨1, c, none⟩) (show 1 < B by omega)]; exact h.1 c hc
  · rw [hb.cell (p := ⟨2, 2 * i, none⟩) hB]; exact (h.2 i hi).1
  · rw [hb.cell (p := ⟨2, 2 * i + 1, none⟩) hB]; exact (h.2 i hi).2
set_option maxRecDepth 100000 in
set_option maxHeartbeats 16000000 in
theorem rr_name {Q : Exit → Act → World → Prop} {a : Act} {w0 : World} {s : ByteArray} {ov : Value} {i B n : Nat} {xs : List Value} (hs : s.size ≤ 65536) (hT : Lib.Utf8Tabs 1 2 w0) (h : TS a s ov i) (hi : i < s.size) (hk : kd s i = 2)
    (hown : w0.ownsRow B 87 3 ov n xs) (hn : n ≤ 65536) (hB : B ≤ w0.heap.size)
    (hqe : ∀ e, rdName s i = (0, 0, some (i, e)) → ∀ a' w', RS a' i e → Below w0.heap.size w0 w' → Q .ret a' w')
    (hqt : ∀ (k : Int) j, rdName s i = (k, j, none) → ∀ a' w' ov', TS a' s ov' j → Below B w0 w' → w'.ownsRow B 87 3 ov' (n + 1) (xs ++ [.int .i64 k, .string (s.extract i j), .int .i64 i]) → Q .normal a' w') : Code.wp Tryd.prog (tBody Tryd.f32) Q a w0 := by
  obtain ⟨u, rfl⟩ := h.lit
  have c := refAt_any s i hi w0 hT
  have hne := kd_open s i (by omega)
  have hk0 := hk
  rw [hk] at c
  have hiz : (i : Int) < (s.size : Int) := by omega
  have hx : (s[i]'hi).toNat = By s i := by unfold By; rw [get_lt s i hi]
  have hb40 : (((By s i : Nat) : Int) == 40) = false := by simp; omega
  have h3w := u8_lt hT
  clear h hne
  replace hT := hide hT
  replace hown := hide hown
  obtain ⟨m, hm⟩ : ∃ m, nameEnd s (s.size - i) i = i + m := ⟨nameEnd s (s.size - i) i - i, by have := nameEnd_le s (s.size - i) i (by omega); omega⟩
  have hle : i + m ≤ s.size := by rw [← hm]; exact (nameEnd_le s (s.size - i) i (by omega)).2
  obtain ⟨t, ht⟩ : ∃ t, s.extract i (i + m) = t := ⟨_, rfl⟩
  have htz : t.size = m := by rw [← ht, ext_size s i (i + m) (by omega) hle]; omega
  have hrd : rdName s i = if 40 < m then (0, 0, some (i, 141)) else if isWd t then (2, i + m, none) else (1, i + m, none) := by
    unfold rdName
    rw [hm, show i + m - i = m by omega, ht]
  have hsl := fun W => sl2 s i (i + m) ((i : Int) + m) (by omega) (by omega) hle W
  rw [ht] at hsl
  have hqt' : Hid (∀ k : Int, rdName s i = (k, i + m, none) → ∀ a' w' ov', TS a' s ov' (i + m) → Below B w0 w' → w'.ownsRow B 87 3 ov' (n + 1) (xs ++ [.int .i64 k, .string t, .int .i64 i]) → Q .normal a' w') := fun k hk a' w' ov' h1 h2 h3 => hqt k (i + m) hk a' w' ov' h1 h2 (by rw [ht]; exact h3)
  have hqe' := hide hqe
  have cW := refWord_any t
  clear hqe hqt
  replace hrd := hide hrd
  replace hm := hide hm
  replace ht := hide ht
  replace hk0 := hide hk0
  replace hsl := hide hsl
  clear hk
  rcases Bool.eq_false_or_eq_true (decide ((i : Int) + 1 < (s.size : Int))) with hd4 | hd4
  all_goals
    conv => arg 2; whnf
    go_wp2_with (refine c.mono ?_; rintro e w2 ⟨rfl, hb⟩)
    go_loopw [6, 7, 8] (fun jv kv nv w3 => ∃ j f : Nat, jv = .int .i64 j ∧ Below w0.heap.size w0 w3 ∧ nameEnd s f j = i + m ∧ s.size ≤ j + f ∧ j ≤ s.size ∧ i ≤ j ∧ ∃ kk nn : Nat, kv = .int .i64 kk ∧ nv = .int .i64 nn ∧ (j < s.size → kk = kd s j ∧ nn = wd s j)) (fun jv _ _ _ => s.size - (intOf jv).toNat)
    case atStart => exact ⟨i, s.size - i, rfl, hb, unhide hm, by omega, by omega, Nat.le_refl _, 2, wd s i, rfl, rfl, fun _ => ⟨(unhide hk0).symm, rfl⟩⟩
    case round =>
      obtain ⟨j, f, rfl, hb3, hd, hf, hj, hij, kk, nn, rfl, rfl, hkn⟩ := hrel
      have hT3 := u8_below (unhide hT) hb3 h3w
      by_cases hst : j < s.size ∧ inName s j = true
      · obtain ⟨hjl, hjd⟩ := hst
        obtain ⟨rfl, rfl⟩ := hkn hjl
        have hstep := hide (nameEnd_step s hd hf hjl hjd)
        have hw1 := wd_pos s j
        have hw2 := wd_le s j hjl
        have hdj : decide ((j : Int) < (s.size : Int)) = true := by simp; omega
        have hwz : ((wd s j : Nat) : Int) ≤ 65536 := by omega
        rw [kd_name] at hjd
        have hkk : (((kd s j : Nat) : Int) == 2) = true ∨ ((((kd s j : Nat) : Int) == 2) = false ∧ (((kd s j : Nat) : Int) == 3) = true) := by
          simp only [Bool.or_eq_true, beq_iff_eq] at hjd
          rcases hjd with h | h
          · exact .inl (by rw [h]; rfl)
          · exact .inr (by rw [h]; exact ⟨rfl, rfl⟩)
        obtain ⟨K, hK⟩ : ∃ K, kd s j = K := ⟨_, rfl⟩
        obtain ⟨Z, hZ⟩ : ∃ Z, wd s j = Z := ⟨_, rfl⟩
        rw [hK] at hkk
        rw [hZ] at hw1 hw2 hwz hstep
        rw [hK, hZ]
        replace hK := hide hK
        replace hZ := hide hZ
        clear hjd hd hkn
        by_cases hnx : j + Z < s.size
        · have hdn : decide ((j : Int) + (Z : Int) < (s.size : Int)) = true := by simp; omega
          have c2 := refAt_any s (j + Z) hnx wr hT3
          rw [Int.natCast_add] at c2
          rcases hkk with k1 | ⟨k1, k2⟩
          all_goals
            go_wp2_with (refine c2.mono ?_; rintro e w4 ⟨rfl, hb4⟩)
            exact ⟨⟨j + Z, f - 1, by simp, hb3.trans (hb4.mono hb3.size), (unhide hstep).1, (unhide hstep).2, by omega, by omega, _, _, rfl, rfl, fun _ => ⟨rfl, rfl⟩⟩, by simp [intOf]; omega⟩
        · have hdn : decide ((j : Int) + (Z : Int) < (s.size : Int)) = false := by simp; omega
          rcases hkk with k1 | ⟨k1, k2⟩
          all_goals
            go_wp2
            exact ⟨⟨j + Z, f - 1, by simp, hb3, (unhide hstep).1, (unhide hstep).2, by omega, by omega, _, _, rfl, rfl, fun h => absurd h hnx⟩, by simp [intOf]; omega⟩
      · have hjm : j = i + m := by
          by_cases hjl : j < s.size
          · have : inName s j = false := by
              cases hq : inName s j with
              | true => exact absurd ⟨hjl, hq⟩ hst
              | false => rfl
            exact (nameEnd_stop s hd hf hjl this).symm
          · exact (nameEnd_end s hd hjl).symm
        have hex : (decide ((j : Int) < (s.size : Int)) = false ∧ ¬ j < s.size) ∨ (decide ((j : Int) < (s.size : Int)) = true ∧ j < s.size ∧ (((kk : Nat) : Int) == 2) = false ∧ (((kk : Nat) : Int) == 3) = false) := by
          by_cases hjl : j < s.size
          · have hq : inName s j = false := by
              cases hq : inName s j with
              | true => exact absurd ⟨hjl, hq⟩ hst
              | false => rfl
            rw [kd_name, ← (hkn hjl).1] at hq
            simp only [Bool.or_eq_false_iff, beq_eq_false_iff_ne] at hq
            exact .inr ⟨by simp; omega, hjl, by simp; omega, by simp; omega⟩
          · exact .inl ⟨by simp; omega, hjl⟩
        have hsl' : ∀ W, (Instr.slice 9 (.string s) (some (.int .i64 i)) (some (.int .i64 (j : Int))) none).run Tryd.prog W = .ok (.string t) W := fun W => by
          have := unhide hsl W
          rw [show (j : Int) = (i : Int) + m by omega]
          exact this
        have htm : ((t.size : Nat) : Int) = (m : Int) := by rw [htz]
        have hmle : (m : Int) ≤ 65536 := by omega
        have hjm' := hide hjm
        clear hst hd hjm hkn
        have hout : (isWd t = true ∧ rdName s i = (2, i + m, none)) ∨ (isWd t = false ∧ decide ((40 : Int) < (m : Int)) = true ∧ rdName s i = (0, 0, some (i, 141))) ∨ (isWd t = false ∧ decide ((40 : Int) < (m : Int)) = false ∧ rdName s i = (1, i + m, none)) := by
          rw [unhide hrd]
          cases hw : isWd t with
          | true =>
            have := wd_word t hw
            exact .inl ⟨rfl, by rw [if_neg (by omega), if_pos rfl]⟩
          | false =>
            by_cases h4 : 40 < m
            · exact .inr (.inl ⟨rfl, by simp; omega, by rw [if_pos h4]⟩)
            · exact .inr (.inr ⟨rfl, by simp; omega, by rw [if_neg h4, if_neg Bool.false_ne_true]⟩)
        replace htz := hide htz
        rcases hout with ⟨o1, o3⟩ | ⟨o1, o2, o3⟩ | ⟨o1, o2, o3⟩
        · rw [o1] at cW
          replace o3 := hide o3
          replace o1 := hide o1
          rcases hex with ⟨x1, x0⟩ | ⟨x1, hjl, x2, x3⟩
          all_goals
            go_wp2_with (first | (refine (cW _).mono ?_; rintro e w5 ⟨rfl, hb5⟩; obtain ⟨v6, w6, R1, ho6, hb6⟩ := tok_new 2 t i 80 (own_same (own_same (unhide hown) hb3) hb5) (by omega) (by have := hb3.size; have := hb5.size; omega); replace R1 := hide R1; replace ho6 := hide ho6; replace hb6 := hide hb6) | (at_builtin; refine app_run _ _ _ rfl rfl rfl rfl (unhide R1) ?_; clear R1))
            refine unhide hqt' 2 (unhide o3) _ _ _ ⟨rfl, rfl, rfl, rfl, ?_⟩ (((hb3.trans (hb5.mono hb3.size)).mono hB).trans (unhide hb6)) (unhide ho6)
            rw [← unhide hjm']
            rfl
        · rw [o1] at cW
          replace o3 := hide o3
          replace o1 := hide o1
          rcases hex with ⟨x1, x0⟩ | ⟨x1, hjl, x2, x3⟩
          all_goals
            go_wp2_with (refine (cW _).mono ?_; rintro e w5 ⟨rfl, hb5⟩)
            exact unhide hqe' 141 (unhide o3) _ _ ⟨rfl, rfl, rfl, rfl⟩ (hb3.trans (hb5.mono hb3.size))
        · rw [o1] at cW
          replace o3 := hide o3
          replace o1 := hide o1
          rcases hex with ⟨x1, x0⟩ | ⟨x1, hjl, x2, x3⟩
          all_goals
            go_wp2_with (first | (refine (cW _).mono ?_; rintro e w5 ⟨rfl, hb5⟩; obtain ⟨v6, w6, R1, ho6, hb6⟩ := tok_new 1 t i 80 (own_same (own_same (unhide hown) hb3) hb5) (by omega) (by have := hb3.size; have := hb5.size; omega); replace R1 := hide R1; replace ho6 := hide ho6; replace hb6 := hide hb6) | (at_builtin; refine app_run _ _ _ rfl rfl rfl rfl (unhide R1) ?_; clear R1))
            refine unhide hqt' 1 (unhide o3) _ _ _ ⟨rfl, rfl, rfl, rfl, ?_⟩ (((hb3.trans (hb5.mono hb3.size)).mono hB).trans (unhide hb6)) (unhide ho6)
            rw [← unhide hjm']
            rfl
end Go.Proofs.YtljhpbjngbbjbaaDoor

/- The document's Tokens: rounds at comments. -/
namespace Go.Proofs.YtljhpbjngbbjbaaDoor
open Go Go.RowKit

theorem cm2_end (s : ByteArray) {f i : Nat} {c : Nat × Nat} (h : cm2 s f i = c) (hi : ¬ i < s.size) : c = (0, 2) := by
  cases f with
  | zero => exact h.symm
  | succ f => unfold cm2 at h; rw [if_neg hi] at h; exact h.symm
theorem cm2_close (s : ByteArray) {f i : Nat} {c : Nat × Nat} (h : cm2 s f i = c) (hf : s.size ≤ i + f) (hi : i < s.size) (hc : fits s i [42, 41] = true) : c = (i + 2, 0) := by
  obtain ⟨g, rfl⟩ : ∃ g, f = g + 1 := ⟨f - 1, by omega⟩
  unfold cm2 at h
  rw [if_pos hi, if_pos hc] at h
  exact h.symm
theorem cm2_bad (s : ByteArray) {f i : Nat} {c : Nat × Nat} (h : cm2 s f i = c) (hf : s.size ≤ i + f) (hi : i < s.size) (hc : fits s i [42, 41] = false) (hn : noR s i = true) : c = (i, 1) := by
  obtain ⟨g, rfl⟩ : ∃ g, f = g + 1 := ⟨f - 1, by omega⟩
  unfold cm2 at h
  rw [if_pos hi, hc, if_neg Bool.false_ne_true, if_pos hn] at h
  exact h.symm
theorem cm2_step (s : ByteArray) {f i : Nat} {c : Nat × Nat} (h : cm2 s f i = c) (hf : s.size ≤ i + f) (hi : i < s.size) (hc : fits s i [42, 41] = false) (hn : noR s i = false) : cm2 s (f - 1) (i + wd s i) = c ∧ s.size ≤ i + wd s i + (f - 1) := by
  have := wd_pos s i
  obtain ⟨g, rfl⟩ : ∃ g, f = g + 1 := ⟨f - 1, by omega⟩
  unfold cm2 at h
  rw [if_pos hi, hc, if_neg Bool.false_ne_true, hn, if_neg Bool.false_ne_true] at h
  exact ⟨h, by omega⟩
theorem kd_zero (s : ByteArray) (j : Nat) : (((kd s j : Nat) : Int) == 0) = noR s j := by
  unfold kd
  cases noR s j with
  | true => rfl
  | false =>
    rw [if_neg Bool.false_ne_true]
    repeat' split
    all_goals rfl
/-- The test for a comment's end, as the walk meets it. -/
theorem no_close (s : ByteArray) (j : Nat) (hj : j < s.size) (h : fits s j [42, 41] = false) : (decide ((j : Int) + 1 < (s.size : Int)) = false ∧ ¬ j + 1 < s.size) ∨ (decide ((j : Int) + 1 < (s.size : Int)) = true ∧ (((By s j : Nat) : Int) == 42) = false) ∨ (decide ((j : Int) + 1 < (s.size : Int)) = true ∧ (((By s j : Nat) : Int) == 42) = true ∧ ∃ h1 : j + 1 < s.size, (((s[j + 1]'h1).toNat : Int) == 41) = false) := by
  rw [fits_end] at h
  by_cases h1 : j + 1 < s.size
  · by_cases h2 : By s j = 42
    · refine .inr (.inr ⟨by simp; omega, by simp; omega, h1, ?_⟩)
      have e : (s[j + 1]'h1).toNat = By s (j + 1) := by unfold By; rw [get_lt s (j + 1) h1]
      simp [hj, h1, h2] at h
      rw [e]; simp; omega
    · exact .inr (.inl ⟨by simp; omega, by simp; omega⟩)
  · exact .inl ⟨by simp; omega, h1⟩
set_option maxRecDepth 100000 in
set_option maxHeartbeats 16000000 in
theorem rr_cmt {Q : Exit → Act → World → Prop} {a : Act} {w0 : World} {s : ByteArray} {ov : Value} {i : Nat} (hs : s.size ≤ 65536) (hT : Lib.Utf8Tabs 1 2 w0) (h : TS a s ov i) (hi : i < s.size) (hk : kd s i = 4) (hf0 : fits s i [40, 42] = true)
    (hqe : ∀ p e, rdCmt s i = (0, 0, some (p, e)) → ∀ a' w', RS a' p e → Below w0.heap.size w0 w' → Q .ret a' w')
    (hqt : ∀ j, rdCmt s i = (-1, j, none) → ∀ a' w', TS a' s ov j → Below w0.heap.size w0 w' → Q .normal a' w') : Code.wp Tryd.prog (tBody Tryd.f32) Q a w0 := by
  obtain ⟨u, rfl⟩ := h.lit
  have c := refAt_any s i hi w0 hT
  rw [hk] at c
  have hiz : (i : Int) < (s.size : Int) := by omega
  have h3w := u8_lt hT
  have hi2 := fits_two s i 40 42 hf0
  have hby : By s i = 40 ∧ By s (i + 1) = 42 := by
    unfold fits at hf0
    simp [fits] at hf0
    exact ⟨hf0.1.2, hf0.2.2⟩
  have hx : (s[i]'hi).toNat = 40 := by rw [← hby.1]; unfold By; rw [get_lt s i hi]
  have hx1 : (s[i + 1]'(by omega)).toNat = 42 := by rw [← hby.2]; unfold By; rw [get_lt s (i + 1) (by omega)]
  have hlt1 : i + 1 < s.size := by omega
  have hd4 : decide ((i : Int) + 1 < (s.size : Int)) = true := by simp; omega
  obtain ⟨C, hC⟩ : ∃ C, cm2 s (s.size - (i + 2)) (i + 2) = C := ⟨_, rfl⟩
  have hrd : rdCmt s i = if C.2 = 0 then (-1, C.1, none) else if C.2 = 1 then (0, 0, some (C.1, 140)) else (0, 0, some (i, 140)) := by
    unfold rdCmt
    rw [(cmt_two s (s.size - (i + 2))).1 (i + 2) (by omega), hC]
  clear h hf0 hby hk
  replace hT := hide hT
  have hqe' := hide hqe
  have hqt' := hide hqt
  clear hqe hqt
  replace hrd := hide hrd
  replace hC := hide hC
  conv => arg 2; whnf
  go_wp2_with (refine c.mono ?_; rintro e w2 ⟨rfl, hb⟩)
  go_loopw [6] (fun jv w3 => ∃ j f : Nat, jv = .int .i64 j ∧ Below w0.heap.size w0 w3 ∧ cm2 s f j = C ∧ s.size ≤ j + f ∧ j ≤ s.size) (fun jv _ => s.size - (intOf jv).toNat)
  case atStart => exact ⟨i + 2, s.size - (i + 2), by simp, hb, unhide hC, by omega, by omega⟩
  case round =>
    obtain ⟨j, f, rfl, hb3, hd, hf, hj⟩ := hrel
    have hT3 := u8_below (unhide hT) hb3 h3w
    by_cases hjl : j < s.size
    · have hxj : (s[j]'hjl).toNat = By s j := by unfold By; rw [get_lt s j hjl]
      have hdj : decide ((j : Int) < (s.size : Int)) = true := by simp; omega
      cases hc : fits s j [42, 41] with
      | true =>
        have hCC := cm2_close s hd hf hjl hc
        have hj2 := fits_two s j 42 41 hc
        have hby : By s j = 42 ∧ By s (j + 1) = 41 := by
          unfold fits at hc
          simp [fits] at hc
          exact ⟨hc.1.2, hc.2.2⟩
        have hxj1 : (s[j + 1]'(by omega)).toNat = 41 := by rw [← hby.2]; unfold By; rw [get_lt s (j + 1) (by omega)]
        have hltj : j + 1 < s.size := by omega
        rw [hby.1] at hxj
        have hdj1 : decide ((j : Int) + 1 < (s.size : Int)) = true := by simp; omega
        have hge : decide ((s.size : Int) ≤ (j : Int)) = false := by simp; omega
        have hge2 : ¬ s.size ≤ j := by omega
        have hR : Hid (rdCmt s i = (-1, j + 2, none)) := by rw [unhide hrd, hCC]; rfl
        clear hd hCC hby hc
        go_wp2
        refine unhide hqt' (j + 2) (unhide hR) _ _ ⟨rfl, rfl, rfl, rfl, ?_⟩ hb3
        rfl
      | false =>
        have hcl := no_close s j hjl hc
        have c2 := refAt_any s j hjl wr hT3
        have hkz := kd_zero s j
        obtain ⟨K, hK⟩ : ∃ K, kd s j = K := ⟨_, rfl⟩
        rw [hK] at hkz c2
        replace hK := hide hK
        cases hn : noR s j with
        | true =>
          have hCC := cm2_bad s hd hf hjl hc hn
          have hR : Hid (rdCmt s i = (0, 0, some (j, 140))) := by rw [unhide hrd, hCC]; rfl
          rw [hn] at hkz
          clear hd hCC hc
          rcases hcl with ⟨x1, x0⟩ | ⟨x1, x2⟩ | ⟨x1, x2, h1, x3⟩
          all_goals
            go_wp2_with (refine c2.mono ?_; rintro e w4 ⟨rfl, hb4⟩)
            exact unhide hqe' j 140 (unhide hR) _ _ ⟨rfl, rfl, rfl, rfl⟩ (hb3.trans (hb4.mono hb3.size))
        | false =>
          have hstep := hide (cm2_step s hd hf hjl hc hn)
          have hw1 := wd_pos s j
          have hw2 := wd_le s j hjl
          rw [hn] at hkz
          have hwz : ((wd s j : Nat) : Int) ≤ 65536 := by omega
          clear hd hc
          rcases hcl with ⟨x1, x0⟩ | ⟨x1, x2⟩ | ⟨x1, x2, h1, x3⟩
          all_goals
            go_wp2_with (refine c2.mono ?_; rintro e w4 ⟨rfl, hb4⟩)
            exact ⟨⟨j + wd s j, f - 1, by simp, hb3.trans (hb4.mono hb3.size), (unhide hstep).1, (unhide hstep).2, by omega⟩, by simp [intOf]; omega⟩
    · have hCC := cm2_end s hd hjl
      have hdj : decide ((j : Int) < (s.size : Int)) = false := by simp; omega
      have hge : decide ((s.size : Int) ≤ (j : Int)) = true := by simp; omega
      have hge2 : s.size ≤ j := by omega
      have hR : Hid (rdCmt s i = (0, 0, some (i, 140))) := by rw [unhide hrd, hCC]; rfl
      clear hd hCC
      go_wp2
      exact unhide hqe' i 140 (unhide hR) _ _ ⟨rfl, rfl, rfl, rfl⟩ hb3
end Go.Proofs.YtljhpbjngbbjbaaDoor

/- The document's Tokens, whole. -/
namespace Go.Proofs.YtljhpbjngbbjbaaDoor
open Go Go.RowKit

theorem rd_kd0 (s : ByteArray) (i : Nat) (h : kd s i = 0) : rd s i = (0, 0, some (i, 140)) := by
  unfold rd
  rw [kd_cases s i h, if_pos rfl]
theorem rd_kd (s : ByteArray) (i : Nat) : kd s i = 0 ∨ (kd s i = 1 ∧ rd s i = (-1, i + 1, none)) ∨ (kd s i = 2 ∧ rd s i = rdName s i) ∨ (kd s i = 3 ∧ rd s i = rdNum s i) ∨ (kd s i = 4 ∧ fits s i [40, 42] = true ∧ rd s i = rdCmt s i) ∨ (kd s i = 4 ∧ fits s i [40, 42] = false ∧ rd s i = rdSign s i) := by
  unfold kd rd
  cases noR s i with
  | true => exact .inl rfl
  | false =>
    cases isBl (rn s i) with
    | true => exact .inr (.inl ⟨rfl, rfl⟩)
    | false =>
      cases isLe (rn s i) with
      | true => exact .inr (.inr (.inl ⟨rfl, rfl⟩))
      | false =>
        cases isDi (rn s i) with
        | true => exact .inr (.inr (.inr (.inl ⟨rfl, rfl⟩)))
        | false =>
          cases fits s i [40, 42] with
          | true => exact .inr (.inr (.inr (.inr (.inl ⟨rfl, rfl, rfl⟩))))
          | false => exact .inr (.inr (.inr (.inr (.inr ⟨rfl, rfl, rfl⟩))))
/-- A round, whatever stands at its place. -/
theorem rr_any {Q : Exit → Act → World → Prop} {a : Act} {w0 : World} {s : ByteArray} {ov : Value} {i B n : Nat} {xs : List Value} (hs : s.size ≤ 65536) (hT : Lib.Utf8Tabs 1 2 w0) (h : TS a s ov i) (hi : i < s.size)
    (hown : w0.ownsRow B 87 3 ov n xs) (hn : n ≤ 65536) (hB : B ≤ w0.heap.size)
    (hqe : ∀ p e, (rd s i).2.2 = some (p, e) → ∀ a' w', RS a' p e → Below w0.heap.size w0 w' → Q .ret a' w')
    (hqg : ∀ j, rd s i = (-1, j, none) → ∀ a' w', TS a' s ov j → Below w0.heap.size w0 w' → Q .normal a' w')
    (hqt : ∀ (k : Int) j, k ≠ -1 → rd s i = (k, j, none) → ∀ a' w' ov', TS a' s ov' j → Below B w0 w' → w'.ownsRow B 87 3 ov' (n + 1) (xs ++ [.int .i64 k, .string (s.extract i j), .int .i64 i]) → Q .normal a' w') : Code.wp Tryd.prog (tBody Tryd.f32) Q a w0 := by
  rcases rd_kd s i with hk | ⟨hk, e⟩ | ⟨hk, e⟩ | ⟨hk, e⟩ | ⟨hk, hf, e⟩ | ⟨hk, hf, e⟩
  · exact rr_bad hs hT h hi hk (hqe i 140 (by rw [rd_kd0 s i hk]))
  · exact rr_blank hs hT h hi hk (hqg (i + 1) e)
  · rw [e] at hqe hqg hqt
    have hk' : ∀ (k : Int) j, rdName s i = (k, j, none) → k ≠ -1 := fun k j h => by
      unfold rdName at h
      split at h
      · cases h
      · split at h
        · have : (2 : Int) = k := congrArg Prod.fst h
          omega
        · have : (1 : Int) = k := congrArg Prod.fst h
          omega
    exact rr_name hs hT h hi hk hown hn hB (fun e he => hqe i e (by rw [he])) (fun k j hj => hqt k j (hk' k j hj) hj)
  · rw [e] at hqe hqg hqt
    exact rr_num hs hT h hi hk hown hn hB (fun e he => hqe i e (by rw [he])) (fun j hj => hqt 3 j (by decide) hj)
  · rw [e] at hqe hqg hqt
    exact rr_cmt hs hT h hi hk hf (fun p e he => hqe p e (by rw [he])) hqg
  · rw [e] at hqe hqg hqt
    refine rr_sign hs hT h hi hk hf hown hn hB (fun h0 => hqe i 140 ?_) (fun h0 => hqt 4 (i + sgn s i) (by decide) ?_)
    · unfold rdSign; rw [if_pos h0]
    · unfold rdSign; rw [if_neg h0]
set_option maxRecDepth 100000 in
set_option maxHeartbeats 16000000 in
theorem rr_end {Q : Exit → Act → World → Prop} {a : Act} {w0 : World} {s : ByteArray} {ov : Value} (h : TS a s ov s.size) (hq : ∀ a' , TS a' s ov s.size → Q (.exit 0) a' w0) : Code.wp Tryd.prog (tBody Tryd.f32) Q a w0 := by
  obtain ⟨u, rfl⟩ := h.lit
  have hd : decide ((s.size : Int) < (s.size : Int)) = false := by simp
  have hQ := hide hq
  clear hq h
  conv => arg 2; whnf
  go_wp2
  exact unhide hQ _ ⟨rfl, rfl, rfl, rfl, rfl⟩
/-- What the document's Tokens hands back. -/
def RkP (s : ByteArray) (r : List (Int × Nat × Nat) × Option (Nat × Nat)) (w : World) (e : Ending) (w' : World) : Prop :=
  Below w.heap.size w w' ∧ ((r.2 = none ∧ ∃ v, e = .returned (.tuple #[v, .int .i64 0, .int .i64 0]) ∧ w'.ownsRow w.heap.size 87 3 v (r.1.length + 1) (toks s r.1 ++ [.int .i64 0, .string ⟨#[]⟩, .int .i64 s.size])) ∨
    ∃ (a n : Nat), r.2 = some (a, n) ∧ e = .returned (.tuple #[.slice none 0 0, .int .i64 a, .int .i64 n]))
/-- How far the document's Tokens has come. -/
def RkI (s : ByteArray) (r : List (Int × Nat × Nat) × Option (Nat × Nat)) (w : World) (a : Act) (wr : World) : Prop :=
  ∃ (ov : Value) (i fuel : Nat) (done : List (Int × Nat × Nat)), TS a s ov i ∧ Below w.heap.size w wr ∧ wr.ownsRow w.heap.size 87 3 ov done.length (toks s done) ∧ done ++ (lx s fuel i).1 = r.1 ∧ (lx s fuel i).2 = r.2 ∧ s.size ≤ i + fuel ∧ i ≤ s.size
set_option maxRecDepth 100000 in
set_option maxHeartbeats 16000000 in
theorem refTokens_any (s : ByteArray) (w : World) (hT : Lib.Utf8Tabs 1 2 w) : Calls Tryd.prog 32 #[.string s] w (RkP s (tk s) w) := by
  by_cases hs : 65536 < s.size
  · have hsz : (65536 : Int) < (s.size : Int) := by omega
    unfold tk
    rw [if_pos hs]
    go_enter Tryd.func32, Tryd.ntmps32
    go_wp2
    go_ret3
    exact ⟨Below.refl _ _, .inr ⟨65536, 141, rfl, rfl⟩⟩
  have hsz : decide ((65536 : Int) < (s.size : Int)) = false := by simp; omega
  have hr : tk s = lx s s.size 0 := by unfold tk; rw [if_neg hs]
  obtain ⟨r, hr2⟩ : ∃ r, tk s = r := ⟨_, rfl⟩
  rw [hr2]
  rw [hr2] at hr
  have hlen : r.1.length ≤ 65536 := by have := lx_len s s.size 0; rw [hr]; omega
  replace hr := hide hr
  clear hr2
  replace hs : s.size ≤ 65536 := by omega
  have h3w := u8_lt hT
  go_enter Tryd.func32, Tryd.ntmps32
  go_wp2
  change Code.wp Tryd.prog (.loop (tBody Tryd.f32)) _ _ _
  refine wp_loop (RkI s r w) (fun a _ => s.size - (intOf (a.tmps.getD 6 undef)).toNat) ?_ (fun a' w' hI => ?_)
  · refine ⟨_, 0, s.size, [], ⟨rfl, rfl, rfl, rfl, rfl⟩, Below.refl _ _, own_nil _ _ _ _, ?_, ?_, by omega, by omega⟩
    · rw [unhide hr]; rfl
    · rw [unhide hr]
  · obtain ⟨ov, i, fuel, done, ts, hbw, hown, hd1, hd2, hfu, hile⟩ := hI
    have g6 : a'.tmps.getD 6 undef = .int .i64 i := getD_some ts.s6
    by_cases hi : i < s.size
    · have hdl : done.length ≤ 65536 := by
        have : (done ++ (lx s fuel i).1).length = r.1.length := by rw [hd1]
        rw [List.length_append] at this
        omega
      refine rr_any hs (u8_below hT hbw h3w) ts hi hown hdl hbw.size ?_ ?_ ?_
      · intro p e he a2 w2 rs hb2
        have hl := lx_err s hfu hi he
        obtain ⟨tm, df⟩ := a2
        obtain rfl : df = [] := rs.dfr
        refine bodyPost_ret (v := .tuple #[.slice none 0 0, .int .i64 p, .int .i64 e]) ?_ rfl ⟨hbw.trans (hb2.mono hbw.size), .inr ⟨p, e, by rw [← hd2, hl], rfl⟩⟩
        have r2 : tm.getD 2 undef = _ := getD_some rs.s2
        have r3 : tm.getD 3 undef = _ := getD_some rs.s3
        have r4 : tm.getD 4 undef = _ := getD_some rs.s4
        rw [results_tmp3 rfl]
        show Result.ok (Value.tuple #[tm.getD 2 undef, tm.getD 3 undef, tm.getD 4 undef]) w2 = _
        rw [r2, r3, r4]
      · intro j hj a2 w2 ts2 hb2
        have hrr := rd_reach s i hi (by rw [hj])
        rw [hj] at hrr
        have hl := lx_gap s hfu hi (by rw [hj]) (by rw [hj])
        rw [hj] at hl
        have g6' : a2.tmps.getD 6 undef = .int .i64 j := getD_some ts2.s6
        refine ⟨⟨ov, j, fuel - 1, done, ts2, hbw.trans (hb2.mono hbw.size), own_same hown hb2, ?_, ?_, ?_, hrr.2.1⟩, ?_⟩
        · rw [← hd1, hl]
        · rw [← hd2, hl]
        · have := hrr.2.2; simp only at this; omega
        · have h1 := hrr.2.2
          simp only at h1
          show s.size - (intOf (a2.tmps.getD 6 undef)).toNat < s.size - (intOf (a'.tmps.getD 6 undef)).toNat
          rw [g6, g6']
          simp [intOf]
          omega
      · intro k j hk hj a2 w2 ov2 ts2 hb2 ho2
        have hrr := rd_reach s i hi (by rw [hj])
        rw [hj] at hrr
        have hl := lx_tok s hfu hi (by rw [hj]) (by rw [hj]; exact hk)
        rw [hj] at hl
        have g6' : a2.tmps.getD 6 undef = .int .i64 j := getD_some ts2.s6
        refine ⟨⟨ov2, j, fuel - 1, done ++ [(k, i, j)], ts2, hbw.trans hb2, ?_, ?_, ?_, ?_, hrr.2.1⟩, ?_⟩
        · rw [toks_app, List.length_append]; exact ho2
        · rw [← hd1, hl, List.append_assoc]; rfl
        · rw [← hd2, hl]
        · have := hrr.2.2; simp only at this; omega
        · have h1 := hrr.2.2
          simp only at h1
          show s.size - (intOf (a2.tmps.getD 6 undef)).toNat < s.size - (intOf (a'.tmps.getD 6 undef)).toNat
          rw [g6, g6']
          simp [intOf]
          omega
    · obtain rfl : i = s.size := by omega
      rw [lx_end s fuel s.size (by omega)] at hd1 hd2
      simp only [List.append_nil] at hd1 hd2
      have hdl : done.length ≤ 65536 := by rw [hd1]; exact hlen
      refine rr_end ts fun a2 ts2 => ?_
      obtain ⟨u, rfl⟩ := ts2.lit
      obtain ⟨v5, w5, R1, ho5, hb5⟩ := tok_new 0 ⟨#[]⟩ s.size 80 hown (by omega) hbw.size
      replace R1 := hide R1
      replace ho5 := hide ho5
      replace hb5 := hide hb5
      replace hd1 := hide hd1
      replace hd2 := hide hd2
      replace hown := hide hown
      replace hbw := hide hbw
      clear ts ts2 g6 hT
      go_wp2_with (at_builtin; refine app_run _ _ _ rfl rfl rfl rfl (unhide R1) ?_; clear R1)
      go_ret3
      refine ⟨(unhide hbw).trans (unhide hb5), .inl ⟨(unhide hd2).symm, v5, rfl, ?_⟩⟩
      rw [← unhide hd1]
      exact unhide ho5
end Go.Proofs.YtljhpbjngbbjbaaDoor

/- avowhelp.Tokens at equal rows; the walk of LexTells. -/
namespace Go.Proofs.YtljhpbjngbbjbaaDoor
open Go Go.RowKit

theorem rkp_ok {s : ByteArray} {w w' : World} {e : Ending} (h : RkP s (tk s) w e w') (hn : (tk s).2 = none) : Below w.heap.size w w' ∧ ∃ v, e = .returned (.tuple #[v, .int .i64 0, .int .i64 0]) ∧ RdT w' v (tkL s) := by
  obtain ⟨hb, ⟨_, v, he, ho⟩ | ⟨a, n, hx, _⟩⟩ := h
  · refine ⟨hb, v, he, own_rdT (B := w.heap.size) (n := (tk s).1.length + 1) ?_ (tkL_len s).symm⟩
    unfold tkL
    rw [tcells_app, ← toks_eq]
    exact ho
  · rw [hn] at hx; cases hx
theorem rkp_err {s : ByteArray} {w w' : World} {e : Ending} {a n : Nat} (h : RkP s (tk s) w e w') (hn : (tk s).2 = some (a, n)) : Below w.heap.size w w' ∧ e = .returned (.tuple #[.slice none 0 0, .int .i64 a, .int .i64 n]) := by
  obtain ⟨hb, ⟨hx, _⟩ | ⟨a2, n2, hx, h1⟩⟩ := h
  · rw [hn] at hx; cases hx
  · rw [hn] at hx
    obtain ⟨rfl, rfl⟩ : a = a2 ∧ n = n2 := by simpa using hx
    exact ⟨hb, h1⟩
end Go.Proofs.YtljhpbjngbbjbaaDoor

/- The document's Expr: what it tells of a text. -/
namespace Go.Proofs.YtljhpbjngbbjbaaDoor
open Go Go.RowKit
theorem rkp_rd {s : ByteArray} {w w' : World} {e : Ending} (h : RkP s (tk s) w e w') (hn : (tk s).2 = none) : Below w.heap.size w w' ∧ ∃ g c, e = .returned (.tuple #[.slice (some ⟨g, 0, none⟩) (tkL s).length c, .int .i64 0, .int .i64 0]) ∧ g < w'.heap.size ∧ (tkL s).length ≤ c ∧ ∀ j x, (tkL s)[j]? = some x → w'.rangeAt g (j * 3) [.int .i64 x.1, .string x.2.1, .int .i64 x.2.2] := by
  obtain ⟨hb, v, he, hr⟩ := rkp_ok h hn
  obtain ⟨a, c, rfl, hr⟩ := hr
  obtain ⟨g, rfl, hg, hc⟩ := hr (by unfold tkL; simp)
  refine ⟨hb, g, c, he, hg, ?_, fun j x hx => ?_⟩
  · obtain ⟨_, ⟨_, v, he2, ho⟩ | ⟨a, n, hx, _⟩⟩ := h
    · have e1 : (Value.slice (some ⟨g, 0, none⟩) (tkL s).length c) = v := by
        rw [he] at he2
        simpa using he2
      subst e1
      obtain ⟨-, h1 | ⟨g', c', cur, e, -, -, h2, -⟩⟩ := ho
      · exact absurd h1.2 (by omega)
      · obtain ⟨-, -, rfl⟩ : g = g' ∧ _ ∧ c = c' := by simpa using e
        rw [tkL_len]
        exact h2
    · rw [hn] at hx; cases hx
  · obtain ⟨c0, c1, c2⟩ := hc j x hx
    intro i u hu
    rcases i with _ | _ | _ | i
    · obtain rfl := Option.some.inj hu
      exact c0
    · obtain rfl := Option.some.inj hu
      exact c1
    · obtain rfl := Option.some.inj hu
      exact c2
    · simp at hu
theorem rd_num {s : ByteArray} {i a n : Nat} (h : (rd s i).2.2 = some (a, n)) : n ≠ 0 := by
  have key : ∀ (x : Option (Nat × Nat)) (b m : Nat), m ≠ 0 → x = some (b, m) → x = some (a, n) → n ≠ 0 := by
    intro x b m hm h1 h2
    rw [h1] at h2
    obtain ⟨-, rfl⟩ : b = a ∧ m = n := by simpa using h2
    exact hm
  unfold rd rdName rdNum rdCmt rdSign at h
  repeat' (first | (split at h) | (exact key _ _ 140 (by decide) rfl h) | (exact key _ _ 141 (by decide) rfl h) | (cases (h : (none : Option (Nat × Nat)) = some (a, n))))
theorem lx_num (s : ByteArray) : ∀ (f i a n : Nat), (lx s f i).2 = some (a, n) → n ≠ 0
  | 0, _, _, _, h => by cases h
  | f + 1, i, a, n, h => by
    unfold lx at h
    split at h
    · split at h
      · rename_i e he
        obtain ⟨a', n'⟩ := e
        obtain ⟨rfl, rfl⟩ : a' = a ∧ n' = n := by simpa using h
        exact rd_num he
      · exact lx_num s f _ a n h
    · cases h
theorem tk_num {s : ByteArray} {a n : Nat} (h : (tk s).2 = some (a, n)) : n ≠ 0 := by
  unfold tk at h
  split at h
  · obtain ⟨-, rfl⟩ : _ = a ∧ _ = n := by simpa using h
    decide
  · exact lx_num s _ _ a n h
end Go.Proofs.YtljhpbjngbbjbaaDoor

/- The document's Expr at any text. -/
namespace Go.Proofs.YtljhpbjngbbjbaaDoor
open Go Go.RowKit
theorem below_but {w w' : World} {B r : Nat} (h : But r w w') (hr : B ≤ r) (hw : B ≤ w.heap.size) : Below B w w' := ⟨h.os, h.tape, h.output, h.size, fun k hk => h.block k (by omega) (by omega)⟩
end Go.Proofs.YtljhpbjngbbjbaaDoor

namespace Go.Proofs.YtljhpbjngbbjbaaDoor
open Go Go.RowKit
theorem tkl_sz (s : ByteArray) (j : Nat) : (txt (tkL s) j).size ≤ 65536 := by
  have hall : ∀ x ∈ tkL s, x.2.1.size ≤ 65536 := by
    intro x hx
    unfold tkL at hx
    rcases List.mem_append.1 hx with hx | hx
    · obtain ⟨y, hy, rfl⟩ := List.mem_map.1 hx
      show (s.extract y.2.1 y.2.2).size ≤ 65536
      have hs : s.size ≤ 65536 := by
        rcases Nat.lt_or_ge 65536 s.size with h | h
        · unfold tk at hy
          rw [if_pos h] at hy
          cases hy
        · exact h
      have : (s.extract y.2.1 y.2.2).size ≤ s.size := by simp [ByteArray.size_extract]; omega
      omega
    · obtain rfl := List.mem_singleton.1 hx
      show (⟨#[]⟩ : ByteArray).size ≤ 65536
      decide
  unfold txt nx
  rw [List.getD_eq_getElem?_getD]
  cases h : (tkL s)[j]? with
  | none => show (⟨#[]⟩ : ByteArray).size ≤ 65536; decide
  | some x => exact hall x (List.mem_of_getElem? h)
theorem IsDs.form {w : World} {lo : Nat} {v : Value} {l : List De} (h : IsDs w lo v l) : ∃ (a : Option Addr) (n c : Nat), v = .slice a n c := by
  obtain ⟨a, c, e, -⟩ := h
  exact ⟨_, _, _, e⟩
end Go.Proofs.YtljhpbjngbbjbaaDoor
