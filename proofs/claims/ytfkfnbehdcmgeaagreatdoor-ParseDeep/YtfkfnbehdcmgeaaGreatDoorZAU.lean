/- avowref16.Expr at trees without calls. -/
import Derived.Test.YtfkfnbehdcmgeaaGreatDoorZAT
import Derived.Test.YtfkfnbehdcmgeaaGreatDoorZAS
import Derived.Test.YtfkfnbehdcmgeaaGreatDoorZAM
import Derived.Test.YtfkfnbehdcmgeaaGreatDoorZAK
import Derived.Deep.RegionHeld3
set_option linter.unusedVariables false
set_option linter.unusedSimpArgs false

/- The document's Tokens: rounds at numbers. -/
namespace Go.Proofs.YtfkfnbehdcmgeaaGreatDoor
open Go Go.RowKit

theorem kd_dig (s : ByteArray) (i : Nat) (h : kd s i = 3) : 48 ≤ By s i ∧ By s i ≤ 57 ∧ isDi (rn s i) = true := by
  have hd : isDi (rn s i) = true := by
    unfold kd at h
    cases h0 : noR s i <;> cases h1 : isBl (rn s i) <;> cases h2 : isLe (rn s i) <;> cases h3 : isDi (rn s i) <;> simp [h0, h1, h2, h3] at h ⊢
  have hl : rn s i < 128 := by unfold isDi at hd; simp at hd; omega
  have := (rn_low s i hl).1
  refine ⟨?_, ?_, hd⟩
  · unfold isDi at hd; simp at hd; omega
  · unfold isDi at hd; simp at hd; omega
theorem isDi_by (s : ByteArray) (j : Nat) : isDi (rn s j) = (decide ((48 : Int) ≤ ((By s j : Nat) : Int)) && decide (((By s j : Nat) : Int) ≤ 57)) := by
  by_cases hb : By s j < 128
  · rw [(rn_ascii s j hb).1]
    unfold isDi
    rw [Bool.eq_iff_iff]; simp; omega
  · have := rn_high s j hb
    have h1 : isDi (rn s j) = false := by unfold isDi; simp; omega
    rw [h1]
    have h2 : decide (((By s j : Nat) : Int) ≤ 57) = false := by simp; omega
    rw [h2, Bool.and_false]
set_option maxRecDepth 100000 in
set_option maxHeartbeats 16000000 in
theorem rr_num {Q : Exit → Act → World → Prop} {a : Act} {wr : World} {s : ByteArray} {ov : Value} {i B n : Nat} {xs : List Value} (hs : s.size ≤ 65536) (hT : Lib.Utf8Tabs 2 3 wr) (h : TS a s ov i) (hi : i < s.size) (hk : kd s i = 3)
    (hown : wr.ownsRow B 74 3 ov n xs) (hn : n ≤ 65536) (hB : B ≤ wr.heap.size)
    (hqe : ∀ e, rdNum s i = (0, 0, some (i, e)) → ∀ a' w', RS a' i e → Below wr.heap.size wr w' → Q .ret a' w')
    (hqt : ∀ j, rdNum s i = (3, j, none) → ∀ a' w' ov', TS a' s ov' j → Below B wr w' → w'.ownsRow B 74 3 ov' (n + 1) (xs ++ [.int .i64 3, .string (s.extract i j), .int .i64 i]) → Q .normal a' w') : Code.wp Tryz.prog (tBody Tryz.f28) Q a wr := by
  obtain ⟨u, rfl⟩ := h.lit
  have c := refAt_any s i hi wr hT
  have hd0 := kd_dig s i hk
  rw [hk] at c
  have hiz : (i : Int) < (s.size : Int) := by omega
  have hx : (s[i]'hi).toNat = By s i := by unfold By; rw [get_lt s i hi]
  have hb40 : (((By s i : Nat) : Int) == 40) = false := by simp; omega
  clear h hT
  replace hown := hide hown
  obtain ⟨m, hm⟩ : ∃ m, digEnd s (s.size - i) i = i + m := ⟨digEnd s (s.size - i) i - i, by have := digEnd_le s (s.size - i) i (by omega); omega⟩
  have hle : i + m ≤ s.size := by rw [← hm]; exact (digEnd_le s (s.size - i) i (by omega)).2
  have hm1 : 1 ≤ m := by
    obtain ⟨g, hg⟩ : ∃ g, s.size - i = g + 1 := ⟨s.size - i - 1, by omega⟩
    rw [hg] at hm
    unfold digEnd at hm
    rw [if_pos hi, if_pos hd0.2.2] at hm
    have := (digEnd_le s g (i + 1) hi).1
    omega
  have hrd : rdNum s i = if (By s i == 48 && decide (1 < m)) = true then (0, 0, some (i, 140)) else if 400 < m then (0, 0, some (i, 141)) else (3, i + m, none) := by
    unfold rdNum
    rw [hm, show i + m - i = m by omega]
  obtain ⟨t, ht⟩ : ∃ t, s.extract i (i + m) = t := ⟨_, rfl⟩
  have hsl := fun W => sl2 s i (i + m) ((i : Int) + m) (by omega) (by omega) hle W
  rw [ht] at hsl
  have htz : t.size = m := by rw [← ht, ext_size s i (i + m) (by omega) hle]; omega
  have ht0 : (t[0]'(by omega)).toNat = By s i := by
    have e : t.get! 0 = s.get! i := by
      rw [get_lt t 0 (by omega), get_lt s i hi]
      subst ht
      exact ByteArray.getElem_extract ..
    unfold By
    rw [← e, get_lt t 0 (by omega)]
  have ht0' : ∀ hh : 0 < t.size, (t[0]'hh).toNat = By s i := fun _ => ht0
  clear ht0
  have hqt' := hide (hqt (i + m))
  have hqe' := hide hqe
  rw [ht] at hqt'
  clear hqe hqt hd0
  replace hrd := hide hrd
  replace hm := hide hm
  replace ht := hide ht
  rcases Bool.eq_false_or_eq_true (decide ((i : Int) + 1 < (s.size : Int))) with hd4 | hd4
  all_goals
    conv => arg 2; whnf
    go_wp2_with (refine c.mono ?_; rintro e w2 ⟨rfl, hb⟩)
    go_loopw [6] (fun iv w3 => ∃ j f : Nat, iv = .int .i64 j ∧ w3 = w2 ∧ digEnd s f j = i + m ∧ s.size ≤ j + f ∧ j ≤ s.size ∧ i ≤ j) (fun iv _ => s.size - (intOf iv).toNat)
    case atStart => exact ⟨i, s.size - i, rfl, rfl, unhide hm, by omega, by omega, Nat.le_refl _⟩
    case round =>
      obtain ⟨j, f, rfl, rfl, hd, hf, hj, hij⟩ := hrel
      by_cases hst : j < s.size ∧ isDi (rn s j) = true
      · obtain ⟨hjl, hjd⟩ := hst
        have hstep := hide (digEnd_step s hd hf hjl hjd)
        rw [isDi_by] at hjd
        obtain ⟨e1, e2⟩ : decide ((48 : Int) ≤ ((By s j : Nat) : Int)) = true ∧ decide (((By s j : Nat) : Int) ≤ 57) = true := by simpa using hjd
        have hxj : (s[j]'hjl).toNat = By s j := by unfold By; rw [get_lt s j hjl]
        have hdj : decide ((j : Int) < (s.size : Int)) = true := by simp; omega
        clear hjd hd
        go_wp2
        exact ⟨⟨j + 1, f - 1, by simp, trivial, (unhide hstep).1, (unhide hstep).2, hjl, by omega⟩, by simp [intOf]; omega⟩
      · have hjm : j = i + m := by
          by_cases hjl : j < s.size
          · have : isDi (rn s j) = false := by
              cases hq : isDi (rn s j) with
              | true => exact absurd ⟨hjl, hq⟩ hst
              | false => rfl
            exact (digEnd_stop s hd hf hjl this).symm
          · exact (digEnd_end s hd hjl).symm
        have hex : (decide ((j : Int) < (s.size : Int)) = false ∧ ¬ j < s.size) ∨ (decide ((j : Int) < (s.size : Int)) = true ∧ ∃ hjl : j < s.size, (s[j]'hjl).toNat = By s j ∧ (decide ((48 : Int) ≤ ((By s j : Nat) : Int)) = false ∨ (decide ((48 : Int) ≤ ((By s j : Nat) : Int)) = true ∧ decide (((By s j : Nat) : Int) ≤ 57) = false))) := by
          by_cases hjl : j < s.size
          · refine .inr ⟨by simp; omega, hjl, by unfold By; rw [get_lt s j hjl], ?_⟩
            have hq : isDi (rn s j) = false := by
              cases hq : isDi (rn s j) with
              | true => exact absurd ⟨hjl, hq⟩ hst
              | false => rfl
            rw [isDi_by] at hq
            cases e1 : decide ((48 : Int) ≤ ((By s j : Nat) : Int)) with
            | false => exact .inl rfl
            | true => rw [e1] at hq; exact .inr ⟨rfl, by simpa using hq⟩
          · exact .inl ⟨by simp; omega, hjl⟩
        have hjz : (j : Int) = (i : Int) + m := by omega
        have hsl' := hsl
        rw [← hjz] at hsl'
        have htm : ((t.size : Nat) : Int) = (m : Int) := by rw [htz]
        have ht1 : 0 < t.size := by omega
        have ht00 := ht0' ht1
        have hmle : (m : Int) ≤ 65536 := by omega
        have hjm' := hide hjm
        clear hst hd hjm hsl hjz
        replace htz := hide htz
        have hout : (decide ((1 : Int) < (m : Int)) = true ∧ (((By s i : Nat) : Int) == 48) = true ∧ rdNum s i = (0, 0, some (i, 140))) ∨ (decide ((1 : Int) < (m : Int)) = true ∧ (((By s i : Nat) : Int) == 48) = false ∧ decide ((400 : Int) < (m : Int)) = true ∧ rdNum s i = (0, 0, some (i, 141))) ∨ (decide ((1 : Int) < (m : Int)) = false ∧ decide ((400 : Int) < (m : Int)) = false ∧ rdNum s i = (3, i + m, none)) ∨ (decide ((1 : Int) < (m : Int)) = true ∧ (((By s i : Nat) : Int) == 48) = false ∧ decide ((400 : Int) < (m : Int)) = false ∧ rdNum s i = (3, i + m, none)) := by
          rw [unhide hrd]
          by_cases h1 : 1 < m
          · by_cases h2 : By s i = 48
            · exact .inl ⟨by simp; omega, by simp; omega, by rw [if_pos (by simp [h1, h2])]⟩
            · by_cases h3 : 400 < m
              · exact .inr (.inl ⟨by simp; omega, by simp; omega, by simp; omega, by rw [if_neg (by simp [h2]), if_pos h3]⟩)
              · exact .inr (.inr (.inr ⟨by simp; omega, by simp; omega, by simp; omega, by rw [if_neg (by simp [h2]), if_neg h3]⟩))
          · exact .inr (.inr (.inl ⟨by simp; omega, by simp; omega, by rw [if_neg (by simp [h1]), if_neg (by omega)]⟩))
        rcases hout with ⟨o1, o2, o3⟩ | ⟨o1, o2, o3, o4⟩ | ⟨o1, o2, o3⟩ | ⟨o1, o2, o3, o4⟩
        · replace o3 := hide o3
          rcases hex with ⟨x1, x0⟩ | ⟨x1, hjl, x2, x3 | ⟨x3, x4⟩⟩
          all_goals
            go_wp2
            exact unhide hqe' 140 (unhide o3) _ _ ⟨rfl, rfl, rfl, rfl⟩ hb
        · replace o4 := hide o4
          rcases hex with ⟨x1, x0⟩ | ⟨x1, hjl, x2, x3 | ⟨x3, x4⟩⟩
          all_goals
            go_wp2
            exact unhide hqe' 141 (unhide o4) _ _ ⟨rfl, rfl, rfl, rfl⟩ hb
        · replace o3 := hide o3
          obtain ⟨v5, w5, R1, ho5, hb5⟩ := tok_new 3 t i 67 (own_same (unhide hown) hb) (by omega) (by have := hb.size; omega)
          replace R1 := hide R1
          replace ho5 := hide ho5
          replace hb5 := hide hb5
          rcases hex with ⟨x1, x0⟩ | ⟨x1, hjl, x2, x3 | ⟨x3, x4⟩⟩
          all_goals
            go_wp2_with (at_builtin; refine app_run _ _ _ rfl rfl rfl rfl (unhide R1) ?_; clear R1)
            refine unhide hqt' (unhide o3) _ _ _ ⟨rfl, rfl, rfl, rfl, ?_⟩ ((hb.mono hB).trans (unhide hb5)) (unhide ho5)
            rw [← unhide hjm']
            rfl
        · replace o4 := hide o4
          obtain ⟨v5, w5, R1, ho5, hb5⟩ := tok_new 3 t i 67 (own_same (unhide hown) hb) (by omega) (by have := hb.size; omega)
          replace R1 := hide R1
          replace ho5 := hide ho5
          replace hb5 := hide hb5
          rcases hex with ⟨x1, x0⟩ | ⟨x1, hjl, x2, x3 | ⟨x3, x4⟩⟩
          all_goals
            go_wp2_with (at_builtin; refine app_run _ _ _ rfl rfl rfl rfl (unhide R1) ?_; clear R1)
            refine unhide hqt' (unhide o4) _ _ _ ⟨rfl, rfl, rfl, rfl, ?_⟩ ((hb.mono hB).trans (unhide hb5)) (unhide ho5)
            rw [← unhide hjm']
            rfl
end Go.Proofs.YtfkfnbehdcmgeaaGreatDoor

/- The document's Tokens: rounds at names. -/
namespace Go.Proofs.YtfkfnbehdcmgeaaGreatDoor
open Go Go.RowKit

theorem le_bl {c : Nat} (h : isLe c = true) : isBl c = false := by
  unfold isLe at h
  unfold isBl
  simp at h ⊢
  omega
theorem di_bl {c : Nat} (h : isDi c = true) : isBl c = false ∧ isLe c = false := by
  unfold isDi at h
  unfold isBl isLe
  simp at h ⊢
  omega
theorem kd_name (s : ByteArray) (j : Nat) : inName s j = (kd s j == 2 || kd s j == 3) := by
  unfold inName kd
  cases h0 : noR s j with
  | true => rfl
  | false =>
    cases h2 : isLe (rn s j) with
    | true => rw [le_bl h2]; rfl
    | false =>
      cases h3 : isDi (rn s j) with
      | true => rw [(di_bl h3).1]; rfl
      | false => cases isBl (rn s j) <;> rfl
theorem u8_lt {w : World} (h : Lib.Utf8Tabs 2 3 w) : 3 < w.heap.size := by
  have := (h.2 0 (by omega)).1
  rcases Nat.lt_or_ge 3 w.heap.size with h1 | h1
  · exact h1
  · simp [World.cell?, Array.getElem?_eq_none h1] at this
theorem u8_below {w w' : World} (h : Lib.Utf8Tabs 2 3 w) {B : Nat} (hb : Below B w w') (hB : 3 < B) : Lib.Utf8Tabs 2 3 w' := by
  refine ⟨fun c hc => ?_, fun i hi => ⟨?_, ?_⟩⟩
  · rw [hb.cell (p := ⟨2, c, none⟩) (show 2 < B by omega)]; exact h.1 c hc
  · rw [hb.cell (p := ⟨3, 2 * i, none⟩) hB]; exact (h.2 i hi).1
  · rw [hb.cell (p := ⟨3, 2 * i + 1, none⟩) hB]; exact (h.2 i hi).2
set_option maxRecDepth 100000 in
set_option maxHeartbeats 16000000 in
theorem rr_name {Q : Exit → Act → World → Prop} {a : Act} {w0 : World} {s : ByteArray} {ov : Value} {i B n : Nat} {xs : List Value} (hs : s.size ≤ 65536) (hT : Lib.Utf8Tabs 2 3 w0) (h : TS a s ov i) (hi : i < s.size) (hk : kd s i = 2)
    (hown : w0.ownsRow B 74 3 ov n xs) (hn : n ≤ 65536) (hB : B ≤ w0.heap.size)
    (hqe : ∀ e, rdName s i = (0, 0, some (i, e)) → ∀ a' w', RS a' i e → Below w0.heap.size w0 w' → Q .ret a' w')
    (hqt : ∀ (k : Int) j, rdName s i = (k, j, none) → ∀ a' w' ov', TS a' s ov' j → Below B w0 w' → w'.ownsRow B 74 3 ov' (n + 1) (xs ++ [.int .i64 k, .string (s.extract i j), .int .i64 i]) → Q .normal a' w') : Code.wp Tryz.prog (tBody Tryz.f28) Q a w0 := by
  obtain ⟨u, rfl⟩ := h.lit
  have c := refAt_any s i hi w0 hT
  have hne := kd_open s i (by omega)
  have hk0 := hk
  rw [hk] at c
  have hiz : (i : Int) < (s.size : Int) := by omega
  have hx : (s[i]'hi).toNat = By s i := by unfold By; rw [get_lt s i hi]
  have hb40 : (((By s i : Nat) : Int) == 40) = false := by simp; omega
  have h3w := u8_lt hT
  clear h hne
  replace hT := hide hT
  replace hown := hide hown
  obtain ⟨m, hm⟩ : ∃ m, nameEnd s (s.size - i) i = i + m := ⟨nameEnd s (s.size - i) i - i, by have := nameEnd_le s (s.size - i) i (by omega); omega⟩
  have hle : i + m ≤ s.size := by rw [← hm]; exact (nameEnd_le s (s.size - i) i (by omega)).2
  obtain ⟨t, ht⟩ : ∃ t, s.extract i (i + m) = t := ⟨_, rfl⟩
  have htz : t.size = m := by rw [← ht, ext_size s i (i + m) (by omega) hle]; omega
  have hrd : rdName s i = if 40 < m then (0, 0, some (i, 141)) else if isWd t then (2, i + m, none) else (1, i + m, none) := by
    unfold rdName
    rw [hm, show i + m - i = m by omega, ht]
  have hsl := fun W => sl2 s i (i + m) ((i : Int) + m) (by omega) (by omega) hle W
  rw [ht] at hsl
  have hqt' : Hid (∀ k : Int, rdName s i = (k, i + m, none) → ∀ a' w' ov', TS a' s ov' (i + m) → Below B w0 w' → w'.ownsRow B 74 3 ov' (n + 1) (xs ++ [.int .i64 k, .string t, .int .i64 i]) → Q .normal a' w') := fun k hk a' w' ov' h1 h2 h3 => hqt k (i + m) hk a' w' ov' h1 h2 (by rw [ht]; exact h3)
  have hqe' := hide hqe
  have cW := refWord_any t
  clear hqe hqt
  replace hrd := hide hrd
  replace hm := hide hm
  replace ht := hide ht
  replace hk0 := hide hk0
  replace hsl := hide hsl
  clear hk
  rcases Bool.eq_false_or_eq_true (decide ((i : Int) + 1 < (s.size : Int))) with hd4 | hd4
  all_goals
    conv => arg 2; whnf
    go_wp2_with (refine c.mono ?_; rintro e w2 ⟨rfl, hb⟩)
    go_loopw [6, 7, 8] (fun jv kv nv w3 => ∃ j f : Nat, jv = .int .i64 j ∧ Below w0.heap.size w0 w3 ∧ nameEnd s f j = i + m ∧ s.size ≤ j + f ∧ j ≤ s.size ∧ i ≤ j ∧ ∃ kk nn : Nat, kv = .int .i64 kk ∧ nv = .int .i64 nn ∧ (j < s.size → kk = kd s j ∧ nn = wd s j)) (fun jv _ _ _ => s.size - (intOf jv).toNat)
    case atStart => exact ⟨i, s.size - i, rfl, hb, unhide hm, by omega, by omega, Nat.le_refl _, 2, wd s i, rfl, rfl, fun _ => ⟨(unhide hk0).symm, rfl⟩⟩
    case round =>
      obtain ⟨j, f, rfl, hb3, hd, hf, hj, hij, kk, nn, rfl, rfl, hkn⟩ := hrel
      have hT3 := u8_below (unhide hT) hb3 h3w
      by_cases hst : j < s.size ∧ inName s j = true
      · obtain ⟨hjl, hjd⟩ := hst
        obtain ⟨rfl, rfl⟩ := hkn hjl
        have hstep := hide (nameEnd_step s hd hf hjl hjd)
        have hw1 := wd_pos s j
        have hw2 := wd_le s j hjl
        have hdj : decide ((j : Int) < (s.size : Int)) = true := by simp; omega
        have hwz : ((wd s j : Nat) : Int) ≤ 65536 := by omega
        rw [kd_name] at hjd
        have hkk : (((kd s j : Nat) : Int) == 2) = true ∨ ((((kd s j : Nat) : Int) == 2) = false ∧ (((kd s j : Nat) : Int) == 3) = true) := by
          simp only [Bool.or_eq_true, beq_iff_eq] at hjd
          rcases hjd with h | h
          · exact .inl (by rw [h]; rfl)
          · exact .inr (by rw [h]; exact ⟨rfl, rfl⟩)
        obtain ⟨K, hK⟩ : ∃ K, kd s j = K := ⟨_, rfl⟩
        obtain ⟨Z, hZ⟩ : ∃ Z, wd s j = Z := ⟨_, rfl⟩
        rw [hK] at hkk
        rw [hZ] at hw1 hw2 hwz hstep
        rw [hK, hZ]
        replace hK := hide hK
        replace hZ := hide hZ
        clear hjd hd hkn
        by_cases hnx : j + Z < s.size
        · have hdn : decide ((j : Int) + (Z : Int) < (s.size : Int)) = true := by simp; omega
          have c2 := refAt_any s (j + Z) hnx wr hT3
          rw [Int.natCast_add] at c2
          rcases hkk with k1 | ⟨k1, k2⟩
          all_goals
            go_wp2_with (refine c2.mono ?_; rintro e w4 ⟨rfl, hb4⟩)
            exact ⟨⟨j + Z, f - 1, by simp, hb3.trans (hb4.mono hb3.size), (unhide hstep).1, (unhide hstep).2, by omega, by omega, _, _, rfl, rfl, fun _ => ⟨rfl, rfl⟩⟩, by simp [intOf]; omega⟩
        · have hdn : decide ((j : Int) + (Z : Int) < (s.size : Int)) = false := by simp; omega
          rcases hkk with k1 | ⟨k1, k2⟩
          all_goals
            go_wp2
            exact ⟨⟨j + Z, f - 1, by simp, hb3, (unhide hstep).1, (unhide hstep).2, by omega, by omega, _, _, rfl, rfl, fun h => absurd h hnx⟩, by simp [intOf]; omega⟩
      · have hjm : j = i + m := by
          by_cases hjl : j < s.size
          · have : inName s j = false := by
              cases hq : inName s j with
              | true => exact absurd ⟨hjl, hq⟩ hst
              | false => rfl
            exact (nameEnd_stop s hd hf hjl this).symm
          · exact (nameEnd_end s hd hjl).symm
        have hex : (decide ((j : Int) < (s.size : Int)) = false ∧ ¬ j < s.size) ∨ (decide ((j : Int) < (s.size : Int)) = true ∧ j < s.size ∧ (((kk : Nat) : Int) == 2) = false ∧ (((kk : Nat) : Int) == 3) = false) := by
          by_cases hjl : j < s.size
          · have hq : inName s j = false := by
              cases hq : inName s j with
              | true => exact absurd ⟨hjl, hq⟩ hst
              | false => rfl
            rw [kd_name, ← (hkn hjl).1] at hq
            simp only [Bool.or_eq_false_iff, beq_eq_false_iff_ne] at hq
            exact .inr ⟨by simp; omega, hjl, by simp; omega, by simp; omega⟩
          · exact .inl ⟨by simp; omega, hjl⟩
        have hsl' : ∀ W, (Instr.slice 9 (.string s) (some (.int .i64 i)) (some (.int .i64 (j : Int))) none).run Tryz.prog W = .ok (.string t) W := fun W => by
          have := unhide hsl W
          rw [show (j : Int) = (i : Int) + m by omega]
          exact this
        have htm : ((t.size : Nat) : Int) = (m : Int) := by rw [htz]
        have hmle : (m : Int) ≤ 65536 := by omega
        have hjm' := hide hjm
        clear hst hd hjm hkn
        have hout : (isWd t = true ∧ rdName s i = (2, i + m, none)) ∨ (isWd t = false ∧ decide ((40 : Int) < (m : Int)) = true ∧ rdName s i = (0, 0, some (i, 141))) ∨ (isWd t = false ∧ decide ((40 : Int) < (m : Int)) = false ∧ rdName s i = (1, i + m, none)) := by
          rw [unhide hrd]
          cases hw : isWd t with
          | true =>
            have := wd_word t hw
            exact .inl ⟨rfl, by rw [if_neg (by omega), if_pos rfl]⟩
          | false =>
            by_cases h4 : 40 < m
            · exact .inr (.inl ⟨rfl, by simp; omega, by rw [if_pos h4]⟩)
            · exact .inr (.inr ⟨rfl, by simp; omega, by rw [if_neg h4, if_neg Bool.false_ne_true]⟩)
        replace htz := hide htz
        rcases hout with ⟨o1, o3⟩ | ⟨o1, o2, o3⟩ | ⟨o1, o2, o3⟩
        · rw [o1] at cW
          replace o3 := hide o3
          replace o1 := hide o1
          rcases hex with ⟨x1, x0⟩ | ⟨x1, hjl, x2, x3⟩
          all_goals
            go_wp2_with (first | (refine (cW _).mono ?_; rintro e w5 ⟨rfl, hb5⟩; obtain ⟨v6, w6, R1, ho6, hb6⟩ := tok_new 2 t i 67 (own_same (own_same (unhide hown) hb3) hb5) (by omega) (by have := hb3.size; have := hb5.size; omega); replace R1 := hide R1; replace ho6 := hide ho6; replace hb6 := hide hb6) | (at_builtin; refine app_run _ _ _ rfl rfl rfl rfl (unhide R1) ?_; clear R1))
            refine unhide hqt' 2 (unhide o3) _ _ _ ⟨rfl, rfl, rfl, rfl, ?_⟩ (((hb3.trans (hb5.mono hb3.size)).mono hB).trans (unhide hb6)) (unhide ho6)
            rw [← unhide hjm']
            rfl
        · rw [o1] at cW
          replace o3 := hide o3
          replace o1 := hide o1
          rcases hex with ⟨x1, x0⟩ | ⟨x1, hjl, x2, x3⟩
          all_goals
            go_wp2_with (refine (cW _).mono ?_; rintro e w5 ⟨rfl, hb5⟩)
            exact unhide hqe' 141 (unhide o3) _ _ ⟨rfl, rfl, rfl, rfl⟩ (hb3.trans (hb5.mono hb3.size))
        · rw [o1] at cW
          replace o3 := hide o3
          replace o1 := hide o1
          rcases hex with ⟨x1, x0⟩ | ⟨x1, hjl, x2, x3⟩
          all_goals
            go_wp2_with (first | (refine (cW _).mono ?_; rintro e w5 ⟨rfl, hb5⟩; obtain ⟨v6, w6, R1, ho6, hb6⟩ := tok_new 1 t i 67 (own_same (own_same (unhide hown) hb3) hb5) (by omega) (by have := hb3.size; have := hb5.size; omega); replace R1 := hide R1; replace ho6 := hide ho6; replace hb6 := hide hb6) | (at_builtin; refine app_run _ _ _ rfl rfl rfl rfl (unhide R1) ?_; clear R1))
            refine unhide hqt' 1 (unhide o3) _ _ _ ⟨rfl, rfl, rfl, rfl, ?_⟩ (((hb3.trans (hb5.mono hb3.size)).mono hB).trans (unhide hb6)) (unhide ho6)
            rw [← unhide hjm']
            rfl
end Go.Proofs.YtfkfnbehdcmgeaaGreatDoor

/- The document's Tokens: rounds at comments. -/
namespace Go.Proofs.YtfkfnbehdcmgeaaGreatDoor
open Go Go.RowKit

theorem cm2_end (s : ByteArray) {f i : Nat} {c : Nat × Nat} (h : cm2 s f i = c) (hi : ¬ i < s.size) : c = (0, 2) := by
  cases f with
  | zero => exact h.symm
  | succ f => unfold cm2 at h; rw [if_neg hi] at h; exact h.symm
theorem cm2_close (s : ByteArray) {f i : Nat} {c : Nat × Nat} (h : cm2 s f i = c) (hf : s.size ≤ i + f) (hi : i < s.size) (hc : fits s i [42, 41] = true) : c = (i + 2, 0) := by
  obtain ⟨g, rfl⟩ : ∃ g, f = g + 1 := ⟨f - 1, by omega⟩
  unfold cm2 at h
  rw [if_pos hi, if_pos hc] at h
  exact h.symm
theorem cm2_bad (s : ByteArray) {f i : Nat} {c : Nat × Nat} (h : cm2 s f i = c) (hf : s.size ≤ i + f) (hi : i < s.size) (hc : fits s i [42, 41] = false) (hn : noR s i = true) : c = (i, 1) := by
  obtain ⟨g, rfl⟩ : ∃ g, f = g + 1 := ⟨f - 1, by omega⟩
  unfold cm2 at h
  rw [if_pos hi, hc, if_neg Bool.false_ne_true, if_pos hn] at h
  exact h.symm
theorem cm2_step (s : ByteArray) {f i : Nat} {c : Nat × Nat} (h : cm2 s f i = c) (hf : s.size ≤ i + f) (hi : i < s.size) (hc : fits s i [42, 41] = false) (hn : noR s i = false) : cm2 s (f - 1) (i + wd s i) = c ∧ s.size ≤ i + wd s i + (f - 1) := by
  have := wd_pos s i
  obtain ⟨g, rfl⟩ : ∃ g, f = g + 1 := ⟨f - 1, by omega⟩
  unfold cm2 at h
  rw [if_pos hi, hc, if_neg Bool.false_ne_true, hn, if_neg Bool.false_ne_true] at h
  exact ⟨h, by omega⟩
theorem kd_zero (s : ByteArray) (j : Nat) : (((kd s j : Nat) : Int) == 0) = noR s j := by
  unfold kd
  cases noR s j with
  | true => rfl
  | false =>
    rw [if_neg Bool.false_ne_true]
    repeat' split
    all_goals rfl
/-- The test for a comment's end, as the walk meets it. -/
theorem no_close (s : ByteArray) (j : Nat) (hj : j < s.size) (h : fits s j [42, 41] = false) : (decide ((j : Int) + 1 < (s.size : Int)) = false ∧ ¬ j + 1 < s.size) ∨ (decide ((j : Int) + 1 < (s.size : Int)) = true ∧ (((By s j : Nat) : Int) == 42) = false) ∨ (decide ((j : Int) + 1 < (s.size : Int)) = true ∧ (((By s j : Nat) : Int) == 42) = true ∧ ∃ h1 : j + 1 < s.size, (((s[j + 1]'h1).toNat : Int) == 41) = false) := by
  rw [fits_end] at h
  by_cases h1 : j + 1 < s.size
  · by_cases h2 : By s j = 42
    · refine .inr (.inr ⟨by simp; omega, by simp; omega, h1, ?_⟩)
      have e : (s[j + 1]'h1).toNat = By s (j + 1) := by unfold By; rw [get_lt s (j + 1) h1]
      simp [hj, h1, h2] at h
      rw [e]; simp; omega
    · exact .inr (.inl ⟨by simp; omega, by simp; omega⟩)
  · exact .inl ⟨by simp; omega, h1⟩
set_option maxRecDepth 100000 in
set_option maxHeartbeats 16000000 in
theorem rr_cmt {Q : Exit → Act → World → Prop} {a : Act} {w0 : World} {s : ByteArray} {ov : Value} {i : Nat} (hs : s.size ≤ 65536) (hT : Lib.Utf8Tabs 2 3 w0) (h : TS a s ov i) (hi : i < s.size) (hk : kd s i = 4) (hf0 : fits s i [40, 42] = true)
    (hqe : ∀ p e, rdCmt s i = (0, 0, some (p, e)) → ∀ a' w', RS a' p e → Below w0.heap.size w0 w' → Q .ret a' w')
    (hqt : ∀ j, rdCmt s i = (-1, j, none) → ∀ a' w', TS a' s ov j → Below w0.heap.size w0 w' → Q .normal a' w') : Code.wp Tryz.prog (tBody Tryz.f28) Q a w0 := by
  obtain ⟨u, rfl⟩ := h.lit
  have c := refAt_any s i hi w0 hT
  rw [hk] at c
  have hiz : (i : Int) < (s.size : Int) := by omega
  have h3w := u8_lt hT
  have hi2 := fits_two s i 40 42 hf0
  have hby : By s i = 40 ∧ By s (i + 1) = 42 := by
    unfold fits at hf0
    simp [fits] at hf0
    exact ⟨hf0.1.2, hf0.2.2⟩
  have hx : (s[i]'hi).toNat = 40 := by rw [← hby.1]; unfold By; rw [get_lt s i hi]
  have hx1 : (s[i + 1]'(by omega)).toNat = 42 := by rw [← hby.2]; unfold By; rw [get_lt s (i + 1) (by omega)]
  have hlt1 : i + 1 < s.size := by omega
  have hd4 : decide ((i : Int) + 1 < (s.size : Int)) = true := by simp; omega
  obtain ⟨C, hC⟩ : ∃ C, cm2 s (s.size - (i + 2)) (i + 2) = C := ⟨_, rfl⟩
  have hrd : rdCmt s i = if C.2 = 0 then (-1, C.1, none) else if C.2 = 1 then (0, 0, some (C.1, 140)) else (0, 0, some (i, 140)) := by
    unfold rdCmt
    rw [(cmt_two s (s.size - (i + 2))).1 (i + 2) (by omega), hC]
  clear h hf0 hby hk
  replace hT := hide hT
  have hqe' := hide hqe
  have hqt' := hide hqt
  clear hqe hqt
  replace hrd := hide hrd
  replace hC := hide hC
  conv => arg 2; whnf
  go_wp2_with (refine c.mono ?_; rintro e w2 ⟨rfl, hb⟩)
  go_loopw [6] (fun jv w3 => ∃ j f : Nat, jv = .int .i64 j ∧ Below w0.heap.size w0 w3 ∧ cm2 s f j = C ∧ s.size ≤ j + f ∧ j ≤ s.size) (fun jv _ => s.size - (intOf jv).toNat)
  case atStart => exact ⟨i + 2, s.size - (i + 2), by simp, hb, unhide hC, by omega, by omega⟩
  case round =>
    obtain ⟨j, f, rfl, hb3, hd, hf, hj⟩ := hrel
    have hT3 := u8_below (unhide hT) hb3 h3w
    by_cases hjl : j < s.size
    · have hxj : (s[j]'hjl).toNat = By s j := by unfold By; rw [get_lt s j hjl]
      have hdj : decide ((j : Int) < (s.size : Int)) = true := by simp; omega
      cases hc : fits s j [42, 41] with
      | true =>
        have hCC := cm2_close s hd hf hjl hc
        have hj2 := fits_two s j 42 41 hc
        have hby : By s j = 42 ∧ By s (j + 1) = 41 := by
          unfold fits at hc
          simp [fits] at hc
          exact ⟨hc.1.2, hc.2.2⟩
        have hxj1 : (s[j + 1]'(by omega)).toNat = 41 := by rw [← hby.2]; unfold By; rw [get_lt s (j + 1) (by omega)]
        have hltj : j + 1 < s.size := by omega
        rw [hby.1] at hxj
        have hdj1 : decide ((j : Int) + 1 < (s.size : Int)) = true := by simp; omega
        have hge : decide ((s.size : Int) ≤ (j : Int)) = false := by simp; omega
        have hge2 : ¬ s.size ≤ j := by omega
        have hR : Hid (rdCmt s i = (-1, j + 2, none)) := by rw [unhide hrd, hCC]; rfl
        clear hd hCC hby hc
        go_wp2
        refine unhide hqt' (j + 2) (unhide hR) _ _ ⟨rfl, rfl, rfl, rfl, ?_⟩ hb3
        rfl
      | false =>
        have hcl := no_close s j hjl hc
        have c2 := refAt_any s j hjl wr hT3
        have hkz := kd_zero s j
        obtain ⟨K, hK⟩ : ∃ K, kd s j = K := ⟨_, rfl⟩
        rw [hK] at hkz c2
        replace hK := hide hK
        cases hn : noR s j with
        | true =>
          have hCC := cm2_bad s hd hf hjl hc hn
          have hR : Hid (rdCmt s i = (0, 0, some (j, 140))) := by rw [unhide hrd, hCC]; rfl
          rw [hn] at hkz
          clear hd hCC hc
          rcases hcl with ⟨x1, x0⟩ | ⟨x1, x2⟩ | ⟨x1, x2, h1, x3⟩
          all_goals
            go_wp2_with (refine c2.mono ?_; rintro e w4 ⟨rfl, hb4⟩)
            exact unhide hqe' j 140 (unhide hR) _ _ ⟨rfl, rfl, rfl, rfl⟩ (hb3.trans (hb4.mono hb3.size))
        | false =>
          have hstep := hide (cm2_step s hd hf hjl hc hn)
          have hw1 := wd_pos s j
          have hw2 := wd_le s j hjl
          rw [hn] at hkz
          have hwz : ((wd s j : Nat) : Int) ≤ 65536 := by omega
          clear hd hc
          rcases hcl with ⟨x1, x0⟩ | ⟨x1, x2⟩ | ⟨x1, x2, h1, x3⟩
          all_goals
            go_wp2_with (refine c2.mono ?_; rintro e w4 ⟨rfl, hb4⟩)
            exact ⟨⟨j + wd s j, f - 1, by simp, hb3.trans (hb4.mono hb3.size), (unhide hstep).1, (unhide hstep).2, by omega⟩, by simp [intOf]; omega⟩
    · have hCC := cm2_end s hd hjl
      have hdj : decide ((j : Int) < (s.size : Int)) = false := by simp; omega
      have hge : decide ((s.size : Int) ≤ (j : Int)) = true := by simp; omega
      have hge2 : s.size ≤ j := by omega
      have hR : Hid (rdCmt s i = (0, 0, some (i, 140))) := by rw [unhide hrd, hCC]; rfl
      clear hd hCC
      go_wp2
      exact unhide hqe' i 140 (unhide hR) _ _ ⟨rfl, rfl, rfl, rfl⟩ hb3
end Go.Proofs.YtfkfnbehdcmgeaaGreatDoor

/- The document's Tokens, whole. -/
namespace Go.Proofs.YtfkfnbehdcmgeaaGreatDoor
open Go Go.RowKit

theorem rd_kd0 (s : ByteArray) (i : Nat) (h : kd s i = 0) : rd s i = (0, 0, some (i, 140)) := by
  unfold rd
  rw [kd_cases s i h, if_pos rfl]
theorem rd_kd (s : ByteArray) (i : Nat) : kd s i = 0 ∨ (kd s i = 1 ∧ rd s i = (-1, i + 1, none)) ∨ (kd s i = 2 ∧ rd s i = rdName s i) ∨ (kd s i = 3 ∧ rd s i = rdNum s i) ∨ (kd s i = 4 ∧ fits s i [40, 42] = true ∧ rd s i = rdCmt s i) ∨ (kd s i = 4 ∧ fits s i [40, 42] = false ∧ rd s i = rdSign s i) := by
  unfold kd rd
  cases noR s i with
  | true => exact .inl rfl
  | false =>
    cases isBl (rn s i) with
    | true => exact .inr (.inl ⟨rfl, rfl⟩)
    | false =>
      cases isLe (rn s i) with
      | true => exact .inr (.inr (.inl ⟨rfl, rfl⟩))
      | false =>
        cases isDi (rn s i) with
        | true => exact .inr (.inr (.inr (.inl ⟨rfl, rfl⟩)))
        | false =>
          cases fits s i [40, 42] with
          | true => exact .inr (.inr (.inr (.inr (.inl ⟨rfl, rfl, rfl⟩))))
          | false => exact .inr (.inr (.inr (.inr (.inr ⟨rfl, rfl, rfl⟩))))
/-- A round, whatever stands at its place. -/
theorem rr_any {Q : Exit → Act → World → Prop} {a : Act} {w0 : World} {s : ByteArray} {ov : Value} {i B n : Nat} {xs : List Value} (hs : s.size ≤ 65536) (hT : Lib.Utf8Tabs 2 3 w0) (h : TS a s ov i) (hi : i < s.size)
    (hown : w0.ownsRow B 74 3 ov n xs) (hn : n ≤ 65536) (hB : B ≤ w0.heap.size)
    (hqe : ∀ p e, (rd s i).2.2 = some (p, e) → ∀ a' w', RS a' p e → Below w0.heap.size w0 w' → Q .ret a' w')
    (hqg : ∀ j, rd s i = (-1, j, none) → ∀ a' w', TS a' s ov j → Below w0.heap.size w0 w' → Q .normal a' w')
    (hqt : ∀ (k : Int) j, k ≠ -1 → rd s i = (k, j, none) → ∀ a' w' ov', TS a' s ov' j → Below B w0 w' → w'.ownsRow B 74 3 ov' (n + 1) (xs ++ [.int .i64 k, .string (s.extract i j), .int .i64 i]) → Q .normal a' w') : Code.wp Tryz.prog (tBody Tryz.f28) Q a w0 := by
  rcases rd_kd s i with hk | ⟨hk, e⟩ | ⟨hk, e⟩ | ⟨hk, e⟩ | ⟨hk, hf, e⟩ | ⟨hk, hf, e⟩
  · exact rr_bad hs hT h hi hk (hqe i 140 (by rw [rd_kd0 s i hk]))
  · exact rr_blank hs hT h hi hk (hqg (i + 1) e)
  · rw [e] at hqe hqg hqt
    have hk' : ∀ (k : Int) j, rdName s i = (k, j, none) → k ≠ -1 := fun k j h => by
      unfold rdName at h
      split at h
      · cases h
      · split at h
        · have : (2 : Int) = k := congrArg Prod.fst h
          omega
        · have : (1 : Int) = k := congrArg Prod.fst h
          omega
    exact rr_name hs hT h hi hk hown hn hB (fun e he => hqe i e (by rw [he])) (fun k j hj => hqt k j (hk' k j hj) hj)
  · rw [e] at hqe hqg hqt
    exact rr_num hs hT h hi hk hown hn hB (fun e he => hqe i e (by rw [he])) (fun j hj => hqt 3 j (by decide) hj)
  · rw [e] at hqe hqg hqt
    exact rr_cmt hs hT h hi hk hf (fun p e he => hqe p e (by rw [he])) hqg
  · rw [e] at hqe hqg hqt
    refine rr_sign hs hT h hi hk hf hown hn hB (fun h0 => hqe i 140 ?_) (fun h0 => hqt 4 (i + sgn s i) (by decide) ?_)
    · unfold rdSign; rw [if_pos h0]
    · unfold rdSign; rw [if_neg h0]
set_option maxRecDepth 100000 in
set_option maxHeartbeats 16000000 in
theorem rr_end {Q : Exit → Act → World → Prop} {a : Act} {w0 : World} {s : ByteArray} {ov : Value} (h : TS a s ov s.size) (hq : ∀ a' , TS a' s ov s.size → Q (.exit 0) a' w0) : Code.wp Tryz.prog (tBody Tryz.f28) Q a w0 := by
  obtain ⟨u, rfl⟩ := h.lit
  have hd : decide ((s.size : Int) < (s.size : Int)) = false := by simp
  have hQ := hide hq
  clear hq h
  conv => arg 2; whnf
  go_wp2
  exact unhide hQ _ ⟨rfl, rfl, rfl, rfl, rfl⟩
/-- What the document's Tokens hands back. -/
def RkP (s : ByteArray) (r : List (Int × Nat × Nat) × Option (Nat × Nat)) (w : World) (e : Ending) (w' : World) : Prop :=
  Below w.heap.size w w' ∧ ((r.2 = none ∧ ∃ v, e = .returned (.tuple #[v, .int .i64 0, .int .i64 0]) ∧ w'.ownsRow w.heap.size 74 3 v (r.1.length + 1) (toks s r.1 ++ [.int .i64 0, .string ⟨#[]⟩, .int .i64 s.size])) ∨
    ∃ (a n : Nat), r.2 = some (a, n) ∧ e = .returned (.tuple #[.slice none 0 0, .int .i64 a, .int .i64 n]))
/-- How far the document's Tokens has come. -/
def RkI (s : ByteArray) (r : List (Int × Nat × Nat) × Option (Nat × Nat)) (w : World) (a : Act) (wr : World) : Prop :=
  ∃ (ov : Value) (i fuel : Nat) (done : List (Int × Nat × Nat)), TS a s ov i ∧ Below w.heap.size w wr ∧ wr.ownsRow w.heap.size 74 3 ov done.length (toks s done) ∧ done ++ (lx s fuel i).1 = r.1 ∧ (lx s fuel i).2 = r.2 ∧ s.size ≤ i + fuel ∧ i ≤ s.size
set_option maxRecDepth 100000 in
set_option maxHeartbeats 16000000 in
theorem refTokens_any (s : ByteArray) (w : World) (hT : Lib.Utf8Tabs 2 3 w) : Calls Tryz.prog 28 #[.string s] w (RkP s (tk s) w) := by
  by_cases hs : 65536 < s.size
  · have hsz : (65536 : Int) < (s.size : Int) := by omega
    unfold tk
    rw [if_pos hs]
    go_enter Tryz.func28, Tryz.ntmps28
    go_wp2
    go_ret3
    exact ⟨Below.refl _ _, .inr ⟨65536, 141, rfl, rfl⟩⟩
  have hsz : decide ((65536 : Int) < (s.size : Int)) = false := by simp; omega
  have hr : tk s = lx s s.size 0 := by unfold tk; rw [if_neg hs]
  obtain ⟨r, hr2⟩ : ∃ r, tk s = r := ⟨_, rfl⟩
  rw [hr2]
  rw [hr2] at hr
  have hlen : r.1.length ≤ 65536 := by have := lx_len s s.size 0; rw [hr]; omega
  replace hr := hide hr
  clear hr2
  replace hs : s.size ≤ 65536 := by omega
  have h3w := u8_lt hT
  go_enter Tryz.func28, Tryz.ntmps28
  go_wp2
  change Code.wp Tryz.prog (.loop (tBody Tryz.f28)) _ _ _
  refine wp_loop (RkI s r w) (fun a _ => s.size - (intOf (a.tmps.getD 6 undef)).toNat) ?_ (fun a' w' hI => ?_)
  · refine ⟨_, 0, s.size, [], ⟨rfl, rfl, rfl, rfl, rfl⟩, Below.refl _ _, own_nil _ _ _ _, ?_, ?_, by omega, by omega⟩
    · rw [unhide hr]; rfl
    · rw [unhide hr]
  · obtain ⟨ov, i, fuel, done, ts, hbw, hown, hd1, hd2, hfu, hile⟩ := hI
    have g6 : a'.tmps.getD 6 undef = .int .i64 i := getD_some ts.s6
    by_cases hi : i < s.size
    · have hdl : done.length ≤ 65536 := by
        have : (done ++ (lx s fuel i).1).length = r.1.length := by rw [hd1]
        rw [List.length_append] at this
        omega
      refine rr_any hs (u8_below hT hbw h3w) ts hi hown hdl hbw.size ?_ ?_ ?_
      · intro p e he a2 w2 rs hb2
        have hl := lx_err s hfu hi he
        obtain ⟨tm, df⟩ := a2
        obtain rfl : df = [] := rs.dfr
        refine bodyPost_ret (v := .tuple #[.slice none 0 0, .int .i64 p, .int .i64 e]) ?_ rfl ⟨hbw.trans (hb2.mono hbw.size), .inr ⟨p, e, by rw [← hd2, hl], rfl⟩⟩
        have r2 : tm.getD 2 undef = _ := getD_some rs.s2
        have r3 : tm.getD 3 undef = _ := getD_some rs.s3
        have r4 : tm.getD 4 undef = _ := getD_some rs.s4
        rw [results_tmp3 rfl]
        show Result.ok (Value.tuple #[tm.getD 2 undef, tm.getD 3 undef, tm.getD 4 undef]) w2 = _
        rw [r2, r3, r4]
      · intro j hj a2 w2 ts2 hb2
        have hrr := rd_reach s i hi (by rw [hj])
        rw [hj] at hrr
        have hl := lx_gap s hfu hi (by rw [hj]) (by rw [hj])
        rw [hj] at hl
        have g6' : a2.tmps.getD 6 undef = .int .i64 j := getD_some ts2.s6
        refine ⟨⟨ov, j, fuel - 1, done, ts2, hbw.trans (hb2.mono hbw.size), own_same hown hb2, ?_, ?_, ?_, hrr.2.1⟩, ?_⟩
        · rw [← hd1, hl]
        · rw [← hd2, hl]
        · have := hrr.2.2; simp only at this; omega
        · have h1 := hrr.2.2
          simp only at h1
          show s.size - (intOf (a2.tmps.getD 6 undef)).toNat < s.size - (intOf (a'.tmps.getD 6 undef)).toNat
          rw [g6, g6']
          simp [intOf]
          omega
      · intro k j hk hj a2 w2 ov2 ts2 hb2 ho2
        have hrr := rd_reach s i hi (by rw [hj])
        rw [hj] at hrr
        have hl := lx_tok s hfu hi (by rw [hj]) (by rw [hj]; exact hk)
        rw [hj] at hl
        have g6' : a2.tmps.getD 6 undef = .int .i64 j := getD_some ts2.s6
        refine ⟨⟨ov2, j, fuel - 1, done ++ [(k, i, j)], ts2, hbw.trans hb2, ?_, ?_, ?_, ?_, hrr.2.1⟩, ?_⟩
        · rw [toks_app, List.length_append]; exact ho2
        · rw [← hd1, hl, List.append_assoc]; rfl
        · rw [← hd2, hl]
        · have := hrr.2.2; simp only at this; omega
        · have h1 := hrr.2.2
          simp only at h1
          show s.size - (intOf (a2.tmps.getD 6 undef)).toNat < s.size - (intOf (a'.tmps.getD 6 undef)).toNat
          rw [g6, g6']
          simp [intOf]
          omega
    · obtain rfl : i = s.size := by omega
      rw [lx_end s fuel s.size (by omega)] at hd1 hd2
      simp only [List.append_nil] at hd1 hd2
      have hdl : done.length ≤ 65536 := by rw [hd1]; exact hlen
      refine rr_end ts fun a2 ts2 => ?_
      obtain ⟨u, rfl⟩ := ts2.lit
      obtain ⟨v5, w5, R1, ho5, hb5⟩ := tok_new 0 ⟨#[]⟩ s.size 67 hown (by omega) hbw.size
      replace R1 := hide R1
      replace ho5 := hide ho5
      replace hb5 := hide hb5
      replace hd1 := hide hd1
      replace hd2 := hide hd2
      replace hown := hide hown
      replace hbw := hide hbw
      clear ts ts2 g6 hT
      go_wp2_with (at_builtin; refine app_run _ _ _ rfl rfl rfl rfl (unhide R1) ?_; clear R1)
      go_ret3
      refine ⟨(unhide hbw).trans (unhide hb5), .inl ⟨(unhide hd2).symm, v5, rfl, ?_⟩⟩
      rw [← unhide hd1]
      exact unhide ho5
end Go.Proofs.YtfkfnbehdcmgeaaGreatDoor

/- avowhelp.Tokens at equal rows; the walk of LexTells. -/
namespace Go.Proofs.YtfkfnbehdcmgeaaGreatDoor
open Go Go.RowKit

theorem rkp_ok {s : ByteArray} {w w' : World} {e : Ending} (h : RkP s (tk s) w e w') (hn : (tk s).2 = none) : Below w.heap.size w w' ∧ ∃ v, e = .returned (.tuple #[v, .int .i64 0, .int .i64 0]) ∧ RdT w' v (tkL s) := by
  obtain ⟨hb, ⟨_, v, he, ho⟩ | ⟨a, n, hx, _⟩⟩ := h
  · refine ⟨hb, v, he, own_rdT (B := w.heap.size) (n := (tk s).1.length + 1) ?_ (tkL_len s).symm⟩
    unfold tkL
    rw [tcells_app, ← toks_eq]
    exact ho
  · rw [hn] at hx; cases hx
theorem rkp_err {s : ByteArray} {w w' : World} {e : Ending} {a n : Nat} (h : RkP s (tk s) w e w') (hn : (tk s).2 = some (a, n)) : Below w.heap.size w w' ∧ e = .returned (.tuple #[.slice none 0 0, .int .i64 a, .int .i64 n]) := by
  obtain ⟨hb, ⟨hx, _⟩ | ⟨a2, n2, hx, h1⟩⟩ := h
  · rw [hn] at hx; cases hx
  · rw [hn] at hx
    obtain ⟨rfl, rfl⟩ : a = a2 ∧ n = n2 := by simpa using hx
    exact ⟨hb, h1⟩
end Go.Proofs.YtfkfnbehdcmgeaaGreatDoor

/- The document's Expr: what it tells of a text. -/
namespace Go.Proofs.YtfkfnbehdcmgeaaGreatDoor
open Go Go.RowKit
theorem rkp_rd {s : ByteArray} {w w' : World} {e : Ending} (h : RkP s (tk s) w e w') (hn : (tk s).2 = none) : Below w.heap.size w w' ∧ ∃ g c, e = .returned (.tuple #[.slice (some ⟨g, 0, none⟩) (tkL s).length c, .int .i64 0, .int .i64 0]) ∧ g < w'.heap.size ∧ (tkL s).length ≤ c ∧ ∀ j x, (tkL s)[j]? = some x → w'.rangeAt g (j * 3) [.int .i64 x.1, .string x.2.1, .int .i64 x.2.2] := by
  obtain ⟨hb, v, he, hr⟩ := rkp_ok h hn
  obtain ⟨a, c, rfl, hr⟩ := hr
  obtain ⟨g, rfl, hg, hc⟩ := hr (by unfold tkL; simp)
  refine ⟨hb, g, c, he, hg, ?_, fun j x hx => ?_⟩
  · obtain ⟨_, ⟨_, v, he2, ho⟩ | ⟨a, n, hx, _⟩⟩ := h
    · have e1 : (Value.slice (some ⟨g, 0, none⟩) (tkL s).length c) = v := by
        rw [he] at he2
        simpa using he2
      subst e1
      obtain ⟨-, h1 | ⟨g', c', cur, e, -, -, h2, -⟩⟩ := ho
      · exact absurd h1.2 (by omega)
      · obtain ⟨-, -, rfl⟩ : g = g' ∧ _ ∧ c = c' := by simpa using e
        rw [tkL_len]
        exact h2
    · rw [hn] at hx; cases hx
  · obtain ⟨c0, c1, c2⟩ := hc j x hx
    intro i u hu
    rcases i with _ | _ | _ | i
    · obtain rfl := Option.some.inj hu
      exact c0
    · obtain rfl := Option.some.inj hu
      exact c1
    · obtain rfl := Option.some.inj hu
      exact c2
    · simp at hu
theorem rd_num {s : ByteArray} {i a n : Nat} (h : (rd s i).2.2 = some (a, n)) : n ≠ 0 := by
  have key : ∀ (x : Option (Nat × Nat)) (b m : Nat), m ≠ 0 → x = some (b, m) → x = some (a, n) → n ≠ 0 := by
    intro x b m hm h1 h2
    rw [h1] at h2
    obtain ⟨-, rfl⟩ : b = a ∧ m = n := by simpa using h2
    exact hm
  unfold rd rdName rdNum rdCmt rdSign at h
  repeat' (first | (split at h) | (exact key _ _ 140 (by decide) rfl h) | (exact key _ _ 141 (by decide) rfl h) | (cases (h : (none : Option (Nat × Nat)) = some (a, n))))
theorem lx_num (s : ByteArray) : ∀ (f i a n : Nat), (lx s f i).2 = some (a, n) → n ≠ 0
  | 0, _, _, _, h => by cases h
  | f + 1, i, a, n, h => by
    unfold lx at h
    split at h
    · split at h
      · rename_i e he
        obtain ⟨a', n'⟩ := e
        obtain ⟨rfl, rfl⟩ : a' = a ∧ n' = n := by simpa using h
        exact rd_num he
      · exact lx_num s f _ a n h
    · cases h
theorem tk_num {s : ByteArray} {a n : Nat} (h : (tk s).2 = some (a, n)) : n ≠ 0 := by
  unfold tk at h
  split at h
  · obtain ⟨-, rfl⟩ : _ = a ∧ _ = n := by simpa using h
    decide
  · exact lx_num s _ _ a n h
/-- What the document's Expr makes of a text. -/
def exprRD (s : ByteArray) : Except (Int × Int) Ex :=
  match (tk s).2 with
  | some (a, n) => .error (a, n)
  | none => aloneD (tkL s)
def RExprP (s : ByteArray) (w : World) (e : Ending) (w' : World) : Prop := Below w.heap.size w w' ∧
  match exprRD s with
  | .ok t => ∃ v, e = .returned (.tuple #[v, .int .i64 0, .int .i64 0]) ∧ IsE w' w.heap.size v t
  | .error (i, n) => e = .returned (.tuple #[.agg zE, .int .i64 i, .int .i64 n])
theorem results_three {P : Program} {W : World} {fn : Func} {tmps : Array Value} {t b j k : Nat} {ty : TypeId} {v u x : Value} (hf : fn.results = #[.cell t ty, .tmp j, .tmp k]) (ht : tmps[t]? = some (.pointer (some ⟨b, 0, none⟩))) (hl : (loadVar ty ⟨b, 0, none⟩).run P W = .ok v W) (hj : tmps[j]? = some u) (hk : tmps[k]? = some x) : (results fn tmps).run P W = .ok (.tuple #[v, u, x]) W := by
  simp [results, hf, ht, asAddr, hl, hj, hk]
theorem aloneD_ok {ts : List (Int × ByteArray × Int)} {t : Ex} {S : PS} (h : exD ts ⟨0, 0, 0⟩ = (t, S)) : aloneD ts = (if (if (tD ts S).1 = 0 then S else S.fail (tD ts S).2.2 150).e = 0 then .ok t else .error ((if (tD ts S).1 = 0 then S else S.fail (tD ts S).2.2 150).a, (if (tD ts S).1 = 0 then S else S.fail (tD ts S).2.2 150).e)) := by
  unfold aloneD
  rw [h]
end Go.Proofs.YtfkfnbehdcmgeaaGreatDoor

/- Texts that are so deep: their bytes, their tokens. -/
namespace Go.Proofs.YtfkfnbehdcmgeaaGreatDoor
open Go Go.RowKit
def oL : Nat → List UInt8
  | 0 => [40] | 1 => [45] | 2 => [110, 111, 116, 32] | 3 => [108, 101, 116, 32, 120, 32, 61, 32, 49, 32, 105, 110, 32] | 4 => [49, 32, 61, 61, 62, 32] | 5 => [102, 40] | _ => [105, 102, 32, 49, 32, 116, 104, 101, 110, 32, 50, 32, 101, 108, 115, 101, 32]
def eL : Nat → List UInt8
  | 0 => [41] | 5 => [41] | _ => []
def paT : Nat → List (Int × ByteArray × Nat)
  | 0 => [(4, ⟨#[40]⟩, 0)] | 1 => [(4, ⟨#[45]⟩, 0)] | 2 => [(2, ⟨#[110, 111, 116]⟩, 0)]
  | 3 => [(2, ⟨#[108, 101, 116]⟩, 0), (1, ⟨#[120]⟩, 4), (4, ⟨#[61]⟩, 6), (3, ⟨#[49]⟩, 8), (2, ⟨#[105, 110]⟩, 10)]
  | 4 => [(3, ⟨#[49]⟩, 0), (4, ⟨#[61, 61, 62]⟩, 2)]
  | 5 => [(1, ⟨#[102]⟩, 0), (4, ⟨#[40]⟩, 1)]
  | _ => [(2, ⟨#[105, 102]⟩, 0), (3, ⟨#[49]⟩, 3), (2, ⟨#[116, 104, 101, 110]⟩, 5), (3, ⟨#[50]⟩, 10), (2, ⟨#[101, 108, 115, 101]⟩, 12)]
def szD (h n : Nat) : Nat := (oL h).length * n + 1 + (eL h).length * n
def mD (h n : Nat) : Nat := (paT h).length * n + 1 + (eL h).length * n
/-- The byte at a place. -/
def bD (h n i : Nat) : Nat := if i < (oL h).length * n then ((oL h).getD (i % (oL h).length) 0).toNat else if i = (oL h).length * n then 49 else 41
def tD' (h n p : Nat) : (Int × ByteArray × Int) := if p < (paT h).length * n then (match (paT h).getD (p % (paT h).length) (0, ⟨#[]⟩, 0) with | (k, t, o) => (k, t, (((oL h).length * (p / (paT h).length) + o : Nat) : Int))) else if p = (paT h).length * n then (3, ⟨#[49]⟩, (((oL h).length * n : Nat) : Int)) else (4, ⟨#[41]⟩, (((oL h).length * n + (p - (paT h).length * n) : Nat) : Int))
def lsQ (f : Ex → Ex → Bool) : List Ex → List Ex → Bool
  | [], [] => true
  | x :: l, y :: l' => f x y && lsQ f l l'
  | _, _ => false
/-- The same tree, no higher than so. -/
def exQ : Nat → Ex → Ex → Bool
  | 0, _, _ => false
  | k + 1, .mk o n u b l i, .mk o' n' u' b' l' i' => decide (o = o') && decide (n = n') && decide (u = u') && decide (b = b') && decide (i = i') && lsQ (exQ k) l l'
theorem lsQ_ok {f : Ex → Ex → Bool} (hf : ∀ x y, f x y = true → x = y) : ∀ l l', lsQ f l l' = true → l = l'
  | [], [], _ => rfl
  | [], _ :: _, h => by cases h
  | _ :: _, [], h => by cases h
  | x :: l, y :: l', h => by
    unfold lsQ at h
    simp only [Bool.and_eq_true] at h
    rw [hf x y h.1, lsQ_ok hf l l' h.2]
theorem exQ_ok : ∀ k t u, exQ k t u = true → t = u
  | 0, _, _, h => by cases h
  | k + 1, .mk o n u b l i, .mk o' n' u' b' l' i', h => by
    unfold exQ at h
    simp only [Bool.and_eq_true, decide_eq_true_eq] at h
    obtain ⟨⟨⟨⟨⟨rfl, rfl⟩, rfl⟩, rfl⟩, rfl⟩, h⟩ := h
    rw [lsQ_ok (exQ_ok k) l l' h]
def chk (n : Nat) (T : TF) : Bool := match alonePF T 0, aloneDF T with
  | .ok (t, _), .ok u => exQ 250 t u && decide (n < 200)
  | .error (a, e), .error (b, f) => decide (a = b) && decide (e = f) && decide (e = 151) && decide (200 ≤ n)
  | _, _ => false
def dck (h n : Nat) : Bool := ckTok (bD h n) (tD' h n) (mD h n) (szD h n) && chk n ⟨NF (tD' h n) (mD h n) (szD h n), mD h n + 1⟩
/-- A list so many times over. -/
def rpB (n : Nat) (l : List UInt8) : ByteArray := ⟨(List.replicate n l).flatten.toArray⟩
theorem rpB_succ (n : Nat) (l : List UInt8) : rpB n l ++ ⟨l.toArray⟩ = rpB (n + 1) l := by
  apply ByteArray.ext
  unfold rpB
  rw [ByteArray.data_append]
  apply Array.ext'
  simp [List.replicate_succ']
theorem rpB_size (n : Nat) (l : List UInt8) : (rpB n l).size = l.length * n := by
  show (List.replicate n l).flatten.toArray.size = _
  simp [Nat.mul_comm]
theorem rep_at (l : List UInt8) (x : UInt8) : ∀ n i, i < l.length * n → (List.replicate n l).flatten.getD i x = l.getD (i % l.length) x
  | 0, i, h => by simp at h
  | n + 1, i, h => by
    rw [List.replicate_succ, List.flatten_cons, List.getD_eq_getElem?_getD, List.getD_eq_getElem?_getD]
    by_cases hi : i < l.length
    · rw [List.getElem?_append_left hi, Nat.mod_eq_of_lt hi]
    · rw [List.getElem?_append_right (by omega), ← List.getD_eq_getElem?_getD, rep_at l x n (i - l.length) (by rw [Nat.mul_succ] at h; omega), List.getD_eq_getElem?_getD, Nat.mod_eq_sub_mod (a := i) (by omega)]
theorem By_of (l : List UInt8) (i : Nat) (h : i < l.length) : By ⟨l.toArray⟩ i = (l.getD i 0).toNat := by
  unfold By
  rw [get_lt _ i (by simpa [ByteArray.size] using h)]
  simp [ByteArray.getElem_eq_getElem_data, h]
/-- The text. -/
def txD (h n : Nat) : ByteArray := rpB n (oL h) ++ ⟨#[49]⟩ ++ rpB n (eL h)
theorem txD_list (h n : Nat) : txD h n = ⟨((List.replicate n (oL h)).flatten ++ [49] ++ (List.replicate n (eL h)).flatten).toArray⟩ := by
  unfold txD rpB
  apply ByteArray.ext
  rw [ByteArray.data_append, ByteArray.data_append]
  apply Array.ext'
  simp
theorem oL_asc (h : Nat) : ∀ x ∈ oL h, x.toNat < 128 := by
  unfold oL
  split <;> decide
theorem eL_is (h : Nat) : eL h = [41] ∨ eL h = [] := by
  unfold eL
  split
  · exact .inl rfl
  · exact .inl rfl
  · exact .inr rfl
theorem txD_size (h n : Nat) : (txD h n).size = szD h n := by
  unfold txD szD
  rw [ByteArray.size_append, ByteArray.size_append, rpB_size, rpB_size]
  rfl
theorem txD_at (h n : Nat) : ∀ i, i < (txD h n).size → By (txD h n) i = bD h n i ∧ bD h n i < 128 := by
  intro i hi
  rw [txD_size] at hi
  have hl : ((List.replicate n (oL h)).flatten ++ [49] ++ (List.replicate n (eL h)).flatten).length = szD h n := by
    unfold szD
    simp [Nat.mul_comm]
    omega
  have h1 : ((List.replicate n (oL h)).flatten).length = (oL h).length * n := by simp [Nat.mul_comm]
  have e1 : By (txD h n) i = (((List.replicate n (oL h)).flatten ++ [49] ++ (List.replicate n (eL h)).flatten).getD i 0).toNat := by
    rw [txD_list]
    exact By_of _ i (by rw [hl]; exact hi)
  rw [e1]
  unfold bD
  by_cases c1 : i < (oL h).length * n
  · have hpos : 0 < (oL h).length := Nat.pos_of_ne_zero fun e => by rw [e] at c1; simp at c1
    rw [if_pos c1, List.append_assoc, List.getD_eq_getElem?_getD, List.getElem?_append_left (by omega), ← List.getD_eq_getElem?_getD, rep_at _ _ _ _ c1]
    refine ⟨rfl, ?_⟩
    have := Nat.mod_lt i hpos
    rw [List.getD_eq_getElem?_getD, List.getElem?_eq_getElem this]
    exact oL_asc h _ (List.getElem_mem _)
  · rw [if_neg c1]
    by_cases c2 : i = (oL h).length * n
    · rw [if_pos c2, List.append_assoc, List.getD_eq_getElem?_getD, List.getElem?_append_right (by omega), h1, c2, Nat.sub_self]
      exact ⟨rfl, by omega⟩
    · rw [if_neg c2, List.append_assoc, List.getD_eq_getElem?_getD, List.getElem?_append_right (by omega), h1, List.getElem?_append_right (by simp; omega)]
      have hz : i - (oL h).length * n - 1 < (eL h).length * n := by unfold szD at hi; omega
      simp only [List.length_singleton]
      rw [← List.getD_eq_getElem?_getD, rep_at _ _ _ _ hz]
      rcases eL_is h with e | e
      · rw [e]
        simp [Nat.mod_one]
      · rw [e] at hz
        simp at hz
/-- What the kernel has looked at says of the two readers. -/
theorem dck_ok {h n : Nat} (hs : szD h n ≤ 65536) (hc : dck h n = true) : (n < 200 ∧ ∃ t, exprS (txD h n) = .ok t ∧ exprRD (txD h n) = .ok t) ∨ (200 ≤ n ∧ ∃ a, exprS (txD h n) = .error (a, 151) ∧ exprRD (txD h n) = .error (a, 151)) := by
  unfold dck at hc
  simp only [Bool.and_eq_true] at hc
  obtain ⟨h1, h2⟩ := hc
  obtain ⟨e1, e2⟩ := tk_F (txD_at h n) (txD_size h n) hs h1
  have e3 : exprS (txD h n) = match alonePF ⟨NF (tD' h n) (mD h n) (szD h n), mD h n + 1⟩ 0 with
    | .ok (t, _) => .ok t
    | .error e => .error e := by
    unfold exprS
    rw [e1, ← e2, aloneP_F]
    rfl
  have e4 : exprRD (txD h n) = aloneDF ⟨NF (tD' h n) (mD h n) (szD h n), mD h n + 1⟩ := by
    unfold exprRD
    rw [e1, ← e2, aloneD_F]
  rw [e3, e4]
  unfold chk at h2
  split at h2
  · rename_i t p u ht hu
    simp only [Bool.and_eq_true, decide_eq_true_eq] at h2
    obtain rfl := exQ_ok _ _ _ h2.1
    exact .inl ⟨h2.2, t, by rw [ht], hu⟩
  · rename_i a e b f ht hu
    simp only [Bool.and_eq_true, decide_eq_true_eq] at h2
    obtain ⟨⟨⟨rfl, rfl⟩, rfl⟩, h3⟩ := h2
    exact .inr ⟨h3, a, by rw [ht], hu⟩
  · cases h2
end Go.Proofs.YtfkfnbehdcmgeaaGreatDoor

/- avowhelp.Expr, Exprs: of the same tree they tell true. -/
namespace Go.Proofs.YtfkfnbehdcmgeaaGreatDoor
open Go Go.RowKit
/-- An expression as a value, so high at most. -/
def ExV (w : World) (P : Nat → Prop) (h : Nat) (v : Value) : Ex → Prop
  | .mk op nm nu bl l i => ∃ a c, v = .agg #[.int .i64 op, .string nm, .string nu, .bool bl, .slice a l.length c, .int .i64 0, .int .i64 i] ∧ RowX w P a l.length c fun b o j => ∀ t, l[j]? = some t → ExAt w P h b o t
/-- A row of expressions, so high at most. -/
def LsV (w : World) (P : Nat → Prop) (h : Nat) (v : Value) (l : List Ex) : Prop := ∃ a c, v = .slice a l.length c ∧ RowX w P a l.length c fun b o j => ∀ t, l[j]? = some t → ExAt w P h b o t
theorem ExV.keep {w w' : World} {P : Nat → Prop} {h : Nat} {v : Value} {t : Ex} (hx : ExV w P h v t) (hb : Below w.heap.size w w') : ExV w' P h v t := by
  obtain ⟨op, nm, nu, bl, l, i⟩ := t
  obtain ⟨a, c, e, h2⟩ := hx
  exact ⟨a, c, e, h2.mono hb.size (fun _ h => h) fun b o j hr hbl hj t ht => ExAt.keep ⟨hb.size, fun k _ hk => hb.block k hk⟩ (fun _ h => h) h b o t hr hbl (hj t ht)⟩
theorem LsV.keep {w w' : World} {P : Nat → Prop} {h : Nat} {v : Value} {l : List Ex} (hx : LsV w P h v l) (hb : Below w.heap.size w w') : LsV w' P h v l := by
  obtain ⟨a, c, e, h2⟩ := hx
  exact ⟨a, c, e, h2.mono hb.size (fun _ h => h) fun b o j hr hbl hj t ht => ExAt.keep ⟨hb.size, fun k _ hk => hb.block k hk⟩ (fun _ h => h) h b o t hr hbl (hj t ht)⟩
theorem ExV.up {w : World} {P : Nat → Prop} {h k : Nat} {v : Value} {t : Ex} (hx : ExV w P h v t) (hk : h ≤ k) : ExV w P k v t := by
  obtain ⟨op, nm, nu, bl, l, i⟩ := t
  obtain ⟨a, c, e, h2⟩ := hx
  exact ⟨a, c, e, h2.mono (Nat.le_refl _) (fun _ h => h) fun b o j _ _ hj t ht => ExAt.up h k b o t (hj t ht) hk⟩
theorem IsEP.exv {w : World} {P : Nat → Prop} {v : Value} {t : Ex} (h : IsEP w P v t) : ∃ k, ExV w P k v t := by
  obtain ⟨op, nm, nu, bl, l, i⟩ := t
  obtain ⟨k, a, c, e, h2⟩ := h
  exact ⟨k, a, c, e, h2⟩
theorem ExV.ls {w : World} {P : Nat → Prop} {h : Nat} {v : Value} {t : Ex} (hx : ExV w P h v t) : ∃ x4, v = .agg #[.int .i64 t.op, .string t.name, .string t.num, .bool t.b, x4, .int .i64 0, .int .i64 t.at'] ∧ LsV w P h x4 t.l := by
  obtain ⟨op, nm, nu, bl, l, i⟩ := t
  obtain ⟨a, c, e, h2⟩ := hx
  exact ⟨_, e, a, c, rfl, h2⟩
/-- An element of a row. -/
theorem LsV.at {w : World} {P : Nat → Prop} {h : Nat} {a : Option Addr} {n c : Nat} {l : List Ex} (hx : LsV w P (h + 1) (.slice a n c) l) {j : Nat} {t : Ex} (ht : l[j]? = some t) : n = l.length ∧ n ≤ c ∧ ∃ b off x4, a = some ⟨b, off, none⟩ ∧ b < w.heap.size ∧ w.rangeAt b (off + j * 7) [.int .i64 t.op, .string t.name, .string t.num, .bool t.b, x4, .int .i64 0, .int .i64 t.at'] ∧ ExV w P h (.agg #[.int .i64 t.op, .string t.name, .string t.num, .bool t.b, x4, .int .i64 0, .int .i64 t.at']) t := by
  obtain ⟨a', c', e, h1, h2, h3⟩ := hx
  obtain ⟨rfl, rfl, rfl⟩ : a = a' ∧ n = l.length ∧ c = c' := by simpa using e
  have hj := (List.getElem?_eq_some_iff.1 ht).1
  obtain ⟨b, off, rfl, hP, hb, hc⟩ := h3 (by omega)
  have hx := hc j hj t ht
  obtain ⟨op, nm, nu, bl, l', i⟩ := t
  obtain ⟨a2, c2, hr, hrow⟩ := hx
  exact ⟨rfl, h1, b, off, _, rfl, hb, hr, a2, c2, rfl, hrow⟩
theorem LsV.nil {w : World} {P : Nat → Prop} {v : Value} {l : List Ex} (hx : LsV w P 0 v l) : l = [] := by
  obtain ⟨a, c, e, h1, h2, h3⟩ := hx
  cases l with
  | nil => rfl
  | cons t l =>
    obtain ⟨b, off, -, -, -, hc⟩ := h3 (by simp)
    exact (hc 0 (by simp) t rfl).elim
def SmL (h : Nat) : Prop := ∀ (w : World) (va vb : Value) (l : List Ex) (P P' : Nat → Prop), LsV w P h va l → LsV w P' h vb l → Calls Tryz.prog 34 #[va, vb] w (VP (.bool true) w)
def SmE (h : Nat) : Prop := ∀ (w : World) (va vb : Value) (t : Ex) (P P' : Nat → Prop), ExV w P h va t → ExV w P' h vb t → Calls Tryz.prog 19 #[va, vb] w (VP (.bool true) w)
set_option maxRecDepth 100000 in
set_option maxHeartbeats 8000000 in
theorem sme_of {h : Nat} (hL : SmL h) : SmE h := by
  intro w va vb t P P' ha hb
  obtain ⟨xa, rfl, hla⟩ := ha.ls
  obtain ⟨xb, rfl, hlb⟩ := hb.ls
  obtain ⟨op, nm, nu, bl, l, i⟩ := t
  obtain ⟨a1, c1, rfl, hra⟩ := hla
  obtain ⟨a2, c2, rfl, hrb⟩ := hlb
  obtain ⟨n, hn⟩ : ∃ n, l.length = n := ⟨_, rfl⟩
  show Calls _ _ #[.agg #[.int .i64 op, .string nm, .string nu, .bool bl, .slice a1 l.length c1, .int .i64 0, .int .i64 i], .agg #[.int .i64 op, .string nm, .string nu, .bool bl, .slice a2 l.length c2, .int .i64 0, .int .i64 i]] w _
  have hla := fun B hb => hL B _ _ l P P' (LsV.keep (w' := B) ⟨a1, c1, rfl, hra⟩ hb) (LsV.keep (w' := B) ⟨a2, c2, rfl, hrb⟩ hb)
  rw [hn] at hla ⊢
  obtain ⟨A, eA, hbA, hsA, hhA⟩ := box_new w #[.int .i64 op, .string nm, .string nu, .bool bl, .slice a1 n c1, .int .i64 0, .int .i64 i] 36
  obtain ⟨B, eB, hbB, hsB, hhB⟩ := box_new A #[.int .i64 op, .string nm, .string nu, .bool bl, .slice a2 n c2, .int .i64 0, .int .i64 i] 36
  have hhA2 := (hbB.block _ (blk hhA).1).trans hhA
  have hwB : Below w.heap.size w B := hbA.trans (hbB.mono hbA.size)
  have HC := hide (hla B hwB)
  obtain ⟨y0, y1, y2, y3, y4, y5, y6⟩ := blk7 hhA2
  obtain ⟨q0, q1, q2, q3, q4, q5, q6⟩ := blk7 hhB
  rw [hsA] at q0 q1 q2 q3 q4 q5 q6
  have HB := hide hwB
  have HEA := hide eA
  have HEB := hide eB
  rw [← eB, ← eA] at y0 y1 y2 y3 y4 y5 y6 q0 q1 q2 q3 q4 q5 q6
  unfold VP
  clear ha hb hra hrb eA hbA hsA hhA eB hbB hsB hhB hhA2 hwB hn hL hla
  go_enter Tryz.func19, Tryz.ntmps19
  go_wp2_with fail
  rw [unhide HEA, unhide HEB]
  refine (unhide HC).mono ?_
  rintro e w2 ⟨rfl, hb2⟩
  have H2 := hide ((unhide HB).trans (hb2.mono (unhide HB).size))
  clear HC hb2
  go_wp2
  go_ret
  exact ⟨rfl, unhide H2⟩
end Go.Proofs.YtfkfnbehdcmgeaaGreatDoor

namespace Go.Proofs.YtfkfnbehdcmgeaaGreatDoor
open Go Go.RowKit
/-- The texts of a row, as the loop has them. -/
def TR (w wr : World) (lv : Value) (i : Nat) (cs : List ByteArray) (bx : Obj) : Prop := Below w.heap.size w wr ∧ wr.heap[w.heap.size]? = some bx ∧ wr.ownsRow (w.heap.size + 1) 9 1 lv i ((cs.take i).map Value.string)
theorem TR.row {w wr : World} {lv : Value} {cs : List ByteArray} {bx : Obj} (h : TR w wr lv cs.length cs bx) (h0 : 0 < cs.length) : ∃ g cap, lv = .slice (some ⟨g, 0, none⟩) cs.length cap ∧ cs.length ≤ cap ∧ ∀ (j : Nat) c, cs[j]? = some c → wr.cell? ⟨g, j, none⟩ = some (.string c) := by
  obtain ⟨g, cap, e, hg1, hg2⟩ := h.2.2.form h0
  have hc := h.2.2.cells (g := g) (by rw [e]; rfl)
  have hcap : cs.length ≤ cap := by
    obtain ⟨-, h1 | ⟨g', c', cur, e2, -, -, h2, -⟩⟩ := h.2.2
    · exact absurd h1.2 (by omega)
    · rw [e] at e2
      obtain ⟨-, rfl⟩ : g = g' ∧ cap = c' := by simpa using e2
      exact h2
  refine ⟨g, cap, e, hcap, fun j c hj => ?_⟩
  have := hc j (.string c) (by simp [hj])
  rw [addr0] at this
  exact this
end Go.Proofs.YtfkfnbehdcmgeaaGreatDoor
