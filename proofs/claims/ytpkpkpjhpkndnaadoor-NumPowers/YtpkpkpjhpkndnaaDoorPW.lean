/- The walk of NumPowers. -/
import Derived.Test.YtpkpkpjhpkndnaaDoorPX
import Derived.Test.YtpkpkpjhpkndnaaDoorN2
namespace Go.Proofs.YtpkpkpjhpkndnaaDoor
open Go.RowKit Go.Shelf

/-- The number of the first k digits. -/
def pv (ds : List Int) : Nat → Nat
  | 0 => 0
  | k + 1 => 10 * pv ds k + ((ds[k]?.getD 0) % 10).toNat
/-- Its text; of 0 none. -/
def tx (n : Nat) : List UInt8 := if n = 0 then [] else Lib.decDigits n
theorem tx_step (n d : Nat) (hd : d < 10) : tx (10 * n + d) = if n = 0 ∧ d = 0 then [] else tx n ++ [UInt8.ofNat (48 + d)] := by
  unfold tx
  by_cases hn : n = 0
  · subst hn
    by_cases h : d = 0
    · subst h; simp
    · rw [if_neg (by omega), if_neg (by omega), if_pos rfl, Lib.decDigits, dif_pos (by omega)]; simp
  · rw [if_neg (by omega), if_neg (by omega), if_neg hn, Lib.decDigits, dif_neg (by omega)]
    have e1 : (10 * n + d) / 10 = n := by omega
    have e2 : (10 * n + d) % 10 = d := by omega
    rw [e1, e2]
theorem pv_lt (ds : List Int) (k : Nat) : pv ds k < 10 ^ k := by
  induction k with
  | zero => simp [pv]
  | succ k ih => rw [Nat.pow_succ]; simp only [pv]; omega
theorem pv_pw (ds : List Int) (k : Nat) (hk : k ≤ 200) : (((pv ds k : Nat) : Int).natAbs : Int) < pw 40 := by
  have h := pv_lt ds k
  have h2 : (10 : Nat) ^ k ≤ 10 ^ 200 := Nat.pow_le_pow_right (by omega) hk
  have h3 : ((10 ^ 200 : Nat) : Int) < pw 40 := by decide
  omega

theorem dd_len (n : Nat) : ∀ u, u < 10 ^ (n + 1) → (Lib.decDigits u).length ≤ n + 1 := by
  induction n with
  | zero => intro u hu; rw [Lib.decDigits, dif_pos (by simpa using hu)]; simp
  | succ n ih =>
    intro u hu
    rw [Lib.decDigits]
    split
    · simp
    · rw [Nat.pow_succ] at hu
      have := ih (u / 10) (by omega)
      simp
      omega
theorem tx_len (ds : List Int) (k : Nat) (hk : k ≤ 200) : (tx (pv ds k)).length ≤ 201 := by
  unfold tx
  split
  · simp
  · have h1 := pv_lt ds k
    have h2 : (10 : Nat) ^ k ≤ 10 ^ (200 + 1) := Nat.pow_le_pow_right (by omega) (by omega)
    exact dd_len 200 _ (by omega)

theorem piece10 (m : Nat) (h : m < 10) : (⟨#[48, 49, 50, 51, 52, 53, 54, 55, 56, 57]⟩ : ByteArray).extract m (m + 1) = ⟨#[UInt8.ofNat (48 + m)]⟩ := by
  match m, h with
  | 0, _ => rfl
  | 1, _ => rfl
  | 2, _ => rfl
  | 3, _ => rfl
  | 4, _ => rfl
  | 5, _ => rfl
  | 6, _ => rfl
  | 7, _ => rfl
  | 8, _ => rfl
  | 9, _ => rfl
  | m + 10, h => exact absurd h (by omega)
theorem dig_piece (d : Int) (h0 : 0 ≤ d) (h1 : d < 10) (l : List UInt8) : (⟨l.toArray⟩ : ByteArray) ++ (⟨#[48, 49, 50, 51, 52, 53, 54, 55, 56, 57]⟩ : ByteArray).extract d.toNat (d + 1).toNat = ⟨(l ++ [UInt8.ofNat (48 + d.toNat)]).toArray⟩ := by
  rw [show (d + 1).toNat = d.toNat + 1 by omega, piece10 _ (by omega)]
  apply ByteArray.ext
  simp [ByteArray.data_append]

set_option maxRecDepth 100000 in
set_option maxHeartbeats 4000000 in
theorem powers_walk (ad : Option Addr) (cap : Nat) (ds : List Int) (neg : Bool) (w : World) (hT : Tab w) (hlm : ds.length ≤ 9223372036854775807) (hds : ∀ d ∈ ds, 0 ≤ d ∧ d < 256) (hat : ds ≠ [] → ∃ b off, ad = some ⟨b, off, none⟩ ∧ b < w.heap.size ∧ ∀ j, j < ds.length → w.cell? ⟨b, off + j, none⟩ = some (.int .u8 (ds[j]?.getD 0))) :
    Calls Tryd.prog 7 #[.slice ad ds.length cap, .bool neg] w fun e w' => e = .returned (.bool true) ∧ Below w.heap.size w w' := by
  have HK := hide (known_yes w hT)
  have HT := hide hT
  clear hT
  by_cases hl : 200 < ds.length
  · have hl' : (200 : Int) < (ds.length : Int) := by omega
    go_enter Tryd.func7, Tryd.ntmps7
    go_wp2_with fail
    refine (unhide HK).mono ?_
    rintro e w1 ⟨rfl, hb1⟩
    go_wp2
    go_ret
    exact ⟨rfl, hb1⟩
  · have hl' : ¬ (200 : Int) < (ds.length : Int) := by omega
    go_enter Tryd.func7, Tryd.ntmps7
    go_wp2_with fail
    refine (unhide HK).mono ?_
    rintro e w1 ⟨rfl, hb1⟩
    go_wp2_with fail
    refine (of_any 0 w1).mono ?_
    rintro e w2 ⟨rfl, hb2⟩
    go_wp2_with fail
    refine (of_any 10 w2).mono ?_
    rintro e w3 ⟨rfl, hb3⟩
    go_wp2_with fail
    have xN := (Bx.new w3 0 none 0 0).alloc (.cells #[.int .i64 10, .slice none 0 0] 26)
    have xT := Bx.new (w3.alloc (.cells #[.int .i64 0, .slice none 0 0] 26)) 10 none 0 0
    rw [World.size_alloc] at xT
    have hg : Below w3.heap.size w3 ((w3.alloc (.cells #[.int .i64 0, .slice none 0 0] 26)).alloc (.cells #[.int .i64 10, .slice none 0 0] 26)) := ((Below.refl _ _).alloc (Nat.le_refl _) _).alloc (by simp) _
    have hB3 := (hb1.trans (hb2.mono hb1.size)).trans (hb3.mono (Nat.le_trans hb1.size hb2.size))
    have hB := hB3.trans (hg.mono hB3.size)
    have hne : w3.heap.size ≠ w3.heap.size + 1 := by omega
    have hwN : w.heap.size ≤ w3.heap.size := hB3.size
    clear hb1 hb2 hb3 hB3 hg
    generalize ((w3.alloc (.cells #[.int .i64 0, .slice none 0 0] 26)).alloc (.cells #[.int .i64 10, .slice none 0 0] 26)) = W0 at *
    generalize hrT : w3.heap.size + 1 = rT at *
    generalize w3.heap.size = rN at *
    clear hrT
    go_loopw [7, 8] (fun tv iv wr => ∃ (k : Nat), k ≤ ds.length ∧ iv = .int .i64 k ∧ tv = .string ⟨(tx (pv ds k)).toArray⟩ ∧ (∃ v, Bx wr rN v ∧ IsI wr v (pv ds k : Int)) ∧ Bx wr rT (.agg #[.int .i64 10, .slice none 0 0]) ∧ Below w.heap.size w wr) (fun _ iv _ => ds.length - (intOf iv).toNat)
    case atStart => exact ⟨0, Nat.zero_le _, rfl, rfl, ⟨_, xN, .inl ⟨rfl, by simp [pv], by simp [pv]⟩⟩, xT, hB⟩
    case round =>
      obtain ⟨k, hk, rfl, rfl, ⟨v, hxN, hiN⟩, hxT, hBw⟩ := hrel
      obtain ⟨n1, n2, n3, n4, rfl⟩ := hiN.form
      obtain ⟨kN0, kN1, fN0, fN1⟩ := hxN.facts
      obtain ⟨kT0, kT1, fT0, fT1⟩ := hxT.facts
      by_cases hlt : k < ds.length
      · obtain ⟨b, off, rfl, hbw, hcell⟩ := hat (by intro e; subst e; simp at hlt)
        have hcd := (hBw.cell (p := ⟨b, off + k, none⟩) hbw).trans (hcell k hlt)
        obtain ⟨d, hd⟩ : ∃ d, ds[k]?.getD 0 = d := ⟨_, rfl⟩
        have hd01 : 0 ≤ d ∧ d < 256 := by rw [← hd]; exact hds _ (by rw [List.getElem?_eq_getElem hlt]; simp)
        obtain ⟨hd0, hd1⟩ := hd01
        rw [hd] at hcd
        have HM := hide (mul_any _ _ (pv ds k : Int) 10 _ hiN (.inl ⟨rfl, by decide, by decide⟩ : IsI wr (.agg #[.int .i64 10, .slice none 0 0]) 10) (le4 (pv_pw ds k (by omega)) (by decide)) (small_pw (by decide) (by decide)))
        have hi1 : (k : Int) < (ds.length : Int) := by omega
        go_wp2_with fail
        refine (unhide HM).mono ?_
        rintro e u1 ⟨r1, rfl, hbu1, ir1⟩
        obtain ⟨m1, m2, m3, m4, rfl⟩ := ir1.form
        have hd10 : 0 ≤ d % 10 ∧ d % 10 < 10 := by omega
        go_wp2_with fail
        refine (of_any (d % 10) _).mono ?_
        rintro e u2 ⟨rfl, hbu2⟩
        have HA := hide (add_any _ _ ((pv ds k : Int) * 10) (d % 10) _ (ir1.below hbu2) (.inl ⟨rfl, by omega, by omega⟩ : IsI u2 (.agg #[.int .i64 (d % 10), .slice none 0 0]) (d % 10)) (le4 (mul_lt (pv_pw ds k (by omega)) (show (((10 : Int).natAbs : Int)) < pw 2 by decide)) (by decide)) (small_pw (by omega) (by omega)))
        go_wp2_with fail
        refine (unhide HA).mono ?_
        rintro e u3 ⟨r3, rfl, hbu3, ir3⟩
        obtain ⟨o1, o2, o3, o4, rfl⟩ := ir3.form
        have xN3 := ((hxN.below hbu1).below hbu2).below hbu3
        have xT3 := ((hxT.below hbu1).below hbu2).below hbu3
        have hB3 := ((hBw.trans (hbu1.mono hBw.size)).trans (hbu2.mono (Nat.le_trans hBw.size hbu1.size))).trans (hbu3.mono (Nat.le_trans hBw.size (Nat.le_trans hbu1.size hbu2.size)))
        have xN4 := xN3.set o1 o2 o3 o4
        have iN4 := ir3.put xN3 (.int .i64 o1) (.slice o2 o3 o4)
        have xT4 := (xT3.other (p := ⟨rN, 0, none⟩) hne (.int .i64 o1)).other (p := ⟨rN, 1, none⟩) hne (.slice o2 o3 o4)
        have hB4 := below_put hB3 hwN (.int .i64 o1) (.slice o2 o3 o4)
        have HI4 := hide iN4
        obtain ⟨kM0, kM1, fM0, fM1⟩ := xN3.facts
        have HB4 := hide hB4
        have HX4 := hide (And.intro xN4 xT4)
        clear hbu1 hbu2 hbu3 HA HM ir1 ir3 iN4 hB3 hB4 xN4 xT4 xN3 xT3 kN0 kN1 fN0 fN1 kT0 kT1 fT0 fT1 hxN hxT hiN hcd hcell
        have HP := hide (show pv ds (k + 1) = 10 * pv ds k + (d % 10).toNat by simp only [pv]; rw [hd])
        have HP2 := hide (show ((pv ds (k + 1) : Nat) : Int) = (pv ds k : Int) * 10 + d % 10 by rw [unhide HP]; omega)
        have HX := hide (tx_step (pv ds k) (d % 10).toNat (by omega))
        rw [← unhide HP] at HX
        rw [← unhide HP2] at HI4
        by_cases hv : pv ds k = 0
        · have ht0 : tx (pv ds k) = [] := by simp [tx, hv]
          by_cases hz : d % 10 = 0
          · have hq : decide ((0 : Int) < d % 10) = false := by simp; omega
            go_wp2
            refine ⟨⟨k + 1, by omega, by go_num, ?_, ⟨_, (unhide HX4).1, unhide HI4⟩, (unhide HX4).2, unhide HB4⟩, by simp [intOf]; omega⟩
            rw [unhide HX, if_pos ⟨hv, by omega⟩]
          · have hq : (0 : Int) < d % 10 := by omega
            go_wp2
            refine ⟨⟨k + 1, by omega, by go_num, ?_, ⟨_, (unhide HX4).1, unhide HI4⟩, (unhide HX4).2, unhide HB4⟩, by simp [intOf]; omega⟩
            rw [unhide HX, if_neg (by omega), ht0]
            exact congrArg Value.string (dig_piece (d % 10) hd10.1 hd10.2 [])
        · obtain ⟨c0, l0, ht0⟩ : ∃ c l, tx (pv ds k) = c :: l := by
            have h1 := dd_pos (pv ds k)
            have h2 : tx (pv ds k) = Lib.decDigits (pv ds k) := by simp [tx, hv]
            rw [h2]
            cases h3 : Lib.decDigits (pv ds k) with
            | nil => rw [h3] at h1; simp at h1
            | cons c l => exact ⟨c, l, rfl⟩
          have hl0 : l0.length ≤ 200 := by
            have := tx_len ds k (by omega)
            rw [ht0] at this
            simpa using this
          have hl1 : ¬ 9223372036854775807 < l0.length + 1 + (min (d % 10 + 1).toNat 10 - (d % 10).toNat) := by omega
          go_wp2
          refine ⟨⟨k + 1, by omega, by go_num, ?_, ⟨_, (unhide HX4).1, unhide HI4⟩, (unhide HX4).2, unhide HB4⟩, by simp [intOf]; omega⟩
          rw [unhide HX, if_neg (by omega), ht0]
          exact congrArg Value.string (dig_piece (d % 10) hd10.1 hd10.2 (c0 :: l0))
      · have hke : k = ds.length := by omega
        subst hke
        have hV := le4 (pv_pw ds ds.length (by omega)) (show 40 ≤ 4000 by decide)
        have hTw : Tab wr := (unhide HT).below hBw
        have hlv := tx_len ds ds.length (by omega)
        have HD := hide hds
        have HA := hide hat
        clear hk hlt hds hat
        cases neg
        · by_cases hv : pv ds ds.length = 0
          · have ht0 : tx (pv ds ds.length) = [] := by simp [tx, hv]
            have hit : Lib.itoa ((pv ds ds.length : Nat) : Int) = [48] := by rw [hv, Lib.itoa_nonneg, Lib.decDigits_one (by omega)]; rfl
            have HS := hide (str_any _ _ wr hTw hiN hV)
            rw [hit] at HS
            have HV := hide hv
            clear hit hv
            go_wp2_with fail
            refine (unhide HS).mono ?_
            rintro e u1 ⟨rfl, hbu1⟩
            have hxN1 := hxN.below hbu1
            have hxT1 := hxT.below hbu1
            have hiN1 := hiN.below hbu1
            have hB1 := hBw.trans (hbu1.mono hBw.size)
            clear hbu1 hxN hxT hiN hBw HS kN0 kN1 fN0 fN1 kT0 kT1 fT0 fT1 hTw
            go_wp2_with fail
            go_loopw [10] (fun iv wr => ∃ k : Nat, k ≤ ds.length ∧ iv = .int .i64 ((k : Int) - 1) ∧ (∃ v, Bx wr rN v ∧ IsI wr v (pv ds k : Int)) ∧ Bx wr rT (.agg #[.int .i64 10, .slice none 0 0]) ∧ Below w.heap.size w wr) (fun iv _ => (intOf iv + 1).toNat)
            case atStart => exact ⟨ds.length, Nat.le_refl _, rfl, ⟨_, hxN1, hiN1⟩, hxT1, hB1⟩
            case round =>
              clear hxN1 hiN1 hxT1 hB1
              obtain ⟨k, hk, rfl, ⟨v, hxN, hiN⟩, hxT, hBw⟩ := hrel
              obtain ⟨p1, p2, p3, p4, rfl⟩ := hiN.form
              obtain ⟨kN0, kN1, fN0, fN1⟩ := hxN.facts
              obtain ⟨kT0, kT1, fT0, fT1⟩ := hxT.facts
              cases k with
              | zero =>
                have HG := hide (sign_any _ _ _ hiN)
                rw [show sgn ((pv ds 0 : Nat) : Int) = 0 from rfl] at HG
                go_wp2_with fail
                refine (unhide HG).mono ?_
                rintro e u9 ⟨rfl, hbu9⟩
                have hB9 := hBw.trans (hbu9.mono hBw.size)
                go_wp2
                go_ret
                exact ⟨rfl, hB9⟩
              | succ j =>
                have ej : ((j + 1 : Nat) : Int) - 1 = (j : Int) := by omega
                rw [ej]
                obtain ⟨b, off, rfl, hbw, hcell⟩ := unhide HA (by intro e; subst e; simp at hk)
                have hlt : j < ds.length := by omega
                obtain ⟨d, hd⟩ : ∃ d, ds[j]?.getD 0 = d := ⟨_, rfl⟩
                have hd01 : 0 ≤ d ∧ d < 256 := by rw [← hd]; exact unhide HD _ (by rw [List.getElem?_eq_getElem hlt]; simp)
                obtain ⟨hd0, hd1⟩ := hd01
                have HP := hide (show pv ds (j + 1) = 10 * pv ds j + (d % 10).toNat by simp only [pv]; rw [hd])
                have HQ := hide (quo_any quoLong_any _ _ ((pv ds (j + 1) : Nat) : Int) 10 wr hiN (.inl ⟨rfl, by decide, by decide⟩ : IsI wr (.agg #[.int .i64 10, .slice none 0 0]) 10) (le4 (pv_pw ds (j + 1) (by omega)) (by decide)) (small_pw (by decide) (by decide)))
                rw [show ((pv ds (j + 1) : Nat) : Int) / 10 = (pv ds j : Int) by rw [unhide HP]; omega, show ((pv ds (j + 1) : Nat) : Int) % 10 = d % 10 by rw [unhide HP]; omega] at HQ
                have HCD := hide (hcell j hlt)
                rw [hd] at HCD
                have hi0 : (0 : Int) ≤ (j : Int) := by omega
                have hi1 : (j : Int) < (ds.length : Int) := by omega
                clear hcell ej hd
                go_wp2_with fail
                refine (unhide HQ).mono ?_
                rintro e u2 ⟨r1, r2, rfl, hbu2, i1, i2⟩
                obtain ⟨q1, q2, q3, q4, rfl⟩ := i1.form
                obtain ⟨s1, s2, s3, s4, rfl⟩ := i2.form
                clear kN0 kN1 fN0 fN1 kT0 kT1 fT0 fT1 HQ
                go_wp2_with fail
                have xQ := (Bx.new u2 q1 q2 q3 q4).alloc (.cells #[.int .i64 s1, .slice s2 s3 s4] 26)
                have xR := Bx.new (u2.alloc (.cells #[.int .i64 q1, .slice q2 q3 q4] 26)) s1 s2 s3 s4
                rw [World.size_alloc] at xR
                have hg2 : Below u2.heap.size u2 ((u2.alloc (.cells #[.int .i64 q1, .slice q2 q3 q4] 26)).alloc (.cells #[.int .i64 s1, .slice s2 s3 s4] 26)) := ((Below.refl _ _).alloc (Nat.le_refl _) _).alloc (by simp) _
                replace i1 := i1.below hg2
                replace i2 := i2.below hg2
                replace hxN := (hxN.below hbu2).below hg2
                replace hxT := (hxT.below hbu2).below hg2
                have hB2 := hBw.trans (hbu2.mono hBw.size)
                have hBW := hB2.trans (hg2.mono hB2.size)
                clear hbu2 hg2 hB2 hBw hiN
                generalize ((u2.alloc (.cells #[.int .i64 q1, .slice q2 q3 q4] 26)).alloc (.cells #[.int .i64 s1, .slice s2 s3 s4] 26)) = W at *
                generalize hrR : u2.heap.size + 1 = rR at *
                clear hrR
                generalize u2.heap.size = rQ at *
                refine pw_digit b off ds.length cap j rR d rfl rfl rfl rfl hlt hd0 hd1 ⟨_, xR, i2⟩ (Nat.lt_of_lt_of_le hbw hBW.size) ((hBW.cell (p := ⟨b, off + j, none⟩) hbw).trans (unhide HCD)) ?_
                intro v77 v78 v79 v80 v81 v82 v83 v84 v85 u4 hU
                simp only [Act.put, List.setIfInBounds_toArray, List.set_cons_succ, List.set_cons_zero]
                have hxN4 := hxN.below hU
                have hxT4 := hxT.below hU
                have hxQ4 := xQ.below hU
                have hi4 := i1.below hU
                have hB4 := hBW.trans (hU.mono hBW.size)
                obtain ⟨kN0, kN1, fN0, fN1⟩ := hxN4.facts
                obtain ⟨kQ0, kQ1, fQ0, fQ1⟩ := hxQ4.facts
                have HZ := hide (And.intro (hxN4.set q1 q2 q3 q4) (And.intro (hi4.put hxN4 (.int .i64 q1) (.slice q2 q3 q4)) (And.intro ((hxT4.other (p := ⟨rN, 0, none⟩) hne (.int .i64 q1)).other (p := ⟨rN, 1, none⟩) hne (.slice q2 q3 q4)) (below_put hB4 hwN (.int .i64 q1) (.slice q2 q3 q4)))))
                clear hxN4 hxT4 hxQ4 hi4 hB4 hU hxN hxT xQ xR i1 i2 hBW HCD
                go_wp2
                exact ⟨⟨j, by omega, by go_num, ⟨_, (unhide HZ).1, (unhide HZ).2.1⟩, (unhide HZ).2.2.1, (unhide HZ).2.2.2⟩, by simp [intOf]⟩
          · obtain ⟨c0, l0, ht0⟩ : ∃ c l, tx (pv ds ds.length) = c :: l := by
              have h1 := dd_pos (pv ds ds.length)
              have h2 : tx (pv ds ds.length) = Lib.decDigits (pv ds ds.length) := by simp [tx, hv]
              rw [h2]
              cases h3 : Lib.decDigits (pv ds ds.length) with
              | nil => rw [h3] at h1; simp at h1
              | cons c l => exact ⟨c, l, rfl⟩
            rw [ht0] at hlv
            have hl0 : l0.length ≤ 200 := by simpa using hlv
            have hit : Lib.itoa ((pv ds ds.length : Nat) : Int) = c0 :: l0 := by rw [Lib.itoa_nonneg, ← ht0]; simp [tx, hv]
            have HS := hide (str_any _ _ wr hTw hiN hV)
            rw [hit] at HS
            have HV := hide hv
            clear hit hv
            go_wp2_with fail
            refine (unhide HS).mono ?_
            rintro e u1 ⟨rfl, hbu1⟩
            have hxN1 := hxN.below hbu1
            have hxT1 := hxT.below hbu1
            have hiN1 := hiN.below hbu1
            have hB1 := hBw.trans (hbu1.mono hBw.size)
            clear hbu1 hxN hxT hiN hBw HS kN0 kN1 fN0 fN1 kT0 kT1 fT0 fT1 hTw
            go_wp2_with fail
            go_loopw [10] (fun iv wr => ∃ k : Nat, k ≤ ds.length ∧ iv = .int .i64 ((k : Int) - 1) ∧ (∃ v, Bx wr rN v ∧ IsI wr v (pv ds k : Int)) ∧ Bx wr rT (.agg #[.int .i64 10, .slice none 0 0]) ∧ Below w.heap.size w wr) (fun iv _ => (intOf iv + 1).toNat)
            case atStart => exact ⟨ds.length, Nat.le_refl _, rfl, ⟨_, hxN1, hiN1⟩, hxT1, hB1⟩
            case round =>
              clear hxN1 hiN1 hxT1 hB1
              obtain ⟨k, hk, rfl, ⟨v, hxN, hiN⟩, hxT, hBw⟩ := hrel
              obtain ⟨p1, p2, p3, p4, rfl⟩ := hiN.form
              obtain ⟨kN0, kN1, fN0, fN1⟩ := hxN.facts
              obtain ⟨kT0, kT1, fT0, fT1⟩ := hxT.facts
              cases k with
              | zero =>
                have HG := hide (sign_any _ _ _ hiN)
                rw [show sgn ((pv ds 0 : Nat) : Int) = 0 from rfl] at HG
                go_wp2_with fail
                refine (unhide HG).mono ?_
                rintro e u9 ⟨rfl, hbu9⟩
                have hB9 := hBw.trans (hbu9.mono hBw.size)
                go_wp2
                go_ret
                exact ⟨rfl, hB9⟩
              | succ j =>
                have ej : ((j + 1 : Nat) : Int) - 1 = (j : Int) := by omega
                rw [ej]
                obtain ⟨b, off, rfl, hbw, hcell⟩ := unhide HA (by intro e; subst e; simp at hk)
                have hlt : j < ds.length := by omega
                obtain ⟨d, hd⟩ : ∃ d, ds[j]?.getD 0 = d := ⟨_, rfl⟩
                have hd01 : 0 ≤ d ∧ d < 256 := by rw [← hd]; exact unhide HD _ (by rw [List.getElem?_eq_getElem hlt]; simp)
                obtain ⟨hd0, hd1⟩ := hd01
                have HP := hide (show pv ds (j + 1) = 10 * pv ds j + (d % 10).toNat by simp only [pv]; rw [hd])
                have HQ := hide (quo_any quoLong_any _ _ ((pv ds (j + 1) : Nat) : Int) 10 wr hiN (.inl ⟨rfl, by decide, by decide⟩ : IsI wr (.agg #[.int .i64 10, .slice none 0 0]) 10) (le4 (pv_pw ds (j + 1) (by omega)) (by decide)) (small_pw (by decide) (by decide)))
                rw [show ((pv ds (j + 1) : Nat) : Int) / 10 = (pv ds j : Int) by rw [unhide HP]; omega, show ((pv ds (j + 1) : Nat) : Int) % 10 = d % 10 by rw [unhide HP]; omega] at HQ
                have HCD := hide (hcell j hlt)
                rw [hd] at HCD
                have hi0 : (0 : Int) ≤ (j : Int) := by omega
                have hi1 : (j : Int) < (ds.length : Int) := by omega
                clear hcell ej hd
                go_wp2_with fail
                refine (unhide HQ).mono ?_
                rintro e u2 ⟨r1, r2, rfl, hbu2, i1, i2⟩
                obtain ⟨q1, q2, q3, q4, rfl⟩ := i1.form
                obtain ⟨s1, s2, s3, s4, rfl⟩ := i2.form
                clear kN0 kN1 fN0 fN1 kT0 kT1 fT0 fT1 HQ
                go_wp2_with fail
                have xQ := (Bx.new u2 q1 q2 q3 q4).alloc (.cells #[.int .i64 s1, .slice s2 s3 s4] 26)
                have xR := Bx.new (u2.alloc (.cells #[.int .i64 q1, .slice q2 q3 q4] 26)) s1 s2 s3 s4
                rw [World.size_alloc] at xR
                have hg2 : Below u2.heap.size u2 ((u2.alloc (.cells #[.int .i64 q1, .slice q2 q3 q4] 26)).alloc (.cells #[.int .i64 s1, .slice s2 s3 s4] 26)) := ((Below.refl _ _).alloc (Nat.le_refl _) _).alloc (by simp) _
                replace i1 := i1.below hg2
                replace i2 := i2.below hg2
                replace hxN := (hxN.below hbu2).below hg2
                replace hxT := (hxT.below hbu2).below hg2
                have hB2 := hBw.trans (hbu2.mono hBw.size)
                have hBW := hB2.trans (hg2.mono hB2.size)
                clear hbu2 hg2 hB2 hBw hiN
                generalize ((u2.alloc (.cells #[.int .i64 q1, .slice q2 q3 q4] 26)).alloc (.cells #[.int .i64 s1, .slice s2 s3 s4] 26)) = W at *
                generalize hrR : u2.heap.size + 1 = rR at *
                clear hrR
                generalize u2.heap.size = rQ at *
                refine pw_digit b off ds.length cap j rR d rfl rfl rfl rfl hlt hd0 hd1 ⟨_, xR, i2⟩ (Nat.lt_of_lt_of_le hbw hBW.size) ((hBW.cell (p := ⟨b, off + j, none⟩) hbw).trans (unhide HCD)) ?_
                intro v77 v78 v79 v80 v81 v82 v83 v84 v85 u4 hU
                simp only [Act.put, List.setIfInBounds_toArray, List.set_cons_succ, List.set_cons_zero]
                have hxN4 := hxN.below hU
                have hxT4 := hxT.below hU
                have hxQ4 := xQ.below hU
                have hi4 := i1.below hU
                have hB4 := hBW.trans (hU.mono hBW.size)
                obtain ⟨kN0, kN1, fN0, fN1⟩ := hxN4.facts
                obtain ⟨kQ0, kQ1, fQ0, fQ1⟩ := hxQ4.facts
                have HZ := hide (And.intro (hxN4.set q1 q2 q3 q4) (And.intro (hi4.put hxN4 (.int .i64 q1) (.slice q2 q3 q4)) (And.intro ((hxT4.other (p := ⟨rN, 0, none⟩) hne (.int .i64 q1)).other (p := ⟨rN, 1, none⟩) hne (.slice q2 q3 q4)) (below_put hB4 hwN (.int .i64 q1) (.slice q2 q3 q4)))))
                clear hxN4 hxT4 hxQ4 hi4 hB4 hU hxN hxT xQ xR i1 i2 hBW HCD
                go_wp2
                exact ⟨⟨j, by omega, by go_num, ⟨_, (unhide HZ).1, (unhide HZ).2.1⟩, (unhide HZ).2.2.1, (unhide HZ).2.2.2⟩, by simp [intOf]⟩
        · by_cases hv : pv ds ds.length = 0
          · have ht0 : tx (pv ds ds.length) = [] := by simp [tx, hv]
            have hit : Lib.itoa ((pv ds ds.length : Nat) : Int) = [48] := by rw [hv, Lib.itoa_nonneg, Lib.decDigits_one (by omega)]; rfl
            have HS := hide (str_any _ _ wr hTw hiN hV)
            rw [hit] at HS
            have HV := hide hv
            clear hit hv
            go_wp2_with fail
            refine (unhide HS).mono ?_
            rintro e u1 ⟨rfl, hbu1⟩
            replace hxN := hxN.below hbu1
            replace hxT := hxT.below hbu1
            replace hiN := hiN.below hbu1
            replace hBw := hBw.trans (hbu1.mono hBw.size)
            have HG := hide (neg_any _ _ u1 hiN (Int.lt_of_lt_of_le hV (pw_mono (by decide))))
            rw [show -((pv ds ds.length : Nat) : Int) = ((pv ds ds.length : Nat) : Int) by have := unhide HV; omega] at HG
            clear hbu1 HS kN0 kN1 fN0 fN1 kT0 kT1 fT0 fT1 hTw
            obtain ⟨kN0, kN1, fN0, fN1⟩ := hxN.facts
            go_wp2_with fail
            refine (unhide HG).mono ?_
            rintro e u5 ⟨r5, rfl, hbu5, ir5⟩
            obtain ⟨z1, z2, z3, z4, rfl⟩ := ir5.form
            have xA := hxN.below hbu5
            have hxN1 := xA.set z1 z2 z3 z4
            have hiN1 := ir5.put xA (.int .i64 z1) (.slice z2 z3 z4)
            have hxT1 := ((hxT.below hbu5).other (p := ⟨rN, 0, none⟩) hne (.int .i64 z1)).other (p := ⟨rN, 1, none⟩) hne (.slice z2 z3 z4)
            have hB0 := hBw.trans (hbu5.mono hBw.size)
            have hB1 := below_put hB0 hwN (.int .i64 z1) (.slice z2 z3 z4)
            clear kN0 kN1 fN0 fN1 hxN hxT hiN hBw hbu5 HG hB0 ir5
            obtain ⟨kN0, kN1, fN0, fN1⟩ := xA.facts
            go_wp2_with fail
            clear kN0 kN1 fN0 fN1 xA
            generalize ((u5.setCell ⟨rN, 0, none⟩ (.int .i64 z1)).setCell ⟨rN, 1, none⟩ (.slice z2 z3 z4)) = U5 at *
            go_loopw [10] (fun iv wr => ∃ k : Nat, k ≤ ds.length ∧ iv = .int .i64 ((k : Int) - 1) ∧ (∃ v, Bx wr rN v ∧ IsI wr v (pv ds k : Int)) ∧ Bx wr rT (.agg #[.int .i64 10, .slice none 0 0]) ∧ Below w.heap.size w wr) (fun iv _ => (intOf iv + 1).toNat)
            case atStart => exact ⟨ds.length, Nat.le_refl _, rfl, ⟨_, hxN1, hiN1⟩, hxT1, hB1⟩
            case round =>
              clear hxN1 hiN1 hxT1 hB1
              obtain ⟨k, hk, rfl, ⟨v, hxN, hiN⟩, hxT, hBw⟩ := hrel
              obtain ⟨p1, p2, p3, p4, rfl⟩ := hiN.form
              obtain ⟨kN0, kN1, fN0, fN1⟩ := hxN.facts
              obtain ⟨kT0, kT1, fT0, fT1⟩ := hxT.facts
              cases k with
              | zero =>
                have HG := hide (sign_any _ _ _ hiN)
                rw [show sgn ((pv ds 0 : Nat) : Int) = 0 from rfl] at HG
                go_wp2_with fail
                refine (unhide HG).mono ?_
                rintro e u9 ⟨rfl, hbu9⟩
                have hB9 := hBw.trans (hbu9.mono hBw.size)
                go_wp2
                go_ret
                exact ⟨rfl, hB9⟩
              | succ j =>
                have ej : ((j + 1 : Nat) : Int) - 1 = (j : Int) := by omega
                rw [ej]
                obtain ⟨b, off, rfl, hbw, hcell⟩ := unhide HA (by intro e; subst e; simp at hk)
                have hlt : j < ds.length := by omega
                obtain ⟨d, hd⟩ : ∃ d, ds[j]?.getD 0 = d := ⟨_, rfl⟩
                have hd01 : 0 ≤ d ∧ d < 256 := by rw [← hd]; exact unhide HD _ (by rw [List.getElem?_eq_getElem hlt]; simp)
                obtain ⟨hd0, hd1⟩ := hd01
                have HP := hide (show pv ds (j + 1) = 10 * pv ds j + (d % 10).toNat by simp only [pv]; rw [hd])
                have HQ := hide (quo_any quoLong_any _ _ ((pv ds (j + 1) : Nat) : Int) 10 wr hiN (.inl ⟨rfl, by decide, by decide⟩ : IsI wr (.agg #[.int .i64 10, .slice none 0 0]) 10) (le4 (pv_pw ds (j + 1) (by omega)) (by decide)) (small_pw (by decide) (by decide)))
                rw [show ((pv ds (j + 1) : Nat) : Int) / 10 = (pv ds j : Int) by rw [unhide HP]; omega, show ((pv ds (j + 1) : Nat) : Int) % 10 = d % 10 by rw [unhide HP]; omega] at HQ
                have HCD := hide (hcell j hlt)
                rw [hd] at HCD
                have hi0 : (0 : Int) ≤ (j : Int) := by omega
                have hi1 : (j : Int) < (ds.length : Int) := by omega
                clear hcell ej hd
                go_wp2_with fail
                refine (unhide HQ).mono ?_
                rintro e u2 ⟨r1, r2, rfl, hbu2, i1, i2⟩
                obtain ⟨q1, q2, q3, q4, rfl⟩ := i1.form
                obtain ⟨s1, s2, s3, s4, rfl⟩ := i2.form
                clear kN0 kN1 fN0 fN1 kT0 kT1 fT0 fT1 HQ
                go_wp2_with fail
                have xQ := (Bx.new u2 q1 q2 q3 q4).alloc (.cells #[.int .i64 s1, .slice s2 s3 s4] 26)
                have xR := Bx.new (u2.alloc (.cells #[.int .i64 q1, .slice q2 q3 q4] 26)) s1 s2 s3 s4
                rw [World.size_alloc] at xR
                have hg2 : Below u2.heap.size u2 ((u2.alloc (.cells #[.int .i64 q1, .slice q2 q3 q4] 26)).alloc (.cells #[.int .i64 s1, .slice s2 s3 s4] 26)) := ((Below.refl _ _).alloc (Nat.le_refl _) _).alloc (by simp) _
                replace i1 := i1.below hg2
                replace i2 := i2.below hg2
                replace hxN := (hxN.below hbu2).below hg2
                replace hxT := (hxT.below hbu2).below hg2
                have hB2 := hBw.trans (hbu2.mono hBw.size)
                have hBW := hB2.trans (hg2.mono hB2.size)
                clear hbu2 hg2 hB2 hBw hiN
                generalize ((u2.alloc (.cells #[.int .i64 q1, .slice q2 q3 q4] 26)).alloc (.cells #[.int .i64 s1, .slice s2 s3 s4] 26)) = W at *
                generalize hrR : u2.heap.size + 1 = rR at *
                clear hrR
                generalize u2.heap.size = rQ at *
                refine pw_digit b off ds.length cap j rR d rfl rfl rfl rfl hlt hd0 hd1 ⟨_, xR, i2⟩ (Nat.lt_of_lt_of_le hbw hBW.size) ((hBW.cell (p := ⟨b, off + j, none⟩) hbw).trans (unhide HCD)) ?_
                intro v77 v78 v79 v80 v81 v82 v83 v84 v85 u4 hU
                simp only [Act.put, List.setIfInBounds_toArray, List.set_cons_succ, List.set_cons_zero]
                have hxN4 := hxN.below hU
                have hxT4 := hxT.below hU
                have hxQ4 := xQ.below hU
                have hi4 := i1.below hU
                have hB4 := hBW.trans (hU.mono hBW.size)
                obtain ⟨kN0, kN1, fN0, fN1⟩ := hxN4.facts
                obtain ⟨kQ0, kQ1, fQ0, fQ1⟩ := hxQ4.facts
                have HZ := hide (And.intro (hxN4.set q1 q2 q3 q4) (And.intro (hi4.put hxN4 (.int .i64 q1) (.slice q2 q3 q4)) (And.intro ((hxT4.other (p := ⟨rN, 0, none⟩) hne (.int .i64 q1)).other (p := ⟨rN, 1, none⟩) hne (.slice q2 q3 q4)) (below_put hB4 hwN (.int .i64 q1) (.slice q2 q3 q4)))))
                clear hxN4 hxT4 hxQ4 hi4 hB4 hU hxN hxT xQ xR i1 i2 hBW HCD
                go_wp2
                exact ⟨⟨j, by omega, by go_num, ⟨_, (unhide HZ).1, (unhide HZ).2.1⟩, (unhide HZ).2.2.1, (unhide HZ).2.2.2⟩, by simp [intOf]⟩
          · obtain ⟨c0, l0, ht0⟩ : ∃ c l, tx (pv ds ds.length) = c :: l := by
              have h1 := dd_pos (pv ds ds.length)
              have h2 : tx (pv ds ds.length) = Lib.decDigits (pv ds ds.length) := by simp [tx, hv]
              rw [h2]
              cases h3 : Lib.decDigits (pv ds ds.length) with
              | nil => rw [h3] at h1; simp at h1
              | cons c l => exact ⟨c, l, rfl⟩
            rw [ht0] at hlv
            have hl0 : l0.length ≤ 200 := by simpa using hlv
            have hit : Lib.itoa (-((pv ds ds.length : Nat) : Int)) = 45 :: c0 :: l0 := by rw [Lib.itoa_neg _ (by omega), ← ht0]; simp [tx, hv]
            have hcat : (⟨#[45]⟩ : ByteArray) ++ ⟨(c0 :: l0).toArray⟩ = ⟨(45 :: c0 :: l0).toArray⟩ := by apply ByteArray.ext; simp [ByteArray.data_append]
            have HV := hide hv
            have HIT := hide hit
            have HG0 := hide (neg_any _ _ wr hiN (Int.lt_of_lt_of_le hV (pw_mono (by decide))))
            clear hv hit
            go_wp2_with fail
            refine (unhide HG0).mono ?_
            rintro e u0 ⟨r0, rfl, hbu0, ir0⟩
            obtain ⟨y1, y2, y3, y4, rfl⟩ := ir0.form
            have xA := hxN.below hbu0
            have xB := xA.set y1 y2 y3 y4
            have iB := ir0.put xA (.int .i64 y1) (.slice y2 y3 y4)
            have tB := ((hxT.below hbu0).other (p := ⟨rN, 0, none⟩) hne (.int .i64 y1)).other (p := ⟨rN, 1, none⟩) hne (.slice y2 y3 y4)
            have hB0 := hBw.trans (hbu0.mono hBw.size)
            have bB := below_put hB0 hwN (.int .i64 y1) (.slice y2 y3 y4)
            clear kN0 kN1 fN0 fN1 kT0 kT1 fT0 fT1 hTw hiN hxN hxT hBw hbu0 HG0 hB0 ir0
            obtain ⟨kN0, kN1, fN0, fN1⟩ := xA.facts
            go_wp2_with fail
            clear kN0 kN1 fN0 fN1 xA
            generalize ((u0.setCell ⟨rN, 0, none⟩ (.int .i64 y1)).setCell ⟨rN, 1, none⟩ (.slice y2 y3 y4)) = U at *
            have HS := hide (str_any _ _ U ((unhide HT).below bB) iB (by rw [Int.natAbs_neg]; exact hV))
            rw [unhide HIT] at HS
            refine (unhide HS).mono ?_
            rintro e u1 ⟨rfl, hbu1⟩
            have hxN := xB.below hbu1
            have hxT := tB.below hbu1
            have hiN := iB.below hbu1
            have hBw := bB.trans (hbu1.mono bB.size)
            have HG := hide (neg_any _ _ u1 hiN (by rw [Int.natAbs_neg]; exact Int.lt_of_lt_of_le hV (pw_mono (by decide))))
            rw [Int.neg_neg] at HG
            clear hbu1 HS xB tB iB bB HIT
            obtain ⟨kN0, kN1, fN0, fN1⟩ := hxN.facts
            go_wp2_with fail
            refine (unhide HG).mono ?_
            rintro e u5 ⟨r5, rfl, hbu5, ir5⟩
            obtain ⟨z1, z2, z3, z4, rfl⟩ := ir5.form
            have xA := hxN.below hbu5
            have hxN1 := xA.set z1 z2 z3 z4
            have hiN1 := ir5.put xA (.int .i64 z1) (.slice z2 z3 z4)
            have hxT1 := ((hxT.below hbu5).other (p := ⟨rN, 0, none⟩) hne (.int .i64 z1)).other (p := ⟨rN, 1, none⟩) hne (.slice z2 z3 z4)
            have hB0 := hBw.trans (hbu5.mono hBw.size)
            have hB1 := below_put hB0 hwN (.int .i64 z1) (.slice z2 z3 z4)
            clear kN0 kN1 fN0 fN1 hxN hxT hiN hBw hbu5 HG hB0 ir5
            obtain ⟨kN0, kN1, fN0, fN1⟩ := xA.facts
            go_wp2_with fail
            clear kN0 kN1 fN0 fN1 xA
            generalize ((u5.setCell ⟨rN, 0, none⟩ (.int .i64 z1)).setCell ⟨rN, 1, none⟩ (.slice z2 z3 z4)) = U5 at *
            go_loopw [10] (fun iv wr => ∃ k : Nat, k ≤ ds.length ∧ iv = .int .i64 ((k : Int) - 1) ∧ (∃ v, Bx wr rN v ∧ IsI wr v (pv ds k : Int)) ∧ Bx wr rT (.agg #[.int .i64 10, .slice none 0 0]) ∧ Below w.heap.size w wr) (fun iv _ => (intOf iv + 1).toNat)
            case atStart => exact ⟨ds.length, Nat.le_refl _, rfl, ⟨_, hxN1, hiN1⟩, hxT1, hB1⟩
            case round =>
              clear hxN1 hiN1 hxT1 hB1
              obtain ⟨k, hk, rfl, ⟨v, hxN, hiN⟩, hxT, hBw⟩ := hrel
              obtain ⟨p1, p2, p3, p4, rfl⟩ := hiN.form
              obtain ⟨kN0, kN1, fN0, fN1⟩ := hxN.facts
              obtain ⟨kT0, kT1, fT0, fT1⟩ := hxT.facts
              cases k with
              | zero =>
                have HG := hide (sign_any _ _ _ hiN)
                rw [show sgn ((pv ds 0 : Nat) : Int) = 0 from rfl] at HG
                go_wp2_with fail
                refine (unhide HG).mono ?_
                rintro e u9 ⟨rfl, hbu9⟩
                have hB9 := hBw.trans (hbu9.mono hBw.size)
                go_wp2
                go_ret
                exact ⟨rfl, hB9⟩
              | succ j =>
                have ej : ((j + 1 : Nat) : Int) - 1 = (j : Int) := by omega
                rw [ej]
                obtain ⟨b, off, rfl, hbw, hcell⟩ := unhide HA (by intro e; subst e; simp at hk)
                have hlt : j < ds.length := by omega
                obtain ⟨d, hd⟩ : ∃ d, ds[j]?.getD 0 = d := ⟨_, rfl⟩
                have hd01 : 0 ≤ d ∧ d < 256 := by rw [← hd]; exact unhide HD _ (by rw [List.getElem?_eq_getElem hlt]; simp)
                obtain ⟨hd0, hd1⟩ := hd01
                have HP := hide (show pv ds (j + 1) = 10 * pv ds j + (d % 10).toNat by simp only [pv]; rw [hd])
                have HQ := hide (quo_any quoLong_any _ _ ((pv ds (j + 1) : Nat) : Int) 10 wr hiN (.inl ⟨rfl, by decide, by decide⟩ : IsI wr (.agg #[.int .i64 10, .slice none 0 0]) 10) (le4 (pv_pw ds (j + 1) (by omega)) (by decide)) (small_pw (by decide) (by decide)))
                rw [show ((pv ds (j + 1) : Nat) : Int) / 10 = (pv ds j : Int) by rw [unhide HP]; omega, show ((pv ds (j + 1) : Nat) : Int) % 10 = d % 10 by rw [unhide HP]; omega] at HQ
                have HCD := hide (hcell j hlt)
                rw [hd] at HCD
                have hi0 : (0 : Int) ≤ (j : Int) := by omega
                have hi1 : (j : Int) < (ds.length : Int) := by omega
                clear hcell ej hd
                go_wp2_with fail
                refine (unhide HQ).mono ?_
                rintro e u2 ⟨r1, r2, rfl, hbu2, i1, i2⟩
                obtain ⟨q1, q2, q3, q4, rfl⟩ := i1.form
                obtain ⟨s1, s2, s3, s4, rfl⟩ := i2.form
                clear kN0 kN1 fN0 fN1 kT0 kT1 fT0 fT1 HQ
                go_wp2_with fail
                have xQ := (Bx.new u2 q1 q2 q3 q4).alloc (.cells #[.int .i64 s1, .slice s2 s3 s4] 26)
                have xR := Bx.new (u2.alloc (.cells #[.int .i64 q1, .slice q2 q3 q4] 26)) s1 s2 s3 s4
                rw [World.size_alloc] at xR
                have hg2 : Below u2.heap.size u2 ((u2.alloc (.cells #[.int .i64 q1, .slice q2 q3 q4] 26)).alloc (.cells #[.int .i64 s1, .slice s2 s3 s4] 26)) := ((Below.refl _ _).alloc (Nat.le_refl _) _).alloc (by simp) _
                replace i1 := i1.below hg2
                replace i2 := i2.below hg2
                replace hxN := (hxN.below hbu2).below hg2
                replace hxT := (hxT.below hbu2).below hg2
                have hB2 := hBw.trans (hbu2.mono hBw.size)
                have hBW := hB2.trans (hg2.mono hB2.size)
                clear hbu2 hg2 hB2 hBw hiN
                generalize ((u2.alloc (.cells #[.int .i64 q1, .slice q2 q3 q4] 26)).alloc (.cells #[.int .i64 s1, .slice s2 s3 s4] 26)) = W at *
                generalize hrR : u2.heap.size + 1 = rR at *
                clear hrR
                generalize u2.heap.size = rQ at *
                refine pw_digit b off ds.length cap j rR d rfl rfl rfl rfl hlt hd0 hd1 ⟨_, xR, i2⟩ (Nat.lt_of_lt_of_le hbw hBW.size) ((hBW.cell (p := ⟨b, off + j, none⟩) hbw).trans (unhide HCD)) ?_
                intro v77 v78 v79 v80 v81 v82 v83 v84 v85 u4 hU
                simp only [Act.put, List.setIfInBounds_toArray, List.set_cons_succ, List.set_cons_zero]
                have hxN4 := hxN.below hU
                have hxT4 := hxT.below hU
                have hxQ4 := xQ.below hU
                have hi4 := i1.below hU
                have hB4 := hBW.trans (hU.mono hBW.size)
                obtain ⟨kN0, kN1, fN0, fN1⟩ := hxN4.facts
                obtain ⟨kQ0, kQ1, fQ0, fQ1⟩ := hxQ4.facts
                have HZ := hide (And.intro (hxN4.set q1 q2 q3 q4) (And.intro (hi4.put hxN4 (.int .i64 q1) (.slice q2 q3 q4)) (And.intro ((hxT4.other (p := ⟨rN, 0, none⟩) hne (.int .i64 q1)).other (p := ⟨rN, 1, none⟩) hne (.slice q2 q3 q4)) (below_put hB4 hwN (.int .i64 q1) (.slice q2 q3 q4)))))
                clear hxN4 hxT4 hxQ4 hi4 hB4 hU hxN hxT xQ xR i1 i2 hBW HCD
                go_wp2
                exact ⟨⟨j, by omega, by go_num, ⟨_, (unhide HZ).1, (unhide HZ).2.1⟩, (unhide HZ).2.2.1, (unhide HZ).2.2.2⟩, by simp [intOf]⟩

end Go.Proofs.YtpkpkpjhpkndnaaDoor
