/- guess: a digit of the quotient, or one more than it. -/
import Derived.Test.YtlcfldkmojpkpaaGreatDoorY
import Derived.Test.YtlcfldkmojpkpaaGreatDoorF
import Derived.Deep.QuietTactic
import Derived.BigQuiet
namespace Go.Proofs.YtlcfldkmojpkpaaGreatDoor
open Go.RowKit

theorem g_top {p2 p1 p0 p : Int} : ((p2 * 1000000000 + p1) * 1000000000 + p0) * p = 1000000000 * (1000000000 * p) * p2 + (p1 * 1000000000 + p0) * p := by grind
/-- (d+1)*V bounds the part, once d*V2 does so on top. -/
theorem g_up {d T3 V2 p p' v' P V : Int} (hp : p' < p) (hv : 0 ≤ v') (hd : 0 ≤ d) (hP : P = T3 * p + p') (hV : V = V2 * p + v') (hp0 : 0 < p) (h : T3 + 1 ≤ d * V2) : P < d * V := by
  have h1 := Int.mul_le_mul_of_nonneg_right h (Int.le_of_lt hp0)
  have h2 := Int.mul_nonneg hd hv
  subst hP hV
  grind
theorem g_start {d r b1 b0 top p0 : Int} (e : d * b1 + r = top) (hr : r < b1) (h0 : p0 < 1000000000) (hb : 0 ≤ b0) (hd : 0 ≤ d) : top * 1000000000 + p0 + 1 ≤ (d + 1) * (b1 * 1000000000 + b0) := by
  have h2 := Int.mul_nonneg hd hb
  have h3 : (d + 1) * (b1 * 1000000000 + b0) = (d * b1) * 1000000000 + b1 * 1000000000 + d * b0 + b0 := by grind
  rw [h3]
  omega
theorem g_step {d r b1 b0 top p0 : Int} (e : d * b1 + r = top) (h : r * 1000000000 + p0 < d * b0) : top * 1000000000 + p0 + 1 ≤ d * (b1 * 1000000000 + b0) := by
  have h3 : d * (b1 * 1000000000 + b0) = (d * b1) * 1000000000 + d * b0 := by grind
  rw [h3]
  omega
theorem g_step2 {d P V : Int} (h : P < 1000000000 * V) (hd : 1000000000 ≤ d) (hV : 0 ≤ V) : P < d * V := by
  have := Int.mul_le_mul_of_nonneg_right hd hV
  omega
theorem g_le {b1 b0 p2 p1 p0 p v' p' P V : Int} (hb0 : b0 < 1000000000) (hp1 : 0 ≤ p1) (hp0 : 0 ≤ p0) (hp : 0 < p) (hv : v' < p) (hp' : 0 ≤ p') (hP : P = ((p2 * 1000000000 + p1) * 1000000000 + p0) * p + p') (hV : V = (b1 * 1000000000 + b0) * p + v') (h : P < 1000000000 * V) : p2 ≤ b1 := by
  apply Int.le_of_not_gt
  intro hc
  have h1 : (b1 * 1000000000 + b0 + 1) * 1000000000 ≤ (p2 * 1000000000 + p1) * 1000000000 + p0 := by omega
  have h2 := Int.mul_le_mul_of_nonneg_right h1 (Int.le_of_lt hp)
  have h3 : (b1 * 1000000000 + b0 + 1) * 1000000000 * p = 1000000000 * ((b1 * 1000000000 + b0) * p) + 1000000000 * p := by grind
  omega
/-- At the end of the loop: the digit, its times the top two of the divisor. -/
theorem g_end {d r b1 b0 p2 p1 p0 : Int} (e : d * b1 + r = p2 * 1000000000 + p1) (hb1 : 0 < b1) (hb00 : 0 ≤ b0) (hb0 : b0 < 1000000000) (hp1 : p1 < 1000000000) (hp0 : 0 ≤ p0) (hle : p2 ≤ b1) (hr : 1000000000 ≤ r ∨ (d < 1000000000 ∧ d * b0 ≤ r * 1000000000 + p0)) :
    d < 1000000000 ∧ d * (b1 * 1000000000 + b0) ≤ (p2 * 1000000000 + p1) * 1000000000 + p0 := by
  have h3 : d * (b1 * 1000000000 + b0) = (d * b1) * 1000000000 + d * b0 := by grind
  rcases hr with hr | ⟨h1, h2⟩
  · have hd : d < 1000000000 := by
      apply Int.lt_of_not_ge
      intro hc
      have := Int.mul_le_mul_of_nonneg_right hc (Int.le_of_lt hb1)
      omega
    refine ⟨hd, ?_⟩
    have := Int.mul_le_mul_of_nonneg_right (Int.le_of_lt hd) hb00
    omega
  · refine ⟨h1, ?_⟩
    omega
theorem g_low {d b1 b0 p v' p' T3 P V : Int} (hd0 : 0 ≤ d) (hd : d < 1000000000) (hb1 : 0 < b1) (hb0 : 0 ≤ b0) (hp : 0 < p) (hv0 : 0 ≤ v') (hv : v' < p) (hp' : 0 ≤ p') (hP : P = T3 * p + p') (hV : V = (b1 * 1000000000 + b0) * p + v') (h : d * (b1 * 1000000000 + b0) ≤ T3) : d * V ≤ P + V := by
  have h1 : d * (b1 * 1000000000 + b0) + d ≤ T3 + (b1 * 1000000000 + b0) := by omega
  have h2 := Int.mul_le_mul_of_nonneg_right h1 (Int.le_of_lt hp)
  have h3 := Int.mul_le_mul_of_nonneg_left (Int.le_of_lt hv) hd0
  have h4 : d * V = d * (b1 * 1000000000 + b0) * p + d * v' := by subst hV; grind
  have h5 : (d * (b1 * 1000000000 + b0) + d) * p = d * (b1 * 1000000000 + b0) * p + d * p := by grind
  have h6 : (T3 + (b1 * 1000000000 + b0)) * p = T3 * p + (b1 * 1000000000 + b0) * p := by grind
  omega

/-- The top digits of a magnitude, and what is below them. -/
theorem val_top2 {bs : List Int} {n : Nat} (hl : bs.length = n) (h2 : 2 ≤ n) (hd : Dig bs) {b1 b0 : Int} (e1 : bs[n - 1]?.getD 0 = b1) (e0 : bs[n - 2]?.getD 0 = b0) :
    ∃ v', 0 ≤ v' ∧ v' < pw (n - 2) ∧ val bs = (b1 * 1000000000 + b0) * pw (n - 2) + v' := by
  refine ⟨val (bs.take (n - 2)), val_nonneg (hd.take _), ?_, ?_⟩
  · have := val_lt (hd.take (n - 2))
    rwa [List.length_take, hl, Nat.min_eq_left (by omega)] at this
  · have s1 := val_take_succ' bs (n - 2)
    have s2 := val_take_succ' bs (n - 1)
    rw [show n - 2 + 1 = n - 1 by omega, e0] at s1
    rw [show n - 1 + 1 = n by omega, e1, List.take_of_length_le (by omega), s1] at s2
    have : pw (n - 1) = 1000000000 * pw (n - 2) := by
      rw [show n - 1 = (n - 2) + 1 by omega]; rfl
    rw [s2, this, Int.add_mul, Int.mul_comm b0, Int.mul_comm b1, Int.mul_assoc 1000000000 b1, Int.mul_comm b1, Int.mul_assoc]
    omega
theorem val_top3 {ps : List Int} {n : Nat} (hl : ps.length = n + 1) (h2 : 2 ≤ n) (hd : Dig ps) {p2 p1 p0 : Int} (e2 : ps[n]?.getD 0 = p2) (e1 : ps[n - 1]?.getD 0 = p1) (e0 : ps[n - 2]?.getD 0 = p0) :
    ∃ p', 0 ≤ p' ∧ p' < pw (n - 2) ∧ val ps = ((p2 * 1000000000 + p1) * 1000000000 + p0) * pw (n - 2) + p' := by
  obtain ⟨v', h0, h1, e⟩ := val_top2 (bs := ps.take n) (n := n) (by simp; omega) h2 (hd.take _) (b1 := p1) (b0 := p0) (by rw [List.getElem?_take, if_pos (by omega)]; exact e1) (by rw [List.getElem?_take, if_pos (by omega)]; exact e0)
  refine ⟨v', h0, h1, ?_⟩
  have s := val_take_succ' ps n
  rw [List.take_of_length_le (by omega), e2, e] at s
  have hp : pw n = 1000000000 * (1000000000 * pw (n - 2)) := by
    rw [show n = (n - 2) + 1 + 1 by omega]; rfl
  rw [s, hp]
  generalize pw (n - 2) = p
  have := @g_top p2 p1 p0 p
  omega

theorem cell_lt' {w : World} {p : Addr} {v : Value} (h : w.cell? p = some v) : p.block < w.heap.size := by
  obtain ⟨o, ho, _⟩ := cells_of_cell h
  exact (Array.getElem?_eq_some_iff.1 ho).1
theorem belowN {b : Nat} {w w1 : World} (h : Below b w w1) (q : Nat) : Below b w (w1.drewN q) := ⟨h.os, h.tape, h.output, h.size, h.block⟩

/-- What a guess owes. -/
def GuessP (ps bs : List Int) (d : Int) : Prop := val ps < 1000000000 * val bs → d < 1000000000 ∧ d * val bs ≤ val ps + val bs ∧ val ps < (d + 1) * val bs

set_option maxRecDepth 100000 in
set_option maxHeartbeats 1600000 in
theorem guess_any (pb po pc bb bo bc n : Nat) (ps bs : List Int) (w : World) (hbl : bs.length = n) (hpl : ps.length = n + 1) (h2 : 2 ≤ n) (hn : n ≤ 100000) (hdp : Dig ps) (hdb : Dig bs) (hap : At w pb po ps) (hab : At w bb bo bs) (b1 : Int) (hb1 : bs[n - 1]?.getD 0 = b1) (hbig : 500000000 ≤ b1) :
    Calls Tryz.prog 115 #[.slice (some ⟨pb, po, none⟩) (n + 1) pc, .slice (some ⟨bb, bo, none⟩) n bc] w fun e w' => ∃ d, e = .returned (.int .u64 d) ∧ Below w.heap.size w w' ∧ 0 ≤ d ∧ d ≤ 2000000000 ∧ GuessP ps bs d := by
  obtain ⟨p2, hp2, p20, p21⟩ := hdp.get n
  obtain ⟨p1, hp1, p10, p11⟩ := hdp.get (n - 1)
  obtain ⟨p0, hp0, p00, p01⟩ := hdp.get (n - 2)
  obtain ⟨b0, hb0, b00, b01⟩ := hdb.get (n - 2)
  have b11 : b1 < 1000000000 := by rw [← hb1]; exact (hdb.at _).2
  obtain ⟨v', v0, v1, eV⟩ := val_top2 hbl h2 hdb hb1 hb0
  obtain ⟨p', q0, q1, eP⟩ := val_top3 hpl h2 hdp hp2 hp1 hp0
  have c2 := hap n (by omega)
  have c1 := hap (n - 1) (by omega)
  have c0 := hap (n - 2) (by omega)
  have d1 := hab (n - 1) (by omega)
  have d0 := hab (n - 2) (by omega)
  rw [hp2] at c2
  rw [hp1] at c1
  rw [hp0] at c0
  rw [hb1] at d1
  rw [hb0] at d0
  have hpp := pw_pos (n - 2)
  have hin1 : (n : Int) - 1 = ((n - 1 : Nat) : Int) := by omega
  have hin2 : (n : Int) - 2 = ((n - 2 : Nat) : Int) := by omega
  have hb1z : (b1 == 0) = false := by simp; omega
  have hb1n : ¬ b1 = 0 := by omega
  have htd : (p2 * 1000000000 + p1).tdiv b1 = (p2 * 1000000000 + p1) / b1 := Int.tdiv_eq_ediv_of_nonneg (by omega)
  have htm : (p2 * 1000000000 + p1).tmod b1 = (p2 * 1000000000 + p1) % b1 := Int.tmod_eq_emod_of_nonneg (by omega)
  have em : (p2 * 1000000000 + p1) / b1 * b1 + (p2 * 1000000000 + p1) % b1 = p2 * 1000000000 + p1 := by rw [Int.mul_comm]; exact Int.mul_ediv_add_emod _ _
  have r0 := Int.emod_nonneg (p2 * 1000000000 + p1) hb1n
  have r1 := Int.emod_lt_of_pos (p2 * 1000000000 + p1) (show 0 < b1 by omega)
  have dq0 : 0 ≤ (p2 * 1000000000 + p1) / b1 := Int.ediv_nonneg (by omega) (by omega)
  have dq1 : (p2 * 1000000000 + p1) / b1 ≤ 2000000000 := by
    have := Int.ediv_lt_of_lt_mul (a := p2 * 1000000000 + p1) (b := 2000000000) (c := b1) (by omega) (by omega)
    omega
  have start : Hid (val ps < ((p2 * 1000000000 + p1) / b1 + 1) * val bs) := g_up q1 v0 (by omega) eP eV hpp (g_start em r1 p01 b00 dq0)
  have hVn : 0 ≤ val bs := val_nonneg hdb
  have HEV := hide eV
  have HEP := hide eP
  have HEM := hide em
  have Hvs := hide (And.intro (And.intro v0 v1) (And.intro q0 q1))
  clear eV eP em v0 v1 q0 q1 hp2 hp1 hp0 hb0 hb1 hap hab hdp hdb hbl hpl
  generalize hD : (p2 * 1000000000 + p1) / b1 = D at *
  generalize hR : (p2 * 1000000000 + p1) % b1 = R at *
  clear hD hR
  have hpb : pb < w.heap.size := cell_lt' c2
  have hbb : bb < w.heap.size := cell_lt' d1
  have hnI : (n : Int) < (n : Int) + 1 := by omega
  go_enter Tryz.func115, Tryz.ntmps115
  go_wp2
  go_quiet (fail)
  go_wp2
  go_quiet (fail)
  go_wp2
  go_loopw [7, 8] (fun dv rv wr => ∃ d r : Int, dv = .int .u64 d ∧ rv = .int .u64 r ∧ Below w.heap.size w wr ∧ 0 ≤ d ∧ d ≤ 2000000000 ∧ 0 ≤ r ∧ r < 2000000000 ∧ d * b1 + r = p2 * 1000000000 + p1 ∧ (val ps < 1000000000 * val bs → val ps < (d + 1) * val bs)) (fun dv _ _ => (intOf dv).toNat)
  case atStart => exact ⟨D, R, rfl, rfl, belowN (belowN (Below.refl _ _) _) _, dq0, dq1, r0, by omega, unhide HEM, fun _ => unhide start⟩
  case round =>
    obtain ⟨d, r, rfl, rfl, hbel, hd0, hd1, hr0, hr1, hm, hup⟩ := hrel
    have c0r := (hbel.cell (p := ⟨pb, po + (n - 2), none⟩) hpb).trans c0
    have d0r := (hbel.cell (p := ⟨bb, bo + (n - 2), none⟩) hbb).trans d0
    have d1r := (hbel.cell (p := ⟨bb, bo + (n - 1), none⟩) hbb).trans d1
    obtain ⟨m0, m1⟩ := mul_bd hd0 b00 b01
    have HM := hide hm
    have HU := hide hup
    clear hm hup
    have e : d - 1 + 1 = d := by omega
    have hfin : Hid ((1000000000 ≤ r ∨ (d < 1000000000 ∧ d * b0 ≤ r * 1000000000 + p0)) → GuessP ps bs d) := fun hr hstr => by
      obtain ⟨⟨v0, v1⟩, q0, q1⟩ := unhide Hvs
      obtain ⟨g1, g2⟩ := g_end (unhide HM) (by omega) b00 b01 p11 p00 (g_le b01 p10 p00 hpp v1 q0 (unhide HEP) (unhide HEV) hstr) hr
      exact ⟨g1, g_low hd0 g1 (by omega) b00 hpp v0 v1 q0 (unhide HEP) (unhide HEV) g2, unhide HU hstr⟩
    have hm2 : Hid ((d - 1) * b1 + (r + b1) = p2 * 1000000000 + p1) := by
      show _ = _
      rw [← unhide HM, Int.sub_mul]; omega
    by_cases c1 : r < 1000000000
    · by_cases c3 : 1000000000 ≤ d
      · have hgo : Hid (val ps < 1000000000 * val bs → val ps < (d - 1 + 1) * val bs) := fun hstr => by rw [e]; exact g_step2 hstr c3 hVn
        go_wp2
        go_quiet (fail)
        go_wp2
        exact ⟨⟨d - 1, r + b1, by simp, by simp, by first | exact hbel | exact belowN hbel _, by omega, by omega, by omega, by omega, unhide hm2, unhide hgo⟩, by simp [intOf]; omega⟩
      · have c3' : decide (1000000000 ≤ d) = false := by simp; omega
        by_cases c4 : r * 1000000000 + p0 < d * b0
        · have hdp : 1 ≤ d := by
            by_cases h : d = 0
            · subst h; simp at c4; omega
            · omega
          have hgo : Hid (val ps < 1000000000 * val bs → val ps < (d - 1 + 1) * val bs) := fun hstr => by
            obtain ⟨⟨v0, v1⟩, q0, q1⟩ := unhide Hvs
            rw [e]; exact g_up q1 v0 hd0 (unhide HEP) (unhide HEV) hpp (g_step (unhide HM) c4)
          go_wp2
          go_quiet (fail)
          go_wp2
          exact ⟨⟨d - 1, r + b1, by simp, by simp, by first | exact hbel | exact belowN hbel _, by omega, by omega, by omega, by omega, unhide hm2, unhide hgo⟩, by simp [intOf]; omega⟩
        · have c4' : decide (r * 1000000000 + p0 < d * b0) = false := by simp; omega
          go_wp2
          go_quiet (fail)
          go_wp2
          go_ret
          exact ⟨d, rfl, by first | exact hbel | exact belowN hbel _, hd0, hd1, unhide hfin (.inr ⟨by omega, by omega⟩)⟩
    · have c1' : decide (r < 1000000000) = false := by simp; omega
      go_wp2
      go_quiet (fail)
      go_wp2
      go_ret
      exact ⟨d, rfl, by first | exact hbel | exact belowN hbel _, hd0, hd1, unhide hfin (.inl (by omega))⟩

end Go.Proofs.YtlcfldkmojpkpaaGreatDoor
