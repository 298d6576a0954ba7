/- RatMakes: for every two texts the law returns true and leaves them as they were; its row lists three tables of the library, which the card ties to the program's text. -/
import Derived.Test.YtlcfldkmojpkpaaDoorGB
import Derived.Test.YtlcfldkmojpkpaaDoorCards
import Derived.Test.YtlcfldkmojpkpaaDoorTie
import Derived.WalkKit
import Derived.ProofKit
import Derived.OpenShut
import Derived.Deep.DeepHandedRow
import Derived.Lib.LaidTab
import Derived.LaidSub
import Derived.ChangeMaps5

/- The example of avowlaw2; its lists of texts. -/
/- Fractions as Rat: package rat's functions are the rationals'. -/
namespace Go.Proofs.YtlcfldkmojpkpaaDoor
open Go Go.RowKit

theorem bel_low {d : Int} (h : d ≠ 0) : bel (lowB d) = d := by
  unfold bel lowB
  by_cases h1 : d = 1
  · simp [h1]
  · simp [h1, h]
theorem rat_low {q : Rat} {N M P D : Int} (hq : q = Rat.divInt N M) (hM : M ≠ 0) (hD : 0 < D) (hc : P.natAbs.Coprime D.natAbs) (hx : P * M = N * D) : q.num = P ∧ (q.den : Int) = D := by
  have h1 : q = Rat.divInt P D := by
    rw [hq]
    exact (Rat.divInt_eq_divInt_iff hM (by omega)).2 hx.symm
  obtain ⟨d, rfl⟩ : ∃ d : Nat, D = (d : Int) := ⟨D.toNat, by omega⟩
  have hd : d ≠ 0 := by omega
  have h2 : q = ⟨P, d, hd, by simpa using hc⟩ := by
    rw [h1, Rat.mk_eq_divInt]
  rw [h2]
  exact ⟨rfl, rfl⟩
theorem gcd_parts {x y : Int} (hx : 0 < x) : ∃ g x' y' : Int, g = (Int.gcd x y : Int) ∧ 0 < g ∧ x = g * x' ∧ y = g * y' ∧ x / g = x' ∧ y / g = y' ∧ x'.natAbs.Coprime y'.natAbs := by
  have hg : 0 < Int.gcd x y := Int.gcd_pos_of_ne_zero_left y (by omega)
  have h1 : ((Int.gcd x y : Nat) : Int) ∣ x := Int.gcd_dvd_left ..
  have h2 : ((Int.gcd x y : Nat) : Int) ∣ y := Int.gcd_dvd_right ..
  obtain ⟨x', e1⟩ := h1
  obtain ⟨y', e2⟩ := h2
  refine ⟨(Int.gcd x y : Int), x', y', rfl, by omega, e1, e2, ?_, ?_, ?_⟩
  · conv => lhs; lhs; rw [e1]
    exact Int.mul_ediv_cancel_left x' (by omega)
  · conv => lhs; lhs; rw [e2]
    exact Int.mul_ediv_cancel_left y' (by omega)
  · have h3 := Nat.coprime_div_gcd_div_gcd (m := x.natAbs) (n := y.natAbs) hg
    have e3 : x.natAbs / x.natAbs.gcd y.natAbs = x'.natAbs := by
      have : x.natAbs = Int.gcd x y * x'.natAbs := by conv => lhs; rw [e1, Int.natAbs_mul, Int.natAbs_natCast]
      show x.natAbs / Int.gcd x y = _
      rw [this, Nat.mul_div_cancel_left _ hg]
    have e4 : y.natAbs / x.natAbs.gcd y.natAbs = y'.natAbs := by
      have : y.natAbs = Int.gcd x y * y'.natAbs := by conv => lhs; rw [e2, Int.natAbs_mul, Int.natAbs_natCast]
      show y.natAbs / Int.gcd x y = _
      rw [this, Nat.mul_div_cancel_left _ hg]
    rw [e3, e4] at h3
    exact h3
theorem gcd_parts' (t : Int) {g : Int} (hg : 0 < g) : ∃ s P G : Int, s = (Int.gcd t g : Int) ∧ 0 < s ∧ t = s * P ∧ g = s * G ∧ t / s = P ∧ g / s = G ∧ P.natAbs.Coprime G.natAbs ∧ 0 < G := by
  obtain ⟨s, G, P, h1, h2, h3, h4, h5, h6, h7⟩ := gcd_parts (x := g) (y := t) hg
  refine ⟨s, P, G, by rw [h1, Int.gcd_comm], h2, h4, h3, h6, h5, h7.symm, ?_⟩
  rcases Int.lt_or_le 0 G with h | h
  · exact h
  · have := Int.mul_le_mul_of_nonneg_left h (Int.le_of_lt h2)
    simp at this
    omega
theorem of_rat {z y : Int} (hy : 0 < y) : z / (Int.gcd z y : Int) = (Rat.divInt z y).num ∧ y / (Int.gcd z y : Int) = (Rat.divInt z y).den := by
  obtain ⟨s, P, G, hs, sp, ep, eg, ep', eg', c, Gp⟩ := gcd_parts' z hy
  rw [← hs, ep', eg']
  have hfin := rat_low (q := Rat.divInt z y) rfl (by omega) Gp c (by
    conv => rhs; rw [ep]
    rw [show P * y = P * (s * G) by rw [← eg]]
    grind)
  exact ⟨hfin.1.symm, hfin.2.symm⟩
theorem of_rat_neg {z y : Int} (hy : y < 0) : (-z) / (Int.gcd (-z) (-y) : Int) = (Rat.divInt z y).num ∧ (-y) / (Int.gcd (-z) (-y) : Int) = (Rat.divInt z y).den := by
  rw [← Rat.neg_divInt_neg z y]
  exact of_rat (by omega)
theorem add_divInt (q1 q2 : Rat) : q1 + q2 = Rat.divInt (q1.num * (q2.den : Int) + q2.num * (q1.den : Int)) ((q1.den : Int) * (q2.den : Int)) := by
  have d1 : (q1.den : Int) ≠ 0 := by have := q1.den_pos; omega
  have d2 : (q2.den : Int) ≠ 0 := by have := q2.den_pos; omega
  conv => lhs; rw [← Rat.num_divInt_den q1, ← Rat.num_divInt_den q2]
  exact Rat.divInt_add_divInt _ _ d1 d2
/-- A Go value of type rat.Rat is this rational; the document's R is. -/
def IsRt (w : World) (v : Value) (q : Rat) : Prop := IsR w v q.num (lowB q.den)
def IsQt (w : World) (v : Value) (q : Rat) : Prop := IsQ w v q.num q.den
/-- Its numbers are below a power. -/
structure Bd (q : Rat) (k : Nat) : Prop where
  n : (q.num.natAbs : Int) < pw k
  d : (((q.den : Int)).natAbs : Int) < pw k
theorem Bd.mono {q : Rat} {j k : Nat} (h : Bd q j) (hk : j ≤ k) : Bd q k := ⟨Int.lt_of_lt_of_le h.n (pw_mono hk), Int.lt_of_lt_of_le h.d (pw_mono hk)⟩
theorem rfloor_any (v1 : Value) (q1 : Rat) (w : World) (h1 : IsRt w v1 q1) (b1 : Bd q1 300) :
    Calls Tryd.prog 20 #[v1] w fun e w' => ∃ r, e = .returned r ∧ Below w.heap.size w w' ∧ IsI w' r q1.floor := by
  refine Calls.mono (rfloor_raw v1 _ _ b1.n (lowB_lt b1.d) w h1) ?_
  rintro e w' ⟨r, rfl, hb, h⟩
  refine ⟨r, rfl, hb, ?_⟩
  rw [Rat.floor_def]
  rw [bel_low (by have := q1.den_pos; omega)] at h
  exact h
theorem rtop_any (v1 : Value) (q1 : Rat) (w : World) (h1 : IsRt w v1 q1) (b1 : Bd q1 300) :
    Calls Tryd.prog 13 #[v1] w fun e w' => ∃ r, e = .returned r ∧ Below w.heap.size w w' ∧ IsI w' r q1.num := top_any v1 _ _ (le3n b1.n (by decide)) w h1
theorem whole_rt (v1 : Value) (z : Int) (w : World) (h1 : IsI w v1 z) (hz : (z.natAbs : Int) < pw 3000) :
    Calls Tryd.prog 18 #[v1] w fun e w' => ∃ r, e = .returned r ∧ Below w.heap.size w w' ∧ IsRt w' r (z : Rat) := by
  refine Calls.mono (whole_any v1 z hz w h1) ?_
  rintro e w' ⟨r, rfl, hb, h⟩
  exact ⟨r, rfl, hb, h⟩
theorem rof_any (v1 v2 : Value) (z y : Int) (w : World) (h1 : IsI w v1 z) (h2 : IsI w v2 y) (bz : (z.natAbs : Int) < pw 700) (by_ : (y.natAbs : Int) < pw 700) :
    Calls Tryd.prog 7 #[v1, v2] w fun e w' => ∃ r, e = .returned r ∧ Below w.heap.size w w' ∧ ∃ xx yy, r = .tuple #[xx, yy] ∧ IsRt w' xx (Rat.divInt z y) ∧ yy = .bool (decide (y ≠ 0)) := by
  refine Calls.mono (rof_raw v1 v2 z y bz by_ w h1 h2) ?_
  rintro e w' ⟨r, rfl, hb, x, ok, p, b, rfl, hx, rfl, k0, kp, kn⟩
  refine ⟨_, rfl, hb, x, _, rfl, ?_, rfl⟩
  rcases Int.lt_trichotomy y 0 with h | h | h
  · obtain ⟨rfl, rfl⟩ := kn h
    rw [(of_rat_neg h).1, (of_rat_neg h).2] at hx
    exact hx
  · obtain ⟨rfl, rfl⟩ := k0 h
    rw [h, Rat.divInt_zero]
    exact hx
  · obtain ⟨rfl, rfl⟩ := kp h
    rw [(of_rat h).1, (of_rat h).2] at hx
    exact hx
theorem fr_rat (z y : Int) : frT z y = (Rat.divInt z y).num ∧ frB z y = (Rat.divInt z y).den := by
  unfold frT frB
  by_cases h0 : y = 0
  · rw [if_pos h0, if_pos h0, h0, Rat.divInt_zero]
    exact ⟨rfl, rfl⟩
  · rw [if_neg h0, if_neg h0]
    by_cases h1 : y < 0
    · rw [if_pos h1, if_pos h1]
      exact of_rat_neg h1
    · rw [if_neg h1, if_neg h1]
      exact of_rat (by omega)

end Go.Proofs.YtlcfldkmojpkpaaDoor

/- The helps of avowlaw2. -/
namespace Go.Proofs.YtlcfldkmojpkpaaDoor
open Go Go.RowKit

set_option maxRecDepth 100000 in
set_option maxHeartbeats 800000 in
theorem light2_any (b off n cap : Nat) (ss : List ByteArray) (w : World) (hn : ss.length = n) (hl : n ≤ 10) (hsz : ∀ s ∈ ss, s.size ≤ 9223372036854775807) (hat : ∀ j (hj : j < ss.length), w.cell? ⟨b, off + j, none⟩ = some (.string (ss[j]'hj))) :
    Calls Tryd.prog 5 #[.slice (some ⟨b, off, none⟩) n cap] w fun e w' => ((∀ s ∈ ss, s.size ≤ 120) ∧ e = .returned (.bool true) ∨ (∃ s ∈ ss, 120 < s.size) ∧ e = .returned (.bool false)) ∧ w' = w := by
  go_enter Tryd.func5, Tryd.ntmps5
  go_wp2
  go_loop [3] (fun iv => ∃ i : Nat, i ≤ n ∧ iv = .int .i64 i ∧ ∀ j (hj : j < ss.length), j < i → (ss[j]'hj).size ≤ 120) (fun iv => n - (intOf iv).toNat)
  case atStart => exact ⟨0, Nat.zero_le _, rfl, fun j _ h => absurd h (Nat.not_lt_zero _)⟩
  case round =>
    obtain ⟨i, hi0, rfl, hall⟩ := hrel
    by_cases hi : i < n
    · have hil : i < ss.length := by omega
      have hc := hat i hil
      have hmem : ss[i]'hil ∈ ss := List.getElem_mem _
      have hmax := hsz _ hmem
      obtain ⟨S, hS⟩ : ∃ S, S = ss[i]'hil := ⟨_, rfl⟩
      rw [← hS] at hc hmem hmax
      have HS := hide hS
      have HA := hide hall
      have HN := hide hn
      clear hS hat hall hn hsz
      by_cases h3 : (120 : Int) < (S.size : Int)
      · have HM := hide hmem
        clear hmem
        go_wp2
        go_ret
        exact ⟨.inr ⟨⟨S, unhide HM, by omega⟩, rfl⟩, rfl⟩
      · have t1 : decide ((120 : Int) < (S.size : Int)) = false := by simp; omega
        clear hmem
        go_wp2
        refine ⟨⟨i + 1, by omega, by simp, fun j hj hji => ?_⟩, by simp [intOf]; omega⟩
        by_cases e : j = i
        · subst e
          rw [← unhide HS]; omega
        · exact unhide HA j hj (by omega)
    · have hok : Hid (∀ s ∈ ss, s.size ≤ 120) := fun s hs => by
        obtain ⟨j, hj, rfl⟩ := List.getElem_of_mem hs
        exact hall j hj (by omega)
      clear hat hall
      go_wp2
      go_ret
      exact ⟨.inl ⟨unhide hok, rfl⟩, rfl⟩

set_option maxRecDepth 100000 in
set_option maxHeartbeats 800000 in
theorem must_all (T : ByteArray) (z : Int) (w : World) (b : Bool) (hp : ∀ w, Calls Tryd.prog 49 #[.string T] w fun e w' => ∃ r, e = .returned (.tuple #[r, .bool b]) ∧ Below w.heap.size w w' ∧ IsN w' r z) :
    Calls Tryd.prog 23 #[.string T] w fun e w' => ∃ r, e = .returned r ∧ Below w.heap.size w w' ∧ IsN w' r z := by
  have HP := hide hp
  clear hp
  go_enter Tryd.func23, Tryd.ntmps23
  go_wp2_with fail
  refine (unhide HP _).mono ?_
  rintro e w1 ⟨r, rfl, hb1, hI⟩
  obtain ⟨b1, a1, l1, c1, rfl⟩ := hI.form
  have HI := hide hI
  clear hI
  have hbox := (NB.new w false none 0 0).below hb1
  have hbw : Below w.heap.size w w1 := ((Below.refl _ w).alloc (Nat.le_refl _) _).trans (hb1.mono (by simp))
  obtain ⟨kR0, kR1, kRf0, kRf1⟩ := hbox.facts
  have hlt := hbox.lt
  go_wp2
  refine bodyPost_ret (v := .agg #[.bool b1, .slice a1 l1 c1]) ?_ rfl ?_
  · simp [results, Tryd.results23, go_sem, kR0, kR1, hlt]
  · refine ⟨_, rfl, (below_put hbw (Nat.le_refl _) _ _).alloc (by simp; omega) _, ((unhide HI).putN hbox _ _).below ((Below.refl _ _).alloc (Nat.le_refl _) _)⟩

/-! ### Bounds -/
theorem Bd.of {q : Rat} {N M : Int} {j : Nat} (hq : q = Rat.divInt N M) (hM : 0 < M) (h1 : (N.natAbs : Int) < pw j) (h2 : (M.natAbs : Int) < pw j) : Bd q j := by
  obtain ⟨e1, e2⟩ := of_rat (z := N) hM
  rw [← hq] at e1 e2
  exact ⟨by rw [← e1]; exact ediv_lt h1, by rw [← e2]; exact ediv_lt h2⟩
theorem Bd.whole {z : Int} {k : Nat} (h : (z.natAbs : Int) < pw (k + 1)) : Bd (z : Rat) (k + 1) := ⟨h, Int.lt_of_lt_of_le (pw_one1 : (((1 : Int).natAbs : Nat) : Int) < pw 1) (pw_mono (by omega))⟩
theorem Bd.floor {q : Rat} {k : Nat} (h : Bd q k) : ((q.floor).natAbs : Int) < pw k := by
  rw [Rat.floor_def]
  exact ediv_lt h.n
theorem bd_zero : Bd 0 1 := ⟨pw_one0, pw_one1⟩
/-- The same of the document's numbers. -/
structure Bq (q : Rat) (k : Nat) : Prop where
  n : (q.num.natAbs : Int) < T4.pw k
  d : (((q.den : Int)).natAbs : Int) < T4.pw k
theorem Bq.mono {q : Rat} {j k : Nat} (h : Bq q j) (hk : j ≤ k) : Bq q k := ⟨Int.lt_of_lt_of_le h.n (T4.pw_mono hk), Int.lt_of_lt_of_le h.d (T4.pw_mono hk)⟩
theorem Bq.of {q : Rat} {N M : Int} {j : Nat} (hq : q = Rat.divInt N M) (hM : 0 < M) (h1 : (N.natAbs : Int) < T4.pw j) (h2 : (M.natAbs : Int) < T4.pw j) : Bq q j := by
  obtain ⟨e1, e2⟩ := of_rat (z := N) hM
  rw [← hq] at e1 e2
  exact ⟨by rw [← e1]; exact ediv_lt h1, by rw [← e2]; exact ediv_lt h2⟩
/-! ### Shapes -/
def Xrt (T : Nat → Prop) (Z : World → Nat → Prop) (q : Rat) : Sx (kd T Z) := Xrat T Z q.num (lowB q.den)
def Xqt (T : Nat → Prop) (q : Rat) : Sx (kd T Zr) := Xfr T Zr (fun _ _ h => h) q.num q.den
theorem arg1 {f : FuncId} {x u : Value} {w : World} {R : Ending → World → Prop} (p : x = u) (h : Calls Tryd.prog f #[u] w R) : Calls Tryd.prog f #[x] w R := by rw [p]; exact h
theorem enter_parse : Enters Tryd.prog 22 := ⟨fun xs w => by go_simp⟩
theorem enter_must : Enters Tryd.prog 23 := ⟨fun xs w => by go_simp⟩
theorem enter_of2 : Enters Tryd.prog 6 := ⟨fun xs w => by go_simp⟩
theorem enter_known2 : Enters Tryd.prog 4 := ⟨fun xs w => by go_simp⟩
theorem enter_same2 : Enters Tryd.prog 11 := ⟨fun xs w => by go_simp⟩
theorem enter_light2 : Enters Tryd.prog 5 := ⟨fun xs w => by go_simp⟩
theorem enter_rof : Enters Tryd.prog 7 := ⟨fun xs w => by go_simp⟩
theorem enter_whole : Enters Tryd.prog 18 := ⟨fun xs w => by go_simp⟩
theorem enter_rfloor : Enters Tryd.prog 20 := ⟨fun xs w => by go_simp⟩
theorem enter_rstr : Enters Tryd.prog 9 := ⟨fun xs w => by go_simp⟩
theorem enter_qtext : Enters Tryd.prog 33 := ⟨fun xs w => by go_simp⟩
/-! ### Results of two boxes -/
theorem res_IN {W : World} {fn : Func} {a : Act} {t r s r' : Nat} {v u : Value} (hf : fn.results = #[.cell t 26, .cell s 29]) (ht : a.tmps[t]? = some (.pointer (some ⟨r, 0, none⟩))) (hs : a.tmps[s]? = some (.pointer (some ⟨r', 0, none⟩))) (hb : Bx W r v) (hn : NB W r' u) : (results fn a.tmps).run Tryd.prog W = .ok (.tuple #[v, u]) W := by
  obtain ⟨_, _, _, _, rfl, _⟩ := id hb
  obtain ⟨_, _, _, _, rfl, _⟩ := id hn
  obtain ⟨k0, k1, _, _⟩ := hb.facts
  obtain ⟨m0, m1, _, _⟩ := hn.facts
  simp [results, hf, ht, hs, go_sem, k0, k1, m0, m1]
/-! ### The contracts of calls -/
def PostIN (z : Int) (w : World) : Ending → World → Prop := fun e w' => ∃ r, e = .returned r ∧ Below w.heap.size w w' ∧ ∃ xx yy, r = .tuple #[xx, yy] ∧ IsI w' xx z ∧ IsN w' yy z
theorem parse_ct {s : ByteArray} {b : Bool} {z : Int} (hp : ∀ w, Calls Tryd.prog 22 #[.string s] w fun e w' => ∃ r, e = .returned (.tuple #[r, .bool b]) ∧ Below w.heap.size w w' ∧ IsI w' r z) (w : World) :
    Calls Tryd.prog 22 #[.string s] w fun e w' => ∃ r, e = .returned r ∧ Below w.heap.size w w' ∧ ∃ xx yy, r = .tuple #[xx, yy] ∧ IsI w' xx z ∧ yy = .bool b := by
  refine Calls.mono (hp w) ?_
  rintro e w' ⟨r, rfl, hb, h⟩
  exact ⟨_, rfl, hb, r, _, rfl, h, rfl⟩
theorem rstr_rt (v : Value) (q : Rat) (w : World) (hT : Tab w) (h : IsRt w v q) (hb : Bd q 300) : Calls Tryd.prog 9 #[v] w fun e w' => ∃ r, e = .returned r ∧ Below w.heap.size w w' ∧ r = .string (rstr q.num (lowB q.den)) :=
  rstr_any v _ _ (Int.lt_of_lt_of_le hb.n (pw_mono (by decide))) (Int.lt_of_lt_of_le (lowB_lt hb.d) (pw_mono (by decide))) w hT h
theorem qtext_qt (v : Value) (q : Rat) (w : World) (h : IsQt w v q) (hb : Bq q 700) : Calls Tryd.prog 33 #[v] w fun e w' => ∃ r, e = .returned r ∧ Below w.heap.size w w' ∧ r = .string (rstr q.num (lowB q.den)) :=
  qtext_any v _ _ (Int.lt_of_lt_of_le hb.n (T4.pw_mono (by decide))) (Int.lt_of_lt_of_le hb.d (T4.pw_mono (by decide))) (by have := q.den_pos; omega) w h
theorem frac_qt (va vb : Value) (z y : Int) (hz : (z.natAbs : Int) < T4.pw 700) (hy : (y.natAbs : Int) < T4.pw 700) (w : World) (h1 : IsN w va z) (h2 : IsN w vb y) : Calls Tryd.prog 8 #[va, vb] w fun e w' => ∃ r, e = .returned r ∧ Below w.heap.size w w' ∧ ∃ xx yy, r = .tuple #[xx, yy] ∧ IsQt w' xx (Rat.divInt z y) ∧ yy = .bool (decide (y ≠ 0)) := by
  refine Calls.mono (frac_any va vb z y hz hy w h1 h2) ?_
  rintro e w' ⟨r, rfl, hb, xx, yy, rfl, h, rfl⟩
  refine ⟨_, rfl, hb, xx, _, rfl, ?_, rfl⟩
  rw [(fr_rat z y).1, (fr_rat z y).2] at h
  exact h
set_option maxRecDepth 100000 in
set_option maxHeartbeats 1600000 in
theorem of2_raw (s : ByteArray) (z : Int) (b : Bool) (hP : ∀ w, Calls Tryd.prog 22 #[.string s] w fun e w' => ∃ r, e = .returned (.tuple #[r, .bool b]) ∧ Below w.heap.size w w' ∧ IsI w' r z) (hQ : ∀ w, Calls Tryd.prog 49 #[.string s] w fun e w' => ∃ r, e = .returned (.tuple #[r, .bool b]) ∧ Below w.heap.size w w' ∧ IsN w' r z) (w : World)  :
    Calls Tryd.prog 6 #[(.string s)] w fun e w' => ∃ r, e = .returned r ∧ Below w.heap.size w w' ∧ ∃ xx yy, r = .tuple #[xx, yy] ∧ IsI w' xx z ∧ IsN w' yy z := by
  refine calls_act (fn := Tryd.f6) (by kernel_rfl) rfl (N := 14) (by kernel_rfl) (by simp) ?_
  intro a0 hs0 hd0 hx0
  have t0 : a0.tmps[0]? = some (.string s) := hx0 0 _ rfl
  clear hx0
  have hB0 : Below w.heap.size w w := Below.refl _ _
  refine wp_seq ?_
  refine fxN (fun _ => False) Zr (l := regionOf Tryd.f6 0) false (by kernel_rfl) 2 14 w.heap.size [0]
    [XoI _ w.heap.size zaI (Xnum _ _ 0), XoN _ w.heap.size zaN (Xdoc _ _ (fun _ _ h => h) 0)]
    (Sx.any _) [(2, some 0), (3, some 1)] [] (by kernel_rfl) (by kernel_rfl) (by kernel_rfl) hs0 trivial hB0.size List.nodup_nil fan (fac (npI rfl) (fac (npN rfl) fan)) ?_ ?_ ?_
  · intro i hi hns a w' hb hiv hk hp hold
    obtain ⟨_⟩ := hiv
    match i, hi with
    | 0, _ => exact sO_I hb.size isI_zero rfl
    | 1, _ => exact sO_N hb.size isN_zero rfl
    | _ + 2, h => exact absurd h (by omega)
  · exact fan
  intro a1 w1 hb1 hd1 hs1 hk1 hiv1 hsp1 hst1 hds1
  have hB1 := hB0.trans hb1
  replace hd1 := hd1.trans hd0
  have t0_1 := (hk1 0 (by decide)).trans t0
  obtain ⟨r2_1, t2_1, b2_1, n2_1, I2_1⟩ := toI (k := 2) (hsp1 0 (by decide) fan) hB0.size (by omega)
  obtain ⟨r3_1, t3_1, b3_1, n3_1, I3_1⟩ := toN (k := 3) (hsp1 1 (by decide) fan) hB0.size (by omega)
  have ne2_3_1 : r2_1 ≠ r3_1 := ne_ptr (hds1 (2, some 0) (.head _) (3, some 1) (.tail _ (.head _)) (by decide)) t2_1 t3_1
  clear hb1 hk1 hsp1 hst1 hds1 hiv1
  refine wp_seq ?_
  refine fxN (fun r => w1.heap.size ≤ r) Zr (l := regionOf Tryd.f6 1) false (by kernel_rfl) 8 14 w.heap.size [0, 2, 3]
    [Xval _ _ (.string s), Xtup (Xnum _ _ z) (Xval _ _ (.bool b)), Xtup (Xnum _ _ z) (Xval _ _ (.bool b)), Xnum _ _ z, Xval _ _ (.bool b), Sx.box _ w1.heap.size 26, Sx.any _, Xval _ _ (.bool b)]
    (Sx.and (XhI r2_1 (Nat.not_le_of_lt n2_1.lt) zaI (Xnum _ _ 0)) (Sx.and (XhN r3_1 (Nat.not_le_of_lt n3_1.lt) zaN (Xdoc _ _ (fun _ _ h => h) 0)) (Sx.any _))) [(4, some 5)] [stNI 6 4 (Xnum _ _ z)] (by kernel_rfl) (by kernel_rfl) (by kernel_rfl) hs1 (And.intro (And.intro n2_1 I2_1) (And.intro (And.intro n3_1 I3_1) trivial)) hB1.size (show ([6] : List Nat).Nodup by decide) (fac nst fan) (fac (nby rfl) fan) ?_ ?_ ?_
  · intro i hi hns a w' hb hiv hk hp hold
    obtain ⟨⟨n2, i2⟩, ⟨n3, i3⟩, _⟩ := hiv
    have k0 := (hk 0 (by decide)).trans t0_1
    match i, hi with
    | 0, _ => exact s_kmove k0 rfl (gf rfl)
    | 1, _ => exact s_call1 enter_parse (arg1 (hp 0 rfl) (parse_ct hP w')) (gf rfl)
    | 2, _ => exact s_move (hp 1 rfl) (gf rfl)
    | 3, _ => exact s_ext0 (hp 2 rfl) (gf rfl)
    | 4, _ => exact s_ext1 (hp 2 rfl) (gf rfl)
    | 5, _ => exact sA_I hb.size hb.size (fac (zI w') fan)
    | 6, _ => exact absurd rfl (hns _ (.head _))
    | 7, _ => exact s_assign (hp 4 rfl) (gf rfl)
    | _ + 8, h => exact absurd h (by omega)
  · refine fac ?_ (fan)
    · intro a w' hb hiv hk hp ho hf
      exact sN_I (hp 5 rfl) (hp 3 rfl) (hp 3 rfl) hB1.size (hf 5 (.head _)) (fun _ h => h)
  intro a2 w2 hb2 hd2 hs2 hk2 hiv2 hsp2 hst2 hds2
  have hB2 := hB1.trans hb2
  replace hd2 := hd2.trans hd1
  obtain ⟨⟨n2_2, i2_2⟩, ⟨n3_2, i3_2⟩, _⟩ := hiv2
  have t0_2 := (hk2 0 (by decide)).trans t0_1
  have t2_2 := (hk2 2 (by decide)).trans t2_1
  have t3_2 := (hk2 3 (by decide)).trans t3_1
  obtain ⟨r4_2, v4_2, t4_2, b4_2, n4_2, I4_2⟩ := tnI (k := 4) (hst2 _ (.head _)) (hsp2 5 (by decide) (fac (nq rfl) fan)) hB1.size (by omega)
  have ne2_4_2 : r2_1 ≠ r4_2 := by have := n2_1.lt; have := b4_2.2; omega
  have ne3_4_2 : r3_1 ≠ r4_2 := by have := n3_1.lt; have := b4_2.2; omega
  clear hb2 hk2 hsp2 hst2 hds2
  refine wp_seq ?_
  refine fx3 (fun r => r = r2_1 ∨ r = r3_1) Zr (l := regionOf Tryd.f6 2) true (by kernel_rfl) 5 14 w.heap.size [0, 2, 3, 4]
    [Xnum _ _ z, Xval _ _ (.string s), Xdoc _ _ (fun _ _ h => h) z, Sx.any _, Sx.any _]
    (Sx.and (XhI r4_2 (show ¬ (r4_2 = r2_1 ∨ r4_2 = r3_1) by have := n4_2.lt; omega) v4_2 (Xnum _ _ z)) (Sx.any _)) [(2, none), (3, none)] [stXI 3 2 (Xnum _ _ z) r2_1 zaI (Xnum _ _ 0), stXN 4 3 (Xdoc _ _ (fun _ _ h => h) z) r3_1 zaN (Xdoc _ _ (fun _ _ h => h) 0)]
    (by kernel_rfl) (by kernel_rfl) (by kernel_rfl) hs2 (And.intro (And.intro n4_2 I4_2) trivial) hB2.size (fac (fun _ _ => trivial) (fac (fun _ _ => trivial) fan)) (show ([3, 4] : List Nat).Nodup by decide) (fac (.inr (And.intro (show (2 : Nat) ∈ ([0, 2, 3, 4] : List Nat) by decide) (And.intro (.head _) (getD_of t2_2)))) (fac (.inr (And.intro (show (3 : Nat) ∈ ([0, 2, 3, 4] : List Nat) by decide) (And.intro (.tail _ (.head _)) (getD_of t3_2)))) fan)) (fac (And.intro n2_2 i2_2) (fac (And.intro n3_2 i3_2) fan)) (fac (fun _ => ⟨r2_1, getD_of t2_2, n2_2.lt⟩) (fac (fun _ => ⟨r3_1, getD_of t3_2, n3_2.lt⟩) fan)) (dis_two t2_2 t3_2 ne2_3_1 rfl) (fac (fun i hi => by cases hi) (fac (fun i hi => by cases hi) fan)) ?_ ?_ ?_
  · intro i hi hns a w' hb hiv hk hp hold
    obtain ⟨⟨n4, i4⟩, _⟩ := hiv
    have k0 := (hk 0 (by decide)).trans t0_2
    have k4 := (hk 4 (by decide)).trans t4_2
    match i, hi with
    | 0, _ => exact s_load k4 (load_bx n4) i4 (gf rfl)
    | 1, _ => exact s_kmove k0 rfl (gf rfl)
    | 2, _ => exact s_call1 enter_must (arg1 (hp 1 rfl) (must_all s z w' b hQ)) (gf rfl)
    | 3, _ => exact absurd rfl (hns _ (.head _))
    | 4, _ => exact absurd rfl (hns _ (.tail _ (.head _)))
    | _ + 5, h => exact absurd h (by omega)
  · refine fac ?_ (fac ?_ (fan))
    · intro a w' hb hiv hk hp ho hf
      exact sX_I ((hk 2 (by decide)).trans t2_2) ho.1 (hp 0 rfl) (hp 0 rfl) b2_1.1 (by simp) ho.1.zr0
    · intro a w' hb hiv hk hp ho hf
      exact sX_N ((hk 3 (by decide)).trans t3_2) ho.1 (hp 2 rfl) (hp 2 rfl) b3_1.1 (by simp) ho.1.zr0
  intro a3 w3 hb3 hd3 hs3 hk3 hiv3 hsp3 hst3 hds3
  have hB3 := hB2.trans hb3
  replace hd3 := hd3.trans hd2
  obtain ⟨⟨n4_3, i4_3⟩, _⟩ := hiv3
  have t2_3 := (hk3 2 (by decide)).trans t2_2
  have t3_3 := (hk3 3 (by decide)).trans t3_2
  obtain ⟨v2_3, n2_3, I2_3⟩ := txI (hst3 _ (.head _)) t2_3
  obtain ⟨v3_3, n3_3, I3_3⟩ := txN (hst3 _ (.tail _ (.head _))) t3_3
  clear hb3 hk3 hsp3 hst3 hds3
  refine wp_ret ?_
  repeat first | refine then_ret ?_ | refine inBlock_ret ?_
  refine bodyPost_ret (res_IN rfl t2_3 t3_3 n2_3 n3_3) hd3 ⟨_, rfl, hB3, ?_⟩
  exact ⟨_, _, rfl, I2_3, I3_3⟩

theorem of2_all (s : ByteArray) (hs : s.size ≤ 120) : ∃ z : Int, (z.natAbs : Int) < pw 40 ∧ (z.natAbs : Int) < T4.pw 100 ∧ ∀ w, Calls Tryd.prog 6 #[.string s] w (PostIN z w) := by
  obtain ⟨b, z, hz1, hz2, _, hp, hq⟩ := both_parse s (by omega)
  exact ⟨z, hz1, hz2, fun w => of2_raw s z b hp hq w⟩
set_option maxRecDepth 100000 in
set_option maxHeartbeats 1600000 in
theorem same2_any (v1 v2 : Value) (q : Rat) (w : World) (hT : Tab w) (b1 : Bd q 300) (b2 : Bq q 700) (i0 : IsRt w v1 q) (i1 : IsQt w v2 q) :
    Calls Tryd.prog 11 #[v1, v2] w fun e w' => ∃ r, e = .returned r ∧ Below w.heap.size w w' ∧ r = .bool true := by
  refine calls_act (fn := Tryd.f11) (by kernel_rfl) rfl (N := 10) (by kernel_rfl) (by simp) ?_
  intro a0 hs0 hd0 hx0
  have t0 : a0.tmps[0]? = some v1 := hx0 0 _ rfl
  have t1 : a0.tmps[1]? = some v2 := hx0 1 _ rfl
  clear hx0
  have hB0 : Below w.heap.size w w := Below.refl _ _
  refine wp_seq ?_
  refine fxN (fun _ => False) Zr (l := regionOf Tryd.f11 0) false (by kernel_rfl) 3 10 w.heap.size [0, 1]
    [XoR _ w.heap.size v1 (Xrt _ _ q), XoQ _ w.heap.size v2 (Xqt _ q), Xval _ _ (.bool false)]
    (Sx.and (Sx.at (Xrt _ _ q) v1) (Sx.and (Sx.at (Xqt _ q) v2) (Sx.any _))) [(2, some 0), (3, some 1)] [] (by kernel_rfl) (by kernel_rfl) (by kernel_rfl) hs0 (And.intro i0 (And.intro i1 trivial)) hB0.size List.nodup_nil fan (fac (npR rfl) (fac (npQ rfl) fan)) ?_ ?_ ?_
  · intro i hi hns a w' hb hiv hk hp hold
    obtain ⟨i0, i1, _⟩ := hiv
    have k0 := (hk 0 (by decide)).trans t0
    have k1 := (hk 1 (by decide)).trans t1
    match i, hi with
    | 0, _ => exact sB_R hb.size k0 i0 i0 rfl
    | 1, _ => exact sB_Q hb.size k1 i1 i1 rfl
    | 2, _ => exact s_cassign rfl (gf rfl)
    | _ + 3, h => exact absurd h (by omega)
  · exact fan
  intro a1 w1 hb1 hd1 hs1 hk1 hiv1 hsp1 hst1 hds1
  have hB1 := hB0.trans hb1
  replace hd1 := hd1.trans hd0
  obtain ⟨i0_1, i1_1, _⟩ := hiv1
  obtain ⟨r2_1, t2_1, b2_1, n2_1, I2_1⟩ := toR (k := 2) (hsp1 0 (by decide) fan) hB0.size (by omega)
  obtain ⟨r3_1, t3_1, b3_1, n3_1, I3_1⟩ := toQ (k := 3) (hsp1 1 (by decide) fan) hB0.size (by omega)
  obtain ⟨v4_1, t4_1, I4_1⟩ : ∃ v, a1.tmps[4]? = some v ∧ v = (.bool false) := tv_get (k := 4) (hsp1 2 (by decide) fan) (by omega)
  clear hb1 hk1 hsp1 hst1 hds1
  refine wp_seq ?_
  refine fx3n Zr (l := regionOf Tryd.f11 1) true (by kernel_rfl) 6 10 w.heap.size [2, 3] [Xrt _ _ q, Xval _ _ (.string (rstr q.num (lowB q.den))), Xqt _ q, Xval _ _ (.string (rstr q.num (lowB q.den))), Xval _ _ (.bool true), Xval _ _ (.bool true)] (Sx.and (XhR r2_1 (fun h => h) v1 (Xrt _ _ q)) (Sx.and (XhQ r3_1 (fun h => h) v2 (Xqt _ q)) (Sx.any _))) (by kernel_rfl) (by kernel_rfl) (by kernel_rfl) hs1 (And.intro (And.intro n2_1 I2_1) (And.intro (And.intro n3_1 I3_1) trivial)) hB1.size ?_ ?_
  · intro i hi a w' hb hiv hk hp
    obtain ⟨⟨n2, i2⟩, ⟨n3, i3⟩, _⟩ := hiv
    have k2 := (hk 2 (by decide)).trans t2_1
    have k3 := (hk 3 (by decide)).trans t3_1
    match i, hi with
    | 0, _ => exact s_load k2 (load_R n2) i2 gt
    | 1, _ => exact s_call1 enter_rstr (rstr_rt _ q w' (hT.below (hB1.trans hb)) (hp 0 rfl) (b1.mono (by decide))) gt
    | 2, _ => exact s_load k3 (load_Q n3) i3 gt
    | 3, _ => exact s_call1 enter_qtext (qtext_qt _ q w' (hp 2 rfl) (b2.mono (by decide))) gt
    | 4, _ => exact s_eqS (hp 1 rfl) (hp 3 rfl) (congrArg Value.bool (show ((rstr q.num (lowB q.den)).toList == (rstr q.num (lowB q.den)).toList) = true from by simp)) gt
    | 5, _ => exact s_assign (hp 4 rfl) gt
    | _ + 6, h => exact absurd h (by omega)
  intro a2 w2 hb2 hd2 hs2 hk2 hiv2 hsp2
  have hB2 := hB1.trans hb2
  replace hd2 := hd2.trans hd1
  obtain ⟨⟨n2_2, i2_2⟩, ⟨n3_2, i3_2⟩, _⟩ := hiv2
  obtain ⟨v4_2, t4_2, I4_2⟩ : ∃ v, a2.tmps[4]? = some v ∧ v = (.bool true) := tv_get (k := 4) (hsp2 5 (by decide)) (by omega)
  clear hb2 hk2 hsp2
  refine wp_ret ?_
  repeat first | refine then_ret ?_ | refine inBlock_ret ?_
  refine bodyPost_ret (res_t rfl t4_2) hd2 ⟨_, rfl, hB2, ?_⟩
  exact I4_2

end Go.Proofs.YtlcfldkmojpkpaaDoor

namespace Go.Proofs.YtlcfldkmojpkpaaDoor
open Go Go.RowKit

theorem pw_one5 : (((5 : Int).natAbs : Nat) : Int) < pw 1 := by decide
theorem pw_one6 : (((6 : Int).natAbs : Nat) : Int) < pw 1 := by decide
theorem pw_onem4 : (((-4 : Int).natAbs : Nat) : Int) < pw 1 := by decide
theorem bd_six : Bd (Rat.divInt 6 (-4)) 1 := by
  rw [← Rat.neg_divInt_neg]
  exact Bd.of rfl (by decide) (neg_pw pw_one6) (neg_pw pw_onem4)
theorem six_eq : Rat.divInt 6 (-4) = Rat.divInt (-3) 2 := (Rat.divInt_eq_divInt_iff (by decide) (by decide)).2 (by decide)
theorem six_rat : (Rat.divInt 6 (-4)).num = -3 ∧ ((Rat.divInt 6 (-4)).den : Int) = 2 := by
  exact rat_low (P := -3) (D := 2) six_eq (by decide) (by decide) (by decide) (by decide)
theorem dd1 {n : Nat} (h : n < 10) : Lib.decDigits n = [48 + n.toUInt8] := by
  rw [Lib.decDigits]
  simp [h]
theorem txt_six : rstr (Rat.divInt 6 (-4)).num (lowB (Rat.divInt 6 (-4)).den) = ⟨#[45, 51, 47, 50]⟩ := by
  rw [six_rat.1, six_rat.2]
  simp [rstr, lowB, Lib.itoa, dd1]
  rfl
theorem txt_floor : Lib.itoa ((Rat.divInt 6 (-4)).floor) = [45, 50] := by
  rw [Rat.floor_def, six_rat.1, six_rat.2]
  simp [Lib.itoa, dd1]
theorem txt_zero : rstr 0 0 = ⟨#[48]⟩ := by simp [rstr, Lib.itoa, dd1]
theorem eqS {m n : ByteArray} (h : m = n) : (m.toList == n.toList) = true := by rw [h]; simp
theorem isw_rt (v : Value) (q : Rat) (w : World) (h : IsRt w v q) : Calls Tryd.prog 21 #[v] w fun e w' => ∃ r, e = .returned r ∧ Below w.heap.size w w' ∧ r = .bool (decide (q.den = 1)) := by
  refine Calls.mono (isw_any v _ _ w h) ?_
  rintro e w' ⟨r, rfl, hb, rfl⟩
  refine ⟨_, rfl, hb, ?_⟩
  congr 1
  have := q.den_pos
  unfold lowB
  by_cases h1 : q.den = 1
  · simp [h1]
  · have h2 : ¬ ((q.den : Int) = 1) := by omega
    have h3 : ¬ ((q.den : Int) = 0) := by omega
    simp [h1, h2]
    omega
theorem rbel_rt (v : Value) (q : Rat) (w : World) (h : IsRt w v q) (hb : Bd q 300) : Calls Tryd.prog 12 #[v] w fun e w' => ∃ r, e = .returned r ∧ Below w.heap.size w w' ∧ IsI w' r (q.den : Int) := by
  refine Calls.mono (below_any v _ _ (Int.lt_of_lt_of_le (lowB_lt hb.d) (pw_mono (by decide))) w h) ?_
  rintro e w' ⟨r, rfl, hb, h⟩
  refine ⟨_, rfl, hb, ?_⟩
  rw [bel_low (by have := q.den_pos; omega)] at h
  exact h
/-- A slice of texts. -/
def IsSs (w : World) (v : Value) (ss : List ByteArray) : Prop := ∃ b, v = .slice (some ⟨b, 0, none⟩) ss.length ss.length ∧ b < w.heap.size ∧ ∀ j (hj : j < ss.length), w.cell? ⟨b, 0 + j, none⟩ = some (.string (ss[j]'hj))
def Xss (Z : World → Nat → Prop) (ss : List ByteArray) : Sx (kd (fun _ => False) Z) := ⟨fun w v => IsSs w v ss, fun _ _ _ ⟨b, h1, h2, h3⟩ hb => ⟨b, h1, Nat.lt_of_lt_of_le h2 hb.size, fun j hj => (hb.cell (p := ⟨b, 0 + j, none⟩) h2).trans (h3 j hj)⟩, fun _ _ _ _ _ _ k _ _ _ => k.1.elim⟩
theorem light2_yes (v : Value) (ss : List ByteArray) (w : World) (h : IsSs w v ss) (hl : ss.length ≤ 10) (hs : ∀ s ∈ ss, s.size ≤ 120) : Calls Tryd.prog 5 #[v] w fun e w' => ∃ r, e = .returned r ∧ Below w.heap.size w w' ∧ r = .bool true := by
  obtain ⟨b, rfl, h2, h3⟩ := h
  refine Calls.mono (light2_any b 0 _ _ ss w rfl hl (fun s h => by have := hs s h; omega) h3) ?_
  rintro e w' ⟨h | ⟨⟨s, h1, h2⟩, _⟩, rfl⟩
  · exact ⟨_, h.2, Below.refl _ _, rfl⟩
  · have := hs s h1; omega
theorem light2_no (v : Value) (ss : List ByteArray) (w : World) (h : IsSs w v ss) (hl : ss.length ≤ 10) (hz : ∀ s ∈ ss, s.size ≤ 9223372036854775807) (hs : ¬ ∀ s ∈ ss, s.size ≤ 120) : Calls Tryd.prog 5 #[v] w fun e w' => ∃ r, e = .returned r ∧ Below w.heap.size w w' ∧ r = .bool false := by
  obtain ⟨b, rfl, h2, h3⟩ := h
  refine Calls.mono (light2_any b 0 _ _ ss w rfl hl hz h3) ?_
  rintro e w' ⟨h | h, rfl⟩
  · exact absurd h.1 hs
  · exact ⟨_, h.2, Below.refl _ _, rfl⟩
section
variable {Z : World → Nat → Prop} {Q : Exit → Act → World → Prop} {a : Act} {w : World} {ty : TypeId} {pos : String} {af : Array Edge} {dst : Option Tmp} {Y : Prop} {ops : Array Oper} {G : World → Value → Prop}
set_option maxRecDepth 100000 in
theorem s_ss2 {t0 t1 : Nat} {x0 x1 : ByteArray} (p0 : a.tmps.getD t0 undef = .string x0) (p1 : a.tmps.getD t1 undef = .string x1) (hg : ∀ w' v, G w' v) :
    Arm Q ops ⟨dst, .buildSlice 49 2 #[(0, .tmp t0), (1, .tmp t1)], ty, pos, af, none⟩ a w (Xss Z [x0, x1]) G Y := by
  have e0 : a.eval (.tmp t0) = .string x0 := p0
  have e1 : a.eval (.tmp t1) = .string x1 := p1
  refine arm (wanted_none rfl) ?_
  unfold Oper.wp
  simp only [execOp, List.map_toArray, List.map_cons, List.map_nil, e0, e1]
  go_simp
  refine ⟨_, rfl, (Below.refl _ w).alloc (Nat.le_refl _) _, ⟨_, rfl, by simp, fun j hj => ?_⟩, hg _ _⟩
  rw [World.cell?_alloc_at _ _ _ _ rfl]
  match j, hj with
  | 0, _ => rfl
  | 1, _ => rfl
  | _ + 2, h => exact absurd h (by simp)
end

set_option maxRecDepth 100000 in
set_option maxHeartbeats 1600000 in
theorem known2_yes  (w : World) (hT : Tab w)  :
    Calls Tryd.prog 4 #[] w fun e w' => ∃ r, e = .returned r ∧ Below w.heap.size w w' ∧ r = .bool true := by
  refine calls_act (fn := Tryd.f4) (by kernel_rfl) rfl (N := 44) (by kernel_rfl) (by simp) ?_
  intro a0 hs0 hd0 hx0
  clear hx0
  have hB0 : Below w.heap.size w w := Below.refl _ _
  refine wp_seq ?_
  refine fx3n (fun _ _ => True) (l := regionOf Tryd.f4 0) false (by kernel_rfl) 1 44 w.heap.size [] [Xval _ _ (.bool false)] (Sx.any _) (by kernel_rfl) (by kernel_rfl) (by kernel_rfl) hs0 trivial hB0.size ?_ ?_
  · intro i hi a w' hb hiv hk hp
    obtain ⟨_⟩ := hiv
    match i, hi with
    | 0, _ => exact s_cassign rfl gt
    | _ + 1, h => exact absurd h (by omega)
  intro a1 w1 hb1 hd1 hs1 hk1 hiv1 hsp1
  have hB1 := hB0.trans hb1
  replace hd1 := hd1.trans hd0
  obtain ⟨v0_1, t0_1, I0_1⟩ : ∃ v, a1.tmps[0]? = some v ∧ v = (.bool false) := tv_get (k := 0) (hsp1 0 (by decide)) (by omega)
  clear hb1 hk1 hsp1 hiv1
  refine wp_seq ?_
  refine fxN (fun r => w1.heap.size ≤ r) (fun _ _ => True) (l := regionOf Tryd.f4 1) false (by kernel_rfl) 9 44 w.heap.size [0]
    [Xnum _ _ 6, Xnum _ _ (-4), Xtup (Xrt _ _ (Rat.divInt 6 (-4))) (Xval _ _ (.bool true)), Xtup (Xrt _ _ (Rat.divInt 6 (-4))) (Xval _ _ (.bool true)), Xrt _ _ (Rat.divInt 6 (-4)), Xval _ _ (.bool true), Sx.box _ w1.heap.size 33, Sx.any _, Xval _ _ (.bool true)]
    (Sx.any _) [(1, some 6)] [stNR 7 1 (Xrt _ _ (Rat.divInt 6 (-4)))] (by kernel_rfl) (by kernel_rfl) (by kernel_rfl) hs1 trivial hB1.size (show ([7] : List Nat).Nodup by decide) (fac nst fan) (fac (nby rfl) fan) ?_ ?_ ?_
  · intro i hi hns a w' hb hiv hk hp hold
    obtain ⟨_⟩ := hiv
    match i, hi with
    | 0, _ => exact s_callC enter_Of (of_ct 6 w' (by decide) (by decide)) (gf rfl)
    | 1, _ => exact s_callC enter_Of (of_ct (-4) w' (by decide) (by decide)) (gf rfl)
    | 2, _ => exact s_call2 enter_rof (rof_any _ _ 6 (-4) w' (hp 0 rfl) (hp 1 rfl) (le1n (pw_one6) (by decide)) (le1n (pw_onem4) (by decide))) (gf rfl)
    | 3, _ => exact s_move (hp 2 rfl) (gf rfl)
    | 4, _ => exact s_ext0 (hp 3 rfl) (gf rfl)
    | 5, _ => exact s_ext1 (hp 3 rfl) (gf rfl)
    | 6, _ => exact sA_R hb.size hb.size (fac (zR w') fan)
    | 7, _ => exact absurd rfl (hns _ (.head _))
    | 8, _ => exact s_assign (hp 5 rfl) (gf rfl)
    | _ + 9, h => exact absurd h (by omega)
  · refine fac ?_ (fan)
    · intro a w' hb hiv hk hp ho hf
      exact sN_R (hp 6 rfl) (hp 4 rfl) (hp 4 rfl) hB1.size (hf 6 (.head _)) (fun _ _ => trivial)
  intro a2 w2 hb2 hd2 hs2 hk2 hiv2 hsp2 hst2 hds2
  have hB2 := hB1.trans hb2
  replace hd2 := hd2.trans hd1
  have t0_2 := (hk2 0 (by decide)).trans t0_1
  obtain ⟨r1_2, v1_2, t1_2, b1_2, n1_2, I1_2⟩ := tnR (k := 1) (hst2 _ (.head _)) (hsp2 6 (by decide) (fac (nq rfl) fan)) hB1.size (by omega)
  obtain ⟨v2_2, t2_2, I2_2⟩ : ∃ v, a2.tmps[2]? = some v ∧ v = (.bool true) := tv_get (k := 2) (hsp2 8 (by decide) (fac (nq rfl) fan)) (by omega)
  clear hb2 hk2 hsp2 hst2 hds2 hiv2
  refine wp_seq ?_
  refine fxN (fun r => w2.heap.size ≤ r) (fun _ _ => True) (l := regionOf Tryd.f4 2) false (by kernel_rfl) 9 44 w.heap.size [0, 1, 2]
    [Xnum _ _ 6, Xnum _ _ 0, Xtup (Xrt _ _ (Rat.divInt 6 0)) (Xval _ _ (.bool false)), Xtup (Xrt _ _ (Rat.divInt 6 0)) (Xval _ _ (.bool false)), Xrt _ _ (Rat.divInt 6 0), Xval _ _ (.bool false), Sx.box _ w2.heap.size 33, Sx.any _, Xval _ _ (.bool false)]
    (Sx.and (XhR r1_2 (Nat.not_le_of_lt n1_2.lt) v1_2 (Xrt _ _ (Rat.divInt 6 (-4)))) (Sx.any _)) [(3, some 6)] [stNR 7 3 (Xrt _ _ (Rat.divInt 6 0))] (by kernel_rfl) (by kernel_rfl) (by kernel_rfl) hs2 (And.intro (And.intro n1_2 I1_2) trivial) hB2.size (show ([7] : List Nat).Nodup by decide) (fac nst fan) (fac (nby rfl) fan) ?_ ?_ ?_
  · intro i hi hns a w' hb hiv hk hp hold
    obtain ⟨⟨n1, i1⟩, _⟩ := hiv
    match i, hi with
    | 0, _ => exact s_callC enter_Of (of_ct 6 w' (by decide) (by decide)) (gf rfl)
    | 1, _ => exact s_callC enter_Of (of_ct 0 w' (by decide) (by decide)) (gf rfl)
    | 2, _ => exact s_call2 enter_rof (rof_any _ _ 6 0 w' (hp 0 rfl) (hp 1 rfl) (le1n (pw_one6) (by decide)) (le1n (pw_one0) (by decide))) (gf rfl)
    | 3, _ => exact s_move (hp 2 rfl) (gf rfl)
    | 4, _ => exact s_ext0 (hp 3 rfl) (gf rfl)
    | 5, _ => exact s_ext1 (hp 3 rfl) (gf rfl)
    | 6, _ => exact sA_R hb.size hb.size (fac (zR w') fan)
    | 7, _ => exact absurd rfl (hns _ (.head _))
    | 8, _ => exact s_assign (hp 5 rfl) (gf rfl)
    | _ + 9, h => exact absurd h (by omega)
  · refine fac ?_ (fan)
    · intro a w' hb hiv hk hp ho hf
      exact sN_R (hp 6 rfl) (hp 4 rfl) (hp 4 rfl) hB2.size (hf 6 (.head _)) (fun _ _ => trivial)
  intro a3 w3 hb3 hd3 hs3 hk3 hiv3 hsp3 hst3 hds3
  have hB3 := hB2.trans hb3
  replace hd3 := hd3.trans hd2
  obtain ⟨⟨n1_3, i1_3⟩, _⟩ := hiv3
  have t0_3 := (hk3 0 (by decide)).trans t0_2
  have t1_3 := (hk3 1 (by decide)).trans t1_2
  have t2_3 := (hk3 2 (by decide)).trans t2_2
  obtain ⟨v4_3, t4_3, I4_3⟩ : ∃ v, a3.tmps[4]? = some v ∧ v = (.bool false) := tv_get (k := 4) (hsp3 8 (by decide) (fac (nq rfl) fan)) (by omega)
  clear hb3 hk3 hsp3 hst3 hds3
  refine wp_seq ?_
  refine fxN (fun _ => False) (fun _ _ => True) (l := regionOf Tryd.f4 3) false (by kernel_rfl) 1 44 w.heap.size [0, 1, 2, 4]
    [XoR _ w3.heap.size zaR (Xrat _ _ 0 0)]
    (Sx.and (XhR r1_2 (fun h => h) v1_2 (Xrt _ _ (Rat.divInt 6 (-4)))) (Sx.any _)) [(5, some 0)] [] (by kernel_rfl) (by kernel_rfl) (by kernel_rfl) hs3 (And.intro (And.intro n1_3 i1_3) trivial) hB3.size List.nodup_nil fan (fac (npR rfl) fan) ?_ ?_ ?_
  · intro i hi hns a w' hb hiv hk hp hold
    obtain ⟨⟨n1, i1⟩, _⟩ := hiv
    match i, hi with
    | 0, _ => exact sO_R hb.size isR_zero rfl
    | _ + 1, h => exact absurd h (by omega)
  · exact fan
  intro a4 w4 hb4 hd4 hs4 hk4 hiv4 hsp4 hst4 hds4
  have hB4 := hB3.trans hb4
  replace hd4 := hd4.trans hd3
  obtain ⟨⟨n1_4, i1_4⟩, _⟩ := hiv4
  have t0_4 := (hk4 0 (by decide)).trans t0_3
  have t1_4 := (hk4 1 (by decide)).trans t1_3
  have t2_4 := (hk4 2 (by decide)).trans t2_3
  have t4_4 := (hk4 4 (by decide)).trans t4_3
  obtain ⟨r5_4, t5_4, b5_4, n5_4, I5_4⟩ := toR (k := 5) (hsp4 0 (by decide) fan) hB3.size (by omega)
  clear hb4 hk4 hsp4 hst4 hds4
  refine wp_seq ?_
  refine fx3n (fun _ _ => True) (l := regionOf Tryd.f4 4) false (by kernel_rfl) 27 44 w.heap.size [1, 2, 4, 5] [Xval _ _ (.bool true), Xval _ _ (.bool true), Xval _ _ (.bool false), Xval _ _ (.bool true), Xval _ _ (.bool true), Xval _ _ (.bool true), Xrt _ _ (Rat.divInt 6 (-4)), Xval _ _ (.string (rstr (Rat.divInt 6 (-4)).num (lowB (Rat.divInt 6 (-4)).den))), Xval _ _ (.bool true), Xval _ _ (.bool true), Xval _ _ (.bool true), Xrt _ _ (Rat.divInt 6 (-4)), Xnum _ _ ((Rat.divInt 6 (-4)).floor), Xval _ _ (.string ⟨(Lib.itoa ((Rat.divInt 6 (-4)).floor)).toArray⟩), Xval _ _ (.bool true), Xval _ _ (.bool true), Xval _ _ (.bool true), Xrat _ _ 0 0, Xval _ _ (.string (rstr 0 0)), Xval _ _ (.bool true), Xval _ _ (.bool true), Xval _ _ (.bool true), Xnum _ _ 5, Xrt _ _ ((5 : Int) : Rat), Xval _ _ (.bool true), Xval _ _ (.bool true), Xval _ _ (.bool true)] (Sx.and (XhR r1_2 (fun h => h) v1_2 (Xrt _ _ (Rat.divInt 6 (-4)))) (Sx.and (XhR r5_4 (fun h => h) zaR (Xrat _ _ 0 0)) (Sx.any _))) (by kernel_rfl) (by kernel_rfl) (by kernel_rfl) hs4 (And.intro (And.intro n1_4 i1_4) (And.intro (And.intro n5_4 I5_4) trivial)) hB4.size ?_ ?_
  · intro i hi a w' hb hiv hk hp
    obtain ⟨⟨n1, i1⟩, ⟨n5, i5⟩, _⟩ := hiv
    have k1 := (hk 1 (by decide)).trans t1_4
    have k2 := (hk 2 (by decide)).trans t2_4
    have k4 := (hk 4 (by decide)).trans t4_4
    have k5 := (hk 5 (by decide)).trans t5_4
    match i, hi with
    | 0, _ => exact s_kmove k2 I2_2 gt
    | 1, _ => exact s_move (hp 0 rfl) gt
    | 2, _ => exact s_kmove k4 I4_3 gt (wanted_slot rfl (hp 1 rfl) rfl)
    | 3, _ => exact s_not (hp 2 rfl) rfl gt (wanted_slot rfl (hp 1 rfl) rfl)
    | 4, _ => exact s_pickT (hp 1 rfl) (hp 3 rfl) gt
    | 5, _ => exact s_move (hp 4 rfl) gt
    | 6, _ => exact s_load k1 (load_R n1) i1 gt (wanted_slot rfl (hp 5 rfl) rfl)
    | 7, _ => exact s_call1 enter_rstr (rstr_rt _ (Rat.divInt 6 (-4)) w' (hT.below (hB4.trans hb)) (hp 6 rfl) (bd_six.mono (by decide))) gt (wanted_slot rfl (hp 5 rfl) rfl)
    | 8, _ => exact s_eqS (hp 7 rfl) rfl (congrArg Value.bool (show ((rstr (Rat.divInt 6 (-4)).num (lowB (Rat.divInt 6 (-4)).den)).toList == (⟨#[45, 51, 47, 50]⟩ : ByteArray).toList) = true from eqS txt_six)) gt (wanted_slot rfl (hp 5 rfl) rfl)
    | 9, _ => exact s_pickT (hp 5 rfl) (hp 8 rfl) gt
    | 10, _ => exact s_move (hp 9 rfl) gt
    | 11, _ => exact s_load k1 (load_R n1) i1 gt (wanted_slot rfl (hp 10 rfl) rfl)
    | 12, _ => exact s_call1 enter_rfloor (rfloor_any _ (Rat.divInt 6 (-4)) w' (hp 11 rfl) (bd_six.mono (by decide))) gt (wanted_slot rfl (hp 10 rfl) rfl)
    | 13, _ => exact s_call1 enter_Str (str_ct _ ((Rat.divInt 6 (-4)).floor) w' (hT.below (hB4.trans hb)) (hp 12 rfl) (le4 (Bd.floor bd_six) (by decide))) gt (wanted_slot rfl (hp 10 rfl) rfl)
    | 14, _ => exact s_eqS (hp 13 rfl) rfl (congrArg Value.bool (show ((⟨(Lib.itoa ((Rat.divInt 6 (-4)).floor)).toArray⟩ : ByteArray).toList == (⟨#[45, 50]⟩ : ByteArray).toList) = true from eqS (by rw [txt_floor]))) gt (wanted_slot rfl (hp 10 rfl) rfl)
    | 15, _ => exact s_pickT (hp 10 rfl) (hp 14 rfl) gt
    | 16, _ => exact s_move (hp 15 rfl) gt
    | 17, _ => exact s_load k5 (load_R n5) i5 gt (wanted_slot rfl (hp 16 rfl) rfl)
    | 18, _ => exact s_call1 enter_rstr (rstr_any _ 0 0 (Int.lt_of_lt_of_le pw_one0 (pw_mono (by decide))) (Int.lt_of_lt_of_le pw_one0 (pw_mono (by decide))) w' (hT.below (hB4.trans hb)) (hp 17 rfl)) gt (wanted_slot rfl (hp 16 rfl) rfl)
    | 19, _ => exact s_eqS (hp 18 rfl) rfl (congrArg Value.bool (show ((rstr 0 0).toList == (⟨#[48]⟩ : ByteArray).toList) = true from eqS txt_zero)) gt (wanted_slot rfl (hp 16 rfl) rfl)
    | 20, _ => exact s_pickT (hp 16 rfl) (hp 19 rfl) gt
    | 21, _ => exact s_move (hp 20 rfl) gt
    | 22, _ => exact s_callC enter_Of (of_ct 5 w' (by decide) (by decide)) gt (wanted_slot rfl (hp 21 rfl) rfl)
    | 23, _ => exact s_call1 enter_whole (whole_rt _ 5 w' (hp 22 rfl) (le3n (pw_one5) (by decide))) gt (wanted_slot rfl (hp 21 rfl) rfl)
    | 24, _ => exact s_call1 enter_isw (isw_rt _ ((5 : Int) : Rat) w' (hp 23 rfl)) gt (wanted_slot rfl (hp 21 rfl) rfl)
    | 25, _ => exact s_pickT (hp 21 rfl) (hp 24 rfl) gt
    | 26, _ => exact s_assign (hp 25 rfl) gt
    | _ + 27, h => exact absurd h (by omega)
  intro a5 w5 hb5 hd5 hs5 hk5 hiv5 hsp5
  have hB5 := hB4.trans hb5
  replace hd5 := hd5.trans hd4
  obtain ⟨⟨n1_5, i1_5⟩, ⟨n5_5, i5_5⟩, _⟩ := hiv5
  obtain ⟨v0_5, t0_5, I0_5⟩ : ∃ v, a5.tmps[0]? = some v ∧ v = (.bool true) := tv_get (k := 0) (hsp5 26 (by decide)) (by omega)
  clear hb5 hk5 hsp5
  refine wp_ret ?_
  repeat first | refine then_ret ?_ | refine inBlock_ret ?_
  refine bodyPost_ret (res_t rfl t0_5) hd5 ⟨_, rfl, hB5, ?_⟩
  exact I0_5

end Go.Proofs.YtlcfldkmojpkpaaDoor

/- RatMakes: its walk. -/
namespace Go.Proofs.YtlcfldkmojpkpaaDoor
open Go Go.RowKit

theorem mk_zero {a b : Int} (h : b = 0) : rstr (Rat.divInt a b).num (lowB (Rat.divInt a b).den) = ⟨#[48]⟩ := by
  rw [h, Rat.divInt_zero]
  exact txt_zero
theorem mk_pos (q : Rat) : decide (0 < sgn (q.den : Int)) = true := by
  have := q.den_pos
  unfold sgn
  rw [if_neg (by omega), if_pos (by omega)]
  rfl
theorem mk_gcd (q : Rat) : (⟨(Lib.itoa (Int.gcd q.num (q.den : Int) : Int)).toArray⟩ : ByteArray) = ⟨#[49]⟩ := by
  have h : Int.gcd q.num (q.den : Int) = 1 := q.reduced
  rw [h]
  simp [Lib.itoa, dd1]
theorem mk_cross {a b : Int} (h : ¬ b = 0) : (cmpI ((Rat.divInt a b).num * b) (a * ((Rat.divInt a b).den : Int)) == 0) = true := by
  have h1 : (Rat.divInt a b).num * b = a * ((Rat.divInt a b).den : Int) := by
    have h2 := Rat.num_divInt_den (Rat.divInt a b)
    have h3 := (Rat.divInt_eq_divInt_iff (by have := (Rat.divInt a b).den_pos; omega) h).1 h2
    exact h3
  rw [h1]
  unfold cmpI
  rw [if_neg (by omega), if_neg (by omega)]
  rfl
theorem mk_whole (a : Int) : rstr ((a : Int) : Rat).num (lowB (((a : Int) : Rat).den : Int)) = ⟨(Lib.itoa a).toArray⟩ := by
  show rstr a (lowB 1) = _
  simp [rstr, lowB]
theorem mk_sgn {b : Int} (h : b = 0) : (sgn b == 0) = true := by
  rw [h]
  rfl

set_option maxRecDepth 100000 in
set_option maxHeartbeats 1600000 in
theorem makes_no (s t : ByteArray) (hz : ∀ z ∈ [s, t], z.size ≤ 9223372036854775807) (hl : ¬ ∀ z ∈ [s, t], z.size ≤ 120) (w : World) (hT : Tab w)  :
    Calls Tryd.prog 3 #[(.string s), (.string t)] w fun e w' => ∃ r, e = .returned r ∧ Below w.heap.size w w' ∧ r = .bool true := by
  refine calls_act (fn := Tryd.f3) (by kernel_rfl) rfl (N := 93) (by kernel_rfl) (by simp) ?_
  intro a0 hs0 hd0 hx0
  have t0 : a0.tmps[0]? = some (.string s) := hx0 0 _ rfl
  have t1 : a0.tmps[1]? = some (.string t) := hx0 1 _ rfl
  clear hx0
  have hB0 : Below w.heap.size w w := Below.refl _ _
  refine wp_seq ?_
  refine fx3n Zr (l := regionOf Tryd.f3 0) false (by kernel_rfl) 1 93 w.heap.size [0, 1] [Xval _ _ (.bool false)] (Sx.any _) (by kernel_rfl) (by kernel_rfl) (by kernel_rfl) hs0 trivial hB0.size ?_ ?_
  · intro i hi a w' hb hiv hk hp
    obtain ⟨_⟩ := hiv
    match i, hi with
    | 0, _ => exact s_cassign rfl gt
    | _ + 1, h => exact absurd h (by omega)
  intro a1 w1 hb1 hd1 hs1 hk1 hiv1 hsp1
  have hB1 := hB0.trans hb1
  replace hd1 := hd1.trans hd0
  have t0_1 := (hk1 0 (by decide)).trans t0
  have t1_1 := (hk1 1 (by decide)).trans t1
  obtain ⟨v4_1, t4_1, I4_1⟩ : ∃ v, a1.tmps[4]? = some v ∧ v = (.bool false) := tv_get (k := 4) (hsp1 0 (by decide)) (by omega)
  clear hb1 hk1 hsp1 hiv1
  refine wp_seq ?_
  refine wp_seq ?_
  refine fx3n Zr (l := regionOf Tryd.f3 1) false (by kernel_rfl) 2 93 w.heap.size [0, 1, 4] [Xval _ _ (.bool true), Xval _ _ (.bool false)] (Sx.any _) (by kernel_rfl) (by kernel_rfl) (by kernel_rfl) hs1 trivial hB1.size ?_ ?_
  · intro i hi a w' hb hiv hk hp
    obtain ⟨_⟩ := hiv
    match i, hi with
    | 0, _ => exact s_call0 enter_known2 (known2_yes w' (hT.below (hB1.trans hb))) gt
    | 1, _ => exact s_not (hp 0 rfl) rfl gt
    | _ + 2, h => exact absurd h (by omega)
  intro a2 w2 hb2 hd2 hs2 hk2 hiv2 hsp2
  have hB2 := hB1.trans hb2
  replace hd2 := hd2.trans hd1
  have t0_2 := (hk2 0 (by decide)).trans t0_1
  have t1_2 := (hk2 1 (by decide)).trans t1_1
  have t4_2 := (hk2 4 (by decide)).trans t4_1
  obtain ⟨v14_2, t14_2, I14_2⟩ : ∃ v, a2.tmps[14]? = some v ∧ v = (.bool false) := tv_get (k := 14) (hsp2 1 (by decide)) (by omega)
  clear hb2 hk2 hsp2 hiv2
  refine wp_cond_false (show Act.eval a2 (.tmp 14) = .bool false by rw [eval_of t14_2, I14_2]) ?_
  refine wp_skip ?_
  refine wp_seq ?_
  refine wp_seq ?_
  refine fx3n Zr (l := regionOf Tryd.f3 3) false (by kernel_rfl) 5 93 w.heap.size [0, 1, 4] [Xval _ _ (.string s), Xval _ _ (.string t), Xss _ [s, t], Xval _ _ (.bool false), Xval _ _ (.bool true)] (Sx.any _) (by kernel_rfl) (by kernel_rfl) (by kernel_rfl) hs2 trivial hB2.size ?_ ?_
  · intro i hi a w' hb hiv hk hp
    obtain ⟨_⟩ := hiv
    have k0 := (hk 0 (by decide)).trans t0_2
    have k1 := (hk 1 (by decide)).trans t1_2
    match i, hi with
    | 0, _ => exact s_kmove k0 rfl gt
    | 1, _ => exact s_kmove k1 rfl gt
    | 2, _ => exact s_ss2 (hp 0 rfl) (hp 1 rfl) gt
    | 3, _ => exact s_call1 enter_light2 (light2_no _ [s, t] w' (hp 2 rfl) (by simp) hz hl) gt
    | 4, _ => exact s_not (hp 3 rfl) rfl gt
    | _ + 5, h => exact absurd h (by omega)
  intro a3 w3 hb3 hd3 hs3 hk3 hiv3 hsp3
  have hB3 := hB2.trans hb3
  replace hd3 := hd3.trans hd2
  have t0_3 := (hk3 0 (by decide)).trans t0_2
  have t1_3 := (hk3 1 (by decide)).trans t1_2
  have t4_3 := (hk3 4 (by decide)).trans t4_2
  obtain ⟨v19_3, t19_3, I19_3⟩ : ∃ v, a3.tmps[19]? = some v ∧ v = (.bool true) := tv_get (k := 19) (hsp3 4 (by decide)) (by omega)
  clear hb3 hk3 hsp3 hiv3
  refine wp_cond_true (show Act.eval a3 (.tmp 19) = .bool true by rw [eval_of t19_3, I19_3]) ?_
  refine wp_seq ?_
  refine fx3n Zr (l := regionOf Tryd.f3 4) false (by kernel_rfl) 1 93 w.heap.size [0, 1] [Xval _ _ (.bool true)] (Sx.any _) (by kernel_rfl) (by kernel_rfl) (by kernel_rfl) hs3 trivial hB3.size ?_ ?_
  · intro i hi a w' hb hiv hk hp
    obtain ⟨_⟩ := hiv
    match i, hi with
    | 0, _ => exact s_cassign rfl gt
    | _ + 1, h => exact absurd h (by omega)
  intro a4 w4 hb4 hd4 hs4 hk4 hiv4 hsp4
  have hB4 := hB3.trans hb4
  replace hd4 := hd4.trans hd3
  have t0_4 := (hk4 0 (by decide)).trans t0_3
  have t1_4 := (hk4 1 (by decide)).trans t1_3
  obtain ⟨v4_4, t4_4, I4_4⟩ : ∃ v, a4.tmps[4]? = some v ∧ v = (.bool true) := tv_get (k := 4) (hsp4 0 (by decide)) (by omega)
  clear hb4 hk4 hsp4 hiv4
  refine wp_ret ?_
  repeat first | refine then_ret ?_ | refine inBlock_ret ?_
  refine bodyPost_ret (res_t rfl t4_4) hd4 ⟨_, rfl, hB4, ?_⟩
  exact I4_4

set_option maxRecDepth 100000 in
set_option maxHeartbeats 1600000 in
theorem makes_yes (s t : ByteArray) (zA zB : Int) (hl : ∀ z ∈ [s, t], z.size ≤ 120) (gA : (zA.natAbs : Int) < pw 40) (kA : (zA.natAbs : Int) < T4.pw 100) (gB : (zB.natAbs : Int) < pw 40) (kB : (zB.natAbs : Int) < T4.pw 100) (hb9 : Bd (Rat.divInt zA zB) 40) (hq9 : Bq (Rat.divInt zA zB) 100) (hA : ∀ w, Calls Tryd.prog 6 #[.string s] w (PostIN zA w)) (hC : ∀ w, Calls Tryd.prog 6 #[.string t] w (PostIN zB w)) (w : World) (hT : Tab w)  :
    Calls Tryd.prog 3 #[(.string s), (.string t)] w fun e w' => ∃ r, e = .returned r ∧ Below w.heap.size w w' ∧ r = .bool true := by
  refine calls_act (fn := Tryd.f3) (by kernel_rfl) rfl (N := 93) (by kernel_rfl) (by simp) ?_
  intro a0 hs0 hd0 hx0
  have t0 : a0.tmps[0]? = some (.string s) := hx0 0 _ rfl
  have t1 : a0.tmps[1]? = some (.string t) := hx0 1 _ rfl
  clear hx0
  have hB0 : Below w.heap.size w w := Below.refl _ _
  refine wp_seq ?_
  refine fx3n Zr (l := regionOf Tryd.f3 0) false (by kernel_rfl) 1 93 w.heap.size [0, 1] [Xval _ _ (.bool false)] (Sx.any _) (by kernel_rfl) (by kernel_rfl) (by kernel_rfl) hs0 trivial hB0.size ?_ ?_
  · intro i hi a w' hb hiv hk hp
    obtain ⟨_⟩ := hiv
    match i, hi with
    | 0, _ => exact s_cassign rfl gt
    | _ + 1, h => exact absurd h (by omega)
  intro a1 w1 hb1 hd1 hs1 hk1 hiv1 hsp1
  have hB1 := hB0.trans hb1
  replace hd1 := hd1.trans hd0
  have t0_1 := (hk1 0 (by decide)).trans t0
  have t1_1 := (hk1 1 (by decide)).trans t1
  obtain ⟨v4_1, t4_1, I4_1⟩ : ∃ v, a1.tmps[4]? = some v ∧ v = (.bool false) := tv_get (k := 4) (hsp1 0 (by decide)) (by omega)
  clear hb1 hk1 hsp1 hiv1
  refine wp_seq ?_
  refine wp_seq ?_
  refine fx3n Zr (l := regionOf Tryd.f3 1) false (by kernel_rfl) 2 93 w.heap.size [0, 1, 4] [Xval _ _ (.bool true), Xval _ _ (.bool false)] (Sx.any _) (by kernel_rfl) (by kernel_rfl) (by kernel_rfl) hs1 trivial hB1.size ?_ ?_
  · intro i hi a w' hb hiv hk hp
    obtain ⟨_⟩ := hiv
    match i, hi with
    | 0, _ => exact s_call0 enter_known2 (known2_yes w' (hT.below (hB1.trans hb))) gt
    | 1, _ => exact s_not (hp 0 rfl) rfl gt
    | _ + 2, h => exact absurd h (by omega)
  intro a2 w2 hb2 hd2 hs2 hk2 hiv2 hsp2
  have hB2 := hB1.trans hb2
  replace hd2 := hd2.trans hd1
  have t0_2 := (hk2 0 (by decide)).trans t0_1
  have t1_2 := (hk2 1 (by decide)).trans t1_1
  have t4_2 := (hk2 4 (by decide)).trans t4_1
  obtain ⟨v14_2, t14_2, I14_2⟩ : ∃ v, a2.tmps[14]? = some v ∧ v = (.bool false) := tv_get (k := 14) (hsp2 1 (by decide)) (by omega)
  clear hb2 hk2 hsp2 hiv2
  refine wp_cond_false (show Act.eval a2 (.tmp 14) = .bool false by rw [eval_of t14_2, I14_2]) ?_
  refine wp_skip ?_
  refine wp_seq ?_
  refine wp_seq ?_
  refine fx3n Zr (l := regionOf Tryd.f3 3) false (by kernel_rfl) 5 93 w.heap.size [0, 1, 4] [Xval _ _ (.string s), Xval _ _ (.string t), Xss _ [s, t], Xval _ _ (.bool true), Xval _ _ (.bool false)] (Sx.any _) (by kernel_rfl) (by kernel_rfl) (by kernel_rfl) hs2 trivial hB2.size ?_ ?_
  · intro i hi a w' hb hiv hk hp
    obtain ⟨_⟩ := hiv
    have k0 := (hk 0 (by decide)).trans t0_2
    have k1 := (hk 1 (by decide)).trans t1_2
    match i, hi with
    | 0, _ => exact s_kmove k0 rfl gt
    | 1, _ => exact s_kmove k1 rfl gt
    | 2, _ => exact s_ss2 (hp 0 rfl) (hp 1 rfl) gt
    | 3, _ => exact s_call1 enter_light2 (light2_yes _ [s, t] w' (hp 2 rfl) (by simp) hl) gt
    | 4, _ => exact s_not (hp 3 rfl) rfl gt
    | _ + 5, h => exact absurd h (by omega)
  intro a3 w3 hb3 hd3 hs3 hk3 hiv3 hsp3
  have hB3 := hB2.trans hb3
  replace hd3 := hd3.trans hd2
  have t0_3 := (hk3 0 (by decide)).trans t0_2
  have t1_3 := (hk3 1 (by decide)).trans t1_2
  have t4_3 := (hk3 4 (by decide)).trans t4_2
  obtain ⟨v19_3, t19_3, I19_3⟩ : ∃ v, a3.tmps[19]? = some v ∧ v = (.bool false) := tv_get (k := 19) (hsp3 4 (by decide)) (by omega)
  clear hb3 hk3 hsp3 hiv3
  refine wp_cond_false (show Act.eval a3 (.tmp 19) = .bool false by rw [eval_of t19_3, I19_3]) ?_
  refine wp_skip ?_
  refine wp_seq ?_
  refine fxN (fun r => w3.heap.size ≤ r) Zr (l := regionOf Tryd.f3 5) false (by kernel_rfl) 9 93 w.heap.size [0, 1, 4]
    [Xval _ _ (.string s), Xtup (Xnum _ _ zA) (Xdoc _ _ (fun _ _ h => h) zA), Xtup (Xnum _ _ zA) (Xdoc _ _ (fun _ _ h => h) zA), Xnum _ _ zA, Xdoc _ _ (fun _ _ h => h) zA, Sx.box _ w3.heap.size 26, Sx.box _ w3.heap.size 29, Sx.any _, Sx.any _]
    (Sx.any _) [(5, some 5), (6, some 6)] [stNI 7 5 (Xnum _ _ zA), stNN 8 6 (Xdoc _ _ (fun _ _ h => h) zA)] (by kernel_rfl) (by kernel_rfl) (by kernel_rfl) hs3 trivial hB3.size (show ([7, 8] : List Nat).Nodup by decide) (fac nst (fac nst fan)) (fac (nby rfl) (fac (nby rfl) fan)) ?_ ?_ ?_
  · intro i hi hns a w' hb hiv hk hp hold
    obtain ⟨_⟩ := hiv
    have k0 := (hk 0 (by decide)).trans t0_3
    match i, hi with
    | 0, _ => exact s_kmove k0 rfl (gf rfl)
    | 1, _ => exact s_call1 enter_of2 (arg1 (hp 0 rfl) (hA w')) (gf rfl)
    | 2, _ => exact s_move (hp 1 rfl) (gf rfl)
    | 3, _ => exact s_ext0 (hp 2 rfl) (gf rfl)
    | 4, _ => exact s_ext1 (hp 2 rfl) (gf rfl)
    | 5, _ => exact sA_I hb.size hb.size (fac (zI w') (fac (zI w') fan))
    | 6, _ => exact sA_N hb.size hb.size (fac (zN w') (fac (zN w') fan))
    | 7, _ => exact absurd rfl (hns _ (.head _))
    | 8, _ => exact absurd rfl (hns _ (.tail _ (.head _)))
    | _ + 9, h => exact absurd h (by omega)
  · refine fac ?_ (fac ?_ (fan))
    · intro a w' hb hiv hk hp ho hf
      exact sN_I (hp 5 rfl) (hp 3 rfl) (hp 3 rfl) hB3.size (hf 5 (.head _)) (fun _ h => h)
    · intro a w' hb hiv hk hp ho hf
      exact sN_N (hp 6 rfl) (hp 4 rfl) (hp 4 rfl) hB3.size (hf 6 (.tail _ (.head _))) (fun _ h => h)
  intro a4 w4 hb4 hd4 hs4 hk4 hiv4 hsp4 hst4 hds4
  have hB4 := hB3.trans hb4
  replace hd4 := hd4.trans hd3
  have t1_4 := (hk4 1 (by decide)).trans t1_3
  have t4_4 := (hk4 4 (by decide)).trans t4_3
  obtain ⟨r5_4, v5_4, t5_4, b5_4, n5_4, I5_4⟩ := tnI (k := 5) (hst4 _ (.head _)) (hsp4 5 (by decide) (fac (nq rfl) (fac (nq rfl) fan))) hB3.size (by omega)
  obtain ⟨r6_4, v6_4, t6_4, b6_4, n6_4, I6_4⟩ := tnN (k := 6) (hst4 _ (.tail _ (.head _))) (hsp4 6 (by decide) (fac (nq rfl) (fac (nq rfl) fan))) hB3.size (by omega)
  clear hb4 hk4 hsp4 hst4 hds4 hiv4
  refine wp_seq ?_
  refine fxN (fun r => w4.heap.size ≤ r) Zr (l := regionOf Tryd.f3 6) false (by kernel_rfl) 9 93 w.heap.size [1, 4, 5, 6]
    [Xval _ _ (.string t), Xtup (Xnum _ _ zB) (Xdoc _ _ (fun _ _ h => h) zB), Xtup (Xnum _ _ zB) (Xdoc _ _ (fun _ _ h => h) zB), Xnum _ _ zB, Xdoc _ _ (fun _ _ h => h) zB, Sx.box _ w4.heap.size 26, Sx.box _ w4.heap.size 29, Sx.any _, Sx.any _]
    (Sx.and (XhI r5_4 (Nat.not_le_of_lt n5_4.lt) v5_4 (Xnum _ _ zA)) (Sx.and (XhN r6_4 (Nat.not_le_of_lt n6_4.lt) v6_4 (Xdoc _ _ (fun _ _ h => h) zA)) (Sx.any _))) [(7, some 5), (8, some 6)] [stNI 7 7 (Xnum _ _ zB), stNN 8 8 (Xdoc _ _ (fun _ _ h => h) zB)] (by kernel_rfl) (by kernel_rfl) (by kernel_rfl) hs4 (And.intro (And.intro n5_4 I5_4) (And.intro (And.intro n6_4 I6_4) trivial)) hB4.size (show ([7, 8] : List Nat).Nodup by decide) (fac nst (fac nst fan)) (fac (nby rfl) (fac (nby rfl) fan)) ?_ ?_ ?_
  · intro i hi hns a w' hb hiv hk hp hold
    obtain ⟨⟨n5, i5⟩, ⟨n6, i6⟩, _⟩ := hiv
    have k1 := (hk 1 (by decide)).trans t1_4
    match i, hi with
    | 0, _ => exact s_kmove k1 rfl (gf rfl)
    | 1, _ => exact s_call1 enter_of2 (arg1 (hp 0 rfl) (hC w')) (gf rfl)
    | 2, _ => exact s_move (hp 1 rfl) (gf rfl)
    | 3, _ => exact s_ext0 (hp 2 rfl) (gf rfl)
    | 4, _ => exact s_ext1 (hp 2 rfl) (gf rfl)
    | 5, _ => exact sA_I hb.size hb.size (fac (zI w') (fac (zI w') fan))
    | 6, _ => exact sA_N hb.size hb.size (fac (zN w') (fac (zN w') fan))
    | 7, _ => exact absurd rfl (hns _ (.head _))
    | 8, _ => exact absurd rfl (hns _ (.tail _ (.head _)))
    | _ + 9, h => exact absurd h (by omega)
  · refine fac ?_ (fac ?_ (fan))
    · intro a w' hb hiv hk hp ho hf
      exact sN_I (hp 5 rfl) (hp 3 rfl) (hp 3 rfl) hB4.size (hf 5 (.head _)) (fun _ h => h)
    · intro a w' hb hiv hk hp ho hf
      exact sN_N (hp 6 rfl) (hp 4 rfl) (hp 4 rfl) hB4.size (hf 6 (.tail _ (.head _))) (fun _ h => h)
  intro a5 w5 hb5 hd5 hs5 hk5 hiv5 hsp5 hst5 hds5
  have hB5 := hB4.trans hb5
  replace hd5 := hd5.trans hd4
  obtain ⟨⟨n5_5, i5_5⟩, ⟨n6_5, i6_5⟩, _⟩ := hiv5
  have t4_5 := (hk5 4 (by decide)).trans t4_4
  have t5_5 := (hk5 5 (by decide)).trans t5_4
  have t6_5 := (hk5 6 (by decide)).trans t6_4
  obtain ⟨r7_5, v7_5, t7_5, b7_5, n7_5, I7_5⟩ := tnI (k := 7) (hst5 _ (.head _)) (hsp5 5 (by decide) (fac (nq rfl) (fac (nq rfl) fan))) hB4.size (by omega)
  obtain ⟨r8_5, v8_5, t8_5, b8_5, n8_5, I8_5⟩ := tnN (k := 8) (hst5 _ (.tail _ (.head _))) (hsp5 6 (by decide) (fac (nq rfl) (fac (nq rfl) fan))) hB4.size (by omega)
  clear hb5 hk5 hsp5 hst5 hds5
  refine wp_seq ?_
  refine fxN (fun r => w5.heap.size ≤ r) Zr (l := regionOf Tryd.f3 7) false (by kernel_rfl) 9 93 w.heap.size [4, 5, 6, 7, 8]
    [Xnum _ _ zA, Xnum _ _ zB, Xtup (Xrt _ _ (Rat.divInt zA zB)) (Xval _ _ (.bool (decide (zB ≠ 0)))), Xtup (Xrt _ _ (Rat.divInt zA zB)) (Xval _ _ (.bool (decide (zB ≠ 0)))), Xrt _ _ (Rat.divInt zA zB), Xval _ _ (.bool (decide (zB ≠ 0))), Sx.box _ w5.heap.size 33, Sx.any _, Xval _ _ (.bool (decide (zB ≠ 0)))]
    (Sx.and (XhI r5_4 (Nat.not_le_of_lt n5_5.lt) v5_4 (Xnum _ _ zA)) (Sx.and (XhN r6_4 (Nat.not_le_of_lt n6_5.lt) v6_4 (Xdoc _ _ (fun _ _ h => h) zA)) (Sx.and (XhI r7_5 (Nat.not_le_of_lt n7_5.lt) v7_5 (Xnum _ _ zB)) (Sx.and (XhN r8_5 (Nat.not_le_of_lt n8_5.lt) v8_5 (Xdoc _ _ (fun _ _ h => h) zB)) (Sx.any _))))) [(9, some 6)] [stNR 7 9 (Xrt _ _ (Rat.divInt zA zB))] (by kernel_rfl) (by kernel_rfl) (by kernel_rfl) hs5 (And.intro (And.intro n5_5 i5_5) (And.intro (And.intro n6_5 i6_5) (And.intro (And.intro n7_5 I7_5) (And.intro (And.intro n8_5 I8_5) trivial)))) hB5.size (show ([7] : List Nat).Nodup by decide) (fac nst fan) (fac (nby rfl) fan) ?_ ?_ ?_
  · intro i hi hns a w' hb hiv hk hp hold
    obtain ⟨⟨n5, i5⟩, ⟨n6, i6⟩, ⟨n7, i7⟩, ⟨n8, i8⟩, _⟩ := hiv
    have k5 := (hk 5 (by decide)).trans t5_5
    have k7 := (hk 7 (by decide)).trans t7_5
    match i, hi with
    | 0, _ => exact s_load k5 (load_bx n5) i5 (gf rfl)
    | 1, _ => exact s_load k7 (load_bx n7) i7 (gf rfl)
    | 2, _ => exact s_call2 enter_rof (rof_any _ _ zA zB w' (hp 0 rfl) (hp 1 rfl) (le1n gA (by decide)) (le1n gB (by decide))) (gf rfl)
    | 3, _ => exact s_move (hp 2 rfl) (gf rfl)
    | 4, _ => exact s_ext0 (hp 3 rfl) (gf rfl)
    | 5, _ => exact s_ext1 (hp 3 rfl) (gf rfl)
    | 6, _ => exact sA_R hb.size hb.size (fac (zR w') fan)
    | 7, _ => exact absurd rfl (hns _ (.head _))
    | 8, _ => exact s_assign (hp 5 rfl) (gf rfl)
    | _ + 9, h => exact absurd h (by omega)
  · refine fac ?_ (fan)
    · intro a w' hb hiv hk hp ho hf
      exact sN_R (hp 6 rfl) (hp 4 rfl) (hp 4 rfl) hB5.size (hf 6 (.head _)) (fun _ h => h)
  intro a6 w6 hb6 hd6 hs6 hk6 hiv6 hsp6 hst6 hds6
  have hB6 := hB5.trans hb6
  replace hd6 := hd6.trans hd5
  obtain ⟨⟨n5_6, i5_6⟩, ⟨n6_6, i6_6⟩, ⟨n7_6, i7_6⟩, ⟨n8_6, i8_6⟩, _⟩ := hiv6
  have t4_6 := (hk6 4 (by decide)).trans t4_5
  have t5_6 := (hk6 5 (by decide)).trans t5_5
  have t6_6 := (hk6 6 (by decide)).trans t6_5
  have t7_6 := (hk6 7 (by decide)).trans t7_5
  have t8_6 := (hk6 8 (by decide)).trans t8_5
  obtain ⟨r9_6, v9_6, t9_6, b9_6, n9_6, I9_6⟩ := tnR (k := 9) (hst6 _ (.head _)) (hsp6 6 (by decide) (fac (nq rfl) fan)) hB5.size (by omega)
  obtain ⟨v10_6, t10_6, I10_6⟩ : ∃ v, a6.tmps[10]? = some v ∧ v = (.bool (decide (zB ≠ 0))) := tv_get (k := 10) (hsp6 8 (by decide) (fac (nq rfl) fan)) (by omega)
  clear hb6 hk6 hsp6 hst6 hds6
  refine wp_seq ?_
  refine fxN (fun r => w6.heap.size ≤ r) Zr (l := regionOf Tryd.f3 8) false (by kernel_rfl) 9 93 w.heap.size [4, 5, 6, 7, 8, 9, 10]
    [Xdoc _ _ (fun _ _ h => h) zA, Xdoc _ _ (fun _ _ h => h) zB, Xtup (Xqt _ (Rat.divInt zA zB)) (Xval _ _ (.bool (decide (zB ≠ 0)))), Xtup (Xqt _ (Rat.divInt zA zB)) (Xval _ _ (.bool (decide (zB ≠ 0)))), Xqt _ (Rat.divInt zA zB), Xval _ _ (.bool (decide (zB ≠ 0))), Sx.box _ w6.heap.size 37, Sx.any _, Xval _ _ (.bool (decide (zB ≠ 0)))]
    (Sx.and (XhI r5_4 (Nat.not_le_of_lt n5_6.lt) v5_4 (Xnum _ _ zA)) (Sx.and (XhN r6_4 (Nat.not_le_of_lt n6_6.lt) v6_4 (Xdoc _ _ (fun _ _ h => h) zA)) (Sx.and (XhI r7_5 (Nat.not_le_of_lt n7_6.lt) v7_5 (Xnum _ _ zB)) (Sx.and (XhN r8_5 (Nat.not_le_of_lt n8_6.lt) v8_5 (Xdoc _ _ (fun _ _ h => h) zB)) (Sx.and (XhR r9_6 (Nat.not_le_of_lt n9_6.lt) v9_6 (Xrt _ _ (Rat.divInt zA zB))) (Sx.any _)))))) [(11, some 6)] [stNQ 7 11 (Xqt _ (Rat.divInt zA zB))] (by kernel_rfl) (by kernel_rfl) (by kernel_rfl) hs6 (And.intro (And.intro n5_6 i5_6) (And.intro (And.intro n6_6 i6_6) (And.intro (And.intro n7_6 i7_6) (And.intro (And.intro n8_6 i8_6) (And.intro (And.intro n9_6 I9_6) trivial))))) hB6.size (show ([7] : List Nat).Nodup by decide) (fac nst fan) (fac (nby rfl) fan) ?_ ?_ ?_
  · intro i hi hns a w' hb hiv hk hp hold
    obtain ⟨⟨n5, i5⟩, ⟨n6, i6⟩, ⟨n7, i7⟩, ⟨n8, i8⟩, ⟨n9, i9⟩, _⟩ := hiv
    have k6 := (hk 6 (by decide)).trans t6_6
    have k8 := (hk 8 (by decide)).trans t8_6
    match i, hi with
    | 0, _ => exact s_load k6 (load_NB n6) i6 (gf rfl)
    | 1, _ => exact s_load k8 (load_NB n8) i8 (gf rfl)
    | 2, _ => exact s_call2 enter_frac (frac_qt _ _ zA zB (T4.le7 kA (by decide)) (T4.le7 kB (by decide)) w' (hp 0 rfl) (hp 1 rfl)) (gf rfl)
    | 3, _ => exact s_move (hp 2 rfl) (gf rfl)
    | 4, _ => exact s_ext0 (hp 3 rfl) (gf rfl)
    | 5, _ => exact s_ext1 (hp 3 rfl) (gf rfl)
    | 6, _ => exact sA_Q hb.size hb.size (fac (zQ w') fan)
    | 7, _ => exact absurd rfl (hns _ (.head _))
    | 8, _ => exact s_assign (hp 5 rfl) (gf rfl)
    | _ + 9, h => exact absurd h (by omega)
  · refine fac ?_ (fan)
    · intro a w' hb hiv hk hp ho hf
      exact sN_Q (hp 6 rfl) (hp 4 rfl) (hp 4 rfl) hB6.size (hf 6 (.head _)) (fun _ h => h)
  intro a7 w7 hb7 hd7 hs7 hk7 hiv7 hsp7 hst7 hds7
  have hB7 := hB6.trans hb7
  replace hd7 := hd7.trans hd6
  obtain ⟨⟨n5_7, i5_7⟩, ⟨n6_7, i6_7⟩, ⟨n7_7, i7_7⟩, ⟨n8_7, i8_7⟩, ⟨n9_7, i9_7⟩, _⟩ := hiv7
  have t4_7 := (hk7 4 (by decide)).trans t4_6
  have t5_7 := (hk7 5 (by decide)).trans t5_6
  have t7_7 := (hk7 7 (by decide)).trans t7_6
  have t9_7 := (hk7 9 (by decide)).trans t9_6
  have t10_7 := (hk7 10 (by decide)).trans t10_6
  obtain ⟨r11_7, v11_7, t11_7, b11_7, n11_7, I11_7⟩ := tnQ (k := 11) (hst7 _ (.head _)) (hsp7 6 (by decide) (fac (nq rfl) fan)) hB6.size (by omega)
  obtain ⟨v12_7, t12_7, I12_7⟩ : ∃ v, a7.tmps[12]? = some v ∧ v = (.bool (decide (zB ≠ 0))) := tv_get (k := 12) (hsp7 8 (by decide) (fac (nq rfl) fan)) (by omega)
  clear hb7 hk7 hsp7 hst7 hds7
  refine wp_seq ?_
  refine wp_seq ?_
  refine fx3n Zr (l := regionOf Tryd.f3 9) false (by kernel_rfl) 3 93 w.heap.size [4, 5, 7, 9, 10, 11, 12] [Xval _ _ (.bool (decide (zB ≠ 0))), Xval _ _ (.bool (decide (zB ≠ 0))), Xval _ _ (.bool false)] (Sx.and (XhI r5_4 (fun h => h) v5_4 (Xnum _ _ zA)) (Sx.and (XhI r7_5 (fun h => h) v7_5 (Xnum _ _ zB)) (Sx.and (XhR r9_6 (fun h => h) v9_6 (Xrt _ _ (Rat.divInt zA zB))) (Sx.and (XhQ r11_7 (fun h => h) v11_7 (Xqt _ (Rat.divInt zA zB))) (Sx.any _))))) (by kernel_rfl) (by kernel_rfl) (by kernel_rfl) hs7 (And.intro (And.intro n5_7 i5_7) (And.intro (And.intro n7_7 i7_7) (And.intro (And.intro n9_7 i9_7) (And.intro (And.intro n11_7 I11_7) trivial)))) hB7.size ?_ ?_
  · intro i hi a w' hb hiv hk hp
    obtain ⟨⟨n5, i5⟩, ⟨n7, i7⟩, ⟨n9, i9⟩, ⟨n11, i11⟩, _⟩ := hiv
    have k10 := (hk 10 (by decide)).trans t10_7
    have k12 := (hk 12 (by decide)).trans t12_7
    match i, hi with
    | 0, _ => exact s_kmove k10 I10_6 gt
    | 1, _ => exact s_kmove k12 I12_7 gt
    | 2, _ => exact s_neB (hp 0 rfl) (hp 1 rfl) (congrArg Value.bool (show ((decide (zB ≠ 0)) != (decide (zB ≠ 0))) = false from by simp)) gt
    | _ + 3, h => exact absurd h (by omega)
  intro a8 w8 hb8 hd8 hs8 hk8 hiv8 hsp8
  have hB8 := hB7.trans hb8
  replace hd8 := hd8.trans hd7
  obtain ⟨⟨n5_8, i5_8⟩, ⟨n7_8, i7_8⟩, ⟨n9_8, i9_8⟩, ⟨n11_8, i11_8⟩, _⟩ := hiv8
  have t4_8 := (hk8 4 (by decide)).trans t4_7
  have t5_8 := (hk8 5 (by decide)).trans t5_7
  have t7_8 := (hk8 7 (by decide)).trans t7_7
  have t9_8 := (hk8 9 (by decide)).trans t9_7
  have t10_8 := (hk8 10 (by decide)).trans t10_7
  have t11_8 := (hk8 11 (by decide)).trans t11_7
  obtain ⟨v44_8, t44_8, I44_8⟩ : ∃ v, a8.tmps[44]? = some v ∧ v = (.bool false) := tv_get (k := 44) (hsp8 2 (by decide)) (by omega)
  clear hb8 hk8 hsp8
  refine wp_cond_false (show Act.eval a8 (.tmp 44) = .bool false by rw [eval_of t44_8, I44_8]) ?_
  refine wp_skip ?_
  refine wp_seq ?_
  refine wp_seq ?_
  refine fx3n Zr (l := regionOf Tryd.f3 11) false (by kernel_rfl) 2 93 w.heap.size [4, 5, 7, 9, 10, 11] [Xval _ _ (.bool (decide (zB ≠ 0))), Xval _ _ (.bool (!(decide (zB ≠ 0))))] (Sx.and (XhI r5_4 (fun h => h) v5_4 (Xnum _ _ zA)) (Sx.and (XhI r7_5 (fun h => h) v7_5 (Xnum _ _ zB)) (Sx.and (XhR r9_6 (fun h => h) v9_6 (Xrt _ _ (Rat.divInt zA zB))) (Sx.and (XhQ r11_7 (fun h => h) v11_7 (Xqt _ (Rat.divInt zA zB))) (Sx.any _))))) (by kernel_rfl) (by kernel_rfl) (by kernel_rfl) hs8 (And.intro (And.intro n5_8 i5_8) (And.intro (And.intro n7_8 i7_8) (And.intro (And.intro n9_8 i9_8) (And.intro (And.intro n11_8 i11_8) trivial)))) hB8.size ?_ ?_
  · intro i hi a w' hb hiv hk hp
    obtain ⟨⟨n5, i5⟩, ⟨n7, i7⟩, ⟨n9, i9⟩, ⟨n11, i11⟩, _⟩ := hiv
    have k10 := (hk 10 (by decide)).trans t10_8
    match i, hi with
    | 0, _ => exact s_kmove k10 I10_6 gt
    | 1, _ => exact s_not (hp 0 rfl) rfl gt
    | _ + 2, h => exact absurd h (by omega)
  intro a9 w9 hb9 hd9 hs9 hk9 hiv9 hsp9
  have hB9 := hB8.trans hb9
  replace hd9 := hd9.trans hd8
  obtain ⟨⟨n5_9, i5_9⟩, ⟨n7_9, i7_9⟩, ⟨n9_9, i9_9⟩, ⟨n11_9, i11_9⟩, _⟩ := hiv9
  have t4_9 := (hk9 4 (by decide)).trans t4_8
  have t5_9 := (hk9 5 (by decide)).trans t5_8
  have t7_9 := (hk9 7 (by decide)).trans t7_8
  have t9_9 := (hk9 9 (by decide)).trans t9_8
  have t11_9 := (hk9 11 (by decide)).trans t11_8
  obtain ⟨v46_9, t46_9, I46_9⟩ : ∃ v, a9.tmps[46]? = some v ∧ v = (.bool (!(decide (zB ≠ 0)))) := tv_get (k := 46) (hsp9 1 (by decide)) (by omega)
  clear hb9 hk9 hsp9
  by_cases hc46 : zB = 0
  · skip
    refine wp_cond_true (show Act.eval a9 (.tmp 46) = .bool true by rw [eval_of t46_9, I46_9]; simp [hc46]) ?_
    refine wp_seq ?_
    refine fx3n Zr (l := regionOf Tryd.f3 12) false (by kernel_rfl) 9 93 w.heap.size [5, 7, 9, 11] [Xrt _ _ (Rat.divInt zA zB), Xval _ _ (.string (rstr (Rat.divInt zA zB).num (lowB (Rat.divInt zA zB).den))), Xval _ _ (.bool true), Xval _ _ (.bool true), Xnum _ _ zB, Xval _ _ (.int .i64 (sgn (zB))), Xval _ _ (.bool true), Xval _ _ (.bool true), Xval _ _ (.bool true)] (Sx.and (XhI r5_4 (fun h => h) v5_4 (Xnum _ _ zA)) (Sx.and (XhI r7_5 (fun h => h) v7_5 (Xnum _ _ zB)) (Sx.and (XhR r9_6 (fun h => h) v9_6 (Xrt _ _ (Rat.divInt zA zB))) (Sx.and (XhQ r11_7 (fun h => h) v11_7 (Xqt _ (Rat.divInt zA zB))) (Sx.any _))))) (by kernel_rfl) (by kernel_rfl) (by kernel_rfl) hs9 (And.intro (And.intro n5_9 i5_9) (And.intro (And.intro n7_9 i7_9) (And.intro (And.intro n9_9 i9_9) (And.intro (And.intro n11_9 i11_9) trivial)))) hB9.size ?_ ?_
    · intro i hi a w' hb hiv hk hp
      obtain ⟨⟨n5, i5⟩, ⟨n7, i7⟩, ⟨n9, i9⟩, ⟨n11, i11⟩, _⟩ := hiv
      have k7 := (hk 7 (by decide)).trans t7_9
      have k9 := (hk 9 (by decide)).trans t9_9
      match i, hi with
      | 0, _ => exact s_load k9 (load_R n9) i9 gt
      | 1, _ => exact s_call1 enter_rstr (rstr_rt _ (Rat.divInt zA zB) w' (hT.below (hB9.trans hb)) (hp 0 rfl) (hb9.mono (by decide))) gt
      | 2, _ => exact s_eqS (hp 1 rfl) rfl (congrArg Value.bool (show ((rstr (Rat.divInt zA zB).num (lowB (Rat.divInt zA zB).den)).toList == (⟨#[48]⟩ : ByteArray).toList) = true from eqS (mk_zero hc46))) gt
      | 3, _ => exact s_move (hp 2 rfl) gt
      | 4, _ => exact s_load k7 (load_bx n7) i7 gt (wanted_slot rfl (hp 3 rfl) rfl)
      | 5, _ => exact s_call1 enter_Sign (sign_ct _ (zB) w' (hp 4 rfl)) gt (wanted_slot rfl (hp 3 rfl) rfl)
      | 6, _ => exact s_eql (hp 5 rfl) rfl (congrArg Value.bool (show ((sgn (zB)) == 0) = true from mk_sgn hc46)) gt (wanted_slot rfl (hp 3 rfl) rfl)
      | 7, _ => exact s_pickT (hp 3 rfl) (hp 6 rfl) gt
      | 8, _ => exact s_assign (hp 7 rfl) gt
      | _ + 9, h => exact absurd h (by omega)
    intro a10 w10 hb10 hd10 hs10 hk10 hiv10 hsp10
    have hB10 := hB9.trans hb10
    replace hd10 := hd10.trans hd9
    obtain ⟨⟨n5_10, i5_10⟩, ⟨n7_10, i7_10⟩, ⟨n9_10, i9_10⟩, ⟨n11_10, i11_10⟩, _⟩ := hiv10
    have t5_10 := (hk10 5 (by decide)).trans t5_9
    have t7_10 := (hk10 7 (by decide)).trans t7_9
    have t9_10 := (hk10 9 (by decide)).trans t9_9
    have t11_10 := (hk10 11 (by decide)).trans t11_9
    obtain ⟨v4_10, t4_10, I4_10⟩ : ∃ v, a10.tmps[4]? = some v ∧ v = (.bool true) := tv_get (k := 4) (hsp10 8 (by decide)) (by omega)
    clear hb10 hk10 hsp10
    refine wp_ret ?_
    repeat first | refine then_ret ?_ | refine inBlock_ret ?_
    refine bodyPost_ret (res_t rfl t4_10) hd10 ⟨_, rfl, hB10, ?_⟩
    exact I4_10
  · skip
    refine wp_cond_false (show Act.eval a9 (.tmp 46) = .bool false by rw [eval_of t46_9, I46_9]; simp [hc46]) ?_
    refine wp_skip ?_
    change Code.wp _ _ _ _ _
    refine wp_seq ?_
    refine fx3n Zr (l := regionOf Tryd.f3 13) true (by kernel_rfl) 39 93 w.heap.size [5, 7, 9, 11] [Xrt _ _ (Rat.divInt zA zB), Xqt _ (Rat.divInt zA zB), Xval _ _ (.bool true), Xval _ _ (.bool true), Xrt _ _ (Rat.divInt zA zB), Xnum _ _ ((Rat.divInt zA zB).den : Int), Xval _ _ (.int .i64 (sgn (((Rat.divInt zA zB).den : Int)))), Xval _ _ (.bool true), Xval _ _ (.bool true), Xval _ _ (.bool true), Xrt _ _ (Rat.divInt zA zB), Xnum _ _ ((Rat.divInt zA zB).num), Xrt _ _ (Rat.divInt zA zB), Xnum _ _ ((Rat.divInt zA zB).den : Int), Xnum _ _ (Int.gcd ((Rat.divInt zA zB).num) (((Rat.divInt zA zB).den : Int)) : Int), Xval _ _ (.string ⟨(Lib.itoa (Int.gcd ((Rat.divInt zA zB).num) (((Rat.divInt zA zB).den : Int)) : Int)).toArray⟩), Xval _ _ (.bool true), Xval _ _ (.bool true), Xval _ _ (.bool true), Xrt _ _ (Rat.divInt zA zB), Xnum _ _ ((Rat.divInt zA zB).num), Xnum _ _ zB, Xnum _ _ (((Rat.divInt zA zB).num) * zB), Xnum _ _ zA, Xrt _ _ (Rat.divInt zA zB), Xnum _ _ ((Rat.divInt zA zB).den : Int), Xnum _ _ (zA * (((Rat.divInt zA zB).den : Int))), Xval _ _ (.int .i64 (cmpI (((Rat.divInt zA zB).num) * zB) (zA * (((Rat.divInt zA zB).den : Int))))), Xval _ _ (.bool true), Xval _ _ (.bool true), Xval _ _ (.bool true), Xnum _ _ zA, Xrt _ _ ((zA : Int) : Rat), Xval _ _ (.string (rstr ((zA : Int) : Rat).num (lowB ((zA : Int) : Rat).den))), Xnum _ _ zA, Xval _ _ (.string ⟨(Lib.itoa zA).toArray⟩), Xval _ _ (.bool true), Xval _ _ (.bool true), Xval _ _ (.bool true)] (Sx.and (XhI r5_4 (fun h => h) v5_4 (Xnum _ _ zA)) (Sx.and (XhI r7_5 (fun h => h) v7_5 (Xnum _ _ zB)) (Sx.and (XhR r9_6 (fun h => h) v9_6 (Xrt _ _ (Rat.divInt zA zB))) (Sx.and (XhQ r11_7 (fun h => h) v11_7 (Xqt _ (Rat.divInt zA zB))) (Sx.any _))))) (by kernel_rfl) (by kernel_rfl) (by kernel_rfl) hs9 (And.intro (And.intro n5_9 i5_9) (And.intro (And.intro n7_9 i7_9) (And.intro (And.intro n9_9 i9_9) (And.intro (And.intro n11_9 i11_9) trivial)))) hB9.size ?_ ?_
    · intro i hi a w' hb hiv hk hp
      obtain ⟨⟨n5, i5⟩, ⟨n7, i7⟩, ⟨n9, i9⟩, ⟨n11, i11⟩, _⟩ := hiv
      have k5 := (hk 5 (by decide)).trans t5_9
      have k7 := (hk 7 (by decide)).trans t7_9
      have k9 := (hk 9 (by decide)).trans t9_9
      have k11 := (hk 11 (by decide)).trans t11_9
      match i, hi with
      | 0, _ => exact s_load k9 (load_R n9) i9 gt
      | 1, _ => exact s_load k11 (load_Q n11) i11 gt
      | 2, _ => exact s_call2 enter_same2 (same2_any _ _ (Rat.divInt zA zB) w' (hT.below (hB9.trans hb)) (hb9.mono (by decide)) (hq9.mono (by decide)) (hp 0 rfl) (hp 1 rfl)) gt
      | 3, _ => exact s_move (hp 2 rfl) gt
      | 4, _ => exact s_load k9 (load_R n9) i9 gt (wanted_slot rfl (hp 3 rfl) rfl)
      | 5, _ => exact s_call1 enter_bel (rbel_rt _ (Rat.divInt zA zB) w' (hp 4 rfl) (hb9.mono (by decide))) gt (wanted_slot rfl (hp 3 rfl) rfl)
      | 6, _ => exact s_call1 enter_Sign (sign_ct _ (((Rat.divInt zA zB).den : Int)) w' (hp 5 rfl)) gt (wanted_slot rfl (hp 3 rfl) rfl)
      | 7, _ => exact s_gtr (hp 6 rfl) rfl (congrArg Value.bool (show (decide (0 < (sgn (((Rat.divInt zA zB).den : Int))))) = true from mk_pos _)) gt (wanted_slot rfl (hp 3 rfl) rfl)
      | 8, _ => exact s_pickT (hp 3 rfl) (hp 7 rfl) gt
      | 9, _ => exact s_move (hp 8 rfl) gt
      | 10, _ => exact s_load k9 (load_R n9) i9 gt (wanted_slot rfl (hp 9 rfl) rfl)
      | 11, _ => exact s_call1 enter_top (rtop_any _ (Rat.divInt zA zB) w' (hp 10 rfl) (hb9.mono (by decide))) gt (wanted_slot rfl (hp 9 rfl) rfl)
      | 12, _ => exact s_load k9 (load_R n9) i9 gt (wanted_slot rfl (hp 9 rfl) rfl)
      | 13, _ => exact s_call1 enter_bel (rbel_rt _ (Rat.divInt zA zB) w' (hp 12 rfl) (hb9.mono (by decide))) gt (wanted_slot rfl (hp 9 rfl) rfl)
      | 14, _ => exact s_call2 enter_Gcd (gcd_any quoLong_any _ _ ((Rat.divInt zA zB).num) (((Rat.divInt zA zB).den : Int)) w' (hp 11 rfl) (hp 13 rfl) (le4 hb9.n (by decide)) (le4 hb9.d (by decide))) gt (wanted_slot rfl (hp 9 rfl) rfl)
      | 15, _ => exact s_call1 enter_Str (str_ct _ (Int.gcd ((Rat.divInt zA zB).num) (((Rat.divInt zA zB).den : Int)) : Int) w' (hT.below (hB9.trans hb)) (hp 14 rfl) (le4 (gcd_lt2 hb9.n hb9.d) (by decide))) gt (wanted_slot rfl (hp 9 rfl) rfl)
      | 16, _ => exact s_eqS (hp 15 rfl) rfl (congrArg Value.bool (show ((⟨(Lib.itoa (Int.gcd ((Rat.divInt zA zB).num) (((Rat.divInt zA zB).den : Int)) : Int)).toArray⟩ : ByteArray).toList == (⟨#[49]⟩ : ByteArray).toList) = true from eqS (mk_gcd _))) gt (wanted_slot rfl (hp 9 rfl) rfl)
      | 17, _ => exact s_pickT (hp 9 rfl) (hp 16 rfl) gt
      | 18, _ => exact s_move (hp 17 rfl) gt
      | 19, _ => exact s_load k9 (load_R n9) i9 gt (wanted_slot rfl (hp 18 rfl) rfl)
      | 20, _ => exact s_call1 enter_top (rtop_any _ (Rat.divInt zA zB) w' (hp 19 rfl) (hb9.mono (by decide))) gt (wanted_slot rfl (hp 18 rfl) rfl)
      | 21, _ => exact s_load k7 (load_bx n7) i7 gt (wanted_slot rfl (hp 18 rfl) rfl)
      | 22, _ => exact s_call2 enter_Mul (mul_any _ _ ((Rat.divInt zA zB).num) (zB) w' (hp 20 rfl) (hp 21 rfl) (le4 hb9.n (by decide)) (le4 gB (by decide))) gt (wanted_slot rfl (hp 18 rfl) rfl)
      | 23, _ => exact s_load k5 (load_bx n5) i5 gt (wanted_slot rfl (hp 18 rfl) rfl)
      | 24, _ => exact s_load k9 (load_R n9) i9 gt (wanted_slot rfl (hp 18 rfl) rfl)
      | 25, _ => exact s_call1 enter_bel (rbel_rt _ (Rat.divInt zA zB) w' (hp 24 rfl) (hb9.mono (by decide))) gt (wanted_slot rfl (hp 18 rfl) rfl)
      | 26, _ => exact s_call2 enter_Mul (mul_any _ _ (zA) (((Rat.divInt zA zB).den : Int)) w' (hp 23 rfl) (hp 25 rfl) (le4 gA (by decide)) (le4 hb9.d (by decide))) gt (wanted_slot rfl (hp 18 rfl) rfl)
      | 27, _ => exact s_call2 enter_Cmp (cmp_ct _ _ (((Rat.divInt zA zB).num) * zB) (zA * (((Rat.divInt zA zB).den : Int))) w' (hp 22 rfl) (hp 26 rfl) (le4 (mul_lt hb9.n gB) (by decide)) (le4 (mul_lt gA hb9.d) (by decide))) gt (wanted_slot rfl (hp 18 rfl) rfl)
      | 28, _ => exact s_eql (hp 27 rfl) rfl (congrArg Value.bool (show ((cmpI (((Rat.divInt zA zB).num) * zB) (zA * (((Rat.divInt zA zB).den : Int)))) == 0) = true from mk_cross hc46)) gt (wanted_slot rfl (hp 18 rfl) rfl)
      | 29, _ => exact s_pickT (hp 18 rfl) (hp 28 rfl) gt
      | 30, _ => exact s_move (hp 29 rfl) gt
      | 31, _ => exact s_load k5 (load_bx n5) i5 gt (wanted_slot rfl (hp 30 rfl) rfl)
      | 32, _ => exact s_call1 enter_whole (whole_rt _ zA w' (hp 31 rfl) (le3n gA (by decide))) gt (wanted_slot rfl (hp 30 rfl) rfl)
      | 33, _ => exact s_call1 enter_rstr (rstr_rt _ ((zA : Int) : Rat) w' (hT.below (hB9.trans hb)) (hp 32 rfl) ((Bd.whole (k := 60) (Int.lt_of_lt_of_le gA (pw_mono (by decide)))).mono (by decide))) gt (wanted_slot rfl (hp 30 rfl) rfl)
      | 34, _ => exact s_load k5 (load_bx n5) i5 gt (wanted_slot rfl (hp 30 rfl) rfl)
      | 35, _ => exact s_call1 enter_Str (str_ct _ zA w' (hT.below (hB9.trans hb)) (hp 34 rfl) (le4 gA (by decide))) gt (wanted_slot rfl (hp 30 rfl) rfl)
      | 36, _ => exact s_eqS (hp 33 rfl) (hp 35 rfl) (congrArg Value.bool (show ((rstr ((zA : Int) : Rat).num (lowB ((zA : Int) : Rat).den)).toList == (⟨(Lib.itoa zA).toArray⟩ : ByteArray).toList) = true from eqS (mk_whole _))) gt (wanted_slot rfl (hp 30 rfl) rfl)
      | 37, _ => exact s_pickT (hp 30 rfl) (hp 36 rfl) gt
      | 38, _ => exact s_assign (hp 37 rfl) gt
      | _ + 39, h => exact absurd h (by omega)
    intro a10 w10 hb10 hd10 hs10 hk10 hiv10 hsp10
    have hB10 := hB9.trans hb10
    replace hd10 := hd10.trans hd9
    obtain ⟨⟨n5_10, i5_10⟩, ⟨n7_10, i7_10⟩, ⟨n9_10, i9_10⟩, ⟨n11_10, i11_10⟩, _⟩ := hiv10
    obtain ⟨v4_10, t4_10, I4_10⟩ : ∃ v, a10.tmps[4]? = some v ∧ v = (.bool true) := tv_get (k := 4) (hsp10 38 (by decide)) (by omega)
    clear hb10 hk10 hsp10
    refine wp_ret ?_
    repeat first | refine then_ret ?_ | refine inBlock_ret ?_
    refine bodyPost_ret (res_t rfl t4_10) hd10 ⟨_, rfl, hB10, ?_⟩
    exact I4_10

theorem makes_walk (s t : ByteArray) (w : World) (hT : Tab w) (hz : ∀ z ∈ [s, t], z.size ≤ 9223372036854775807) :
    Calls Tryd.prog 3 #[.string s, .string t] w fun e w' => e = .returned (.bool true) ∧ Below w.heap.size w w' := by
  by_cases h : ∀ z ∈ [s, t], z.size ≤ 120
  · obtain ⟨zA, gA, kA, hA⟩ := of2_all s (h s (by simp))
    obtain ⟨zB, gB, kB, hB⟩ := of2_all t (h t (by simp))
    have hb9 : Bd (Rat.divInt zA zB) 40 := by
      by_cases h0 : zB = 0
      · rw [h0, Rat.divInt_zero]
        exact bd_zero.mono (by decide)
      · by_cases h2 : 0 < zB
        · exact Bd.of rfl h2 gA gB
        · rw [← Rat.neg_divInt_neg]
          exact Bd.of rfl (by omega) (neg_pw gA) (neg_pw gB)
    have hq9 : Bq (Rat.divInt zA zB) 100 := by
      by_cases h0 : zB = 0
      · rw [h0, Rat.divInt_zero]
        exact ⟨Int.lt_of_lt_of_le T4.pw_one0 (T4.pw_mono (by decide)), Int.lt_of_lt_of_le T4.pw_one1 (T4.pw_mono (by decide))⟩
      · by_cases h2 : 0 < zB
        · exact Bq.of rfl h2 kA kB
        · rw [← Rat.neg_divInt_neg]
          exact Bq.of rfl (by omega) (T4.neg_lt kA) (T4.neg_lt kB)
    refine Calls.mono (makes_yes s t zA zB h gA kA gB kB hb9 hq9 hA hB w hT) ?_
    rintro e w' ⟨r, rfl, hb, rfl⟩
    exact ⟨rfl, hb⟩
  · refine Calls.mono (makes_no s t hz h w hT) ?_
    rintro e w' ⟨r, rfl, hb, rfl⟩
    exact ⟨rfl, hb⟩

end Go.Proofs.YtlcfldkmojpkpaaDoor

namespace Go.Proofs.YtlcfldkmojpkpaaDoor
open Go.ChangeShapes Go.WideShapes Go.ChangeAt Go.RowKit
open Go.ChangeMaps (open_string shut_string)

theorem ratMakes_own : ownKnob Tryd.prog.godebug = none := by kernel_rfl
theorem ratMakes_g : Tryd.prog.globalNamed "internal/strconv.uint64pow10" = some 0 := by kernel_rfl
theorem ratMakes_gt : (Tryd.prog.globals[0]?).map (·.type) = some 123 := by kernel_rfl
theorem ratMakes_ca : Tryd.prog.cellsOf 123 = 20 := by kernel_rfl
theorem ratMakes_ce : Tryd.prog.cellsOf 66 = 1 := by kernel_rfl
theorem ratMakes_table {W : World} (h : laidMetH Tryd.prog Rows.ratMakesRow.laid W) : Tab W := by
  have h1 := laidMetH.filter (fun x => x.1 == "internal/strconv.uint64pow10") h
  have e : Rows.ratMakesRow.laid.filter (fun x => x.1 == "internal/strconv.uint64pow10") = [("internal/strconv.uint64pow10", Lib.tabData .u64 Lib.pow10Tab)] := by kernel_rfl
  rw [e] at h1
  exact Lib.tabIs_of_head (rest := []) ratMakes_g ratMakes_gt Tryd.underlying123 Tryd.underlying66 ratMakes_ce ratMakes_ca h1

set_option maxRecDepth 100000 in
theorem ratMakes_contract (H : Type) (enc : TypeId × Value → H) (W : World) (base : Nat) (args : Array Value) (ds gs : List (DataW H)) (before : List MemPlace)
    (hval : ∀ (j : Nat) t v, Tryd.f3.params[j]? = some t → args[j]? = some v → Value.okWide Tryd.prog W .any base t v)
    (hW : DataW.Whole enc Tryd.prog Tryd.f3.params.toList Rows.ratMakesSpec.vars false W args.toList ds gs before) (hL : laidMetH Tryd.prog Rows.ratMakesRow.laid W) :
    Calls Tryd.prog 3 args W fun e W' => ∃ v, e = .returned v ∧ Rows.ratMakesSpec.post enc Tryd.prog Tryd.f3 false true false false W args v W' := by
  have hW' := hW
  obtain ⟨p, q, hA0, hV, rfl, hfz, hnd⟩ := hW
  have hA : DataW.TrodAll enc Tryd.prog W 0 (fun _ => true) true Tryd.f3.params.toList args.toList ds p := hA0
  rw [Tryd.params3] at hA hval
  obtain ⟨v0, vs0, d0, ds0, p0, q0, hargs, rfl, rfl, h0, r0⟩ := trodAll_cons hA
  obtain ⟨v1, vs1, d1, ds1, p1, q1, rfl, rfl, rfl, h1, r1⟩ := trodAll_cons r0
  obtain ⟨rfl, rfl, rfl⟩ := trodAll_nil r1
  obtain rfl : args = #[v0, v1] := by cases args; simp_all
  obtain ⟨rfl, rfl⟩ := trodVars_none hV
  obtain ⟨s0, rfl, rfl, rfl, w0⟩ := open_string Tryd.underlying9 (hval 0 9 v0 rfl rfl) h0
  obtain ⟨s1, rfl, rfl, rfl, w1⟩ := open_string Tryd.underlying9 (hval 1 9 v1 rfl rfl) h1
  clear hA0 hargs
  simp only [List.append_nil] at hW'
  have m0 : s0.size ≤ 9223372036854775807 := by unfold maxLen at w0; omega
  have m1 : s1.size ≤ 9223372036854775807 := by unfold maxLen at w1; omega
  refine (makes_walk s0 s1 W (ratMakes_table hL) (fac m0 (fac m1 fan))).mono fun e W' ⟨he, hnx⟩ => ?_
  subst he
  refine ⟨_, rfl, _, _, _, [], [], [], hW', ?_, ?_, rfl, hnx.frame _, fun h => by cases h⟩
  · exact trodAll_cons_mk (shut_bool Tryd.underlying4 _) trodAll_mk0
  · exact (trodAll_cons_mk (shut_string Tryd.underlying9 w0) (trodAll_cons_mk (shut_string Tryd.underlying9 w1) trodAll_mk0))

def ratMakes_put (cs : Array Value) : Obj → Obj
  | .cells _ t frozen => .cells cs t frozen
  | o => o
theorem ratMakes_met (os : Os) : laidMet Tryd.prog Rows.ratMakesRow.laid (({ World.holding Tryd.prog os ⟨#[], #[], []⟩ with heap := (((World.holding Tryd.prog os ⟨#[], #[], []⟩).heap.modify 0 (ratMakes_put #[.int .u64 1, .int .u64 10, .int .u64 100, .int .u64 1000, .int .u64 10000, .int .u64 100000, .int .u64 1000000, .int .u64 10000000, .int .u64 100000000, .int .u64 1000000000, .int .u64 10000000000, .int .u64 100000000000, .int .u64 1000000000000, .int .u64 10000000000000, .int .u64 100000000000000, .int .u64 1000000000000000, .int .u64 10000000000000000, .int .u64 100000000000000000, .int .u64 1000000000000000000, .int .u64 10000000000000000000])).modify 1 (ratMakes_put #[.int .u8 0, .int .u8 1, .int .u8 28, .int .u8 2, .int .u8 29, .int .u8 14, .int .u8 24, .int .u8 3, .int .u8 30, .int .u8 22, .int .u8 20, .int .u8 15, .int .u8 25, .int .u8 17, .int .u8 4, .int .u8 8, .int .u8 31, .int .u8 27, .int .u8 13, .int .u8 23, .int .u8 21, .int .u8 19, .int .u8 16, .int .u8 7, .int .u8 26, .int .u8 12, .int .u8 18, .int .u8 6, .int .u8 11, .int .u8 5, .int .u8 10, .int .u8 9])).modify 2 (ratMakes_put #[.int .u8 0, .int .u8 1, .int .u8 56, .int .u8 2, .int .u8 57, .int .u8 49, .int .u8 28, .int .u8 3, .int .u8 61, .int .u8 58, .int .u8 42, .int .u8 50, .int .u8 38, .int .u8 29, .int .u8 17, .int .u8 4, .int .u8 62, .int .u8 47, .int .u8 59, .int .u8 36, .int .u8 45, .int .u8 43, .int .u8 51, .int .u8 22, .int .u8 53, .int .u8 39, .int .u8 33, .int .u8 30, .int .u8 24, .int .u8 18, .int .u8 12, .int .u8 5, .int .u8 63, .int .u8 55, .int .u8 48, .int .u8 27, .int .u8 60, .int .u8 41, .int .u8 37, .int .u8 16, .int .u8 46, .int .u8 35, .int .u8 44, .int .u8 21, .int .u8 52, .int .u8 32, .int .u8 23, .int .u8 11, .int .u8 54, .int .u8 26, .int .u8 40, .int .u8 15, .int .u8 34, .int .u8 20, .int .u8 31, .int .u8 10, .int .u8 25, .int .u8 14, .int .u8 19, .int .u8 9, .int .u8 13, .int .u8 8, .int .u8 7, .int .u8 6]) } : World).forCall (fun _ _ => 0) ⟨#[], #[.string ⟨#[]⟩, .string ⟨#[]⟩], []⟩).memory :=
  laidMet_of_run' 8 (by kernel_rfl) (by kernel_rfl)
theorem ratMakes_reads (os : Os) {H : Type} (enc : TypeId × Value → H) : ∃ places, DataW.whole enc Tryd.prog (({ World.holding Tryd.prog os ⟨#[], #[], []⟩ with heap := (((World.holding Tryd.prog os ⟨#[], #[], []⟩).heap.modify 0 (ratMakes_put #[.int .u64 1, .int .u64 10, .int .u64 100, .int .u64 1000, .int .u64 10000, .int .u64 100000, .int .u64 1000000, .int .u64 10000000, .int .u64 100000000, .int .u64 1000000000, .int .u64 10000000000, .int .u64 100000000000, .int .u64 1000000000000, .int .u64 10000000000000, .int .u64 100000000000000, .int .u64 1000000000000000, .int .u64 10000000000000000, .int .u64 100000000000000000, .int .u64 1000000000000000000, .int .u64 10000000000000000000])).modify 1 (ratMakes_put #[.int .u8 0, .int .u8 1, .int .u8 28, .int .u8 2, .int .u8 29, .int .u8 14, .int .u8 24, .int .u8 3, .int .u8 30, .int .u8 22, .int .u8 20, .int .u8 15, .int .u8 25, .int .u8 17, .int .u8 4, .int .u8 8, .int .u8 31, .int .u8 27, .int .u8 13, .int .u8 23, .int .u8 21, .int .u8 19, .int .u8 16, .int .u8 7, .int .u8 26, .int .u8 12, .int .u8 18, .int .u8 6, .int .u8 11, .int .u8 5, .int .u8 10, .int .u8 9])).modify 2 (ratMakes_put #[.int .u8 0, .int .u8 1, .int .u8 56, .int .u8 2, .int .u8 57, .int .u8 49, .int .u8 28, .int .u8 3, .int .u8 61, .int .u8 58, .int .u8 42, .int .u8 50, .int .u8 38, .int .u8 29, .int .u8 17, .int .u8 4, .int .u8 62, .int .u8 47, .int .u8 59, .int .u8 36, .int .u8 45, .int .u8 43, .int .u8 51, .int .u8 22, .int .u8 53, .int .u8 39, .int .u8 33, .int .u8 30, .int .u8 24, .int .u8 18, .int .u8 12, .int .u8 5, .int .u8 63, .int .u8 55, .int .u8 48, .int .u8 27, .int .u8 60, .int .u8 41, .int .u8 37, .int .u8 16, .int .u8 46, .int .u8 35, .int .u8 44, .int .u8 21, .int .u8 52, .int .u8 32, .int .u8 23, .int .u8 11, .int .u8 54, .int .u8 26, .int .u8 40, .int .u8 15, .int .u8 34, .int .u8 20, .int .u8 31, .int .u8 10, .int .u8 25, .int .u8 14, .int .u8 19, .int .u8 9, .int .u8 13, .int .u8 8, .int .u8 7, .int .u8 6]) } : World).forCall (fun _ _ => 0) ⟨#[], #[.string ⟨#[]⟩, .string ⟨#[]⟩], []⟩).memory Tryd.f3.params.toList Rows.ratMakesSpec.vars false #[Value.string ⟨#[]⟩, Value.string ⟨#[]⟩].toList 8 = some ([.lit (.string []), .lit (.string [])], [], places) :=
  ⟨[], by kernel_rfl⟩

set_option maxRecDepth 100000 in
theorem ratMakes_lifted (os : Os) (started : os.Started) (H : Type) (enc : TypeId × Value → H) (F : Stop.Interp) :
    ReturnsInHanded {} Tryd.checked os 3 .any ((OpenSpec.ofChange Rows.ratMakesSpec).preRow enc Tryd.prog Tryd.f3 Rows.ratMakesRow.domain false Rows.ratMakesRow.laid) (((OpenSpec.ofChange Rows.ratMakesSpec).at F).post enc Tryd.prog Tryd.f3 false true false false) := by
  obtain ⟨places, hx⟩ := ratMakes_reads os enc
  refine returnsInHanded_of_row (C := Tryd.checked) (s := OpenSpec.ofChange Rows.ratMakesSpec) ratMakes_own started (by kernel_rfl) Tryd.func3
    (witness_row_at (enc := enc) (C := Tryd.checked) false ({ World.holding Tryd.prog os ⟨#[], #[], []⟩ with heap := (((World.holding Tryd.prog os ⟨#[], #[], []⟩).heap.modify 0 (ratMakes_put #[.int .u64 1, .int .u64 10, .int .u64 100, .int .u64 1000, .int .u64 10000, .int .u64 100000, .int .u64 1000000, .int .u64 10000000, .int .u64 100000000, .int .u64 1000000000, .int .u64 10000000000, .int .u64 100000000000, .int .u64 1000000000000, .int .u64 10000000000000, .int .u64 100000000000000, .int .u64 1000000000000000, .int .u64 10000000000000000, .int .u64 100000000000000000, .int .u64 1000000000000000000, .int .u64 10000000000000000000])).modify 1 (ratMakes_put #[.int .u8 0, .int .u8 1, .int .u8 28, .int .u8 2, .int .u8 29, .int .u8 14, .int .u8 24, .int .u8 3, .int .u8 30, .int .u8 22, .int .u8 20, .int .u8 15, .int .u8 25, .int .u8 17, .int .u8 4, .int .u8 8, .int .u8 31, .int .u8 27, .int .u8 13, .int .u8 23, .int .u8 21, .int .u8 19, .int .u8 16, .int .u8 7, .int .u8 26, .int .u8 12, .int .u8 18, .int .u8 6, .int .u8 11, .int .u8 5, .int .u8 10, .int .u8 9])).modify 2 (ratMakes_put #[.int .u8 0, .int .u8 1, .int .u8 56, .int .u8 2, .int .u8 57, .int .u8 49, .int .u8 28, .int .u8 3, .int .u8 61, .int .u8 58, .int .u8 42, .int .u8 50, .int .u8 38, .int .u8 29, .int .u8 17, .int .u8 4, .int .u8 62, .int .u8 47, .int .u8 59, .int .u8 36, .int .u8 45, .int .u8 43, .int .u8 51, .int .u8 22, .int .u8 53, .int .u8 39, .int .u8 33, .int .u8 30, .int .u8 24, .int .u8 18, .int .u8 12, .int .u8 5, .int .u8 63, .int .u8 55, .int .u8 48, .int .u8 27, .int .u8 60, .int .u8 41, .int .u8 37, .int .u8 16, .int .u8 46, .int .u8 35, .int .u8 44, .int .u8 21, .int .u8 52, .int .u8 32, .int .u8 23, .int .u8 11, .int .u8 54, .int .u8 26, .int .u8 40, .int .u8 15, .int .u8 34, .int .u8 20, .int .u8 31, .int .u8 10, .int .u8 25, .int .u8 14, .int .u8 19, .int .u8 9, .int .u8 13, .int .u8 8, .int .u8 7, .int .u8 6]) } : World) #[.string ⟨#[]⟩, .string ⟨#[]⟩] rfl (by kernel_rfl) (by kernel_rfl) (by kernel_rfl)
      (OpenSpec.preRow_of_cond 8 hx (by kernel_rfl) (fun k hk => by cases hk) (by kernel_rfl) (ratMakes_met os))) ?_
  intro W base args ds gs before hval hW _ _ _ hL _ _
  exact ratMakes_contract H enc W base args ds gs before hval hW hL

theorem ratMakes_said : Rows.RatMakesSaid :=
  OpenClaim.holds_of_cond 3 Tryd.f3 rfl rfl rfl rfl rfl rfl rfl ⟨rfl, rfl, rfl, rfl, rfl⟩ rfl rfl rfl rfl rfl (by kernel_rfl) Tryd.func3 (by kernel_rfl)
    (of_decide_eq_true (by kernel_rfl)) (by unfold Func.isWrapper; first | (rw [if_pos (by decide +kernel)]; kernel_rfl) | (rw [if_neg (by decide +kernel)]; exact ⟨rfl, rfl⟩))
    (fun os started H enc _ F => by rw [OpenClaim.pre_eq_preRow]; exact ratMakes_lifted os started H enc F)

theorem ratMakes_plain (f : FuncId) (fn : Func) (hf : Tryd.pinned.checked.prog.funcNamed "avow/avowlaw2.RatMakes" = some f) (hfn : Tryd.pinned.checked.prog.funcs[f]? = some fn) :
    false = Tryd.pinned.checked.prog.looks [] ∧ ∀ (j : Nat) t, fn.params[j]? = some t → Tryd.pinned.checked.prog.wantsStandIn t = false := by
  obtain rfl : f = 3 := Option.some.inj ((show Tryd.prog.funcNamed "avow/avowlaw2.RatMakes" = some 3 by kernel_rfl).symm.trans hf) |>.symm
  obtain rfl : fn = Tryd.f3 := (Option.some.inj (Tryd.func3.symm.trans hfn)).symm
  refine ⟨by kernel_rfl, fun j t ht => ?_⟩
  rw [Tryd.params3] at ht
  obtain rfl : t = 9 := by simpa using Array.mem_of_getElem? ht
  exact (show Tryd.prog.wantsStandIn 9 = false by kernel_rfl)

theorem ratMakes_holds : Rows.RatMakesCardSaid :=
  Claim7.holds_tied_plain_at .later [] _ _ _ _ ratMakes_said (fun _ h => by cases h) (by kernel_rfl) (fun _ h => by cases h) ratMakes_row_tie rfl ⟨rfl, rfl⟩ (by kernel_rfl) rfl ratMakes_plain (by kernel_rfl)

end Go.Proofs.YtlcfldkmojpkpaaDoor
