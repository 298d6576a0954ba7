/- A region 'x, y := f(..), g(..)' whose variables are boxed: it draws its order. -/
import Derived.Test.YtlcfldkmojpkpaaGreatDoorDD
import Derived.Laws.AppendOwnNone
import Derived.Test.YtlcfldkmojpkpaaGreatDoorP1
import Derived.Laws.RangeAny
import Derived.Test.YtlcfldkmojpkpaaGreatDoorO1
import Derived.Test.YtlcfldkmojpkpaaGreatDoorO2
import Derived.BigRegion
import Derived.Lib.ItoaNum
import Derived.Test.YtlcfldkmojpkpaaGreatDoorK1
import Derived.Test.YtlcfldkmojpkpaaGreatDoorN2
import Derived.Test.YtlcfldkmojpkpaaGreatDoorL0

/- The document's numbers: so many times, by a digit. -/
namespace Go.Proofs.YtlcfldkmojpkpaaGreatDoor
open Go Go.RowKit

theorem timesN_step (X zs : List Int) (k : Nat) (m c x : Int) (hz : zs.length = k) (hx : X[k]?.getD 0 = x) (h : T4.val zs + T4.pw k * c = m * T4.val (X.take k)) :
    ∀ d c' : Int, c + x * m = d + 10000 * c' → T4.val (zs ++ [d]) + T4.pw (k + 1) * c' = m * T4.val (X.take (k + 1)) := by
  intro d c' e
  rw [T4.val_snoc, hz, T4.val_take_succ', hx]
  simp only [T4.pw]
  have e2 : T4.pw k * c + T4.pw k * (x * m) = T4.pw k * d + T4.pw k * (10000 * c') := by rw [← Int.mul_add, ← Int.mul_add, e]
  have e3 : T4.pw k * (10000 * c') = 10000 * T4.pw k * c' := by rw [← Int.mul_assoc, Int.mul_comm (T4.pw k)]
  have e4 : m * (T4.val (X.take k) + T4.pw k * x) = m * T4.val (X.take k) + T4.pw k * (x * m) := by
    rw [Int.mul_add, ← Int.mul_assoc m, Int.mul_comm m (T4.pw k), Int.mul_assoc, Int.mul_comm m x]
  omega

theorem field_d {w : World} {b : Bool} {a : Option Addr} {l c : Nat} : (Instr.field 31 (.agg #[.bool b, .slice a l c]) 1).run Tryz.prog w = .ok (.slice a l c) w := by kernel_rfl

set_option maxRecDepth 100000 in
set_option maxHeartbeats 1600000 in
theorem timesN_any (vx : Value) (xs : List Int) (m : Int) (w : World) (hmx : Ns w vx xs) (hdx : T4.Dig xs) (hlx : xs.length ≤ 10000) (m0 : 0 ≤ m) (m1 : m < 10000) :
    Calls Tryz.prog 68 #[vx, .int .i64 m] w fun e w' => ∃ v zs, e = .returned v ∧ Below w.heap.size w w' ∧ Ns w' v zs ∧ T4.Dig zs ∧ T4.Norm zs ∧ T4.val zs = m * T4.val xs := by
  obtain ⟨i0, hi, hz0, hz1, hz2⟩ := info_parts infoInt
  obtain ⟨ax, capx, rfl, hcx, hatx⟩ := hmx
  go_enter Tryz.func68, Tryz.ntmps68
  go_wp2
  go_loopw [5, 6, 7] (fun dv cv iv wr => ∃ (k : Nat) (cr : Int) (zs : List Int), iv = .int .i64 k ∧ cv = .int .i64 cr ∧ 0 ≤ cr ∧ cr < 10000 ∧ (k ≤ xs.length ∨ k = xs.length + 1 ∧ cr = 0) ∧ zs.length = k ∧ wr.ownsRow w.heap.size 3 1 dv zs.length (zs.map (Value.int .i64)) ∧ Below w.heap.size w wr ∧ T4.Dig zs ∧ T4.val zs + T4.pw k * cr = m * T4.val (xs.take k)) (fun _ _ iv _ => xs.length + 1 - (intOf iv).toNat)
  case atStart => exact ⟨0, 0, [], rfl, rfl, by omega, by omega, .inl (Nat.zero_le _), rfl, World.ownsRow_nil _ _ _ _, Below.refl _ _, T4.Dig.nil, by simp [T4.val, T4.pw]⟩
  case round =>
    obtain ⟨k, cr, zs, rfl, rfl, hc0, hc1, hkm, hzl, hown, hbel, hdz, hval⟩ := hrel
    obtain ⟨x, hx, hx0, hx1⟩ := hdx.get k
    have hzle : zs.length ≤ 100000 := by omega
    have HV := hide hval
    have HZ := hide hzl
    have HX := hide hx
    have HK := hide hkm
    have key := hide (timesN_step xs zs k m cr x hzl hx hval)
    have hkb : k ≤ 10001 := by omega
    clear hval hzl hx hkm
    by_cases hX : k < xs.length
    · obtain ⟨bx, ox, rfl, hbx, hcx9⟩ := hatx (by intro e; subst e; simp at hX)
      have hcxk : wr.cell? ⟨bx, ox + k, none⟩ = some (.int .i64 x) := by rw [← unhide HX]; exact (hbel.cell (p := ⟨bx, ox + k, none⟩) hbx).trans (hcx9 k hX)
      have hXi : (k : Int) < (xs.length : Int) := by omega
      obtain ⟨hm0, hm1⟩ := mulN_bd hx0 hx1 m0 m1
      go_wp2_with (at_builtin; refine wpList_append_own _ rfl _ _ 29 rfl w.heap.size 3 i0 (.int .i64 0) 1 8 Tryz.underlying29 hi hz0 hz1 hz2 rfl (by decide) _ _ _ rfl (hown.alloc _) ⟨wr.heap.size, 0, none⟩ 1 1 [.int .i64 ((cr + x * m) % 10000)] rfl rfl (cell_one_new _ _ _) (one64 _) ?c3 ?c4 ?c5 ?_)
      case c3 => unfold maxLen; omega
      case c4 => omega
      case c5 => have := hbel.size; simp; omega
      intro v' w1 hown' hgrow _
      have hB := (hbel.alloc hbel.size (.cells #[.int .i64 ((cr + x * m) % 10000)] 3)).grown hgrow (by have := hbel.size; simp; omega) (fun k hk => (hown.lt k hk).1)
      have hO := own_snocI hown'
      clear hown' hgrow hown hbel
      go_wp2
      exact ⟨⟨k + 1, (cr + x * m) / 10000, zs ++ [(cr + x * m) % 10000], by simp, rfl, by omega, by omega, by omega, by simp [unhide HZ], hO, hB, hdz.append (T4.Dig.one (by omega) (by omega)), unhide key _ _ (by omega)⟩, by simp [intOf]; omega⟩
    · have hXn : ¬ (k : Int) < (xs.length : Int) := by omega
      by_cases hc : 0 < cr
      · obtain rfl : x = 0 := by rw [← unhide HX, List.getElem?_eq_none (by omega)]; rfl
        have hkx : k = xs.length := by have := unhide HK; omega
        have HKX := hide hkx
        clear hkx
        go_wp2_with (at_builtin; refine wpList_append_own _ rfl _ _ 29 rfl w.heap.size 3 i0 (.int .i64 0) 1 8 Tryz.underlying29 hi hz0 hz1 hz2 rfl (by decide) _ _ _ rfl (hown.alloc _) ⟨wr.heap.size, 0, none⟩ 1 1 [.int .i64 (cr % 10000)] rfl rfl (cell_one_new _ _ _) (one64 _) ?c3 ?c4 ?c5 ?_)
        case c3 => unfold maxLen; omega
        case c4 => omega
        case c5 => have := hbel.size; simp; omega
        intro v' w1 hown' hgrow _
        have hB := (hbel.alloc hbel.size (.cells #[.int .i64 (cr % 10000)] 3)).grown hgrow (by have := hbel.size; simp; omega) (fun k hk => (hown.lt k hk).1)
        have hO := own_snocI hown'
        clear hown' hgrow hown hbel
        go_wp2
        exact ⟨⟨k + 1, cr / 10000, zs ++ [cr % 10000], by simp, rfl, by omega, by omega, by have := unhide HKX; omega, by simp [unhide HZ], hO, hB, hdz.append (T4.Dig.one (by omega) (by omega)), unhide key _ _ (by omega)⟩, by have := unhide HKX; simp [intOf]; omega⟩
      · obtain rfl : cr = 0 := by omega
        have HR := hide (show T4.val zs = m * T4.val xs by
          have := unhide HV
          rw [List.take_of_length_le (by omega)] at this
          omega)
        have hm := Ns.of_owns hown
        have hT := trimN_is false _ zs wr hm hdz hzle
        simp only [Bool.false_eq_true, if_false, unhide HR] at hT
        have HT := hide hT
        have HP := hide (Int.mul_nonneg m0 (T4.val_nonneg hdx))
        clear hown hT
        go_wp2_with fail
        refine (unhide HT).mono ?_
        rintro e w3 ⟨r, rfl, hb3, hi3⟩
        obtain ⟨a3, l3, c3, zs3, rfl, n3, d3, o3, v3⟩ := hi3
        have HN := hide (And.intro n3 (And.intro d3 (And.intro o3 v3)))
        have HB := hide (hbel.trans (hb3.mono hbel.size))
        clear n3 d3 o3 v3 hb3
        have hfd := field_d (w := w3) (b := decide (m * T4.val xs < 0)) (a := a3) (l := l3) (c := c3)
        go_wp2
        go_ret
        refine ⟨_, zs3, rfl, unhide HB, (unhide HN).1, (unhide HN).2.1, (unhide HN).2.2.1, ?_⟩
        have h9 := (unhide HN).2.2.2
        have h8 := unhide HP
        omega

end Go.Proofs.YtlcfldkmojpkpaaGreatDoor

/- The document's numbers: trim where the sign is no; digits by digits. -/
namespace Go.Proofs.YtlcfldkmojpkpaaGreatDoor
open Go Go.RowKit

set_option maxRecDepth 100000 in
set_option maxHeartbeats 800000 in
theorem trimD_is (a : Option Addr) (cap : Nat) (xs : List Int) (w : World) (hm : Ns w (.slice a xs.length cap) xs) (hd : T4.Dig xs) (hl : xs.length ≤ 100000) :
    Calls Tryz.prog 39 #[.bool false, .slice a xs.length cap] w fun e w' => ∃ r k, e = .returned r ∧ r = .agg #[.bool false, .slice a k cap] ∧ Below w.heap.size w w' ∧ Ns w' (.slice a k cap) (xs.take k) ∧ T4.Dig (xs.take k) ∧ T4.Norm (xs.take k) ∧ T4.val (xs.take k) = T4.val xs := by
  have hm' := hm
  obtain ⟨a', cap', e', hcap, hat⟩ := hm
  simp only [Value.slice.injEq, true_and] at e'
  obtain ⟨rfl, rfl⟩ := e'
  have HF := hide (fun (k : Nat) (W : World) (hB : Below w.heap.size w W) (hk : k ≤ xs.length) (hz : ∀ j, k ≤ j → j < xs.length → xs[j]?.getD 0 = 0) (ht : 0 < k → xs[k - 1]?.getD 0 ≠ 0) => (⟨(hm'.take hk).below hB, trim_spec hd k hk hz ht⟩ : Ns W (.slice a k cap) (xs.take k) ∧ T4.Dig (xs.take k) ∧ T4.Norm (xs.take k) ∧ T4.val (xs.take k) = T4.val xs))
  clear hm'
  go_enter Tryz.func39, Tryz.ntmps39
  go_wp2
  go_loop [1] (fun sv => ∃ k : Nat, k ≤ xs.length ∧ sv = .slice a k cap ∧ ∀ j, k ≤ j → j < xs.length → xs[j]?.getD 0 = 0) (fun sv => lenOf sv)
  case atStart => exact ⟨xs.length, Nat.le_refl _, rfl, fun j h1 h2 => by omega⟩
  case round =>
    obtain ⟨k, hk, rfl, hz⟩ := hrel
    have hcap' : k ≤ cap := by omega
    have HZ := hide hz
    clear hz
    by_cases hk0 : 0 < k
    · obtain ⟨b, off, rfl, hb, hc⟩ := hat (by intro e; subst e; simp at hk; omega)
      have hck := hc (k - 1) (by omega)
      have hin : (k : Int) - 1 = ((k - 1 : Nat) : Int) := by omega
      obtain ⟨d, hdd⟩ : ∃ d, xs[k - 1]?.getD 0 = d := ⟨_, rfl⟩
      rw [hdd] at hck
      have HD := hide hdd
      clear hc hat hdd
      by_cases hv : d = 0
      · have hv' : (d == 0) = true := by simp [hv]
        have HV := hide hv
        clear hv
        go_wp2
        refine ⟨⟨k - 1, by omega, rfl, fun j h1 h2 => ?_⟩, by simp [lenOf]; omega⟩
        by_cases e : j = k - 1
        · rw [e, unhide HD, unhide HV]
        · exact unhide HZ j (by omega) h2
      · have hv' : (d == 0) = false := by simp [hv]
        have HV := hide hv
        clear hv
        have HR := hide (fun (W : World) (hB : Below w.heap.size w W) => unhide HF k W hB hk (unhide HZ) (fun _ => by rw [unhide HD]; exact unhide HV))
        clear HF
        go_wp2
        exact bodyPost_ret (v := .agg #[.bool false, .slice (some ⟨b, off, none⟩) k cap]) (by simp [results, Tryz.results39, go_sem]) rfl ⟨_, rfl, k, rfl, (Below.refl _ w).alloc (Nat.le_refl _) _, unhide HR _ ((Below.refl _ w).alloc (Nat.le_refl _) _)⟩
    · obtain rfl : k = 0 := by omega
      have HR := hide (fun (W : World) (hB : Below w.heap.size w W) => unhide HF 0 W hB hk (unhide HZ) (fun h => absurd h (by omega)))
      clear hat HF
      go_wp2
      exact bodyPost_ret (v := .agg #[.bool false, .slice a 0 cap]) (by simp [results, Tryz.results39, go_sem]) rfl ⟨_, rfl, 0, rfl, (Below.refl _ w).alloc (Nat.le_refl _) _, unhide HR _ ((Below.refl _ w).alloc (Nat.le_refl _) _)⟩

theorem own_oneI {base : Nat} (w : World) (d : Int) (hb : base ≤ w.heap.size) : (w.alloc (.cells #[.int .i64 d] 3)).ownsRow base 3 1 (.slice (some ⟨w.heap.size, 0, none⟩) 1 1) 1 [.int .i64 d] :=
  ⟨by simp, .inr ⟨w.heap.size, 1, #[.int .i64 d], rfl, hb, heap_alloc_new w _, Nat.le_refl _, by unfold maxLen; omega, rfl, by simp⟩⟩

theorem run_append_none_c {P : Program} {w : World} (base : Nat) (t ty e : TypeId) (i : TypeInfo) (size : Nat) (ht : P.underlying t = some (.slice e)) (hi : P.info? e = some i)
    (v : Value) (n : Nat) (xs : List Value) (hown : w.ownsRow base e size v n xs) (c : Nat) :
    (Builtin.append_ #[t, t] ty #[v, .slice none 0 c]).run P w = .ok v w := by
  rcases hown.2 with ⟨rfl, rfl⟩ | ⟨g, cap, cur, rfl, _, _, hnc, _⟩
  · simp [Builtin.append_, run_underlying ht, sizeOf, typeInfo, hi, Builtin.lenOf, Builtin.firstCells]
  · simp [Builtin.append_, run_underlying ht, sizeOf, typeInfo, hi, Builtin.lenOf, Builtin.firstCells, hnc, storeCells]
theorem wpList_append_none_c {P : Program} {w : World} {ops : Array Oper} {rest : List Oper} {o : Oper} {a : Act} {Q : Exit → Act → World → Prop} (hgd : o.guard = none) (s x : Operand) (t : TypeId)
    (ho : o.op = .call { callee := .builtin .append, args := #[s, x], argTypes := #[t, t] })
    (base : Nat) (e : TypeId) (i : TypeInfo) (size : Nat) (ht : P.underlying t = some (.slice e)) (hi : P.info? e = some i)
    (v : Value) (n : Nat) (xs : List Value) (hs : a.eval s = v) (hown : w.ownsRow base e size v n xs) (c : Nat) (hx : a.eval x = .slice none 0 c)
    (h : wpList P ops Q rest (a.put o.dst v) w) : wpList P ops Q (o :: rest) a w := by
  refine wpList_plain hgd fun K hK => ?_
  have hrun := run_append_none_c (P := P) (w := w) base t o.type e i size ht hi v n xs hown c
  unfold Oper.wp
  simp [execOp, ho, resolve, invoke, builtin, hs, hx, hrun, Result.andThen]
  exact hK _ _ h
set_option maxRecDepth 100000 in
theorem wpList_append_ns {w : World} {ops : Array Oper} {rest : List Oper} {o : Oper} {a : Act} {Q : Exit → Act → World → Prop} (hgd : o.guard = none) (s x : Operand)
    (ho : o.op = .call { callee := .builtin .append, args := #[s, x], argTypes := #[29, 29] })
    (base : Nat) (v : Value) (n : Nat) (xs : List Value) (hs : a.eval s = v) (hown : w.ownsRow base 3 1 v n xs)
    (vs : Value) (ys : List Int) (hx : a.eval x = vs) (hns : Ns w vs ys) (hl : n + ys.length ≤ 100000) (hbase : base ≤ w.heap.size)
    (h : ∀ v' w', w'.ownsRow base 3 1 v' (n + ys.length) (xs ++ ys.map (Value.int .i64)) → w.grownBy w' v.ownBlock → wpList Tryz.prog ops Q rest (a.put o.dst v') w') : wpList Tryz.prog ops Q (o :: rest) a w := by
  obtain ⟨i0, hi, hz0, hz1, hz2⟩ := info_parts infoInt
  obtain ⟨a', cap, rfl, hc, hat⟩ := hns
  by_cases hy : ys = []
  · subst hy
    cases a' with
    | none => exact wpList_append_none_c hgd s x 29 ho base 3 i0 1 Tryz.underlying29 hi v n xs hs hown cap hx (h v w (by simpa using hown) ⟨rfl, rfl, rfl, Nat.le_refl _, fun _ _ _ => rfl⟩)
    | some p => exact wpList_append_own w hgd s x 29 ho base 3 i0 (.int .i64 0) 1 8 Tryz.underlying29 hi hz0 hz1 hz2 rfl (by decide) v n xs hs hown p 0 cap [] hx rfl (fun j u hj => by simp at hj) (fun u hu => by simp at hu) (by unfold maxLen; simp at hl; omega) (by simp at hl; omega) hbase (fun v' w' h1 h2 _ => h v' w' (by simpa using h1) h2)
  · obtain ⟨b, off, rfl, hb, hcell⟩ := hat hy
    refine wpList_append_own w hgd s x 29 ho base 3 i0 (.int .i64 0) 1 8 Tryz.underlying29 hi hz0 hz1 hz2 rfl (by decide) v n xs hs hown ⟨b, off, none⟩ ys.length cap (ys.map (Value.int .i64)) hx (by simp) (fun j u hj => ?_) (fun u hu => ?_) (by unfold maxLen; omega) (by omega) hbase (fun v' w' h1 h2 _ => h v' w' h1 h2)
    · have hjl : j < ys.length := by
        have := (List.getElem?_eq_some_iff.1 hj).1
        simpa using this
      rw [Addr.add_lit, hcell j hjl]
      rw [List.getElem?_map, List.getElem?_eq_getElem hjl] at hj
      rw [List.getElem?_eq_getElem hjl]
      simpa using hj
    · simp only [List.mem_map] at hu
      obtain ⟨d, _, rfl⟩ := hu
      rfl

end Go.Proofs.YtlcfldkmojpkpaaGreatDoor

/- The document's numbers: digits by digits, rounded down, and what is left. -/
namespace Go.Proofs.YtlcfldkmojpkpaaGreatDoor
open Go Go.RowKit

theorem cmpI_le (a b : Int) : cmpI a b ≤ 0 ↔ a ≤ b := by
  unfold cmpI
  split
  · omega
  · split <;> omega
theorem val_cons4 (x : Int) (xs : List Int) : T4.val (x :: xs) = x + 10000 * T4.val xs := rfl
theorem part_inv {xs : List Int} {j : Nat} {x : Int} (hx : xs[j]?.getD 0 = x) (hj : j < xs.length) {q Y r lo R : Int} (h : T4.val (xs.drop (j + 1)) = q * Y + r) (hR : R = x + 10000 * r) : T4.val (xs.drop j) = (lo + 10000 * q) * Y + (R - lo * Y) := by
  rw [List.getElem?_eq_getElem hj, Option.getD_some] at hx
  rw [List.drop_eq_getElem_cons hj, val_cons4, h, hx, hR]
  grind

theorem part_lt {R lo Y : Int} (h : R < (lo + 1) * Y) : R - lo * Y < Y := by
  rw [Int.add_mul] at h
  omega

set_option maxRecDepth 100000 in
set_option maxHeartbeats 1600000 in
theorem partN_any (va vb : Value) (xs ys : List Int) (w : World) (h1 : Ns w va xs) (h2 : Ns w vb ys) (dx : T4.Dig xs) (dy : T4.Dig ys) (hlx : xs.length ≤ 4000) (hly : ys.length ≤ 4000) (hy : 0 < T4.val ys) :
    Calls Tryz.prog 38 #[va, vb] w fun e w' => ∃ vq vr qs rs, e = .returned (.tuple #[vq, vr]) ∧ Below w.heap.size w w' ∧ Ns w' vq qs ∧ Ns w' vr rs ∧ T4.Dig qs ∧ T4.Dig rs ∧ T4.val xs = T4.val qs * T4.val ys + T4.val rs ∧ T4.val rs < T4.val ys ∧ qs.length ≤ 4000 ∧ rs.length ≤ 4000 := by
  have hyw : T4.val ys < T4.pw ys.length := T4.val_lt dy
  have hpm : T4.pw ys.length ≤ T4.pw 4000 := T4.pw_mono hly
  obtain ⟨ax, capx, rfl, hcx, hatx⟩ := h1
  obtain ⟨Y, hY⟩ : ∃ Y, Y = T4.val ys := ⟨_, rfl⟩
  have HY := hide (And.intro hY (And.intro hyw hpm))
  rw [← hY] at hy ⊢
  clear hY hyw hpm
  have H2 := hide h2
  clear h2
  go_enter Tryz.func38, Tryz.ntmps38
  go_wp2
  go_loopw [6, 7, 8] (fun qv rv iv wr => ∃ (i : Int) (qs rs : List Int), iv = .int .i64 i ∧ -1 ≤ i ∧ i < xs.length ∧ (qs.length : Int) + i + 1 = xs.length ∧ Ns wr qv qs ∧ Ns wr rv rs ∧ Below w.heap.size w wr ∧ T4.Dig qs ∧ T4.Dig rs ∧ T4.Norm rs ∧ Hid (T4.val (xs.drop (i + 1).toNat) = T4.val qs * Y + T4.val rs ∧ T4.val rs < Y)) (fun _ _ iv _ => (intOf iv + 1).toNat)
  case atStart =>
    exact ⟨_, [], [], rfl, by omega, by omega, by simp, ⟨none, 0, rfl, Nat.le_refl _, fun h => absurd rfl h⟩, ⟨none, 0, rfl, Nat.le_refl _, fun h => absurd rfl h⟩, Below.refl _ _, T4.Dig.nil, T4.Dig.nil, fun h => absurd rfl h, hide ⟨by rw [List.drop_eq_nil_of_le (by omega)]; simp [T4.val], by simp [T4.val]; omega⟩⟩
  case round =>
    obtain ⟨i, qs, rs, rfl, hi0, hi1, hql, hnq, hnr, hbel, hdq, hdr, hnm, hinv⟩ := hrel
    by_cases h0 : 0 ≤ i
    · obtain ⟨j, rfl⟩ : ∃ j : Nat, i = (j : Int) := ⟨i.toNat, by omega⟩
      have hj : j < xs.length := by omega
      obtain ⟨x, hx, hx0, hx1⟩ := dx.get j
      obtain ⟨bx, ox, rfl, hbx, hcx9⟩ := hatx (by intro e; subst e; simp at hj)
      have hcxj : wr.cell? ⟨bx, ox + j, none⟩ = some (.int .i64 x) := by rw [← hx]; exact (hbel.cell (p := ⟨bx, ox + j, none⟩) hbx).trans (hcx9 j hj)
      have HX := hide hx
      have HQL := hide hql
      have hqlen : qs.length ≤ 4000 := by omega
      have hrl : rs.length ≤ 4000 := T4.len_le hdr hnm (by have := unhide hinv; have := unhide HY; omega)
      clear hx hql
      go_wp2_with (at_builtin; refine wpList_append_ns rfl _ _ rfl w.heap.size _ 1 [.int .i64 x] rfl (own_oneI wr x hbel.size) _ rs rfl (hnr.below ((Below.refl _ _).alloc (Nat.le_refl _) _)) ?c1 ?c2 ?_)
      case c1 => omega
      case c2 => have := hbel.size; simp; omega
      intro v1 w1 hown1 hgrow1
      have hb1 : Below wr.heap.size wr w1 := ((Below.refl _ wr).alloc (Nat.le_refl _) _).grown hgrow1 (by simp) (fun k hk => by simp [Value.ownBlock] at hk; subst hk; exact Nat.le_refl _)
      have hO1 : w1.ownsRow w.heap.size 3 1 v1 (x :: rs).length ((x :: rs).map (Value.int .i64)) := by simpa [Nat.add_comm] using hown1
      obtain ⟨a1, cap1, rfl, hc1, hat1⟩ := Ns.of_owns hO1
      have HTD := hide (trimD_is a1 cap1 (x :: rs) w1 ⟨a1, cap1, rfl, hc1, hat1⟩ (by intro d hd; rcases List.mem_cons.1 hd with rfl | hd; exact ⟨hx0, hx1⟩; exact hdr d hd) (by simp; omega))
      have Hq1 := hide (hnq.below hb1)
      have hbel1 := hbel.trans (hb1.mono hbel.size)
      clear hown1 hgrow1 hO1 hc1 hat1 hnq hnr hb1
      go_wp2_with fail
      refine (unhide HTD).mono ?_
      rintro e w2 ⟨_, k1, rfl, rfl, hb2, n2, d2, o2, v2⟩
      generalize (x :: rs).take k1 = rs1 at *
      rw [val_cons4] at v2
      obtain ⟨R, hR⟩ : ∃ R, R = T4.val rs1 := ⟨_, rfl⟩
      have HR := hide (And.intro hR v2)
      have hR0 : 0 ≤ R := by rw [hR]; exact T4.val_nonneg d2
      have hRY : R < 10000 * Y := by have := (unhide hinv).2; rw [hR, v2]; omega
      have hl2 : rs1.length ≤ 4001 := T4.len_le d2 o2 (by have h3 := unhide HY; have h4 : T4.pw 4001 = 10000 * T4.pw 4000 := rfl; omega)
      have N2 := hide (And.intro n2 (And.intro d2 o2))
      have Hq2 := hide ((unhide Hq1).below hb2)
      have hbel2 := hbel1.trans (hb2.mono hbel1.size)
      have hfd := field_d (w := w2) (b := false) (a := a1) (l := k1) (c := cap1)
      clear hb2 n2 d2 o2 v2 Hq1 hR hcxj hbel hbel1 HTD
      go_wp2
      clear hfd
      go_loopw [9, 10] (fun lov hiv wq => ∃ (lo hi : Int), lov = .int .i64 lo ∧ hiv = .int .i64 hi ∧ 0 ≤ lo ∧ lo < hi ∧ hi ≤ 10000 ∧ Below w2.heap.size w2 wq ∧ Hid (lo * Y ≤ R ∧ R < hi * Y)) (fun lov hiv _ => (intOf hiv - intOf lov).toNat)
      case atStart => exact ⟨0, 10000, rfl, rfl, by omega, by omega, by omega, Below.refl _ _, hide ⟨by omega, hRY⟩⟩
      case round =>
        obtain ⟨lo, hi, rfl, rfl, hlo, hlh, hhi, hbq, hlr⟩ := hrel
        have hyq := (unhide H2).below (hbel2.trans (hbq.mono hbel2.size))
        by_cases hgo : 1 < hi - lo
        · have hm0 : 0 ≤ (lo + hi) / 2 := by omega
          have hm1 : (lo + hi) / 2 < 10000 := by omega
          obtain ⟨m, hm⟩ : ∃ m, m = (lo + hi) / 2 := ⟨_, rfl⟩
          have HTM := hide (timesN_any vb ys ((lo + hi) / 2) wr hyq dy (by omega) hm0 hm1)
          go_wp2_with fail
          refine (unhide HTM).mono ?_
          rintro e w3 ⟨v3, zs, rfl, hb3, n3, d3, o3, e3⟩
          have hlz : zs.length ≤ 4001 := T4.len_le d3 o3 (by
            have h3 := unhide HY
            have h4 : T4.pw 4001 = 10000 * T4.pw 4000 := rfl
            have h5 := Int.mul_le_mul_of_nonneg_right (show (lo + hi) / 2 ≤ 9999 by omega) (Int.le_of_lt hy)
            rw [e3, ← h3.1]
            omega)
          have HL := hide (lessN_any v3 _ zs rs1 w3 n3 ((unhide N2).1.below (hbq.trans (hb3.mono hbq.size))) d3 (unhide N2).2.1 o3 (unhide N2).2.2 (by omega) (by omega))
          rw [e3, ← (unhide HR).1, ← (unhide HY).1, ← hm] at HL
          have hbq3 := hbq.trans (hb3.mono hbq.size)
          rw [← hm]
          have hmlo : lo < m := by omega
          have hmhi : m < hi := by omega
          clear HTM hb3 n3 d3 o3 e3 hlz hm hm0 hm1 hyq
          go_wp2_with fail
          refine (unhide HL).mono ?_
          rintro e w4 ⟨rfl, hb4⟩
          have hbq4 := hbq3.trans (hb4.mono hbq3.size)
          have hiff := cmpI_le (m * Y) R
          generalize cmpI (m * Y) R = cc at *
          clear hb4 hbq3 HL
          by_cases hc : cc ≤ 0
          · have hle := hide (hiff.1 hc)
            clear hiff
            go_wp2
            exact ⟨⟨m, hi, rfl, rfl, by omega, by omega, by omega, hbq4, hide ⟨unhide hle, (unhide hlr).2⟩⟩, by simp [intOf]; omega⟩
          · have hle := hide (show R < m * Y by rcases Int.lt_or_le R (m * Y) with h | h; exact h; exact absurd (hiff.2 h) hc)
            have hc' : decide (cc ≤ 0) = false := by simpa using hc
            clear hiff hc
            go_wp2
            exact ⟨⟨lo, m, rfl, rfl, by omega, by omega, by omega, hbq4, hide ⟨(unhide hlr).1, unhide hle⟩⟩, by simp [intOf]; omega⟩
        · obtain rfl : hi = lo + 1 := by omega
          have hqq := (unhide Hq2).below hbq
          have hbelq := hbel2.trans (hbq.mono hbel2.size)
          have hgo' : ¬ (1 < lo + 1 - lo) := hgo
          go_wp2_with (at_builtin; refine wpList_append_ns rfl _ _ rfl w.heap.size _ 1 [.int .i64 lo] rfl (own_oneI wr lo hbelq.size) _ qs rfl (hqq.below ((Below.refl _ _).alloc (Nat.le_refl _) _)) ?d1 ?d2 ?_)
          case d1 => omega
          case d2 => have := hbelq.size; simp; omega
          intro v5 w5 hown5 hgrow5
          have hb5 : Below wr.heap.size wr w5 := ((Below.refl _ wr).alloc (Nat.le_refl _) _).grown hgrow5 (by simp) (fun k hk => by simp [Value.ownBlock] at hk; subst hk; exact Nat.le_refl _)
          have hO5 : w5.ownsRow w.heap.size 3 1 v5 (lo :: qs).length ((lo :: qs).map (Value.int .i64)) := by simpa [Nat.add_comm] using hown5
          have Nq5 := hide (Ns.of_owns hO5)
          have hbq5 := hbq.trans (hb5.mono hbq.size)
          have hbel5 := hbelq.trans (hb5.mono hbelq.size)
          have HTM := hide (timesN_any vb ys lo w5 (hyq.below hb5) dy (by omega) hlo (by omega))
          clear hown5 hgrow5 hO5 hqq hb5 hbelq hbq hyq
          go_wp2_with fail
          refine (unhide HTM).mono ?_
          rintro e w6 ⟨v6, zs, rfl, hb6, n6, d6, o6, e6⟩
          rw [← (unhide HY).1] at e6
          have hvle : T4.val zs ≤ T4.val rs1 := by rw [e6, ← (unhide HR).1]; exact (unhide hlr).1
          have hll : zs.length ≤ rs1.length := T4.len_le d6 o6 (Int.lt_of_le_of_lt hvle (T4.val_lt (unhide N2).2.1))
          have HMN := hide (minusN_any _ v6 rs1 zs w6 ((unhide N2).1.below (hbq5.trans (hb6.mono hbq5.size))) n6 (unhide N2).2.1 d6 (by omega) hll hvle)
          have Nq6 := hide ((unhide Nq5).below hb6)
          have hbel6 := hbel5.trans (hb6.mono hbel5.size)
          have HE6 := hide e6
          clear HTM hb6 n6 d6 o6 e6 hvle hll Nq5 hbq5 hbel5
          go_wp2_with fail
          refine (unhide HMN).mono ?_
          rintro e w7 ⟨v7, ts, rfl, hb7, n7, d7, e7, l7⟩
          rw [← (unhide HR).1, unhide HE6] at e7
          obtain ⟨a7, cap7, rfl, hc7, hat7⟩ := n7
          have HTD := hide (trimD_is a7 cap7 ts w7 ⟨a7, cap7, rfl, hc7, hat7⟩ d7 (by omega))
          have Nq7 := hide ((unhide Nq6).below hb7)
          have hbel7 := hbel6.trans (hb7.mono hbel6.size)
          have HE7 := hide e7
          clear HMN hb7 hc7 hat7 d7 e7 l7 Nq6 hbel6 HE6
          go_wp2_with fail
          refine (unhide HTD).mono ?_
          rintro e w8 ⟨_, k8, rfl, rfl, hb8, n8, d8, o8, v8⟩
          rw [unhide HE7] at v8
          generalize ts.take k8 = rs8 at *
          have N8 := hide (And.intro n8 (And.intro d8 (And.intro o8 v8)))
          have Nq8 := hide ((unhide Nq7).below hb8)
          have hbel8 := hbel7.trans (hb8.mono hbel7.size)
          have hfd := field_d (w := w8) (b := false) (a := a7) (l := k8) (c := cap7)
          have hlo1 : lo < 10000 := by omega
          clear HTD hb8 n8 d8 o8 v8 Nq7 hbel7 HE7
          go_wp2
          refine ⟨⟨(j : Int) - 1, lo :: qs, rs8, rfl, by omega, by omega, by have := unhide HQL; simp; omega, unhide Nq8, (unhide N8).1, hbel8, ?_, (unhide N8).2.1, (unhide N8).2.2.1, ?_⟩, by simp [intOf]⟩
          · intro d hd
            rcases List.mem_cons.1 hd with rfl | hd
            · exact ⟨hlo, hlo1⟩
            · exact hdq d hd
          · have h9 := (unhide N8).2.2.2
            have h8 := (unhide hinv).1
            rw [show ((j : Int) + 1).toNat = j + 1 by omega] at h8
            have h7 := (unhide hlr).2
            refine hide ⟨?_, by rw [h9]; exact part_lt h7⟩
            rw [show ((j : Int) - 1 + 1).toNat = j by omega, val_cons4, h9]
            exact part_inv (unhide HX) hj h8 (by rw [(unhide HR).1, (unhide HR).2])
    · obtain rfl : i = -1 := by omega
      have HV := hide (show T4.val xs = T4.val qs * Y + T4.val rs by have := (unhide hinv).1; simpa using this)
      have hrl : rs.length ≤ 4000 := T4.len_le hdr hnm (by have := unhide hinv; have := unhide HY; omega)
      have hqlen : qs.length ≤ 4000 := by omega
      go_wp2
      refine bodyPost_ret (v := .tuple #[u6, u7]) (by simp [results, Tryz.results38, go_sem]) rfl ⟨_, _, rfl, hbel, qs, hnq, rs, hnr, hdq, hdr, unhide HV, (unhide hinv).2, hqlen, hrl⟩

end Go.Proofs.YtlcfldkmojpkpaaGreatDoor

/- The document's numbers: Of. -/
namespace Go.Proofs.YtlcfldkmojpkpaaGreatDoor
open Go Go.RowKit

theorem norm_snoc {zs : List Int} {d : Int} (h : d ≠ 0) : T4.Norm (zs ++ [d]) := fun _ => by simpa using h

theorem ofN_len {zs : List Int} (hd : T4.Dig zs) {u V : Int} (hu : 0 < u) (h : T4.val zs + T4.pw zs.length * u = V) (hV : V ≤ 9223372036854775808) : zs.length ≤ 5 := by
  rcases Nat.lt_or_ge 5 zs.length with h5 | h5
  · exfalso
    have h1 := T4.pw_mono (Nat.le_of_lt h5)
    have h2 : T4.pw 5 = 100000000000000000000 := by decide
    have h3 := T4.val_nonneg hd
    have h4 := Int.mul_le_mul_of_nonneg_left (show 1 ≤ u by omega) (Int.le_trans (by omega) h1)
    omega
  · exact h5
theorem ofN_step {zs : List Int} {u V : Int} (h : T4.val zs + T4.pw zs.length * u = V) : T4.val (zs ++ [u % 10000]) + T4.pw (zs ++ [u % 10000]).length * (u / 10000) = V := by
  rw [T4.val_snoc, List.length_append, List.length_singleton]
  simp only [T4.pw]
  have h1 : u = u % 10000 + 10000 * (u / 10000) := by omega
  have h2 : T4.pw zs.length * u = T4.pw zs.length * (u % 10000) + T4.pw zs.length * (10000 * (u / 10000)) := by rw [← Int.mul_add, ← h1]
  have h3 : T4.pw zs.length * (10000 * (u / 10000)) = 10000 * T4.pw zs.length * (u / 10000) := by rw [← Int.mul_assoc, Int.mul_comm (T4.pw zs.length)]
  omega

set_option maxRecDepth 100000 in
set_option maxHeartbeats 1600000 in
theorem ofN_any (z : Int) (w : World) (hz0 : -9223372036854775808 ≤ z) (hz9 : z ≤ 9223372036854775807) :
    Calls Tryz.prog 34 #[.int .i64 z] w fun e w' => ∃ r, e = .returned r ∧ Below w.heap.size w w' ∧ IsN w' r z := by
  obtain ⟨i0, hi, hz0', hz1, hz2⟩ := info_parts infoInt
  have x1 := NB.new w false none 0 0
  have hB : Below w.heap.size w (w.alloc (.cells #[.bool false, .slice none 0 0] 31)) := (Below.refl _ w).alloc (Nat.le_refl _) _
  by_cases hn : z < 0
  · have e1 : IntKind.u64.wrap z = z + 18446744073709551616 := by simp [IntKind.wrap_u64]; omega
    have e2 : IntKind.u64.wrap (-(z + 18446744073709551616)) = -z := by simp [IntKind.wrap_u64]; omega
    go_enter Tryz.func34, Tryz.ntmps34
    go_wp2
    have X1 := hide x1
    have HB := hide hB
    generalize (w.alloc (.cells #[.bool false, .slice none 0 0] 31)) = W0 at *
    go_loopw [4, 5] (fun uv dv wr => ∃ (u : Int) (zs : List Int), uv = .int .u64 u ∧ 0 ≤ u ∧ u ≤ 9223372036854775808 ∧ wr.ownsRow W0.heap.size 3 1 dv zs.length (zs.map (Value.int .i64)) ∧ Below W0.heap.size W0 wr ∧ T4.Dig zs ∧ Hid (u = 0 → T4.Norm zs) ∧ Hid (T4.val zs + T4.pw zs.length * u = -z)) (fun uv _ _ => (intOf uv).toNat)
    case atStart => exact ⟨_, [], rfl, by omega, by omega, World.ownsRow_nil _ _ _ _, Below.refl _ _, T4.Dig.nil, hide (fun _ h => absurd rfl h), hide (by simp [T4.val, T4.pw])⟩
    case round =>
      obtain ⟨u, zs, rfl, hu0, hu1, hown, hbel, hdz, hnm, hval⟩ := hrel
      by_cases hu : 0 < u
      · have hzl : zs.length ≤ 5 := ofN_len hdz hu (unhide hval) (by omega)
        go_wp2_with (at_builtin; refine wpList_append_own _ rfl _ _ 29 rfl W0.heap.size 3 i0 (.int .i64 0) 1 8 Tryz.underlying29 hi hz0' hz1 hz2 rfl (by decide) _ _ _ rfl (hown.alloc _) ⟨wr.heap.size, 0, none⟩ 1 1 [.int .i64 (u % 10000)] rfl rfl (cell_one_new _ _ _) (one64 _) ?c3 ?c4 ?c5 ?_)
        case c3 => unfold maxLen; omega
        case c4 => omega
        case c5 => have := hbel.size; simp; omega
        intro v' w1 hown' hgrow _
        have hB1 := (hbel.alloc hbel.size (.cells #[.int .i64 (u % 10000)] 3)).grown hgrow (by have := hbel.size; simp; omega) (fun k hk => (hown.lt k hk).1)
        have hO := own_snocI hown'
        clear hown' hgrow hown hbel
        go_wp2
        exact ⟨⟨u / 10000, zs ++ [u % 10000], rfl, by omega, by omega, hO, hB1, hdz.append (T4.Dig.one (by omega) (by omega)), hide (fun h => norm_snoc (by omega)), hide (ofN_step (unhide hval))⟩, by simp [intOf]; omega⟩
      · obtain rfl : u = 0 := by omega
        have hm := Ns.of_owns hown
        obtain ⟨a3, c3, rfl, hc3, hat3⟩ := id hm
        have hbx := (unhide X1).below hbel
        obtain ⟨_, _, k30, k31, f30, f31⟩ := hbx.facts0
        have HI := hide (show IsN wr (.agg #[.bool true, .slice a3 zs.length c3]) z from ⟨a3, zs.length, c3, zs, by simp [hn], hm, hdz, unhide hnm rfl, by have := unhide hval; omega⟩)
        have HBX := hide hbx
        clear hown hm hat3 hbx
        go_wp2
        refine bodyPost_ret (res_N rfl rfl ((unhide HBX).set true a3 zs.length c3)) rfl ⟨_, rfl, ?_, (unhide HI).putN (unhide HBX) _ _⟩
        exact below_put ((unhide HB).trans (hbel.mono (unhide HB).size)) (by omega) _ _
  · have e1 : IntKind.u64.wrap z = z := by simp [IntKind.wrap_u64]; omega
    have hn' : decide (z < 0) = false := by simpa using hn
    go_enter Tryz.func34, Tryz.ntmps34
    go_wp2
    have X1 := hide x1
    have HB := hide hB
    generalize (w.alloc (.cells #[.bool false, .slice none 0 0] 31)) = W0 at *
    go_loopw [4, 5] (fun uv dv wr => ∃ (u : Int) (zs : List Int), uv = .int .u64 u ∧ 0 ≤ u ∧ u ≤ 9223372036854775808 ∧ wr.ownsRow W0.heap.size 3 1 dv zs.length (zs.map (Value.int .i64)) ∧ Below W0.heap.size W0 wr ∧ T4.Dig zs ∧ Hid (u = 0 → T4.Norm zs) ∧ Hid (T4.val zs + T4.pw zs.length * u = z)) (fun uv _ _ => (intOf uv).toNat)
    case atStart => exact ⟨_, [], rfl, by omega, by omega, World.ownsRow_nil _ _ _ _, Below.refl _ _, T4.Dig.nil, hide (fun _ h => absurd rfl h), hide (by simp [T4.val, T4.pw])⟩
    case round =>
      obtain ⟨u, zs, rfl, hu0, hu1, hown, hbel, hdz, hnm, hval⟩ := hrel
      by_cases hu : 0 < u
      · have hzl : zs.length ≤ 5 := ofN_len hdz hu (unhide hval) (by omega)
        go_wp2_with (at_builtin; refine wpList_append_own _ rfl _ _ 29 rfl W0.heap.size 3 i0 (.int .i64 0) 1 8 Tryz.underlying29 hi hz0' hz1 hz2 rfl (by decide) _ _ _ rfl (hown.alloc _) ⟨wr.heap.size, 0, none⟩ 1 1 [.int .i64 (u % 10000)] rfl rfl (cell_one_new _ _ _) (one64 _) ?c3 ?c4 ?c5 ?_)
        case c3 => unfold maxLen; omega
        case c4 => omega
        case c5 => have := hbel.size; simp; omega
        intro v' w1 hown' hgrow _
        have hB1 := (hbel.alloc hbel.size (.cells #[.int .i64 (u % 10000)] 3)).grown hgrow (by have := hbel.size; simp; omega) (fun k hk => (hown.lt k hk).1)
        have hO := own_snocI hown'
        clear hown' hgrow hown hbel
        go_wp2
        exact ⟨⟨u / 10000, zs ++ [u % 10000], rfl, by omega, by omega, hO, hB1, hdz.append (T4.Dig.one (by omega) (by omega)), hide (fun h => norm_snoc (by omega)), hide (ofN_step (unhide hval))⟩, by simp [intOf]; omega⟩
      · obtain rfl : u = 0 := by omega
        have hm := Ns.of_owns hown
        obtain ⟨a3, c3, rfl, hc3, hat3⟩ := id hm
        have hbx := (unhide X1).below hbel
        obtain ⟨_, _, k30, k31, f30, f31⟩ := hbx.facts0
        have HI := hide (show IsN wr (.agg #[.bool false, .slice a3 zs.length c3]) z from ⟨a3, zs.length, c3, zs, by simp [hn'], hm, hdz, unhide hnm rfl, by have := unhide hval; omega⟩)
        have HBX := hide hbx
        clear hown hm hat3 hbx
        go_wp2
        refine bodyPost_ret (res_N rfl rfl ((unhide HBX).set false a3 zs.length c3)) rfl ⟨_, rfl, ?_, (unhide HI).putN (unhide HBX) _ _⟩
        exact below_put ((unhide HB).trans (hbel.mono (unhide HB).size)) (by omega) _ _

end Go.Proofs.YtlcfldkmojpkpaaGreatDoor

/- The document's numbers: Small. -/
namespace Go.Proofs.YtlcfldkmojpkpaaGreatDoor
open Go Go.RowKit

theorem enter_ofN : Enters Tryz.prog 34 := ⟨fun xs w => by go_simp⟩


end Go.Proofs.YtlcfldkmojpkpaaGreatDoor

/- The document's numbers: Small. -/
namespace Go.Proofs.YtlcfldkmojpkpaaGreatDoor
open Go Go.RowKit

end Go.Proofs.YtlcfldkmojpkpaaGreatDoor

/- areDigits at texts that are not digits. -/
namespace Go.Proofs.YtlcfldkmojpkpaaGreatDoor
open Go Go.RowKit

set_option maxRecDepth 100000 in
set_option maxHeartbeats 800000 in
theorem areDigits_no (s : ByteArray) (w : World) (hd : s.size = 0 ∨ ¬ Dg s.data.toList) (_hl : s.size ≤ 1000) :
    Calls Tryz.prog 89 #[.string s] w fun e w' => e = .returned (.bool false) ∧ Below w.heap.size w w' := by
  have hk0 : (w.iter s 0).heap[w.heap.size]? = some (.stringIter s 0) := World.iter_heap w s 0
  have hb0 : Below w.heap.size w (w.iter s 0) := (Below.refl _ w).alloc (Nat.le_refl _) _
  have HDD := hide hd
  clear hd
  go_enter Tryz.func89, Tryz.ntmps89
  go_wp2
  go_loopw [4] (fun _ wr => ∃ pos : Nat, pos ≤ s.size ∧ wr.heap[w.heap.size]? = some (.stringIter s pos) ∧ Below w.heap.size w wr ∧ Hid (∀ i (hi : i < s.size), i < pos → 48 ≤ (s[i]'hi).toNat ∧ (s[i]'hi).toNat ≤ 57)) (fun _ wr => s.size - wr.iterPos w.heap.size)
  case atStart => exact ⟨0, Nat.zero_le _, hk0, hb0, hide (fun i hi h => absurd h (by omega))⟩
  case round =>
    obtain ⟨pos, hps, hk, hnx, hall⟩ := hrel
    clear hk0 hb0
    by_cases hp : pos < s.size
    · by_cases hg : 48 ≤ (s[pos]'hp).toNat ∧ (s[pos]'hp).toNat ≤ 57
      · obtain ⟨c0, c1⟩ := hg
        have hnext : ∀ ty, (Instr.next (.pointer (some ⟨w.heap.size, 0, none⟩)) true ty).run Tryz.prog wr = _ := fun ty => Lib.run_next_ascii_at wr w.heap.size s pos ty hk hp (by omega)
        have hk1 := Lib.iterAt_heap wr w.heap.size s pos (pos + 1) hk
        have hnx1 : Below w.heap.size w (wr.iterAt w.heap.size s (pos + 1)) := Lib.below_iterAt hnx (by omega) s (pos + 1)
        have hmu : wr.iterPos w.heap.size = pos := by simp [World.iterPos, hk]
        generalize wr.iterAt w.heap.size s (pos + 1) = W1 at hnext hk1 hnx1
        have hall1 := hide (fun i (hi : i < s.size) (h : i < pos + 1) => show 48 ≤ (s[i]'hi).toNat ∧ (s[i]'hi).toNat ≤ 57 from by
          by_cases e : i = pos
          · subst e; exact ⟨c0, c1⟩
          · exact unhide hall i hi (by omega))
        obtain ⟨c, hc⟩ : ∃ c : Int, c = ((s[pos]'hp).toNat : Int) := ⟨_, rfl⟩
        have c0' : 48 ≤ c := by omega
        have c1' : c ≤ 57 := by omega
        rw [← hc] at hnext
        clear hc c0 c1
        have ct0 : decide (c < 48) = false := by simp; omega
        have ct1 : decide (57 < c) = false := by simp; omega
        have HM := hide hmu
        clear hmu
        go_wp2
        exact ⟨⟨pos + 1, by omega, hk1, hnx1, hall1⟩, by rw [unhide HM]; simp [World.iterPos, hk1]; omega⟩
      · have hnext : ∀ ty, (Instr.next (.pointer (some ⟨w.heap.size, 0, none⟩)) true ty).run Tryz.prog wr = _ := fun ty => Lib.run_next_any_at wr w.heap.size s pos ty hk hp
        have hnx1 : Below w.heap.size w (wr.iterAt w.heap.size s (pos + (Utf8.decode s pos).2)) := Lib.below_iterAt hnx (by omega) s _
        have hrune : ((Utf8.decode s pos).1 : Int) < 48 ∨ 57 < ((Utf8.decode s pos).1 : Int) := by
          by_cases ha : (s[pos]'hp).toNat < 128
          · rw [decode_ascii s pos hp ha]
            have : ¬ (48 ≤ (s[pos]'hp).toNat ∧ (s[pos]'hp).toNat ≤ 57) := hg
            show (((s[pos]'hp).toNat : Nat) : Int) < 48 ∨ 57 < (((s[pos]'hp).toNat : Nat) : Int)
            omega
          · have := (decode_high s pos hp (by omega)).1
            omega
        generalize wr.iterAt w.heap.size s (pos + (Utf8.decode s pos).2) = W1 at hnext hnx1
        generalize ((Utf8.decode s pos).1 : Int) = c at hnext hrune
        clear hg hall
        by_cases h48 : c < 48
        · go_wp2
          go_ret
          exact ⟨rfl, hnx1⟩
        · have h57 : 57 < c := by omega
          have ct0 : decide (c < 48) = false := by simp; omega
          go_wp2
          go_ret
          exact ⟨rfl, hnx1⟩
    · have hnext : ∀ ty, (Instr.next (.pointer (some ⟨w.heap.size, 0, none⟩)) true ty).run Tryz.prog wr = _ := fun ty => Lib.run_next_end_at wr w.heap.size s pos ty hk hp
      have hz : s.size = 0 := by
        rcases unhide HDD with h | h
        · exact h
        · exfalso
          apply h
          intro b hb
          obtain ⟨i, hi, rfl⟩ := List.mem_iff_getElem.1 hb
          have hi' : i < s.size := by simpa using hi
          rw [get_toList s i hi' hi]
          exact unhide hall i hi' (by omega)
      have hemp : (!s.toList.isEmpty) = false := by
        rw [Lib.toList_data]
        have h2 : s.data.toList.length = s.size := by simp
        rw [List.eq_nil_of_length_eq_zero (h2.trans hz)]
        rfl
      have HE := hide hemp
      clear hemp hz
      go_wp2
      go_ret
      exact ⟨by show Ending.returned (Value.bool (!s.toList.isEmpty)) = _; rw [unhide HE], hnx⟩

end Go.Proofs.YtlcfldkmojpkpaaGreatDoor

/- num.Parse at texts that are not right. -/
namespace Go.Proofs.YtlcfldkmojpkpaaGreatDoor
open Go Go.RowKit

set_option maxRecDepth 100000 in
set_option maxHeartbeats 800000 in
theorem parse_not (T : List UInt8) (w : World) (hl : T.length ≤ 300) (h : ¬ RT (Lib.hasPrefix T [45]) (Lib.trimPrefix T [45])) :
    Calls Tryz.prog 62 #[.string ⟨T.toArray⟩] w fun e w' => e = .returned (.tuple #[.agg #[.int .i64 0, .slice none 0 0], .bool false]) ∧ Below w.heap.size w w' := by
  have HC := hide (Tryz.strings_CutPrefix ⟨T.toArray⟩ ⟨#[45]⟩)
  obtain ⟨D, hD⟩ : ∃ D, D = Lib.trimPrefix T [45] := ⟨_, rfl⟩
  obtain ⟨neg, hneg⟩ : ∃ neg, neg = Lib.hasPrefix T [45] := ⟨_, rfl⟩
  rw [← hD, ← hneg] at h
  have hDl : D.length ≤ 300 := by
    rw [hD]
    unfold Lib.trimPrefix
    split
    · simp; omega
    · exact hl
  have hcut : ∀ w, Calls Tryz.prog 88 #[.string ⟨T.toArray⟩, .string ⟨#[45]⟩] w fun e w' => e = .returned (.tuple #[.string ⟨D.toArray⟩, .bool neg]) ∧ w' = w := fun w => by
    have := unhide HC w
    dsimp only at this
    rw [← hD, ← hneg] at this
    exact this
  clear HC
  obtain ⟨S, hS⟩ : ∃ S : ByteArray, S = ⟨D.toArray⟩ := ⟨_, rfl⟩
  obtain ⟨TT, hT⟩ : ∃ TT : ByteArray, TT = ⟨T.toArray⟩ := ⟨_, rfl⟩
  have hSD : S.data.toList = D := by rw [hS]
  have hSn : S.size = D.length := by rw [hS]; simp [ByteArray.size]
  rw [← hS, ← hT] at hcut
  rw [← hT]
  clear hS hT
  have HCUT := hide hcut
  clear hcut hD hneg hl
  have hbox := Bx.new w 0 none 0 0
  have hbw : Below w.heap.size w (w.alloc (.cells #[.int .i64 0, .slice none 0 0] 26)) := (Below.refl _ w).alloc (Nat.le_refl _) _
  by_cases hok : D ≠ [] ∧ Dg D
  · obtain ⟨hne, hdg⟩ := hok
    have hpos : 0 < S.size := by rw [hSn]; exact List.length_pos_iff.2 hne
    have hgS : Dg S.data.toList := by rw [hSD]; exact hdg
    have hfirst : D.head? = some 48 ∧ ¬ (D = [48] ∧ neg = false) := by
      by_cases hh : D.head? = some 48
      · exact ⟨hh, fun h9 => h ⟨hdg, hne, fun _ => h9, by omega⟩⟩
      · exact absurd ⟨hdg, hne, fun h9 => absurd h9 hh, by omega⟩ h
    have h48 : (((S[0]'hpos).toNat : Int) == 48) = true := by
      cases D with
      | nil => exact absurd rfl hne
      | cons b D' =>
        have h2 := get_toList S 0 hpos (by rw [hSD]; simp)
        simp only [hSD, List.getElem_cons_zero] at h2
        have h3 := hfirst.1
        simp only [List.head?_cons, Option.some.injEq] at h3
        rw [← h2, h3]
        rfl
    have hor : neg = true ∨ (1 : Int) < (S.size : Int) := by
      cases neg with
      | true => exact .inl rfl
      | false =>
        refine .inr ?_
        rcases Nat.lt_or_ge 1 S.size with h9 | h9
        · omega
        · exfalso
          apply hfirst.2
          refine ⟨?_, rfl⟩
          cases D with
          | nil => exact absurd rfl hne
          | cons b D' =>
            have h3 := hfirst.1
            simp only [List.head?_cons, Option.some.injEq] at h3
            have h4 : D' = [] := List.eq_nil_of_length_eq_zero (by simp at hSn; omega)
            rw [h3, h4]
    have HAD := hide (fun w => areDigits_yes S w hgS hpos (by omega))
    clear h hfirst hgS hdg hne hDl hSn hSD
    go_enter Tryz.func62, Tryz.ntmps62
    go_wp2_with fail
    refine (unhide HCUT _).mono ?_
    rintro e w1 ⟨rfl, rfl⟩
    go_wp2_with fail
    refine (unhide HAD _).mono ?_
    rintro e w2 ⟨rfl, hb2⟩
    have hbx := hbox.below hb2
    obtain ⟨kR0, kR1, kRf0, kRf1⟩ := hbx.facts
    have hbel := hbw.trans (hb2.mono hbw.size)
    rcases hor with rfl | h1
    · go_wp2
      refine bodyPost_ret (v := .tuple #[.agg #[.int .i64 0, .slice none 0 0], .bool false]) ?_ rfl ?_
      · simp [results, Tryz.results62, go_sem, kR0, kR1]
      · exact ⟨rfl, below_put hbel (Nat.le_refl _) _ _⟩
    · cases neg
      all_goals
        go_wp2
        refine bodyPost_ret (v := .tuple #[.agg #[.int .i64 0, .slice none 0 0], .bool false]) ?_ rfl ?_
        · simp [results, Tryz.results62, go_sem, kR0, kR1]
        · exact ⟨rfl, below_put hbel (Nat.le_refl _) _ _⟩
  · have HAD := hide (fun w => areDigits_no S w (by
      by_cases hne : D = []
      · left; rw [hSn, hne]; rfl
      · right; rw [hSD]; exact fun h9 => hok ⟨hne, h9⟩) (by omega))
    clear h hok hDl hSn hSD
    go_enter Tryz.func62, Tryz.ntmps62
    go_wp2_with fail
    refine (unhide HCUT _).mono ?_
    rintro e w1 ⟨rfl, rfl⟩
    go_wp2_with fail
    refine (unhide HAD _).mono ?_
    rintro e w2 ⟨rfl, hb2⟩
    have hbx := hbox.below hb2
    obtain ⟨kR0, kR1, kRf0, kRf1⟩ := hbx.facts
    have hbel := hbw.trans (hb2.mono hbw.size)
    go_wp2
    refine bodyPost_ret (v := .tuple #[.agg #[.int .i64 0, .slice none 0 0], .bool false]) ?_ rfl ?_
    · simp [results, Tryz.results62, go_sem, kR0, kR1]
    · exact ⟨rfl, below_put hbel (Nat.le_refl _) _ _⟩

end Go.Proofs.YtlcfldkmojpkpaaGreatDoor

/- The document's Right and Parse at texts that are not right. -/
namespace Go.Proofs.YtlcfldkmojpkpaaGreatDoor
open Go Go.RowKit

theorem bad_of {L : List UInt8} (h : ¬ Dg L) : ∃ i, ∃ hi : i < L.length, ¬ (48 ≤ (L[i]'hi).toNat ∧ (L[i]'hi).toNat ≤ 57) := by
  apply Classical.byContradiction
  intro hn
  apply h
  intro b hb
  obtain ⟨i, hi, rfl⟩ := List.mem_iff_getElem.1 hb
  apply Classical.byContradiction
  intro h9
  exact hn ⟨i, hi, h9⟩
theorem get_list {T : ByteArray} {L : List UInt8} (h : T.data.toList = L) (i : Nat) (hi : i < T.size) (hl : i < L.length) : T[i]'hi = L[i]'hl := by
  subst h
  exact (get_toList T i hi hl).symm

set_option maxRecDepth 100000 in
set_option maxHeartbeats 800000 in
theorem right_no (T : ByteArray) (L : List UInt8) (w : World) (hT : T.data.toList = L) (hl : L.length ≤ 300) (h : ¬ RT (Lib.hasPrefix L [45]) (Lib.trimPrefix L [45])) :
    Calls Tryz.prog 105 #[.string T] w fun e w' => e = .returned (.bool false) ∧ Below w.heap.size w w' := by
  have hsz : T.size = L.length := by rw [← hT]; simp
  cases L with
  | nil =>
    have h0 : (T.size : Int) = 0 := by rw [hsz]; rfl
    clear h hT
    go_enter Tryz.func105, Tryz.ntmps105
    go_wp2
    go_ret
    exact ⟨rfl, Below.refl _ _⟩
  | cons b R =>
    have hpos : 0 < T.size := by rw [hsz]; simp
    have hsz' : T.size = R.length + 1 := by rw [hsz]; simp
    have hl' : R.length ≤ 300 := by simp at hl; omega
    have hls : T.size ≤ 1000 := by omega
    have hb0 : T[0]'hpos = b := get_list hT 0 hpos (by simp)
    have hposI : (0 : Int) < (T.size : Int) := by omega
    by_cases hb : b = 45
    · subst hb
      have hp : Lib.hasPrefix (45 :: R) [45] = true := by simp [Lib.hasPrefix]
      have hq : Lib.trimPrefix (45 :: R) [45] = R := by simp [Lib.trimPrefix, hp]
      rw [hp, hq] at h
      have h45 : (((T[0]'hpos).toNat : Int) == 45) = true := by rw [hb0]; rfl
      by_cases h1 : 1 < T.size
      · have hR : R ≠ [] := by intro e; subst e; simp at hsz'; omega
        have hb1 : T[1]'h1 = R[0]'(by omega) := get_list hT 1 h1 (by simp; omega)
        have h0L : ((1 : Int) == (T.size : Int)) = false := by simp; omega
        by_cases h48 : (T[1]'h1).toNat = 48
        · have h48' : (((T[1]'h1).toNat : Int) == 48) = true := by simp; omega
          clear h hT hb0 hb1 hsz hsz' hl hl'
          by_cases h2 : (2 : Int) < (T.size : Int)
          · go_enter Tryz.func105, Tryz.ntmps105
            go_wp2
            go_ret
            exact ⟨rfl, Below.refl _ _⟩
          · have h2' : decide ((2 : Int) < (T.size : Int)) = false := by simpa using h2
            go_enter Tryz.func105, Tryz.ntmps105
            go_wp2
            go_ret
            exact ⟨rfl, Below.refl _ _⟩
        · have h48' : (((T[1]'h1).toNat : Int) == 48) = false := by simp; omega
          have hnd : ¬ Dg R := fun hd => h ⟨hd, hR, fun h9 => by
            exfalso
            cases R with
            | nil => exact hR rfl
            | cons c R' =>
              simp only [List.head?_cons, Option.some.injEq] at h9
              rw [hb1] at h48
              simp only [List.getElem_cons_zero] at h48
              rw [h9] at h48
              exact h48 rfl, by omega⟩
          have hbad : ∃ i, ∃ hi : i < T.size, 1 ≤ i ∧ ¬ (48 ≤ (T[i]'hi).toNat ∧ (T[i]'hi).toNat ≤ 57) := by
            obtain ⟨i, hi, h9⟩ := bad_of hnd
            refine ⟨i + 1, by omega, by omega, ?_⟩
            rw [get_list hT (i + 1) (by omega) (by simp; omega)]
            simpa using h9
          have HBAD := hide hbad
          clear hbad h hT hb0 hb1 hnd h48 hsz hsz' hl hl'
          go_enter Tryz.func105, Tryz.ntmps105
          go_wp2
          go_loop [3] (fun iv => ∃ i : Nat, 1 ≤ i ∧ i ≤ T.size ∧ iv = .int .i64 i ∧ Hid (∀ j (hj : j < T.size), 1 ≤ j → j < i → 48 ≤ (T[j]'hj).toNat ∧ (T[j]'hj).toNat ≤ 57)) (fun iv => T.size - (intOf iv).toNat)
          case atStart => exact ⟨1, Nat.le_refl _, by omega, rfl, hide (fun j hj h1 h2 => absurd h2 (by omega))⟩
          case round =>
            obtain ⟨i, hi0, hi1, rfl, hall⟩ := hrel
            by_cases hi : i < T.size
            · by_cases d0 : (T[i]'hi).toNat < 48
              · have t0 : decide (((T[i]'hi).toNat : Int) < 48) = true := by simp; omega
                go_wp2
                go_ret
                exact ⟨rfl, Below.refl _ _⟩
              · have t0 : decide (((T[i]'hi).toNat : Int) < 48) = false := by simp; omega
                by_cases d1 : 57 < (T[i]'hi).toNat
                · have t1 : decide (57 < ((T[i]'hi).toNat : Int)) = true := by simp; omega
                  go_wp2
                  go_ret
                  exact ⟨rfl, Below.refl _ _⟩
                · have t1 : decide (57 < ((T[i]'hi).toNat : Int)) = false := by simp; omega
                  have hall1 := hide (fun j (hj : j < T.size) (h1 : 1 ≤ j) (h2 : j < i + 1) => show 48 ≤ (T[j]'hj).toNat ∧ (T[j]'hj).toNat ≤ 57 from by
                    by_cases e : j = i
                    · subst e; omega
                    · exact unhide hall j hj h1 (by omega))
                  go_wp2
                  exact ⟨⟨i + 1, by omega, by omega, by simp, hall1⟩, by simp [intOf]; omega⟩
            · exfalso
              obtain ⟨j, hj, h1, h2⟩ := unhide HBAD
              exact h2 (unhide hall j hj h1 (by omega))
      · have h0L : (T.size : Int) = 1 := by omega
        clear h hT hb0 hsz hsz' hl hl'
        go_enter Tryz.func105, Tryz.ntmps105
        go_wp2
        go_ret
        exact ⟨rfl, Below.refl _ _⟩
    · have e : ([45] : List UInt8).isPrefixOf (b :: R) = false := by simp [List.isPrefixOf, Ne.symm hb]
      have hp : Lib.hasPrefix (b :: R) [45] = false := by simp [Lib.hasPrefix, e]
      have hq : Lib.trimPrefix (b :: R) [45] = b :: R := by simp [Lib.trimPrefix, Lib.hasPrefix, e]
      rw [hp, hq] at h
      have hbn : b.toNat ≠ 45 := fun h9 => hb (UInt8.toNat_inj.1 h9)
      have h45 : (((T[0]'hpos).toNat : Int) == 45) = false := by rw [hb0]; simp; omega
      have h0L : ((0 : Int) == (T.size : Int)) = false := by simp; omega
      by_cases h48 : (T[0]'hpos).toNat = 48
      · have h48' : (((T[0]'hpos).toNat : Int) == 48) = true := by simp; omega
        have h1 : (1 : Int) < (T.size : Int) := by
          rcases Nat.lt_or_ge 1 T.size with h9 | h9
          · omega
          · exfalso
            have hR : R = [] := List.eq_nil_of_length_eq_zero (by omega)
            subst hR
            rw [hb0] at h48
            have hb8 : b = 48 := UInt8.toNat_inj.1 h48
            subst hb8
            exact h ⟨by intro x hx; simp at hx; subst hx; decide, by simp, fun _ => ⟨rfl, rfl⟩, by decide⟩
        clear h hT hb0 hsz hsz' hl hl'
        go_enter Tryz.func105, Tryz.ntmps105
        go_wp2
        go_ret
        exact ⟨rfl, Below.refl _ _⟩
      · have h48' : (((T[0]'hpos).toNat : Int) == 48) = false := by simp; omega
        have hnd : ¬ Dg (b :: R) := fun hd => h ⟨hd, by simp, fun h9 => by
          exfalso
          simp only [List.head?_cons, Option.some.injEq] at h9
          rw [hb0, h9] at h48
          exact h48 rfl, by simp; omega⟩
        have hbad : ∃ i, ∃ hi : i < T.size, 0 ≤ i ∧ ¬ (48 ≤ (T[i]'hi).toNat ∧ (T[i]'hi).toNat ≤ 57) := by
          obtain ⟨i, hi, h9⟩ := bad_of hnd
          have hi' : i < T.size := by rw [hsz]; exact hi
          refine ⟨i, hi', Nat.zero_le _, ?_⟩
          rw [get_list hT i hi' hi]
          exact h9
        have HBAD := hide hbad
        clear hbad h hT hb0 hnd h48 hsz hsz' hl hl'
        go_enter Tryz.func105, Tryz.ntmps105
        go_wp2
        go_loop [3] (fun iv => ∃ i : Nat, 0 ≤ i ∧ i ≤ T.size ∧ iv = .int .i64 i ∧ Hid (∀ j (hj : j < T.size), 0 ≤ j → j < i → 48 ≤ (T[j]'hj).toNat ∧ (T[j]'hj).toNat ≤ 57)) (fun iv => T.size - (intOf iv).toNat)
        case atStart => exact ⟨0, Nat.le_refl _, by omega, rfl, hide (fun j hj h1 h2 => absurd h2 (by omega))⟩
        case round =>
          obtain ⟨i, hi0, hi1, rfl, hall⟩ := hrel
          by_cases hi : i < T.size
          · by_cases d0 : (T[i]'hi).toNat < 48
            · have t0 : decide (((T[i]'hi).toNat : Int) < 48) = true := by simp; omega
              go_wp2
              go_ret
              exact ⟨rfl, Below.refl _ _⟩
            · have t0 : decide (((T[i]'hi).toNat : Int) < 48) = false := by simp; omega
              by_cases d1 : 57 < (T[i]'hi).toNat
              · have t1 : decide (57 < ((T[i]'hi).toNat : Int)) = true := by simp; omega
                go_wp2
                go_ret
                exact ⟨rfl, Below.refl _ _⟩
              · have t1 : decide (57 < ((T[i]'hi).toNat : Int)) = false := by simp; omega
                have hall1 := hide (fun j (hj : j < T.size) (h1 : 0 ≤ j) (h2 : j < i + 1) => show 48 ≤ (T[j]'hj).toNat ∧ (T[j]'hj).toNat ≤ 57 from by
                  by_cases e : j = i
                  · subst e; omega
                  · exact unhide hall j hj h1 (by omega))
                go_wp2
                exact ⟨⟨i + 1, by omega, by omega, by simp, hall1⟩, by simp [intOf]; omega⟩
          · exfalso
            obtain ⟨j, hj, h1, h2⟩ := unhide HBAD
            exact h2 (unhide hall j hj h1 (by omega))

end Go.Proofs.YtlcfldkmojpkpaaGreatDoor

/- The document's Parse at texts that are not right. -/
namespace Go.Proofs.YtlcfldkmojpkpaaGreatDoor
open Go Go.RowKit

set_option maxRecDepth 100000 in
set_option maxHeartbeats 800000 in
theorem parseN_not (T : ByteArray) (L : List UInt8) (w : World) (hT : T.data.toList = L) (hl : L.length ≤ 300) (h : ¬ RT (Lib.hasPrefix L [45]) (Lib.trimPrefix L [45])) :
    Calls Tryz.prog 91 #[.string T] w fun e w' => e = .returned (.tuple #[.agg #[.bool false, .slice none 0 0], .bool false]) ∧ Below w.heap.size w w' := by
  have HR := hide (fun w => right_no T L w hT hl h)
  clear hT hl h
  go_enter Tryz.func91, Tryz.ntmps91
  go_wp2_with fail
  refine (unhide HR _).mono ?_
  rintro e w1 ⟨rfl, hb1⟩
  have hbox : NB w1 w.heap.size (.agg #[.bool false, .slice none 0 0]) := (NB.new w false none 0 0).below hb1
  have hbw : Below w.heap.size w w1 := ((Below.refl _ w).alloc (Nat.le_refl _) _).trans (hb1.mono (by simp))
  obtain ⟨kR0, kR1, kRf0, kRf1⟩ := hbox.facts
  clear HR
  go_wp2
  refine bodyPost_ret (v := .tuple #[.agg #[.bool false, .slice none 0 0], .bool false]) ?_ rfl ?_
  · simp [results, Tryz.results91, go_sem, kR0, kR1]
  · exact ⟨rfl, below_put hbw (Nat.le_refl _) _ _⟩

end Go.Proofs.YtlcfldkmojpkpaaGreatDoor

/- A right text is its number's text. -/
namespace Go.Proofs.YtlcfldkmojpkpaaGreatDoor
open Go Go.RowKit

theorem dd_dec_aux (n : Nat) : ∀ D : List UInt8, D.length = n + 1 → Dg D → D.head? ≠ some 48 → Lib.decDigits (dec D).toNat = D ∧ 1 ≤ dec D := by
  induction n with
  | zero =>
    intro D hl hd hh
    match D, hl with
    | [b], _ =>
      have hb := hd b (by simp)
      have hb8 : b.toNat ≠ 48 := fun h9 => hh (by simp only [List.head?_cons, Option.some.injEq]; exact UInt8.toNat_inj.1 h9)
      have e : dec [b] = (b.toNat : Int) - 48 := by simp [dec]
      rw [e]
      refine ⟨?_, by omega⟩
      rw [Lib.decDigits, dif_pos (by omega)]
      congr 1
      apply UInt8.toNat_inj.1
      rw [UInt8.toNat_ofNat']
      omega
  | succ n ih =>
    intro D hl hd hh
    rcases List.eq_nil_or_concat D with rfl | ⟨Q, b, rfl⟩
    · simp at hl
    · rw [List.concat_eq_append] at *
      have hQl : Q.length = n + 1 := by simpa using hl
      have hb := hd b (by simp)
      have hQh : Q.head? ≠ some 48 := by
        cases Q with
        | nil => simp at hQl
        | cons c Q' => simpa using hh
      obtain ⟨h1, h2⟩ := ih Q hQl (fun x hx => hd x (by simp [hx])) hQh
      rw [dec_snoc]
      refine ⟨?_, by omega⟩
      rw [Lib.decDigits, dif_neg (by omega)]
      rw [show (10 * dec Q + ((b.toNat : Int) - 48)).toNat / 10 = (dec Q).toNat by omega, h1]
      congr 2
      apply UInt8.toNat_inj.1
      rw [UInt8.toNat_ofNat']
      omega
theorem itoa_txt {neg : Bool} {D : List UInt8} (h : RT neg D) : Lib.itoa (if neg then - dec D else dec D) = txt neg D := by
  by_cases hh : D.head? = some 48
  · obtain ⟨rfl, rfl⟩ := h.z hh
    have e : dec [48] = 0 := by decide
    simp only [Bool.false_eq_true, if_false, e]
    rw [Lib.itoa, if_neg (by omega), Lib.decDigits, dif_pos (by decide)]
    rfl
  · have hpos : 0 < D.length := List.length_pos_iff.2 h.ne
    obtain ⟨h1, h2⟩ := dd_dec_aux (D.length - 1) D (by omega) h.dg hh
    cases neg with
    | true =>
      simp only [if_true]
      rw [Lib.itoa, if_pos (by omega), show (-dec D).natAbs = (dec D).toNat by omega, h1]
      rfl
    | false =>
      simp only [Bool.false_eq_true, if_false]
      rw [Lib.itoa, if_neg (by omega), h1]
      rfl

end Go.Proofs.YtlcfldkmojpkpaaGreatDoor

/- The walk of NumTexts. -/
namespace Go.Proofs.YtlcfldkmojpkpaaGreatDoor
open Go Go.RowKit

theorem txt_parts (L : List UInt8) : txt (Lib.hasPrefix L [45]) (Lib.trimPrefix L [45]) = L := by
  cases L with
  | nil => rfl
  | cons b R =>
    by_cases hb : b = 45
    · subst hb
      have hp : Lib.hasPrefix (45 :: R) [45] = true := by simp [Lib.hasPrefix]
      have hq : Lib.trimPrefix (45 :: R) [45] = R := by simp [Lib.trimPrefix, hp]
      rw [hp, hq]; rfl
    · have e : ([45] : List UInt8).isPrefixOf (b :: R) = false := by simp [List.isPrefixOf, Ne.symm hb]
      have hp : Lib.hasPrefix (b :: R) [45] = false := by simp [Lib.hasPrefix, e]
      have hq : Lib.trimPrefix (b :: R) [45] = b :: R := by simp [Lib.trimPrefix, Lib.hasPrefix, e]
      rw [hp, hq]; rfl
theorem parts_len (L : List UInt8) : (Lib.trimPrefix L [45]).length ≤ L.length := by
  unfold Lib.trimPrefix
  split
  · simp
  · exact Nat.le_refl _
/-- What both make of a text of at most 300 bytes. -/
theorem both_parse (s : ByteArray) (hs : s.size ≤ 300) : ∃ (b : Bool) (z : Int), (z.natAbs : Int) < pw 40 ∧ (z.natAbs : Int) < T4.pw 100 ∧ (b = true → Lib.itoa z = s.data.toList) ∧
    (∀ w, Calls Tryz.prog 62 #[.string s] w fun e w' => ∃ r, e = .returned (.tuple #[r, .bool b]) ∧ Below w.heap.size w w' ∧ IsI w' r z) ∧
    (∀ w, Calls Tryz.prog 91 #[.string s] w fun e w' => ∃ r, e = .returned (.tuple #[r, .bool b]) ∧ Below w.heap.size w w' ∧ IsN w' r z) := by
  obtain ⟨L, hL⟩ : ∃ L, s.data.toList = L := ⟨_, rfl⟩
  have hLl : L.length ≤ 300 := by rw [← hL]; simpa using hs
  have hsL : (⟨L.toArray⟩ : ByteArray) = s := by rw [← hL]
  by_cases h : RT (Lib.hasPrefix L [45]) (Lib.trimPrefix L [45])
  · have ht := txt_parts L
    have hl := parts_len L
    generalize Lib.hasPrefix L [45] = neg at *
    generalize Lib.trimPrefix L [45] = D at *
    refine ⟨true, if neg then -dec D else dec D, val_bound h.dg (by omega), val_bound4 h.dg (by omega), fun _ => by rw [itoa_txt h, ht, hL], fun w => ?_, fun w => parseN_val neg D s w (by rw [hL, ht]) h⟩
    have := parse_yes neg D w h.dg h.ne h.z h.len
    rw [ht, hsL] at this
    exact this
  · refine ⟨false, 0, by have := pw_pos 40; simpa using this, by have := T4.pw_pos 100; simpa using this, fun e => (by cases e), fun w => ?_, fun w => ?_⟩
    · have := parse_not L w hLl h
      rw [hsL] at this
      exact Calls.mono this fun e w' ⟨h1, h2⟩ => ⟨_, h1, h2, .inl ⟨rfl, by omega, by omega⟩⟩
    · exact Calls.mono (parseN_not s L w hL hLl h) fun e w' ⟨h1, h2⟩ => ⟨_, h1, h2, ⟨none, 0, 0, [], rfl, ⟨none, 0, rfl, Nat.le_refl _, fun h => absurd rfl h⟩, T4.Dig.nil, fun h => absurd rfl h, rfl⟩⟩

end Go.Proofs.YtlcfldkmojpkpaaGreatDoor

namespace Go.Proofs.YtlcfldkmojpkpaaGreatDoor
open Go Go.RowKit

section
variable {P : Program} {Q : Exit → Act → World → Prop}
/-- Each operation waits only for such as stand ahead of it, and writes, if any, a slot of its own, below N. -/
def fitF (N : Nat) : Nat → List Nat → List Oper → Bool
  | _, _, [] => true
  | i, ds, o :: l => (o.after.toList.all fun e => !Region.binds .any e || decide (e.on < i)) && (match o.dst with | some d => !ds.contains d && decide (d < N) && fitF N (i + 1) (d :: ds) l | none => fitF N (i + 1) ds l)

theorem fitF_spec {N : Nat} : ∀ (l : List Oper) (i : Nat) (ds : List Nat), fitF N i ds l = true →
    ∀ j o, l[j]? = some o → (∀ e ∈ o.after, Region.binds .any e = true → e.on < i + j) ∧ ∀ d : Nat, o.dst = some d → d ∉ ds ∧ d < N ∧ ∀ k o', k < j → l[k]? = some o' → o'.dst ≠ some d
  | [], _, _, _, j, o, h => by simp at h
  | x :: l, i, ds, hg, j, o, h => by
    simp only [fitF, Bool.and_eq_true] at hg
    obtain ⟨hon, hd⟩ := hg
    cases hx : x.dst with
    | none =>
      simp only [hx] at hd
      cases j with
      | zero =>
        simp at h
        subst h
        refine ⟨fun e he hb => ?_, fun d hd' => by rw [hx] at hd'; cases hd'⟩
        have := List.all_eq_true.1 hon e (by simpa using he)
        simpa [hb] using this
      | succ j =>
        have h' : l[j]? = some o := by simpa using h
        obtain ⟨h1, h2⟩ := fitF_spec l (i + 1) ds hd j o h'
        refine ⟨fun e he hb => by have := h1 e he hb; omega, fun d hd' => ?_⟩
        obtain ⟨h3, h4, h5⟩ := h2 d hd'
        refine ⟨h3, h4, fun k o' hk ho' => ?_⟩
        cases k with
        | zero => simp at ho'; subst ho'; rw [hx]; simp
        | succ k => exact h5 k o' (by omega) (by simpa using ho')
    | some d0 =>
      simp only [hx, Bool.and_eq_true, decide_eq_true_eq] at hd
      obtain ⟨⟨hB, hN⟩, hr⟩ := hd
      have hB' : d0 ∉ ds := by simpa using hB
      cases j with
      | zero =>
        simp at h
        subst h
        refine ⟨fun e he hb => ?_, fun d hd' => ?_⟩
        · have := List.all_eq_true.1 hon e (by simpa using he)
          simpa [hb] using this
        · rw [hx] at hd'
          have e0 : d0 = d := Option.some.inj hd'
          subst e0
          exact ⟨hB', hN, fun k _ hk => absurd hk (by omega)⟩
      | succ j =>
        have h' : l[j]? = some o := by simpa using h
        obtain ⟨h1, h2⟩ := fitF_spec l (i + 1) (d0 :: ds) hr j o h'
        refine ⟨fun e he hb => by have := h1 e he hb; omega, fun d hd' => ?_⟩
        obtain ⟨h3, h4, h5⟩ := h2 d hd'
        refine ⟨fun hm => h3 (List.mem_cons_of_mem _ hm), h4, fun k o' hk ho' => ?_⟩
        cases k with
        | zero =>
          simp at ho'; subst ho'; rw [hx]
          intro e
          have e0 : d0 = d := Option.some.inj e
          exact h3 (e0 ▸ List.mem_cons_self)
        | succ k => exact h5 k o' (by omega) (by simpa using ho')

/-- Whatever order is picked: specs of the slots, and an invariant of what has come up, the frame and the world. -/
theorem stepsF {l : List Oper} {a0 : Act} {w0 : World} (N : Nat) (kept : List Nat) (Φ : Nat → Value → Prop) (J : Array Bool → Act → World → Prop)
    (hg : fitF N 0 kept l = true) (hN : a0.tmps.size = N) (h0 : J (Array.replicate l.length false) a0 w0)
    (hstep : ∀ i o, l[i]? = some o → ∀ (listed : Array Bool) (a : Act) (w : World), listed.size = l.length → listed.getD i true = false →
      (∀ j o', l[j]? = some o' → listed.getD j false = true → ∀ k, (preds o').contains k = true → listed.getD k false = true) →
      a.defers = a0.defers → a.tmps.size = N → (∀ k, k ∈ kept → a.tmps[k]? = a0.tmps[k]?) →
      (∀ j, (preds o).contains j = true → listed.getD j false = true ∧ Φ j (slotOf l.toArray a j)) → J listed a w →
      if Region.wanted o (yielded l.toArray a.tmps) then o.wp P a w (fun a' w' => ∃ v, a' = a.put o.dst v ∧ (o.dst.isSome = true → Φ i v) ∧ J (listed.setIfInBounds i true) a' w') Q
      else (o.dst.isSome = true → Φ i undef) ∧ J (listed.setIfInBounds i true) (a.put o.dst undef) w)
    (hsome : ∀ i o, l[i]? = some o → o.dst = none → ∀ v, Φ i v)
    (hend : ∀ (listed : Array Bool) (a : Act) (w : World), listed.size = l.length → (∀ i, i < l.length → listed.getD i false = true) → a.defers = a0.defers → a.tmps.size = N → (∀ k, k ∈ kept → a.tmps[k]? = a0.tmps[k]?) → (∀ i, i < l.length → Φ i (slotOf l.toArray a i)) → J listed a w → Q .normal a w) :
    wpAny P .any l.toArray Q l.toArray.size (Array.replicate l.toArray.size false) a0 w0 := by
  let I : Array Bool → Act → World → Prop := fun listed a w => listed.size = l.length ∧ (∀ j o', l[j]? = some o' → listed.getD j false = true → ∀ k, (preds o').contains k = true → listed.getD k false = true) ∧
    a.defers = a0.defers ∧ a.tmps.size = N ∧ (∀ k, k ∈ kept → a.tmps[k]? = a0.tmps[k]?) ∧ (∀ i, listed.getD i false = true → Φ i (slotOf l.toArray a i)) ∧ J listed a w
  have hspec := fitF_spec l 0 kept hg
  refine wpAny_inv (md := .any) I ?_ ?_ _ _ _ _ ?_ ?_
  · rintro listed a w i ⟨hsz, hdown, hdf, hn, hbase, hΦ, hJ⟩ hr
    obtain ⟨hun, o, ho, hpre⟩ := mem_ready.1 hr
    have hol : l[i]? = some o := by simpa using ho
    have hilt : i < l.length := (List.getElem?_eq_some_iff.1 hol).1
    have hpre' : ∀ j, (preds o).contains j = true → listed.getD j false = true := fun j hj => by
      obtain ⟨e, he, rfl⟩ := preds_spec hj
      exact hpre e he.1 he.2
    have hs := hstep i o hol listed a w hsz hun hdown hdf hn hbase (fun j hj => ⟨hpre' j hj, hΦ j (hpre' j hj)⟩) hJ
    have hdown' : ∀ j o', l[j]? = some o' → (listed.setIfInBounds i true).getD j false = true → ∀ k, (preds o').contains k = true → (listed.setIfInBounds i true).getD k false = true := by
      intro j o' ho' hj k hk
      by_cases e : i = j
      · subst e
        rw [hol] at ho'
        cases ho'
        exact getD_set_true (hpre' k hk)
      · rw [getD_set_ne false e] at hj
        exact getD_set_true (hdown j o' ho' hj k hk)
    have keep : ∀ w' v, (o.dst.isSome = true → Φ i v) → J (listed.setIfInBounds i true) (a.put o.dst v) w' → I (listed.setIfInBounds i true) (a.put o.dst v) w' := by
      intro w' v hv hJ'
      refine ⟨by simpa using hsz, hdown', ?_, ?_, ?_, ?_, hJ'⟩
      · cases hd : o.dst <;> simpa [Act.put] using hdf
      · cases hd : o.dst <;> simpa [Act.put] using hn
      · intro k hk
        cases hd : o.dst with
        | none => exact hbase k hk
        | some d =>
          simp only [Act.put]
          rw [Array.getElem?_setIfInBounds_ne (fun (e : d = k) => ((hspec i o hol).2 d hd).1 (e.symm ▸ hk))]
          exact hbase k hk
      · intro j hj
        by_cases e : i = j
        · subst e
          cases hd : o.dst with
          | none => exact hsome i o hol hd _
          | some d =>
            rw [← hd, slot_put_same ho hd (by have := ((hspec i o hol).2 d hd).2.1; omega)]
            exact hv (by simp [hd])
        · rw [getD_set_ne false e] at hj
          have hj' := hΦ j hj
          have hjlt : j < l.length := by
            rcases Nat.lt_or_ge j listed.size with h | h
            · omega
            · simp [Array.getElem?_eq_none h] at hj
          have hoj : l[j]? = some l[j] := List.getElem?_eq_getElem hjlt
          have hoj' : l.toArray[j]? = some l[j] := by simp [hjlt]
          cases hd : o.dst with
          | none => exact hj'
          | some d =>
            cases hd' : (l[j]).dst with
            | none => exact hsome j _ hoj hd' _
            | some d' =>
              have hne : d ≠ d' := by
                intro ee
                subst ee
                rcases Nat.lt_or_gt_of_ne e with h | h
                · exact ((hspec j _ hoj).2 d hd').2.2 i o h hol hd
                · exact ((hspec i _ hol).2 d hd).2.2 j _ h hoj hd'
              rw [slot_put_other hoj' hd' hne]
              exact hj'
    unfold wpOp
    simp only [ho]
    split
    · rename_i hw
      simp only [hw, if_true] at hs
      refine .inl (Oper.wp_mono ?_ hs)
      rintro a' w' ⟨v, rfl, hv, hJ'⟩
      exact keep w' v hv hJ'
    · rename_i hw
      simp only [hw] at hs
      exact keep w undef hs.1 hs.2
  · rintro listed a w ⟨hsz, hdown, hdf, hn, hbase, hΦ, hJ⟩ hr
    have hall : ∀ i, i < l.length → listed.getD i false = true := by
      intro i
      induction i using Nat.strongRecOn with
      | ind i ih =>
        intro hi
        cases hl : listed.getD i true with
        | true =>
          have : i < listed.size := by omega
          simpa [this] using hl
        | false =>
          exfalso
          have hoi : l[i]? = some l[i] := List.getElem?_eq_getElem hi
          have : i ∈ Region.ready .any l.toArray listed := by
            refine mem_ready.2 ⟨hl, l[i], by simp [hi], fun e he hb => ?_⟩
            have := (hspec i _ hoi).1 e he hb
            exact ih e.on (by omega) (by omega)
          rw [hr] at this
          cases this
    exact hend listed a w hsz hall hdf hn hbase (fun i hi => hΦ i (hall i hi)) hJ
  · unfold toCome
    exact Nat.le_trans (List.length_filter_le _ _) (by simp)
  · have hf : ∀ i, (Array.replicate l.toArray.size false).getD i false = true → False := by
      intro i hi
      rcases Nat.lt_or_ge i l.length with h | h
      · simp [h] at hi
      · simp [h] at hi
    exact ⟨by simp, fun j _ _ hj => (hf j hj).elim, rfl, hN, fun _ _ => rfl, fun i hi => (hf i hi).elim, by simpa using h0⟩
end

theorem op_alloc {P : Program} {Q : Exit → Act → World → Prop} {K : Act → World → Prop} {a : Act} {w w' : World} {dst : Option Tmp} {ty : TypeId} {pos : String} {af : Array Edge} {gd : Option (Nat × Bool)} {v : Value} {t : TypeId}
    (hr : (Instr.alloc t true (.tuple #[])).run P w = .ok v w') (h : K (a.put dst v) w') : Oper.wp P ⟨dst, .alloc t, ty, pos, af, gd⟩ a w K Q := by
  unfold Oper.wp
  simp [execOp, hr, Oper.upon, h]

theorem NB.put {W : World} {R r : Nat} {v : Value} (h : NB W R v) (hne : r ≠ R) (c0 c1 : Value) : NB ((W.setCell ⟨r, 0, none⟩ c0).setCell ⟨r, 1, none⟩ c1) R v := (h.other (p := ⟨r, 0, none⟩) hne c0).other (p := ⟨r, 1, none⟩) hne c1

def twoB (l : List Oper) (c p q : Nat) : Bool :=
  decide (l.length = c + 4) && decide (p < c) && decide (q < c) && (l.all fun o => o.guard.isNone) && ((l[c + 2]?).map fun o => (preds o).contains c && (preds o).contains p && o.dst.isNone).getD false && ((l[c + 3]?).map fun o => (preds o).contains (c + 1) && (preds o).contains q && o.dst.isNone).getD false && ((l.take (c + 2)).all fun o => o.dst.isSome)

theorem two_any {P : Program} {Q : Exit → Act → World → Prop} {l : List Oper} {a0 : Act} {w0 : World} (c p q N : Nat) (kept : List Nat) (Ψ : Nat → World → Value → Prop) (zq zr : Int)
    (hg : fitF N 0 kept l = true) (hB : twoB l c p q = true) (hN : a0.tmps.size = N)
    (hmono : ∀ i w w' v, Ψ i w v → Below w.heap.size w w' → Ψ i w' v)
    (hmonoP : ∀ i w v r u c0 c1, Ψ i w v → NB w r u → Ψ i ((w.setCell ⟨r, 0, none⟩ c0).setCell ⟨r, 1, none⟩ c1) v)
    (hq : ∀ w v, Ψ p w v → IsN w v zq) (hr : ∀ w v, Ψ q w v → IsN w v zr)
    (hpre : ∀ i, i < c → ∀ (a : Act) (w : World), (∀ k, k ∈ kept → a.tmps[k]? = a0.tmps[k]?) → (∀ j, (preds (l.getD i default)).contains j = true → Ψ j w (slotOf l.toArray a j)) → Below w0.heap.size w0 w →
      (l.getD i default).wp P a w (fun a' w' => ∃ v, a' = a.put (l.getD i default).dst v ∧ Below w.heap.size w w' ∧ Ψ i w' v) Q)
    (halloc : ∀ i, i = c ∨ i = c + 1 → ∀ (a : Act) (w : World), (l.getD i default).wp P a w (fun a' w' => a' = a.put (l.getD i default).dst (.pointer (some ⟨w.heap.size, 0, none⟩)) ∧ Below w.heap.size w w' ∧ ∃ u, NB w' w.heap.size u) Q)
    (hstA : ∀ (a : Act) (w : World) (r : Nat) (u : Value), slotOf l.toArray a c = .pointer (some ⟨r, 0, none⟩) → NB w r u → IsN w (slotOf l.toArray a p) zq →
      (l.getD (c + 2) default).wp P a w (fun a' w' => a' = a ∧ NB w' r (slotOf l.toArray a p) ∧ ∃ c0 c1, w' = (w.setCell ⟨r, 0, none⟩ c0).setCell ⟨r, 1, none⟩ c1) Q)
    (hstB : ∀ (a : Act) (w : World) (r : Nat) (u : Value), slotOf l.toArray a (c + 1) = .pointer (some ⟨r, 0, none⟩) → NB w r u → IsN w (slotOf l.toArray a q) zr →
      (l.getD (c + 3) default).wp P a w (fun a' w' => a' = a ∧ NB w' r (slotOf l.toArray a q) ∧ ∃ c0 c1, w' = (w.setCell ⟨r, 0, none⟩ c0).setCell ⟨r, 1, none⟩ c1) Q)
    (hend : ∀ (a : Act) (w : World) (rA rB : Nat) (vA vB : Value), a.defers = a0.defers → a.tmps.size = N → (∀ k, k ∈ kept → a.tmps[k]? = a0.tmps[k]?) → slotOf l.toArray a c = .pointer (some ⟨rA, 0, none⟩) → slotOf l.toArray a (c + 1) = .pointer (some ⟨rB, 0, none⟩) →
      rA ≠ rB → w0.heap.size ≤ rA → w0.heap.size ≤ rB → NB w rA vA → IsN w vA zq → NB w rB vB → IsN w vB zr → Below w0.heap.size w0 w → Q .normal a w) :
    wpAny P .any l.toArray Q l.toArray.size (Array.replicate l.toArray.size false) a0 w0 := by
  simp only [twoB, Bool.and_eq_true, decide_eq_true_eq] at hB
  obtain ⟨⟨⟨⟨⟨⟨hlen, hpc⟩, hqc⟩, hguard⟩, hd2⟩, hd3⟩, hdst⟩ := hB
  have hg0 : ∀ (i : Nat) (o : Oper), l[i]? = some o → o.guard = none := fun i o ho => by
    have := List.all_eq_true.1 hguard o (List.mem_of_getElem? ho)
    simpa using this
  have h2c : ∀ o, l[c + 2]? = some o → (preds o).contains c = true ∧ (preds o).contains p = true ∧ o.dst = none := fun o ho => by
    rw [ho] at hd2
    simp only [Option.map_some, Option.getD_some, Bool.and_eq_true, Option.isNone_iff_eq_none] at hd2
    exact ⟨hd2.1.1, hd2.1.2, hd2.2⟩
  have h3c : ∀ o, l[c + 3]? = some o → (preds o).contains (c + 1) = true ∧ (preds o).contains q = true ∧ o.dst = none := fun o ho => by
    rw [ho] at hd3
    simp only [Option.map_some, Option.getD_some, Bool.and_eq_true, Option.isNone_iff_eq_none] at hd3
    exact ⟨hd3.1.1, hd3.1.2, hd3.2⟩
  have hds : ∀ (i : Nat) (o : Oper), i < c + 2 → l[i]? = some o → ∃ d, o.dst = some d := fun i o hi ho => by
    have h1 : (l.take (c + 2))[i]? = some o := by rw [List.getElem?_take, if_pos hi]; exact ho
    have := List.all_eq_true.1 hdst o (List.mem_of_getElem? h1)
    exact Option.isSome_iff_exists.1 (by simpa using this)
  have hspec := fitF_spec l 0 kept hg
  have hgd : ∀ (i : Nat) (o : Oper), l[i]? = some o → l.getD i default = o := fun i o ho => by simp [List.getD_eq_getElem?_getD, ho]
  have hslot : ∀ (i j : Nat) (o : Oper) (a : Act) (v : Value), i ≠ j → j < c + 2 → l[i]? = some o → slotOf l.toArray (a.put o.dst v) j = slotOf l.toArray a j := fun i j o a v hij hj ho => by
    have hcl : j < l.length := by omega
    have hoc : l[j]? = some l[j] := List.getElem?_eq_getElem hcl
    obtain ⟨dc, hdc⟩ := hds j _ hj hoc
    cases hd : o.dst with
    | none => rfl
    | some d =>
      have hoc' : l.toArray[j]? = some l[j] := by simp [hcl]
      refine slot_put_other hoc' hdc ?_
      intro e
      subst e
      rcases Nat.lt_or_gt_of_ne hij with h | h
      · exact ((hspec j _ hoc).2 d hdc).2.2 i o h ho hd
      · exact ((hspec i _ ho).2 d hd).2.2 j _ h hoc hdc
  have hsame : ∀ (i : Nat) (o : Oper) (a : Act) (v : Value), i < c + 2 → a.tmps.size = N → l[i]? = some o → slotOf l.toArray (a.put o.dst v) i = v := fun i o a v hi hn ho => by
    obtain ⟨d, hd⟩ := hds i o hi ho
    rw [slot_put_same (by simpa using ho) hd (by have := ((hspec i o ho).2 d hd).2.1; omega)]
  have pinj : ∀ {r s : Nat}, (Value.pointer (some ⟨r, 0, none⟩) : Value) = .pointer (some ⟨s, 0, none⟩) → r = s := fun e9 => by
    injection e9 with e9
    injection e9 with e9
    injection e9 with e9
  let J : Array Bool → Act → World → Prop := fun listed a w => Below w0.heap.size w0 w ∧ (∀ j, j < c → listed.getD j false = true → Ψ j w (slotOf l.toArray a j)) ∧
    (listed.getD c false = true → ∃ r u, slotOf l.toArray a c = .pointer (some ⟨r, 0, none⟩) ∧ w0.heap.size ≤ r ∧ NB w r u ∧ (listed.getD (c + 2) false = true → IsN w u zq)) ∧
    (listed.getD (c + 1) false = true → ∃ r u, slotOf l.toArray a (c + 1) = .pointer (some ⟨r, 0, none⟩) ∧ w0.heap.size ≤ r ∧ NB w r u ∧ (listed.getD (c + 3) false = true → IsN w u zr)) ∧
    (listed.getD c false = true → listed.getD (c + 1) false = true → slotOf l.toArray a c ≠ slotOf l.toArray a (c + 1))
  refine stepsF N kept (fun _ _ => True) J hg hN ?_ ?_ (fun _ _ _ _ _ => trivial) ?_
  · have hf : ∀ j, (Array.replicate l.length false).getD j false = false := fun j => by
      by_cases h : j < l.length <;> simp [h]
    refine ⟨Below.refl _ _, fun j _ h => ?_, fun h => ?_, fun h => ?_, fun h => ?_⟩ <;> rw [hf] at h <;> cases h
  · intro i o ho listed a w hsz hun hdown hdf hn hk hp hJ
    have hil : i < l.length := (List.getElem?_eq_some_iff.1 ho).1
    have hunf : listed.getD i false = false := by
      have : i < listed.size := by omega
      simpa [this] using hun
    have hset : (listed.setIfInBounds i true).getD i false = true := by
      have : i < listed.size := by omega
      simp [this]
    have hw : Region.wanted o (yielded l.toArray a.tmps) = true := by simp [Region.wanted, hg0 i o ho]
    rw [if_pos hw]
    have hdc : ∀ (j : Nat) (o' : Oper), l[j]? = some o' → (∀ k, (preds o').contains k = true → k < j) := fun j o' ho' k hk => by
      obtain ⟨e, he, rfl⟩ := preds_spec hk
      have := (hspec j o' ho').1 e he.1 he.2
      omega
    have g2 : l[c + 2]? = some (l.getD (c + 2) default) := by simp [List.getD_eq_getElem?_getD, show c + 2 < l.length by omega]
    have g3 : l[c + 3]? = some (l.getD (c + 3) default) := by simp [List.getD_eq_getElem?_getD, show c + 3 < l.length by omega]
    have s2 : listed.getD (c + 2) false = true → listed.getD c false = true := fun h => hdown _ _ g2 h c (h2c _ g2).1
    have s3 : listed.getD (c + 3) false = true → listed.getD (c + 1) false = true := fun h => hdown _ _ g3 h (c + 1) (h3c _ g3).1
    obtain ⟨hb, hΨ, hA, hB, hne⟩ : J listed a w := hJ
    have nset : ∀ {j : Nat}, i ≠ j → (listed.setIfInBounds i true).getD j false = listed.getD j false := fun h => getD_set_ne false h
    by_cases i3 : i = c + 3
    · subst i3
      obtain ⟨l1, lq, dn⟩ := h3c o ho
      obtain ⟨rB, u, eB, lB, nB, _⟩ := hB (hp _ l1).1
      have hi := hr _ _ (hΨ q hqc (hp _ lq).1)
      have h4 := hstB a w rB u eB nB hi
      rw [hgd _ _ ho] at h4
      refine Oper.wp_mono ?_ h4
      rintro a' w' ⟨rfl, nB', c0, c1, rfl⟩
      refine ⟨undef, by rw [dn]; rfl, fun _ => trivial, below_put hb lB _ _, fun j hj hl => ?_, fun hl => ?_, fun _ => ⟨rB, _, eB, lB, nB', fun _ => hi.putN nB _ _⟩, fun hl hl' => ?_⟩
      · rw [nset (by omega)] at hl
        exact hmonoP _ _ _ _ _ _ _ (hΨ j hj hl) nB
      · rw [nset (by omega)] at hl
        obtain ⟨r, u', e, lr, n, hz⟩ := hA hl
        have hrr : rB ≠ r := fun e9 => hne hl (hp _ l1).1 (by rw [e, eB, e9])
        exact ⟨r, u', e, lr, n.put hrr _ _, fun h => (hz (by rwa [nset (by omega)] at h)).putN nB _ _⟩
      · rw [nset (by omega)] at hl hl'
        exact hne hl hl'
    · by_cases i2 : i = c + 2
      · subst i2
        obtain ⟨l1, lp, dn⟩ := h2c o ho
        obtain ⟨rA, u, eA, lA, nA, _⟩ := hA (hp _ l1).1
        have hi := hq _ _ (hΨ p hpc (hp _ lp).1)
        have h4 := hstA a w rA u eA nA hi
        rw [hgd _ _ ho] at h4
        refine Oper.wp_mono ?_ h4
        rintro a' w' ⟨rfl, nA', c0, c1, rfl⟩
        refine ⟨undef, by rw [dn]; rfl, fun _ => trivial, below_put hb lA _ _, fun j hj hl => ?_, fun _ => ⟨rA, _, eA, lA, nA', fun _ => hi.putN nA _ _⟩, fun hl => ?_, fun hl hl' => ?_⟩
        · rw [nset (by omega)] at hl
          exact hmonoP _ _ _ _ _ _ _ (hΨ j hj hl) nA
        · rw [nset (by omega)] at hl
          obtain ⟨r, u', e, lr, n, hz⟩ := hB hl
          have hrr : rA ≠ r := fun e9 => hne (hp _ l1).1 hl (by rw [e, eA, e9])
          exact ⟨r, u', e, lr, n.put hrr _ _, fun h => (hz (by rwa [nset (by omega)] at h)).putN nA _ _⟩
        · rw [nset (by omega)] at hl hl'
          exact hne hl hl'
      · by_cases ic1 : i = c + 1
        · subst ic1
          have h4 := halloc (c + 1) (.inr rfl) a w
          rw [hgd _ _ ho] at h4
          refine Oper.wp_mono ?_ h4
          rintro a' w' ⟨rfl, hb', u, nB⟩
          refine ⟨_, rfl, fun _ => trivial, hb.trans (hb'.mono hb.size), fun j hj hl => ?_, fun hl => ?_, fun _ => ⟨w.heap.size, u, hsame _ _ _ _ (by omega) hn ho, hb.size, nB, fun h => ?_⟩, fun hl _ => ?_⟩
          · rw [nset (by omega)] at hl
            rw [hslot (c + 1) j o a _ (by omega) (by omega) ho]
            exact hmono _ _ _ _ (hΨ j hj hl) hb'
          · rw [nset (by omega)] at hl
            obtain ⟨r, u', e, lr, n, hz⟩ := hA hl
            exact ⟨r, u', by rw [hslot (c + 1) c o a _ (by omega) (by omega) ho]; exact e, lr, n.below hb', fun h => (hz (by rwa [nset (by omega)] at h)).below hb'⟩
          · rw [nset (by omega)] at h
            have := s3 h
            rw [hunf] at this
            cases this
          · rw [nset (by omega)] at hl
            obtain ⟨r, u', e, lr, n, _⟩ := hA hl
            rw [hslot (c + 1) c o a _ (by omega) (by omega) ho, e, hsame _ _ _ _ (by omega) hn ho]
            intro e9
            have := n.lt
            have := pinj e9
            omega
        · by_cases ic : i = c
          · subst ic
            have h4 := halloc i (.inl rfl) a w
            rw [hgd _ _ ho] at h4
            refine Oper.wp_mono ?_ h4
            rintro a' w' ⟨rfl, hb', u, nB⟩
            refine ⟨_, rfl, fun _ => trivial, hb.trans (hb'.mono hb.size), fun j hj hl => ?_, fun _ => ⟨w.heap.size, u, hsame _ _ _ _ (by omega) hn ho, hb.size, nB, fun h => ?_⟩, fun hl => ?_, fun _ hl => ?_⟩
            · rw [nset (by omega)] at hl
              rw [hslot i j o a _ (by omega) (by omega) ho]
              exact hmono _ _ _ _ (hΨ j hj hl) hb'
            · rw [nset (by omega)] at h
              have := s2 h
              rw [hunf] at this
              cases this
            · rw [nset (by omega)] at hl
              obtain ⟨r, u', e, lr, n, hz⟩ := hB hl
              exact ⟨r, u', by rw [hslot i (i + 1) o a _ (by omega) (by omega) ho]; exact e, lr, n.below hb', fun h => (hz (by rwa [nset (by omega)] at h)).below hb'⟩
            · rw [nset (by omega)] at hl
              obtain ⟨r, u', e, lr, n, _⟩ := hB hl
              rw [hslot i (i + 1) o a _ (by omega) (by omega) ho, e, hsame _ _ _ _ (by omega) hn ho]
              intro e9
              have := n.lt
              have := pinj e9
              omega
          · have h4 := hpre i (by omega) a w hk (by rw [hgd i o ho]; exact fun j hj => hΨ j (by have := hdc i o ho j hj; omega) (hp j hj).1) hb
            rw [hgd i o ho] at h4
            refine Oper.wp_mono ?_ h4
            rintro a' w' ⟨v, rfl, hb', hv⟩
            refine ⟨v, rfl, fun _ => trivial, hb.trans (hb'.mono hb.size), fun j hj hl => ?_, fun hl => ?_, fun hl => ?_, fun hl hl' => ?_⟩
            · by_cases e : i = j
              · subst e
                rw [hsame _ _ _ _ (by omega) hn ho]
                exact hv
              · rw [nset e] at hl
                rw [hslot i j o a v e (by omega) ho]
                exact hmono _ _ _ _ (hΨ j hj hl) hb'
            · rw [nset (by omega)] at hl
              obtain ⟨r, u', e, lr, n, hz⟩ := hA hl
              exact ⟨r, u', by rw [hslot i c o a _ (by omega) (by omega) ho]; exact e, lr, n.below hb', fun h => (hz (by rwa [nset (by omega)] at h)).below hb'⟩
            · rw [nset (by omega)] at hl
              obtain ⟨r, u', e, lr, n, hz⟩ := hB hl
              exact ⟨r, u', by rw [hslot i (c + 1) o a _ (by omega) (by omega) ho]; exact e, lr, n.below hb', fun h => (hz (by rwa [nset (by omega)] at h)).below hb'⟩
            · rw [nset (by omega)] at hl hl'
              rw [hslot i c o a _ (by omega) (by omega) ho, hslot i (c + 1) o a _ (by omega) (by omega) ho]
              exact hne hl hl'
  · intro listed a w hsz hall hdf hn hk _ hJ
    obtain ⟨hb, _, hA, hB, hne⟩ : J listed a w := hJ
    obtain ⟨rA, vA, eA, lA, nA, qA⟩ := hA (hall c (by omega))
    obtain ⟨rB, vB, eB, lB, nB, qB⟩ := hB (hall (c + 1) (by omega))
    exact hend a w rA rB vA vB hdf hn hk eA eB (fun e => hne (hall c (by omega)) (hall (c + 1) (by omega)) (by rw [eA, eB, e])) lA lB nA (qA (hall (c + 2) (by omega))) nB (qB (hall (c + 3) (by omega))) hb

end Go.Proofs.YtlcfldkmojpkpaaGreatDoor

/- The document's numbers: quotients. -/
namespace Go.Proofs.YtlcfldkmojpkpaaGreatDoor
open Go Go.RowKit

theorem alloc_N {w : World} : (Instr.alloc 31 true (.tuple #[])).run Tryz.prog w = .ok (.pointer (some ⟨w.heap.size, 0, none⟩)) (w.alloc (.cells #[.bool false, .slice none 0 0] 31)) := by go_simp
theorem neq_bool {w : World} {x y : Bool} : (binOp .neq 4 (.bool x) (.bool y)).run Tryz.prog w = .ok (.bool (x != y)) w := by cases x <;> cases y <;> go_simp
theorem neq_guard {w : World} {x y : Bool} {s t : Nat} : (eqGuard .neq 4 (.tmp s) (.tmp t) (.bool x) (.bool y)).run Tryz.prog w = .ok () w := by go_simp
theorem st_storeN {Q : Exit → Act → World → Prop} {a : Act} {w : World} {t s r : Nat} {u v : Value} {z : Int} {ty : TypeId} {pos : String} {af : Array Edge} {gd : Option (Nat × Bool)} (ht : a.eval (.tmp t) = .pointer (some ⟨r, 0, none⟩)) (hs : a.eval (.tmp s) = v) (hb : NB w r u) (hi : IsN w v z) :
    Oper.wp Tryz.prog ⟨none, .store 31 (.tmp t) (.tmp s), ty, pos, af, gd⟩ a w (fun a' w' => a' = a ∧ NB w' r v ∧ ∃ c0 c1, w' = (w.setCell ⟨r, 0, none⟩ c0).setCell ⟨r, 1, none⟩ c1) Q := by
  obtain ⟨b1, a1, l1, c1, rfl⟩ := hi.form
  obtain ⟨_, _, k0, k1, f0, f1⟩ := NB.facts0 hb
  exact op_store (a := a) ht hs (storeN k0 k1 f0 f1) ⟨rfl, hb.set b1 a1 l1 c1, _, _, rfl⟩

def quoKept : List Nat := (List.range 52).filter fun k => ![24, 25, 26, 27, 28, 29, 30, 31, 32, 33, 34, 8, 9].contains k
set_option maxRecDepth 100000 in
theorem quoN_r4 {Q : Exit → Act → World → Prop} {a0 : Act} {w0 : World} (r2 r3 : Nat) (bx bc : Bool) (sx sy : Value) (qs rs : List Int) (hN : a0.tmps.size = 52)
    (t2 : a0.tmps[2]? = some (.pointer (some ⟨r2, 0, none⟩))) (t3 : a0.tmps[3]? = some (.pointer (some ⟨r3, 0, none⟩))) (t6 : a0.tmps[6]? = some sx) (t7 : a0.tmps[7]? = some sy)
    (k2 : w0.cell? ⟨r2, 0, none⟩ = some (.bool bx)) (k3 : w0.cell? ⟨r3, 0, none⟩ = some (.bool bc)) (l2 : r2 < w0.heap.size) (l3 : r3 < w0.heap.size)
    (nq : Ns w0 sx qs) (nr : Ns w0 sy rs) (dq : T4.Dig qs) (dr : T4.Dig rs) (lq : qs.length ≤ 100000) (lr : rs.length ≤ 100000)
    (hQ : ∀ (a : Act) (w : World) (rA rB : Nat) (vA vB : Value), a.defers = a0.defers → a.tmps.size = 52 → (∀ k, k ∈ quoKept → a.tmps[k]? = a0.tmps[k]?) → a.tmps.getD 8 undef = .pointer (some ⟨rA, 0, none⟩) → a.tmps.getD 9 undef = .pointer (some ⟨rB, 0, none⟩) →
      rA ≠ rB → w0.heap.size ≤ rA → w0.heap.size ≤ rB → NB w rA vA → IsN w vA (if (bx != bc) = true then -T4.val qs else T4.val qs) → NB w rB vB → IsN w vB (if bx = true then -T4.val rs else T4.val rs) → Below w0.heap.size w0 w → Q .normal a w) :
    (Code.region 4 (regionOf Tryz.f10 4).toArray true).wp Tryz.prog Q a0 w0 := by
  refine wp_region_any (by kernel_rfl) ?_
  have hD : Below w0.heap.size w0 w0.drew := (Below.refl _ w0).drew
  refine two_any 11 6 10 52 quoKept (fun i w v => match i with
      | 0 => v = .pointer (some ⟨r2, 0, none⟩) | 1 => v = .bool bx | 2 => v = .pointer (some ⟨r3, 0, none⟩) | 3 => v = .bool bc | 4 => v = .bool (bx != bc) | 5 => v = sx
      | 6 => IsN w v (if (bx != bc) = true then -T4.val qs else T4.val qs) | 7 => v = .pointer (some ⟨r2, 0, none⟩) | 8 => v = .bool bx | 9 => v = sy | 10 => IsN w v (if bx = true then -T4.val rs else T4.val rs) | _ => True)
    (if (bx != bc) = true then -T4.val qs else T4.val qs) (if bx = true then -T4.val rs else T4.val rs)
    (by kernel_rfl) (by kernel_rfl) hN ?_ ?_ (fun _ _ h => h) (fun _ _ h => h) ?_ ?_ ?_ ?_ ?_
  · intro i w w' v h hb
    match i, h with
    | 0, h => exact h
    | 1, h => exact h
    | 2, h => exact h
    | 3, h => exact h
    | 4, h => exact h
    | 5, h => exact h
    | 6, h => exact IsN.below h hb
    | 7, h => exact h
    | 8, h => exact h
    | 9, h => exact h
    | 10, h => exact IsN.below h hb
    | _ + 11, _ => trivial
  · intro i w v r u c0 c1 h hb
    match i, h with
    | 0, h => exact h
    | 1, h => exact h
    | 2, h => exact h
    | 3, h => exact h
    | 4, h => exact h
    | 5, h => exact h
    | 6, h => exact IsN.putN h hb _ _
    | 7, h => exact h
    | 8, h => exact h
    | 9, h => exact h
    | 10, h => exact IsN.putN h hb _ _
    | _ + 11, _ => trivial
  · intro i hi a w hk hp hA'
    have hA := hD.trans hA'
    match i, hi with
    | 0, _ => exact op_fieldAddr (eval_kept (hk 2 (by decide)) t2) fieldN0 ⟨_, rfl, Below.refl _ _, rfl⟩
    | 1, _ =>
      have p : a.tmps.getD 24 undef = .pointer (some ⟨r2, 0, none⟩) := hp 0 rfl
      exact op_load (a := a) p (load_boolN ((hA.cell (p := ⟨r2, 0, none⟩) l2).trans k2)) ⟨_, rfl, Below.refl _ _, rfl⟩
    | 2, _ => exact op_fieldAddr (eval_kept (hk 3 (by decide)) t3) fieldN0 ⟨_, rfl, Below.refl _ _, rfl⟩
    | 3, _ =>
      have p : a.tmps.getD 26 undef = .pointer (some ⟨r3, 0, none⟩) := hp 2 rfl
      exact op_load (a := a) p (load_boolN ((hA.cell (p := ⟨r3, 0, none⟩) l3).trans k3)) ⟨_, rfl, Below.refl _ _, rfl⟩
    | 4, _ =>
      have p : a.tmps.getD 25 undef = .bool bx := hp 1 rfl
      have q : a.tmps.getD 27 undef = .bool bc := hp 3 rfl
      exact op_bin (a := a) p q neq_guard neq_bool ⟨_, rfl, Below.refl _ _, rfl⟩
    | 5, _ => exact op_move ⟨_, rfl, Below.refl _ _, eval_kept (hk 6 (by decide)) t6⟩
    | 6, _ =>
      have p : a.tmps.getD 28 undef = .bool (bx != bc) := hp 4 rfl
      have q : a.tmps.getD 29 undef = sx := hp 5 rfl
      refine op_call enter_trimN ?_
      rw [args2, p, q]
      refine Calls.mono (trimN_is _ _ qs w (nq.below hA) dq lq) ?_
      rintro e w' ⟨r, rfl, hb, hi⟩
      exact ⟨_, rfl, _, rfl, hb, hi⟩
    | 7, _ => exact op_fieldAddr (eval_kept (hk 2 (by decide)) t2) fieldN0 ⟨_, rfl, Below.refl _ _, rfl⟩
    | 8, _ =>
      have p : a.tmps.getD 31 undef = .pointer (some ⟨r2, 0, none⟩) := hp 7 rfl
      exact op_load (a := a) p (load_boolN ((hA.cell (p := ⟨r2, 0, none⟩) l2).trans k2)) ⟨_, rfl, Below.refl _ _, rfl⟩
    | 9, _ => exact op_move ⟨_, rfl, Below.refl _ _, eval_kept (hk 7 (by decide)) t7⟩
    | 10, _ =>
      have p : a.tmps.getD 32 undef = .bool bx := hp 8 rfl
      have q : a.tmps.getD 33 undef = sy := hp 9 rfl
      refine op_call enter_trimN ?_
      rw [args2, p, q]
      refine Calls.mono (trimN_is _ _ rs w (nr.below hA) dr lr) ?_
      rintro e w' ⟨r, rfl, hb, hi⟩
      exact ⟨_, rfl, _, rfl, hb, hi⟩
  · rintro i (rfl | rfl) a w
    · exact op_alloc alloc_N ⟨rfl, (Below.refl _ w).alloc (Nat.le_refl _) _, _, NB.new w false none 0 0⟩
    · exact op_alloc alloc_N ⟨rfl, (Below.refl _ w).alloc (Nat.le_refl _) _, _, NB.new w false none 0 0⟩
  · intro a w r u e8 hb hi
    exact st_storeN (a := a) e8 rfl hb hi
  · intro a w r u e9 hb hi
    exact st_storeN (a := a) e9 rfl hb hi
  · intro a w rA rB vA vB hd hsz hk eA eB hne lA lB nA qA nB qB hb
    exact hQ a w rA rB vA vB hd hsz hk eA eB hne lA lB nA qA nB qB (hD.trans hb)

def quoKept8 : List Nat := (List.range 52).filter fun k => ![44, 45, 46].contains k
set_option maxRecDepth 100000 in
theorem quoN_r8 {Q : Exit → Act → World → Prop} {a0 : Act} {w0 : World} (B r8 : Nat) (v8 : Value) (z : Int) (hN : a0.tmps.size = 52)
    (t8 : a0.tmps[8]? = some (.pointer (some ⟨r8, 0, none⟩))) (n8 : NB w0 r8 v8) (i8 : IsN w0 v8 z) (hz : (z.natAbs : Int) < T4.pw 4000) (hB : B ≤ r8)
    (hQ : ∀ (a : Act) (w : World) (v : Value), a.defers = a0.defers → a.tmps.size = 52 → (∀ k, k ∈ quoKept8 → a.tmps[k]? = a0.tmps[k]?) → NB w r8 v → IsN w v (z + 1) → Below B w0 w → (∀ r u, r ≠ r8 → NB w0 r u → NB w r u) → (∀ u y, IsN w0 u y → IsN w u y) → Q .normal a w) :
    (Code.region 8 (regionOf Tryz.f10 8).toArray true).wp Tryz.prog Q a0 w0 := by
  refine wp_region_any (by kernel_rfl) ?_
  refine coll2_any 2 52 quoKept8 (fun i w v => match i with | 0 => v = v8 | 1 => IsN w v 1 | _ => True)
    (fun w => Below w0.heap.size w0 w)
    (fun v w => Below w0.heap.size w0 w ∧ IsN w v (z + 1))
    (fun v w => NB w r8 v ∧ IsN w v (z + 1) ∧ Below B w0 w ∧ (∀ r u, r ≠ r8 → NB w0 r u → NB w r u) ∧ (∀ u y, IsN w0 u y → IsN w u y))
    (by kernel_rfl) (by kernel_rfl) hN (Below.refl _ w0).drew ?_ ?_ ?_ ?_ ?_
  · intro i w w' v h hb
    match i, h with
    | 0, h => exact h
    | 1, h => exact IsN.below h hb
    | _ + 2, _ => trivial
  · intro i hi a w hk hp hA
    match i, hi with
    | 0, _ => exact op_load (a := a) (eval_kept (hk 8 (by decide)) t8) (load_NB (n8.below hA)) ⟨_, rfl, Below.refl _ _, rfl, hA⟩
    | 1, _ =>
      refine op_call enter_ofN ?_
      have e : (#[Operand.const (.int .i64 1)]).map a.eval = #[.int .i64 1] := by simp only [List.map_toArray, List.map_cons, List.map_nil, Act.eval]
      rw [e]
      refine Calls.mono (ofN_any 1 w (by omega) (by omega)) ?_
      rintro e w' ⟨r, rfl, hb, hi⟩
      exact ⟨_, rfl, _, rfl, hb, hi, hA.trans (hb.mono hA.size)⟩
  · intro a w hk hp hA
    have p : a.tmps.getD 44 undef = v8 := hp 0 rfl
    have q : IsN w (a.tmps.getD 45 undef) 1 := hp 1 rfl
    refine op_call enter_addN ?_
    rw [args2, p]
    refine Calls.mono (addN_any _ _ z 1 w (i8.below hA) q (Int.lt_of_lt_of_le hz (T4.pw_mono (by omega))) (by have := T4.pw_mono (show 1 ≤ 9000 by omega); have h1 : T4.pw 1 = 10000 := (by decide); omega)) ?_
    rintro e w' ⟨r, rfl, hb, hi⟩
    exact ⟨_, rfl, _, rfl, hA.trans (hb.mono hA.size), hi⟩
  · rintro a w hk ⟨hA, hi⟩
    have n8' := n8.below hA
    refine Oper.wp_mono ?_ (st_storeN (a := a) (eval_kept (hk 8 (by decide)) t8) rfl n8' hi)
    rintro a' w' ⟨rfl, hn, c0, c1, rfl⟩
    exact ⟨rfl, hn, hi.putN n8' _ _, below_put (hA.mono (Nat.le_trans hB (Nat.le_of_lt n8.lt))) hB _ _, fun r u hr h => (h.below hA).put (Ne.symm hr) _ _, fun u y h => (h.below hA).putN n8' _ _⟩
  · rintro a w hd hsz hk ⟨h1, h2, h3, h4, h5⟩
    exact hQ a w _ hd hsz hk h1 h2 h3 h4 h5

def quoKept9 : List Nat := (List.range 52).filter fun k => ![47, 48, 49].contains k
set_option maxRecDepth 100000 in
theorem quoN_r9 {Q : Exit → Act → World → Prop} {a0 : Act} {w0 : World} (B r8 : Nat) (v8 : Value) (z : Int) (hN : a0.tmps.size = 52)
    (t8 : a0.tmps[8]? = some (.pointer (some ⟨r8, 0, none⟩))) (n8 : NB w0 r8 v8) (i8 : IsN w0 v8 z) (hz : (z.natAbs : Int) < T4.pw 4000) (hB : B ≤ r8)
    (hQ : ∀ (a : Act) (w : World) (v : Value), a.defers = a0.defers → a.tmps.size = 52 → (∀ k, k ∈ quoKept9 → a.tmps[k]? = a0.tmps[k]?) → NB w r8 v → IsN w v (z - 1) → Below B w0 w → (∀ r u, r ≠ r8 → NB w0 r u → NB w r u) → (∀ u y, IsN w0 u y → IsN w u y) → Q .normal a w) :
    (Code.region 9 (regionOf Tryz.f10 9).toArray true).wp Tryz.prog Q a0 w0 := by
  refine wp_region_any (by kernel_rfl) ?_
  refine coll2_any 2 52 quoKept9 (fun i w v => match i with | 0 => v = v8 | 1 => IsN w v 1 | _ => True)
    (fun w => Below w0.heap.size w0 w)
    (fun v w => Below w0.heap.size w0 w ∧ IsN w v (z - 1))
    (fun v w => NB w r8 v ∧ IsN w v (z - 1) ∧ Below B w0 w ∧ (∀ r u, r ≠ r8 → NB w0 r u → NB w r u) ∧ (∀ u y, IsN w0 u y → IsN w u y))
    (by kernel_rfl) (by kernel_rfl) hN (Below.refl _ w0).drew ?_ ?_ ?_ ?_ ?_
  · intro i w w' v h hb
    match i, h with
    | 0, h => exact h
    | 1, h => exact IsN.below h hb
    | _ + 2, _ => trivial
  · intro i hi a w hk hp hA
    match i, hi with
    | 0, _ => exact op_load (a := a) (eval_kept (hk 8 (by decide)) t8) (load_NB (n8.below hA)) ⟨_, rfl, Below.refl _ _, rfl, hA⟩
    | 1, _ =>
      refine op_call enter_ofN ?_
      have e : (#[Operand.const (.int .i64 1)]).map a.eval = #[.int .i64 1] := by simp only [List.map_toArray, List.map_cons, List.map_nil, Act.eval]
      rw [e]
      refine Calls.mono (ofN_any 1 w (by omega) (by omega)) ?_
      rintro e w' ⟨r, rfl, hb, hi⟩
      exact ⟨_, rfl, _, rfl, hb, hi, hA.trans (hb.mono hA.size)⟩
  · intro a w hk hp hA
    have p : a.tmps.getD 47 undef = v8 := hp 0 rfl
    have q : IsN w (a.tmps.getD 48 undef) 1 := hp 1 rfl
    refine op_call enter_subN ?_
    rw [args2, p]
    refine Calls.mono (subN_any _ _ z 1 w (i8.below hA) q (Int.lt_of_lt_of_le hz (T4.pw_mono (by omega))) (by have := T4.pw_mono (show 1 ≤ 9000 by omega); have h1 : T4.pw 1 = 10000 := (by decide); omega)) ?_
    rintro e w' ⟨r, rfl, hb, hi⟩
    exact ⟨_, rfl, _, rfl, hA.trans (hb.mono hA.size), hi⟩
  · rintro a w hk ⟨hA, hi⟩
    have n8' := n8.below hA
    refine Oper.wp_mono ?_ (st_storeN (a := a) (eval_kept (hk 8 (by decide)) t8) rfl n8' hi)
    rintro a' w' ⟨rfl, hn, c0, c1, rfl⟩
    exact ⟨rfl, hn, hi.putN n8' _ _, below_put (hA.mono (Nat.le_trans hB (Nat.le_of_lt n8.lt))) hB _ _, fun r u hr h => (h.below hA).put (Ne.symm hr) _ _, fun u y h => (h.below hA).putN n8' _ _⟩
  · rintro a w hd hsz hk ⟨h1, h2, h3, h4, h5⟩
    exact hQ a w _ hd hsz hk h1 h2 h3 h4 h5

theorem two_out {P : Program} {Q : Exit → Act → World → Prop} {l : List Oper} {a0 : Act} {w0 w1 w2 : World} (N : Nat) (kept : List Nat) (va vb : Value)
    (hg : fitF N 0 kept l = true) (hl : l.length = 4) (hgu : (l.all fun o => o.guard.isNone) = true)
    (hp2 : (preds (l.getD 2 default)).contains 0 = true) (hp31 : (preds (l.getD 3 default)).contains 1 = true) (hp32 : (preds (l.getD 3 default)).contains 2 = true)
    (hd01 : (l.getD 0 default).dst.isSome = true ∧ (l.getD 1 default).dst.isSome = true ∧ (l.getD 2 default).dst = none ∧ (l.getD 3 default).dst = none) (hN : a0.tmps.size = N)
    (h0 : ∀ a : Act, (∀ k, k ∈ kept → a.tmps[k]? = a0.tmps[k]?) → (l.getD 0 default).wp P a w0 (fun a' w' => a' = a.put (l.getD 0 default).dst va ∧ w' = w0) Q)
    (h1 : ∀ (a : Act) (w : World), (∀ k, k ∈ kept → a.tmps[k]? = a0.tmps[k]?) → w = w0 ∨ w = w1 → (l.getD 1 default).wp P a w (fun a' w' => a' = a.put (l.getD 1 default).dst vb ∧ w' = w) Q)
    (h2 : ∀ a : Act, (∀ k, k ∈ kept → a.tmps[k]? = a0.tmps[k]?) → slotOf l.toArray a 0 = va → (l.getD 2 default).wp P a w0 (fun a' w' => a' = a ∧ w' = w1) Q)
    (h3 : ∀ a : Act, (∀ k, k ∈ kept → a.tmps[k]? = a0.tmps[k]?) → slotOf l.toArray a 1 = vb → (l.getD 3 default).wp P a w1 (fun a' w' => a' = a ∧ w' = w2) Q)
    (hend : ∀ a : Act, a.defers = a0.defers → a.tmps.size = N → (∀ k, k ∈ kept → a.tmps[k]? = a0.tmps[k]?) → Q .normal a w2) :
    wpAny P .any l.toArray Q l.toArray.size (Array.replicate l.toArray.size false) a0 w0 := by
  have hg0 : ∀ (i : Nat) (o : Oper), l[i]? = some o → o.guard = none := fun i o ho => by
    have := List.all_eq_true.1 hgu o (List.mem_of_getElem? ho)
    simpa using this
  have hgd : ∀ (i : Nat) (o : Oper), l[i]? = some o → l.getD i default = o := fun i o ho => by simp [List.getD_eq_getElem?_getD, ho]
  obtain ⟨d0, d1, d2, d3⟩ := hd01
  let Φ : Nat → Value → Prop := fun i v => (i = 0 → v = va) ∧ (i = 1 → v = vb)
  let J : Array Bool → Act → World → Prop := fun listed _ w => w = if listed.getD 3 false = true then w2 else if listed.getD 2 false = true then w1 else w0
  have hf : ∀ j, (Array.replicate l.length false).getD j false = false := fun j => by
    by_cases h : j < l.length <;> simp [h]
  refine stepsF N kept Φ J hg hN ?_ ?_ ?_ ?_
  · show w0 = if _ then _ else _
    rw [hf, hf]
    simp
  · intro i o ho listed a w hsz hun hdown hdf hn hk hp hJ
    have hil : i < 4 := by have := (List.getElem?_eq_some_iff.1 ho).1; omega
    have hunf : listed.getD i false = false := by
      have : i < listed.size := by omega
      simpa [this] using hun
    have hset : (listed.setIfInBounds i true).getD i false = true := by
      have : i < listed.size := by omega
      simp [this]
    have hw : Region.wanted o (yielded l.toArray a.tmps) = true := by simp [Region.wanted, hg0 i o ho]
    rw [if_pos hw]
    have e := hgd i o ho
    have g2 : l[2]? = some (l.getD 2 default) := by simp [List.getD_eq_getElem?_getD, hl]
    have g3 : l[3]? = some (l.getD 3 default) := by simp [List.getD_eq_getElem?_getD, hl]
    have s2 : listed.getD 2 false = true → listed.getD 0 false = true := fun h => hdown 2 _ g2 h 0 hp2
    have s3 : listed.getD 3 false = true → listed.getD 1 false = true ∧ listed.getD 2 false = true := fun h => ⟨hdown 3 _ g3 h 1 hp31, hdown 3 _ g3 h 2 hp32⟩
    have hJ' : w = if listed.getD 3 false = true then w2 else if listed.getD 2 false = true then w1 else w0 := hJ
    have ff : ∀ {b : Bool}, ¬ b = true → b = false := fun h => by simpa using h
    match i, hil with
    | 0, _ =>
      have n2 : listed.getD 2 false = false := ff fun h => by have := s2 h; rw [hunf] at this; cases this
      have n3 : listed.getD 3 false = false := ff fun h => by have := (s3 h).2; rw [n2] at this; cases this
      rw [n3, n2] at hJ'
      have hw0 : w = w0 := hJ'
      subst hw0
      have h := h0 a hk
      rw [e] at h
      refine Oper.wp_mono ?_ h
      rintro a' w' ⟨rfl, rfl⟩
      refine ⟨_, rfl, fun _ => ⟨fun _ => rfl, fun h => by cases h⟩, ?_⟩
      show _ = if _ then _ else _
      rw [getD_set_ne false (by decide : (0 : Nat) ≠ 3), getD_set_ne false (by decide : (0 : Nat) ≠ 2), n3, n2]
      rfl
    | 1, _ =>
      have n3 : listed.getD 3 false = false := ff fun h => by have := (s3 h).1; rw [hunf] at this; cases this
      have hw1 : w = w0 ∨ w = w1 := by
        rw [n3] at hJ'
        cases h : listed.getD 2 false with
        | true => rw [h] at hJ'; exact .inr hJ'
        | false => rw [h] at hJ'; exact .inl hJ'
      have h := h1 a w hk hw1
      rw [e] at h
      refine Oper.wp_mono ?_ h
      rintro a' w' ⟨rfl, rfl⟩
      refine ⟨_, rfl, fun _ => ⟨fun h => (by cases h), fun _ => rfl⟩, ?_⟩
      show _ = if _ then _ else _
      rw [getD_set_ne false (by decide : (1 : Nat) ≠ 3), getD_set_ne false (by decide : (1 : Nat) ≠ 2)]
      exact hJ'
    | 2, _ =>
      have n3 : listed.getD 3 false = false := ff fun h => by have := (s3 h).2; rw [hunf] at this; cases this
      rw [n3, hunf] at hJ'
      have hw0 : w = w0 := hJ'
      subst hw0
      have h := h2 a hk ((hp 0 (by rw [← e]; exact hp2)).2.1 rfl)
      rw [e] at h
      refine Oper.wp_mono ?_ h
      rintro a' w' ⟨rfl, rfl⟩
      refine ⟨undef, by rw [← e, d2]; rfl, fun h => (by rw [← e, d2] at h; cases h), ?_⟩
      show _ = if _ then _ else _
      rw [getD_set_ne false (by decide : (2 : Nat) ≠ 3), n3, hset]
      rfl
    | 3, _ =>
      have l2 : listed.getD 2 false = true := (hp 2 (by rw [← e]; exact hp32)).1
      rw [hunf, l2] at hJ'
      have hw0 : w = w1 := hJ'
      subst hw0
      have h := h3 a hk ((hp 1 (by rw [← e]; exact hp31)).2.2 rfl)
      rw [e] at h
      refine Oper.wp_mono ?_ h
      rintro a' w' ⟨rfl, rfl⟩
      refine ⟨undef, by rw [← e, d3]; rfl, fun h => (by rw [← e, d3] at h; cases h), ?_⟩
      show _ = if _ then _ else _
      rw [hset]
      rfl
  · intro i o ho hd v
    have hil : i < 4 := by have := (List.getElem?_eq_some_iff.1 ho).1; omega
    have e := hgd i o ho
    refine ⟨fun h => ?_, fun h => ?_⟩
    · subst h; rw [e, hd] at d0; cases d0
    · subst h; rw [e, hd] at d1; cases d1
  · intro listed a w hsz hall hdf hn hk _ hJ
    have hJ' : w = if listed.getD 3 false = true then w2 else if listed.getD 2 false = true then w1 else w0 := hJ
    rw [hall 3 (by omega)] at hJ'
    have hw : w = w2 := hJ'
    subst hw
    exact hend a hdf hn hk

theorem build_N {Q : Exit → Act → World → Prop} {K : Act → World → Prop} {a : Act} {w : World} {dst : Option Tmp} {ty : TypeId} {pos : String} {af : Array Edge} {gd : Option (Nat × Bool)} (h : K (a.put dst (.agg #[.bool false, .slice none 0 0])) w) : Oper.wp Tryz.prog ⟨dst, .build 31 #[], ty, pos, af, gd⟩ a w K Q := by
  unfold Oper.wp
  simp only [execOp]
  go_simp
  exact h
theorem NB.putSelf2 {w : World} {r : Nat} {u v : Value} {z : Int} (hb : NB w r u) (hi : IsN w v z) : ∃ c0 c1, (Instr.storeAt 31 (.pointer (some ⟨r, 0, none⟩)) v).run Tryz.prog w = .ok () ((w.setCell ⟨r, 0, none⟩ c0).setCell ⟨r, 1, none⟩ c1) ∧ NB ((w.setCell ⟨r, 0, none⟩ c0).setCell ⟨r, 1, none⟩ c1) r v := by
  obtain ⟨b1, a1, l1, c1, rfl⟩ := hi.form
  obtain ⟨_, _, k0, k1, f0, f1⟩ := NB.facts0 hb
  exact ⟨_, _, storeN k0 k1 f0 f1, hb.set b1 a1 l1 c1⟩
set_option maxRecDepth 100000 in
theorem quoN_r2 {Q : Exit → Act → World → Prop} {a0 : Act} {w0 : World} (B r4 r5 r9 : Nat) (v8 v9 u4 u5 : Value) (z8 z9 : Int) (hN : a0.tmps.size = 52)
    (t4 : a0.tmps[4]? = some (.pointer (some ⟨r4, 0, none⟩))) (t5 : a0.tmps[5]? = some (.pointer (some ⟨r5, 0, none⟩))) (hv8 : v8 = .agg #[.bool false, .slice none 0 0]) (t9 : a0.tmps[2]? = some (.pointer (some ⟨r9, 0, none⟩))) (n9 : NB w0 r9 v9)
    (i8 : IsN w0 v8 z8) (i9 : IsN w0 v9 z9) (n4 : NB w0 r4 u4) (n5 : NB w0 r5 u5) (h45 : r4 ≠ r5) (h49 : r4 ≠ r9) (b4 : B ≤ r4) (b5 : B ≤ r5)
    (hQ : ∀ (a : Act) (w : World), a.defers = a0.defers → a.tmps[4]? = some (.pointer (some ⟨r4, 0, none⟩)) → a.tmps[5]? = some (.pointer (some ⟨r5, 0, none⟩)) → NB w r4 v8 → NB w r5 v9 → IsN w v8 z8 → IsN w v9 z9 → Below B w0 w → Q .normal a w) :
    (Code.region 2 (regionOf Tryz.f10 2).toArray true).wp Tryz.prog Q a0 w0 := by
  refine wp_region_any (by kernel_rfl) ?_
  have hD : Below w0.heap.size w0 w0.drew := (Below.refl _ w0).drew
  have n4' := n4.below hD
  have i8' := i8.below hD
  obtain ⟨c0, c1, e1, m4⟩ := NB.putSelf2 n4' i8'
  have n5' := (n5.below hD).put h45 c0 c1
  have i9' := (i9.below hD).putN n4' c0 c1
  obtain ⟨d0, d1, e2, m5⟩ := NB.putSelf2 n5' i9'
  refine two_out 52 ((List.range 52).filter fun k => ![14, 15].contains k) v8 v9 (by kernel_rfl) (by kernel_rfl) (by kernel_rfl) (by kernel_rfl) (by kernel_rfl) (by kernel_rfl) ⟨by kernel_rfl, by kernel_rfl, by kernel_rfl, by kernel_rfl⟩ hN (w1 := (w0.drew.setCell ⟨r4, 0, none⟩ c0).setCell ⟨r4, 1, none⟩ c1) (w2 := (((w0.drew.setCell ⟨r4, 0, none⟩ c0).setCell ⟨r4, 1, none⟩ c1).setCell ⟨r5, 0, none⟩ d0).setCell ⟨r5, 1, none⟩ d1) ?_ ?_ ?_ ?_ ?_
  · intro a hk
    subst hv8
    exact build_N ⟨rfl, rfl⟩
  · rintro a w hk (rfl | rfl)
    · exact op_load (a := a) (eval_kept (hk 2 (by decide)) t9) (load_NB (n9.below hD)) ⟨rfl, rfl⟩
    · exact op_load (a := a) (eval_kept (hk 2 (by decide)) t9) (load_NB ((n9.below hD).put h49 c0 c1)) ⟨rfl, rfl⟩
  · intro a hk e
    exact op_store (a := a) (eval_kept (hk 4 (by decide)) t4) e e1 ⟨rfl, rfl⟩
  · intro a hk e
    exact op_store (a := a) (eval_kept (hk 5 (by decide)) t5) e e2 ⟨rfl, rfl⟩
  · intro a hd hsz hk
    exact hQ a _ hd ((hk 4 (by decide)).trans t4) ((hk 5 (by decide)).trans t5) (m4.put (Ne.symm h45) _ _) m5 ((i8'.putN n4' _ _).putN n5' _ _) (i9'.putN n5' _ _) (below_put (below_put (hD.mono (Nat.le_trans b4 (Nat.le_of_lt n4.lt))) b4 _ _) b5 _ _)

theorem NB.putSelf10 {w : World} {r : Nat} {u v : Value} {z : Int} (hb : NB w r u) (hi : IsN w v z) : ∃ c0 c1, (Instr.storeAt 31 (.pointer (some ⟨r, 0, none⟩)) v).run Tryz.prog w = .ok () ((w.setCell ⟨r, 0, none⟩ c0).setCell ⟨r, 1, none⟩ c1) ∧ NB ((w.setCell ⟨r, 0, none⟩ c0).setCell ⟨r, 1, none⟩ c1) r v := by
  obtain ⟨b1, a1, l1, c1, rfl⟩ := hi.form
  obtain ⟨_, _, k0, k1, f0, f1⟩ := NB.facts0 hb
  exact ⟨_, _, storeN k0 k1 f0 f1, hb.set b1 a1 l1 c1⟩
set_option maxRecDepth 100000 in
theorem quoN_r10 {Q : Exit → Act → World → Prop} {a0 : Act} {w0 : World} (B r4 r5 r8 r9 : Nat) (v8 v9 u4 u5 : Value) (z8 z9 : Int) (hN : a0.tmps.size = 52)
    (t4 : a0.tmps[4]? = some (.pointer (some ⟨r4, 0, none⟩))) (t5 : a0.tmps[5]? = some (.pointer (some ⟨r5, 0, none⟩))) (t8 : a0.tmps[8]? = some (.pointer (some ⟨r8, 0, none⟩))) (n8 : NB w0 r8 v8) (t9 : a0.tmps[9]? = some (.pointer (some ⟨r9, 0, none⟩))) (n9 : NB w0 r9 v9)
    (i8 : IsN w0 v8 z8) (i9 : IsN w0 v9 z9) (n4 : NB w0 r4 u4) (n5 : NB w0 r5 u5) (h45 : r4 ≠ r5) (h49 : r4 ≠ r9) (b4 : B ≤ r4) (b5 : B ≤ r5)
    (hQ : ∀ (a : Act) (w : World), a.defers = a0.defers → a.tmps[4]? = some (.pointer (some ⟨r4, 0, none⟩)) → a.tmps[5]? = some (.pointer (some ⟨r5, 0, none⟩)) → NB w r4 v8 → NB w r5 v9 → IsN w v8 z8 → IsN w v9 z9 → Below B w0 w → Q .normal a w) :
    (Code.region 10 (regionOf Tryz.f10 10).toArray true).wp Tryz.prog Q a0 w0 := by
  refine wp_region_any (by kernel_rfl) ?_
  have hD : Below w0.heap.size w0 w0.drew := (Below.refl _ w0).drew
  have n4' := n4.below hD
  have i8' := i8.below hD
  obtain ⟨c0, c1, e1, m4⟩ := NB.putSelf10 n4' i8'
  have n5' := (n5.below hD).put h45 c0 c1
  have i9' := (i9.below hD).putN n4' c0 c1
  obtain ⟨d0, d1, e2, m5⟩ := NB.putSelf10 n5' i9'
  refine two_out 52 ((List.range 52).filter fun k => ![50, 51].contains k) v8 v9 (by kernel_rfl) (by kernel_rfl) (by kernel_rfl) (by kernel_rfl) (by kernel_rfl) (by kernel_rfl) ⟨by kernel_rfl, by kernel_rfl, by kernel_rfl, by kernel_rfl⟩ hN (w1 := (w0.drew.setCell ⟨r4, 0, none⟩ c0).setCell ⟨r4, 1, none⟩ c1) (w2 := (((w0.drew.setCell ⟨r4, 0, none⟩ c0).setCell ⟨r4, 1, none⟩ c1).setCell ⟨r5, 0, none⟩ d0).setCell ⟨r5, 1, none⟩ d1) ?_ ?_ ?_ ?_ ?_
  · intro a hk
    exact op_load (a := a) (eval_kept (hk 8 (by decide)) t8) (load_NB (n8.below hD)) ⟨rfl, rfl⟩
  · rintro a w hk (rfl | rfl)
    · exact op_load (a := a) (eval_kept (hk 9 (by decide)) t9) (load_NB (n9.below hD)) ⟨rfl, rfl⟩
    · exact op_load (a := a) (eval_kept (hk 9 (by decide)) t9) (load_NB ((n9.below hD).put h49 c0 c1)) ⟨rfl, rfl⟩
  · intro a hk e
    exact op_store (a := a) (eval_kept (hk 4 (by decide)) t4) e e1 ⟨rfl, rfl⟩
  · intro a hk e
    exact op_store (a := a) (eval_kept (hk 5 (by decide)) t5) e e2 ⟨rfl, rfl⟩
  · intro a hd hsz hk
    exact hQ a _ hd ((hk 4 (by decide)).trans t4) ((hk 5 (by decide)).trans t5) (m4.put (Ne.symm h45) _ _) m5 ((i8'.putN n4' _ _).putN n5' _ _) (i9'.putN n5' _ _) (below_put (below_put (hD.mono (Nat.le_trans b4 (Nat.le_of_lt n4.lt))) b4 _ _) b5 _ _)

end Go.Proofs.YtlcfldkmojpkpaaGreatDoor

/- The document's numbers: the walk of Quo. -/
namespace Go.Proofs.YtlcfldkmojpkpaaGreatDoor
open Go Go.RowKit

theorem quo_math {z1 z2 q r : Int} (h : z1 = z2 * q + r) (h0 : 0 ≤ r) (h1 : r < (z2.natAbs : Int)) : z1 / z2 = q ∧ z1 % z2 = r := by
  rcases Int.lt_trichotomy z2 0 with hz | hz | hz
  · have h2 : (z2.natAbs : Int) = -z2 := by omega
    have h3 := (Int.ediv_emod_unique (a := z1) (b := -z2) (q := -q) (r := r) (by omega)).2 ⟨by rw [h, Int.neg_mul_neg]; omega, h0, by omega⟩
    rw [Int.ediv_neg, Int.emod_neg] at h3
    exact ⟨by omega, h3.2⟩
  · subst hz; simp at h1; omega
  · have h2 : (z2.natAbs : Int) = z2 := by omega
    exact (Int.ediv_emod_unique hz).2 ⟨by rw [h]; omega, h0, by omega⟩
theorem quo_fin {z1 z2 Q R q0 r0 : Int} (h : (z1.natAbs : Int) = Q * (z2.natAbs : Int) + R) (h0 : 0 ≤ R) (h1 : R < (z2.natAbs : Int))
    (hq : q0 = if (decide (z1 < 0) != decide (z2 < 0)) = true then -Q else Q) (hr : r0 = if decide (z1 < 0) = true then -R else R) :
    (¬ r0 < 0 → z1 / z2 = q0 ∧ z1 % z2 = r0) ∧ (r0 < 0 → z2 < 0 → z1 / z2 = q0 + 1 ∧ z1 % z2 = r0 + (z2.natAbs : Int)) ∧ (r0 < 0 → ¬ z2 < 0 → z1 / z2 = q0 - 1 ∧ z1 % z2 = r0 + (z2.natAbs : Int)) := by
  obtain ⟨X, hX⟩ : ∃ X : Int, X = z1.natAbs := ⟨_, rfl⟩
  obtain ⟨Y, hY⟩ : ∃ Y : Int, Y = z2.natAbs := ⟨_, rfl⟩
  rw [← hX, ← hY] at h
  rw [← hY] at h1 ⊢
  have m : ∀ q r : Int, z1 = z2 * q + r → 0 ≤ r → r < Y → z1 / z2 = q ∧ z1 % z2 = r := fun q r e e0 e1 => quo_math e e0 (by omega)
  by_cases s1 : z1 < 0
  · obtain rfl : z1 = -X := by omega
    by_cases s2 : z2 < 0
    · obtain rfl : z2 = -Y := by omega
      simp only [s1, s2, decide_true, bne_self_eq_false, Bool.false_eq_true, if_false, if_true] at hq hr
      subst hq hr
      refine ⟨fun g => m _ _ ?_ ?_ ?_, fun g _ => m _ _ ?_ ?_ ?_, fun _ g => absurd s2 g⟩ <;> first | omega | grind
    · obtain rfl : z2 = Y := by omega
      simp only [s1, s2, decide_true, decide_false, bne_iff_ne, ne_eq, Bool.true_eq_false, not_false_eq_true, if_true] at hq hr
      subst hq hr
      refine ⟨fun g => m _ _ ?_ ?_ ?_, fun _ g => absurd g s2, fun g _ => m _ _ ?_ ?_ ?_⟩ <;> first | omega | grind
  · obtain rfl : z1 = X := by omega
    by_cases s2 : z2 < 0
    · obtain rfl : z2 = -Y := by omega
      simp only [s1, s2, decide_true, decide_false, bne_iff_ne, ne_eq, Bool.false_eq_true, not_false_eq_true, if_true, if_false] at hq hr
      subst hq hr
      refine ⟨fun g => m _ _ ?_ ?_ ?_, fun g _ => by omega, fun g _ => by omega⟩ <;> first | omega | grind
    · obtain rfl : z2 = Y := by omega
      simp only [s1, s2, decide_false, bne_self_eq_false, Bool.false_eq_true, if_false] at hq hr
      subst hq hr
      refine ⟨fun g => m _ _ ?_ ?_ ?_, fun g _ => by omega, fun g _ => by omega⟩ <;> first | omega | grind

theorem res_NN {W : World} {fn : Func} {a : Act} {t s r q : Nat} {v u : Value} (hf : fn.results = #[.cell t 31, .cell s 31]) (ht : a.tmps[t]? = some (.pointer (some ⟨r, 0, none⟩))) (hs : a.tmps[s]? = some (.pointer (some ⟨q, 0, none⟩))) (hb : NB W r v) (hc : NB W q u) : (results fn a.tmps).run Tryz.prog W = .ok (.tuple #[v, u]) W := by
  obtain ⟨b, aa, l, c, rfl, _⟩ := id hb
  obtain ⟨b', aa', l', c', rfl, _⟩ := id hc
  obtain ⟨k0, k1, f0, f1⟩ := hb.facts
  obtain ⟨m0, m1, g0, g1⟩ := hc.facts
  simp [results, hf, ht, hs, go_sem, k0, k1, m0, m1]

set_option maxRecDepth 100000 in
set_option maxHeartbeats 8000000 in
theorem quoN_any (v1 v2 : Value) (z1 z2 : Int) (w : World) (h1 : IsN w v1 z1) (h2 : IsN w v2 z2) (b1 : (z1.natAbs : Int) < T4.pw 3000) (b2 : (z2.natAbs : Int) < T4.pw 3000) :
    Calls Tryz.prog 10 #[v1, v2] w fun e w' => ∃ q r, e = .returned (.tuple #[q, r]) ∧ Below w.heap.size w w' ∧ IsN w' q (z1 / z2) ∧ IsN w' r (z1 % z2) := by
  have hi1 := h1
  have hi2 := h2
  obtain ⟨a1, l1, c1, xs, rfl, n1, d1, m1, e1, q1⟩ := h1.small b1
  obtain ⟨a2, l2, c2, ys, rfl, n2, d2, m2, e2, q2⟩ := h2.small b2
  have x1 := (((NB.new w (decide (z1 < 0)) a1 l1 c1).alloc (.cells #[.bool (decide (z2 < 0)), .slice a2 l2 c2] 31)).alloc (.cells #[.bool false, .slice none 0 0] 31)).alloc (.cells #[.bool false, .slice none 0 0] 31)
  have x2 := ((NB.new (w.alloc (.cells #[.bool (decide (z1 < 0)), .slice a1 l1 c1] 31)) (decide (z2 < 0)) a2 l2 c2).alloc (.cells #[.bool false, .slice none 0 0] 31)).alloc (.cells #[.bool false, .slice none 0 0] 31)
  have x3 := (NB.new ((w.alloc (.cells #[.bool (decide (z1 < 0)), .slice a1 l1 c1] 31)).alloc (.cells #[.bool (decide (z2 < 0)), .slice a2 l2 c2] 31)) false none 0 0).alloc (.cells #[.bool false, .slice none 0 0] 31)
  have x4 := NB.new (((w.alloc (.cells #[.bool (decide (z1 < 0)), .slice a1 l1 c1] 31)).alloc (.cells #[.bool (decide (z2 < 0)), .slice a2 l2 c2] 31)).alloc (.cells #[.bool false, .slice none 0 0] 31)) false none 0 0
  simp only [World.size_alloc] at x2 x3 x4
  have hB : Below w.heap.size w ((((w.alloc (.cells #[.bool (decide (z1 < 0)), .slice a1 l1 c1] 31)).alloc (.cells #[.bool (decide (z2 < 0)), .slice a2 l2 c2] 31)).alloc (.cells #[.bool false, .slice none 0 0] 31)).alloc (.cells #[.bool false, .slice none 0 0] 31)) := ((((Below.refl _ w).alloc (Nat.le_refl _) _).alloc (by simp) _).alloc (by simp; omega) _).alloc (by simp; omega) _
  replace n1 := n1.below hB
  replace n2 := n2.below hB
  replace hi1 := hi1.below hB
  replace hi2 := hi2.below hB
  have hl2 := n2.len
  obtain ⟨k10, k11, f10, f11⟩ := x1.facts
  obtain ⟨k20, k21, f20, f21⟩ := x2.facts
  have X1 := hide x1
  have X2 := hide x2
  have X3 := hide x3
  have X4 := hide x4
  have HB := hide hB
  by_cases hz : z2 = 0
  · have q9 : z1 / z2 = 0 := by rw [hz]; exact Int.ediv_zero z1
    have r9 : z1 % z2 = z1 := by rw [hz]; exact Int.emod_zero z1
    rw [q9, r9]
    clear q9 r9
    have hl0 : l2 = 0 := by
      rw [hl2]
      exact (val_zero_iff d2 m2).1 (by rw [e2, hz]; rfl)
    subst hl0
    have HI := hide hi1
    have HZ := hide (show ∀ W, IsN W (.agg #[.bool false, .slice none 0 0]) 0 from fun W => ⟨none, 0, 0, [], rfl, ⟨none, 0, rfl, Nat.le_refl _, fun h => absurd rfl h⟩, T4.Dig.nil, T4.Norm.nil, rfl⟩)
    clear h1 h2 n1 n2 d1 d2 m1 m2 e1 e2 q1 q2 x1 x2 x3 x4 hB b1 b2 hi1 hi2 hl2 hz
    go_enter Tryz.func10, Tryz.ntmps10
    go_wp2_with fail
    refine quoN_r2 w.heap.size (w.heap.size + 1 + 1) (w.heap.size + 1 + 1 + 1) w.heap.size (.agg #[.bool false, .slice none 0 0]) _ _ _ 0 z1 rfl rfl rfl rfl rfl (unhide X1) (unhide HZ _) (unhide HI) (unhide X3) (unhide X4) (by omega) (by omega) (by omega) (by omega) ?_
    intro a W hd t4 t5 y4 y5 i4 i5 hbl
    have hB9 := (unhide HB).trans hbl
    clear k10 k11 f10 f11 k20 k21 f20 f21
    go_wp2
    refine bodyPost_ret (res_NN rfl t4 t5 y4 y5) hd ⟨_, _, rfl, hB9, ?_, ?_⟩
    · exact i4
    · exact i5
  · have hy : 0 < T4.val ys := by rw [e2]; omega
    have hl0 : l2 ≠ 0 := by
      intro e
      rw [hl2] at e
      have := (val_zero_iff d2 m2).2 e
      omega
    have hl0' : decide ((l2 : Int) = 0) = false := by simpa using hl0
    have HP := hide (partN_any _ _ xs ys _ n1 n2 d1 d2 (by omega) (by omega) hy)
    have HA := hide (show IsN ((((w.alloc (.cells #[.bool (decide (z1 < 0)), .slice a1 l1 c1] 31)).alloc (.cells #[.bool (decide (z2 < 0)), .slice a2 l2 c2] 31)).alloc (.cells #[.bool false, .slice none 0 0] 31)).alloc (.cells #[.bool false, .slice none 0 0] 31)) (.agg #[.bool false, .slice a2 l2 c2]) (z2.natAbs : Int) from ⟨a2, l2, c2, ys, by simp, n2, d2, m2, by rw [e2]; simp⟩)
    have HE := hide (And.intro e1 (And.intro e2 (And.intro b1 b2)))
    clear h1 h2 n1 n2 d1 d2 m1 m2 e1 e2 q1 q2 x1 x2 x3 x4 hB b1 b2 hi1 hi2 hl2 hy
    go_enter Tryz.func10, Tryz.ntmps10
    go_wp2_with fail
    refine (unhide HP).mono ?_
    rintro e w1 ⟨vq, vr, qs, rs, rfl, hb1, nq, nr, dq, dr, hval, hlt, lq, lr⟩
    have HV := hide (And.intro hval (And.intro hlt (And.intro (T4.val_nonneg dr) (T4.val_nonneg dq))))
    have Y1 := hide ((unhide X1).below hb1)
    have Y2 := hide ((unhide X2).below hb1)
    have Y3 := hide ((unhide X3).below hb1)
    have Y4 := hide ((unhide X4).below hb1)
    have HA1 := hide ((unhide HA).below hb1)
    have HB1 := hide ((unhide HB).trans (hb1.mono (unhide HB).size))
    have NQ := hide (And.intro nq (And.intro nr (And.intro dq (And.intro dr (And.intro lq lr)))))
    clear hb1 nq nr dq dr lq lr hval hlt k10 k11 f10 f11 k20 k21 f20 f21 HP X1 X2 X3 X4 HA HB hl0 hl0'
    go_wp2_with fail
    refine quoN_r4 w.heap.size (w.heap.size + 1) (decide (z1 < 0)) (decide (z2 < 0)) vq vr qs rs rfl rfl rfl rfl rfl (unhide Y1).facts.1 (unhide Y2).facts.1 (unhide Y1).lt (unhide Y2).lt (unhide NQ).1 (unhide NQ).2.1 (unhide NQ).2.2.1 (unhide NQ).2.2.2.1 (by have := (unhide NQ).2.2.2.2.1; omega) (by have := (unhide NQ).2.2.2.2.2; omega) ?_
    intro a' w2 rA rB vA vB hd hsz hk eA eB hne lA lB nA qA nB qB hb2
    obtain ⟨q0, hq0⟩ : ∃ q0, q0 = (if (decide (z1 < 0) != decide (z2 < 0)) = true then -T4.val qs else T4.val qs) := ⟨_, rfl⟩
    obtain ⟨r0, hr0⟩ : ∃ r0, r0 = (if decide (z1 < 0) = true then -T4.val rs else T4.val rs) := ⟨_, rfl⟩
    rw [← hq0] at qA
    rw [← hr0] at qB
    have HF := hide (quo_fin (z1 := z1) (z2 := z2) (Q := T4.val qs) (R := T4.val rs) (by rw [← (unhide HE).1, ← (unhide HE).2.1]; exact (unhide HV).1) (unhide HV).2.2.1 (by rw [← (unhide HE).2.1]; exact (unhide HV).2.1) hq0 hr0)
    have HQ0 := hide (show (q0.natAbs : Int) < T4.pw 4000 by
      have h1 := (unhide HV).1
      have h2 := (unhide HV).2.1
      have h3 := (unhide HV).2.2
      have h4 := (unhide HE).1
      have h5 := (unhide HE).2.2.1
      have h6 := T4.pw_mono (show 3000 ≤ 4000 by omega)
      have h7 := Int.mul_le_mul_of_nonneg_left (show 1 ≤ T4.val ys by omega) h3.2
      have h8 : (q0.natAbs : Int) = T4.val qs := by rw [hq0]; split <;> omega
      omega)
    have HR0 := hide (show (r0.natAbs : Int) < T4.pw 3000 by
      have h2 := (unhide HV).2.1
      have h3 := (unhide HV).2.2.1
      have h4 := (unhide HE).2.1
      have h5 := (unhide HE).2.2.2
      have h8 : (r0.natAbs : Int) = T4.val rs := by rw [hr0]; split <;> omega
      omega)
    have Z2 := hide ((unhide Y2).below hb2)
    have Z3 := hide ((unhide Y3).below hb2)
    have Z4 := hide ((unhide Y4).below hb2)
    have HA2 := hide ((unhide HA1).below hb2)
    have l13 := (unhide Y4).lt
    have l12 := (unhide Y3).lt
    have l11 := (unhide Y2).lt
    have HB2 := hide ((unhide HB1).trans (hb2.mono (unhide HB1).size))
    have HS1 := hide (unhide HB1).size
    have HE2 := hide (unhide HE).2.2.2
    clear hq0 hr0 HV HE Y1 Y2 Y3 Y4 HA1 hb2 NQ HB1
    obtain ⟨u10, e10⟩ : ∃ u, a'.tmps.getD 10 undef = u := ⟨_, rfl⟩
    obtain ⟨u11, e11⟩ : ∃ u, a'.tmps.getD 11 undef = u := ⟨_, rfl⟩
    obtain ⟨u12, e12⟩ : ∃ u, a'.tmps.getD 12 undef = u := ⟨_, rfl⟩
    obtain ⟨u13, e13⟩ : ∃ u, a'.tmps.getD 13 undef = u := ⟨_, rfl⟩
    obtain ⟨u14, e14⟩ : ∃ u, a'.tmps.getD 14 undef = u := ⟨_, rfl⟩
    obtain ⟨u15, e15⟩ : ∃ u, a'.tmps.getD 15 undef = u := ⟨_, rfl⟩
    obtain ⟨u16, e16⟩ : ∃ u, a'.tmps.getD 16 undef = u := ⟨_, rfl⟩
    obtain ⟨u17, e17⟩ : ∃ u, a'.tmps.getD 17 undef = u := ⟨_, rfl⟩
    obtain ⟨u18, e18⟩ : ∃ u, a'.tmps.getD 18 undef = u := ⟨_, rfl⟩
    obtain ⟨u19, e19⟩ : ∃ u, a'.tmps.getD 19 undef = u := ⟨_, rfl⟩
    obtain ⟨u20, e20⟩ : ∃ u, a'.tmps.getD 20 undef = u := ⟨_, rfl⟩
    obtain ⟨u21, e21⟩ : ∃ u, a'.tmps.getD 21 undef = u := ⟨_, rfl⟩
    obtain ⟨u22, e22⟩ : ∃ u, a'.tmps.getD 22 undef = u := ⟨_, rfl⟩
    obtain ⟨u23, e23⟩ : ∃ u, a'.tmps.getD 23 undef = u := ⟨_, rfl⟩
    obtain ⟨u24, e24⟩ : ∃ u, a'.tmps.getD 24 undef = u := ⟨_, rfl⟩
    obtain ⟨u25, e25⟩ : ∃ u, a'.tmps.getD 25 undef = u := ⟨_, rfl⟩
    obtain ⟨u26, e26⟩ : ∃ u, a'.tmps.getD 26 undef = u := ⟨_, rfl⟩
    obtain ⟨u27, e27⟩ : ∃ u, a'.tmps.getD 27 undef = u := ⟨_, rfl⟩
    obtain ⟨u28, e28⟩ : ∃ u, a'.tmps.getD 28 undef = u := ⟨_, rfl⟩
    obtain ⟨u29, e29⟩ : ∃ u, a'.tmps.getD 29 undef = u := ⟨_, rfl⟩
    obtain ⟨u30, e30⟩ : ∃ u, a'.tmps.getD 30 undef = u := ⟨_, rfl⟩
    obtain ⟨u31, e31⟩ : ∃ u, a'.tmps.getD 31 undef = u := ⟨_, rfl⟩
    obtain ⟨u32, e32⟩ : ∃ u, a'.tmps.getD 32 undef = u := ⟨_, rfl⟩
    obtain ⟨u33, e33⟩ : ∃ u, a'.tmps.getD 33 undef = u := ⟨_, rfl⟩
    obtain ⟨u34, e34⟩ : ∃ u, a'.tmps.getD 34 undef = u := ⟨_, rfl⟩
    obtain ⟨u35, e35⟩ : ∃ u, a'.tmps.getD 35 undef = u := ⟨_, rfl⟩
    obtain ⟨u36, e36⟩ : ∃ u, a'.tmps.getD 36 undef = u := ⟨_, rfl⟩
    obtain ⟨u37, e37⟩ : ∃ u, a'.tmps.getD 37 undef = u := ⟨_, rfl⟩
    obtain ⟨u38, e38⟩ : ∃ u, a'.tmps.getD 38 undef = u := ⟨_, rfl⟩
    obtain ⟨u39, e39⟩ : ∃ u, a'.tmps.getD 39 undef = u := ⟨_, rfl⟩
    obtain ⟨u40, e40⟩ : ∃ u, a'.tmps.getD 40 undef = u := ⟨_, rfl⟩
    obtain ⟨u41, e41⟩ : ∃ u, a'.tmps.getD 41 undef = u := ⟨_, rfl⟩
    obtain ⟨u42, e42⟩ : ∃ u, a'.tmps.getD 42 undef = u := ⟨_, rfl⟩
    obtain ⟨u43, e43⟩ : ∃ u, a'.tmps.getD 43 undef = u := ⟨_, rfl⟩
    obtain ⟨u44, e44⟩ : ∃ u, a'.tmps.getD 44 undef = u := ⟨_, rfl⟩
    obtain ⟨u45, e45⟩ : ∃ u, a'.tmps.getD 45 undef = u := ⟨_, rfl⟩
    obtain ⟨u46, e46⟩ : ∃ u, a'.tmps.getD 46 undef = u := ⟨_, rfl⟩
    obtain ⟨u47, e47⟩ : ∃ u, a'.tmps.getD 47 undef = u := ⟨_, rfl⟩
    obtain ⟨u48, e48⟩ : ∃ u, a'.tmps.getD 48 undef = u := ⟨_, rfl⟩
    obtain ⟨u49, e49⟩ : ∃ u, a'.tmps.getD 49 undef = u := ⟨_, rfl⟩
    obtain ⟨u50, e50⟩ : ∃ u, a'.tmps.getD 50 undef = u := ⟨_, rfl⟩
    obtain ⟨u51, e51⟩ : ∃ u, a'.tmps.getD 51 undef = u := ⟨_, rfl⟩
    obtain rfl := act_lit [.agg #[.bool (decide (z1 < 0)), .slice a1 l1 c1], .agg #[.bool (decide (z2 < 0)), .slice a2 l2 c2], .pointer (some ⟨w.heap.size, 0, none⟩), .pointer (some ⟨w.heap.size + 1, 0, none⟩), .pointer (some ⟨w.heap.size + 1 + 1, 0, none⟩), .pointer (some ⟨w.heap.size + 1 + 1 + 1, 0, none⟩), vq, vr, .pointer (some ⟨rA, 0, none⟩), .pointer (some ⟨rB, 0, none⟩), u10, u11, u12, u13, u14, u15, u16, u17, u18, u19, u20, u21, u22, u23, u24, u25, u26, u27, u28, u29, u30, u31, u32, u33, u34, u35, u36, u37, u38, u39, u40, u41, u42, u43, u44, u45, u46, u47, u48, u49, u50, u51] hsz hd (fun k hk9 => by
      match k, hk9 with
      | 0, _ => exact (hk 0 (by decide)).trans rfl
      | 1, _ => exact (hk 1 (by decide)).trans rfl
      | 2, _ => exact (hk 2 (by decide)).trans rfl
      | 3, _ => exact (hk 3 (by decide)).trans rfl
      | 4, _ => exact (hk 4 (by decide)).trans rfl
      | 5, _ => exact (hk 5 (by decide)).trans rfl
      | 6, _ => exact (hk 6 (by decide)).trans rfl
      | 7, _ => exact (hk 7 (by decide)).trans rfl
      | 8, _ => exact tmp_get (by omega) eA
      | 9, _ => exact tmp_get (by omega) eB
      | 10, _ => exact tmp_get (by omega) e10
      | 11, _ => exact tmp_get (by omega) e11
      | 12, _ => exact tmp_get (by omega) e12
      | 13, _ => exact tmp_get (by omega) e13
      | 14, _ => exact tmp_get (by omega) e14
      | 15, _ => exact tmp_get (by omega) e15
      | 16, _ => exact tmp_get (by omega) e16
      | 17, _ => exact tmp_get (by omega) e17
      | 18, _ => exact tmp_get (by omega) e18
      | 19, _ => exact tmp_get (by omega) e19
      | 20, _ => exact tmp_get (by omega) e20
      | 21, _ => exact tmp_get (by omega) e21
      | 22, _ => exact tmp_get (by omega) e22
      | 23, _ => exact tmp_get (by omega) e23
      | 24, _ => exact tmp_get (by omega) e24
      | 25, _ => exact tmp_get (by omega) e25
      | 26, _ => exact tmp_get (by omega) e26
      | 27, _ => exact tmp_get (by omega) e27
      | 28, _ => exact tmp_get (by omega) e28
      | 29, _ => exact tmp_get (by omega) e29
      | 30, _ => exact tmp_get (by omega) e30
      | 31, _ => exact tmp_get (by omega) e31
      | 32, _ => exact tmp_get (by omega) e32
      | 33, _ => exact tmp_get (by omega) e33
      | 34, _ => exact tmp_get (by omega) e34
      | 35, _ => exact tmp_get (by omega) e35
      | 36, _ => exact tmp_get (by omega) e36
      | 37, _ => exact tmp_get (by omega) e37
      | 38, _ => exact tmp_get (by omega) e38
      | 39, _ => exact tmp_get (by omega) e39
      | 40, _ => exact tmp_get (by omega) e40
      | 41, _ => exact tmp_get (by omega) e41
      | 42, _ => exact tmp_get (by omega) e42
      | 43, _ => exact tmp_get (by omega) e43
      | 44, _ => exact tmp_get (by omega) e44
      | 45, _ => exact tmp_get (by omega) e45
      | 46, _ => exact tmp_get (by omega) e46
      | 47, _ => exact tmp_get (by omega) e47
      | 48, _ => exact tmp_get (by omega) e48
      | 49, _ => exact tmp_get (by omega) e49
      | 50, _ => exact tmp_get (by omega) e50
      | 51, _ => exact tmp_get (by omega) e51
      | _ + 52, h => exact absurd h (by simp))
    clear e10 e11 e12 e13 e14 e15 e16 e17 e18 e19 e20 e21 e22 e23 e24 e25 e26 e27 e28 e29 e30 e31 e32 e33 e34 e35 e36 e37 e38 e39 e40 e41 e42 e43 e44 e45 e46 e47 e48 e49 e50 e51 hsz hd
    clear hk eA eB
    obtain ⟨a9, l9, c9, zs9, rfl, _⟩ := id qB
    obtain ⟨k90, k91, f90, f91⟩ := nB.facts
    obtain ⟨k20, k21, f20, f21⟩ := (unhide Z2).facts
    have NA := hide (And.intro nA qA)
    have NBB := hide (And.intro nB qB)
    clear nA qA nB qB
    have hA2 : w.heap.size ≤ rA := by have := unhide HS1; omega
    have hB2 : w.heap.size ≤ rB := by have := unhide HS1; omega
    have ne1 : rB ≠ w.heap.size + 1 := by omega
    have ne2 : rB ≠ w.heap.size + 1 + 1 := by omega
    have ne3 : rB ≠ w.heap.size + 1 + 1 + 1 := by omega
    have ne4 : rA ≠ w.heap.size + 1 + 1 := by omega
    have ne5 : rA ≠ w.heap.size + 1 + 1 + 1 := by omega
    clear l11 l12 l13 lA lB HS1
    by_cases hneg : r0 < 0
    · have hd0 : decide (r0 < 0) = true := by simpa using hneg
      rw [hd0] at NBB k90
      have HADD := hide (addN_any _ _ r0 (z2.natAbs : Int) w2 (unhide NBB).2 (unhide HA2) (Int.lt_of_lt_of_le (unhide HR0) (T4.pw_mono (by omega))) (Int.lt_of_lt_of_le (show (((z2.natAbs : Int).natAbs : Nat) : Int) < T4.pw 3000 by have := unhide HE2; omega) (T4.pw_mono (by omega))))
      have HN := hide hneg
      clear hneg hd0
      go_wp2_with fail
      refine (unhide HADD).mono ?_
      rintro e w3 ⟨v3, rfl, hb3, i3⟩
      obtain ⟨b3, a3, l3, c3, rfl⟩ := i3.form
      have nB3 := (unhide NBB).1.below hb3
      have T9 := hide (And.intro (nB3.set b3 a3 l3 c3) (i3.putN nB3 (.bool b3) (.slice a3 l3 c3)))
      have T8 := hide (And.intro (((unhide NA).1.below hb3).put (Ne.symm hne) (.bool b3) (.slice a3 l3 c3)) (((unhide NA).2.below hb3).putN nB3 (.bool b3) (.slice a3 l3 c3)))
      have T2 := hide (((unhide Z2).below hb3).put ne1 (.bool b3) (.slice a3 l3 c3))
      have T3 := hide (((unhide Z3).below hb3).put ne2 (.bool b3) (.slice a3 l3 c3))
      have T4 := hide (((unhide Z4).below hb3).put ne3 (.bool b3) (.slice a3 l3 c3))
      have T5 := hide (below_put ((unhide HB2).trans (hb3.mono (unhide HB2).size)) hB2 (.bool b3) (.slice a3 l3 c3))
      have hne9 : rB ≠ rA := Ne.symm hne
      clear k90 k91 f90 f91 k20 k21 f20 f21 hb3 i3 Z2 Z3 Z4 HADD HA2 HB2 NBB NA
      obtain ⟨_, _, k90, k91, f90, f91⟩ := nB3.facts0
      obtain ⟨k20, k21, f20, f21⟩ := (unhide T2).facts
      clear nB3
      by_cases hs2 : z2 < 0
      · have hd2 : decide (z2 < 0) = true := by simpa using hs2
        have HS := hide hs2
        clear hs2
        rw [hd2] at k20
        go_wp2_with fail
        refine quoN_r8 w.heap.size rA vA q0 rfl rfl (unhide T8).1 (unhide T8).2 (unhide HQ0) hA2 ?_
        intro a' w6 v8 hd hsz hk n8 i8 hb6 hoth hisn
        have S3 := hoth _ _ (Ne.symm ne4) (unhide T3)
        have S4 := hoth _ _ (Ne.symm ne5) (unhide T4)
        have S9 := hoth _ _ hne9 (unhide T9).1
        have I9 := hisn _ _ (unhide T9).2
        have HB6 := hide ((unhide T5).trans hb6)
        clear hb6 hoth hisn k90 k91 f90 f91 k20 k21 f20 f21
        go_wp2_with fail
        refine quoN_r10 w.heap.size (w.heap.size + 1 + 1) (w.heap.size + 1 + 1 + 1) rA rB v8 _ _ _ (q0 + 1) (r0 + (z2.natAbs : Int)) hsz ((hk 4 (by decide)).trans rfl) ((hk 5 (by decide)).trans rfl) ((hk 8 (by decide)).trans rfl) n8 ((hk 9 (by decide)).trans rfl) S9 i8 I9 S3 S4 (by omega) (Ne.symm ne2) (by omega) (by omega) ?_
        intro a W hd' t4 t5 y4 y5 i4 i5 hbl
        have hB9 := (unhide HB6).trans hbl
        go_wp2
        refine bodyPost_ret (res_NN rfl t4 t5 y4 y5) (hd'.trans hd) ⟨_, _, rfl, hB9, ?_, ?_⟩
        · rw [((unhide HF).2.1 (unhide HN) (unhide HS)).1]; exact i4
        · rw [((unhide HF).2.1 (unhide HN) (unhide HS)).2]; exact i5
      · have hd2 : decide (z2 < 0) = false := by simpa using hs2
        have HS := hide hs2
        clear hs2
        rw [hd2] at k20
        go_wp2_with fail
        refine quoN_r9 w.heap.size rA vA q0 rfl rfl (unhide T8).1 (unhide T8).2 (unhide HQ0) hA2 ?_
        intro a' w6 v8 hd hsz hk n8 i8 hb6 hoth hisn
        have S3 := hoth _ _ (Ne.symm ne4) (unhide T3)
        have S4 := hoth _ _ (Ne.symm ne5) (unhide T4)
        have S9 := hoth _ _ hne9 (unhide T9).1
        have I9 := hisn _ _ (unhide T9).2
        have HB6 := hide ((unhide T5).trans hb6)
        clear hb6 hoth hisn k90 k91 f90 f91 k20 k21 f20 f21
        go_wp2_with fail
        refine quoN_r10 w.heap.size (w.heap.size + 1 + 1) (w.heap.size + 1 + 1 + 1) rA rB v8 _ _ _ (q0 - 1) (r0 + (z2.natAbs : Int)) hsz ((hk 4 (by decide)).trans rfl) ((hk 5 (by decide)).trans rfl) ((hk 8 (by decide)).trans rfl) n8 ((hk 9 (by decide)).trans rfl) S9 i8 I9 S3 S4 (by omega) (Ne.symm ne2) (by omega) (by omega) ?_
        intro a W hd' t4 t5 y4 y5 i4 i5 hbl
        have hB9 := (unhide HB6).trans hbl
        go_wp2
        refine bodyPost_ret (res_NN rfl t4 t5 y4 y5) (hd'.trans hd) ⟨_, _, rfl, hB9, ?_, ?_⟩
        · rw [((unhide HF).2.2 (unhide HN) (unhide HS)).1]; exact i4
        · rw [((unhide HF).2.2 (unhide HN) (unhide HS)).2]; exact i5
    · have hd0 : decide (r0 < 0) = false := by simpa using hneg
      have HN := hide hneg
      clear hneg
      go_wp2_with fail
      refine quoN_r10 w.heap.size (w.heap.size + 1 + 1) (w.heap.size + 1 + 1 + 1) rA rB vA _ _ _ q0 r0 rfl rfl rfl rfl (unhide NA).1 rfl (unhide NBB).1 (unhide NA).2 (unhide NBB).2 (unhide Z3) (unhide Z4) (by omega) (Ne.symm ne2) (by omega) (by omega) ?_
      intro a W hd t4 t5 y4 y5 i4 i5 hbl
      have hB9 := (unhide HB2).trans hbl
      clear k90 k91 f90 f91 k20 k21 f20 f21
      go_wp2
      refine bodyPost_ret (res_NN rfl t4 t5 y4 y5) hd ⟨_, _, rfl, hB9, ?_, ?_⟩
      · rw [((unhide HF).1 (unhide HN)).1]; exact i4
      · rw [((unhide HF).1 (unhide HN)).2]; exact i5

end Go.Proofs.YtlcfldkmojpkpaaGreatDoor

/- The document's numbers: greatest divisors. -/
namespace Go.Proofs.YtlcfldkmojpkpaaGreatDoor
open Go Go.RowKit

theorem Ns.inj {w : World} {v : Value} {xs ys : List Int} (h : Ns w v xs) (k : Ns w v ys) : xs = ys := by
  obtain ⟨a, c, rfl, h1, h2⟩ := h
  obtain ⟨a', c', e, k1, k2⟩ := k
  simp only [Value.slice.injEq] at e
  obtain ⟨rfl, e2, rfl⟩ := e
  by_cases hx : xs = []
  · subst hx
    exact (List.eq_nil_of_length_eq_zero (by simpa using e2.symm)).symm
  · obtain ⟨b, o, rfl, hb, hc⟩ := h2 hx
    obtain ⟨b', o', e, hb', hc'⟩ := k2 (by intro e; subst e; exact hx (List.eq_nil_of_length_eq_zero (by simpa using e2)))
    simp only [Option.some.injEq, Addr.mk.injEq, and_true] at e
    obtain ⟨rfl, rfl⟩ := e
    apply List.ext_getElem e2
    intro i p q
    have h := hc i p
    rw [hc' i q] at h
    simp only [Option.some.injEq, Value.int.injEq, true_and] at h
    rw [List.getElem?_eq_getElem p, List.getElem?_eq_getElem q] at h
    exact h.symm
theorem IsN.inj {w : World} {v : Value} {y z : Int} (h : IsN w v y) (k : IsN w v z) : y = z := by
  obtain ⟨a, l, c, xs, rfl, h1, _, _, h4⟩ := h
  obtain ⟨a', l', c', ys, e, k1, _, _, k4⟩ := k
  simp only [Value.agg.injEq, Array.mk.injEq, List.cons.injEq, Value.bool.injEq, Value.slice.injEq, and_true] at e
  obtain ⟨e1, rfl, rfl, rfl⟩ := e
  obtain rfl := h1.inj k1
  rw [h4] at k4
  by_cases hy : y < 0
  · have : z < 0 := by simpa [hy] using e1
    omega
  · have : ¬ z < 0 := by simpa [hy] using e1
    omega
theorem NB.inj {W : World} {R : Nat} {v u : Value} (h : NB W R v) (k : NB W R u) : v = u := by
  obtain ⟨n, a, l, c, rfl, h⟩ := h
  obtain ⟨n', a', l', c', rfl, k⟩ := k
  rw [h] at k
  simpa using k
theorem nb_nat : ∃ f : World → Nat → Nat, ∀ {W : World} {R : Nat} {v : Value} {z : Int}, NB W R v → IsN W v z → f W R = z.natAbs := by
  refine ⟨fun W R => @dite _ (∃ z : Int, ∃ v, NB W R v ∧ IsN W v z) (Classical.propDecidable _) (fun h => (Classical.choose h).natAbs) (fun _ => 0), ?_⟩
  intro W R v z hb hi
  have h : ∃ z : Int, ∃ v, NB W R v ∧ IsN W v z := ⟨z, v, hb, hi⟩
  obtain ⟨u, k1, k2⟩ := Classical.choose_spec h
  obtain rfl := hb.inj k1
  show @dite _ _ (Classical.propDecidable _) _ _ = _
  rw [dif_pos h, hi.inj k2]

theorem build_Nd {Q : Exit → Act → World → Prop} {K : Act → World → Prop} {a : Act} {w : World} {dst : Option Tmp} {ty : TypeId} {pos : String} {af : Array Edge} {gd : Option (Nat × Bool)} {s : Nat} {aa : Option Addr} {l c : Nat} (hs : a.eval (.tmp s) = .slice aa l c) (h : K (a.put dst (.agg #[.bool false, .slice aa l c])) w) : Oper.wp Tryz.prog ⟨dst, .build 31 #[(0, .const (.bool false)), (1, .tmp s)], ty, pos, af, gd⟩ a w K Q := by
  have he : a.eval (.const (.bool false)) = .bool false := rfl
  unfold Oper.wp
  simp only [execOp, hs, he, List.map_toArray, List.map_cons, List.map_nil]
  go_simp
  exact h
theorem enter_quoN : Enters Tryz.prog 10 := ⟨fun xs w => by go_simp⟩

def gcdKept1 : List Nat := (List.range 28).filter fun k => ![9, 10, 11, 12, 13, 14, 5, 6].contains k
set_option maxRecDepth 100000 in
theorem gcdN_r1 {Q : Exit → Act → World → Prop} {a0 : Act} {w0 : World} (r2 r3 : Nat) (a1 a2 : Option Addr) (l1 c1 l2 c2 : Nat) (x y : Int) (hN : a0.tmps.size = 28)
    (t2 : a0.tmps[2]? = some (.pointer (some ⟨r2, 0, none⟩))) (t3 : a0.tmps[3]? = some (.pointer (some ⟨r3, 0, none⟩)))
    (k2 : w0.cell? ⟨r2, 1, none⟩ = some (.slice a1 l1 c1)) (k3 : w0.cell? ⟨r3, 1, none⟩ = some (.slice a2 l2 c2)) (b2 : r2 < w0.heap.size) (b3 : r3 < w0.heap.size)
    (ix : IsN w0 (.agg #[.bool false, .slice a1 l1 c1]) x) (iy : IsN w0 (.agg #[.bool false, .slice a2 l2 c2]) y)
    (hQ : ∀ (a : Act) (w : World) (rA rB : Nat) (vA vB : Value), a.defers = a0.defers → a.tmps.size = 28 → (∀ k, k ∈ gcdKept1 → a.tmps[k]? = a0.tmps[k]?) → a.tmps.getD 5 undef = .pointer (some ⟨rA, 0, none⟩) → a.tmps.getD 6 undef = .pointer (some ⟨rB, 0, none⟩) →
      rA ≠ rB → w0.heap.size ≤ rA → w0.heap.size ≤ rB → NB w rA vA → IsN w vA x → NB w rB vB → IsN w vB y → Below w0.heap.size w0 w → Q .normal a w) :
    (Code.region 1 (regionOf Tryz.f65 1).toArray true).wp Tryz.prog Q a0 w0 := by
  refine wp_region_any (by kernel_rfl) ?_
  have hD : Below w0.heap.size w0 w0.drew := (Below.refl _ w0).drew
  refine two_any 6 2 5 28 gcdKept1 (fun i w v => match i with
      | 0 => v = .pointer (some ⟨r2, 1, none⟩) | 1 => v = .slice a1 l1 c1 | 2 => IsN w v x | 3 => v = .pointer (some ⟨r3, 1, none⟩) | 4 => v = .slice a2 l2 c2 | 5 => IsN w v y | _ => True)
    x y (by kernel_rfl) (by kernel_rfl) hN ?_ ?_ (fun _ _ h => h) (fun _ _ h => h) ?_ ?_ ?_ ?_ ?_
  · intro i w w' v h hb
    match i, h with
    | 0, h => exact h
    | 1, h => exact h
    | 2, h => exact IsN.below h hb
    | 3, h => exact h
    | 4, h => exact h
    | 5, h => exact IsN.below h hb
    | _ + 6, _ => trivial
  · intro i w v r u c0 c1 h hb
    match i, h with
    | 0, h => exact h
    | 1, h => exact h
    | 2, h => exact IsN.putN h hb _ _
    | 3, h => exact h
    | 4, h => exact h
    | 5, h => exact IsN.putN h hb _ _
    | _ + 6, _ => trivial
  · intro i hi a w hk hp hA'
    have hA := hD.trans hA'
    match i, hi with
    | 0, _ => exact op_fieldAddr (eval_kept (hk 2 (by decide)) t2) fieldN1 ⟨_, rfl, Below.refl _ _, rfl⟩
    | 1, _ =>
      have p : a.tmps.getD 9 undef = .pointer (some ⟨r2, 1, none⟩) := hp 0 rfl
      exact op_load (a := a) p (load_intsN ((hA.cell (p := ⟨r2, 1, none⟩) b2).trans k2)) ⟨_, rfl, Below.refl _ _, rfl⟩
    | 2, _ =>
      have p : a.tmps.getD 10 undef = .slice a1 l1 c1 := hp 1 rfl
      exact build_Nd (a := a) p ⟨_, rfl, Below.refl _ _, ix.below hA⟩
    | 3, _ => exact op_fieldAddr (eval_kept (hk 3 (by decide)) t3) fieldN1 ⟨_, rfl, Below.refl _ _, rfl⟩
    | 4, _ =>
      have p : a.tmps.getD 12 undef = .pointer (some ⟨r3, 1, none⟩) := hp 3 rfl
      exact op_load (a := a) p (load_intsN ((hA.cell (p := ⟨r3, 1, none⟩) b3).trans k3)) ⟨_, rfl, Below.refl _ _, rfl⟩
    | 5, _ =>
      have p : a.tmps.getD 13 undef = .slice a2 l2 c2 := hp 4 rfl
      exact build_Nd (a := a) p ⟨_, rfl, Below.refl _ _, iy.below hA⟩
  · rintro i (rfl | rfl) a w
    · exact op_alloc alloc_N ⟨rfl, (Below.refl _ w).alloc (Nat.le_refl _) _, _, NB.new w false none 0 0⟩
    · exact op_alloc alloc_N ⟨rfl, (Below.refl _ w).alloc (Nat.le_refl _) _, _, NB.new w false none 0 0⟩
  · intro a w r u e8 hb hi
    exact st_storeN (a := a) e8 rfl hb hi
  · intro a w r u e9 hb hi
    exact st_storeN (a := a) e9 rfl hb hi
  · intro a w rA rB vA vB hd hsz hk eA eB hne lA lB nA qA nB qB hb
    exact hQ a w rA rB vA vB hd hsz hk eA eB hne lA lB nA qA nB qB (hD.trans hb)

def gcdKept4 : List Nat := (List.range 28).filter fun k => ![25, 26].contains k
set_option maxRecDepth 100000 in
theorem gcdN_r4 {Q : Exit → Act → World → Prop} {a0 : Act} {w0 : World} (B r5 r6 r8 : Nat) (u5 v6 v8 : Value) (y m : Int) (hN : a0.tmps.size = 28)
    (t5 : a0.tmps[5]? = some (.pointer (some ⟨r5, 0, none⟩))) (t6 : a0.tmps[6]? = some (.pointer (some ⟨r6, 0, none⟩))) (t8 : a0.tmps[8]? = some (.pointer (some ⟨r8, 0, none⟩)))
    (n5 : NB w0 r5 u5) (n6 : NB w0 r6 v6) (n8 : NB w0 r8 v8) (iy : IsN w0 v6 y) (im : IsN w0 v8 m) (h56 : r5 ≠ r6) (h58 : r5 ≠ r8) (b5 : B ≤ r5) (b6 : B ≤ r6)
    (hQ : ∀ (a : Act) (w : World), a.defers = a0.defers → a.tmps.size = 28 → (∀ k, k ∈ gcdKept4 → a.tmps[k]? = a0.tmps[k]?) → NB w r5 v6 → NB w r6 v8 → IsN w v6 y → IsN w v8 m → Below B w0 w → (∀ r u, r ≠ r5 → r ≠ r6 → NB w0 r u → NB w r u) → Q .normal a w) :
    (Code.region 4 (regionOf Tryz.f65 4).toArray true).wp Tryz.prog Q a0 w0 := by
  refine wp_region_any (by kernel_rfl) ?_
  have hD : Below w0.heap.size w0 w0.drew := (Below.refl _ w0).drew
  have n5' := n5.below hD
  have iy' := iy.below hD
  obtain ⟨c0, c1, e1, m5⟩ := NB.putSelf10 n5' iy'
  have n6' := (n6.below hD).put h56 c0 c1
  have im' := (im.below hD).putN n5' c0 c1
  obtain ⟨d0, d1, e2, m6⟩ := NB.putSelf10 n6' im'
  refine two_out 28 gcdKept4 v6 v8 (by kernel_rfl) (by kernel_rfl) (by kernel_rfl) (by kernel_rfl) (by kernel_rfl) (by kernel_rfl) ⟨by kernel_rfl, by kernel_rfl, by kernel_rfl, by kernel_rfl⟩ hN (w1 := (w0.drew.setCell ⟨r5, 0, none⟩ c0).setCell ⟨r5, 1, none⟩ c1) (w2 := (((w0.drew.setCell ⟨r5, 0, none⟩ c0).setCell ⟨r5, 1, none⟩ c1).setCell ⟨r6, 0, none⟩ d0).setCell ⟨r6, 1, none⟩ d1) ?_ ?_ ?_ ?_ ?_
  · intro a hk
    exact op_load (a := a) (eval_kept (hk 6 (by decide)) t6) (load_NB (n6.below hD)) ⟨rfl, rfl⟩
  · rintro a w hk (rfl | rfl)
    · exact op_load (a := a) (eval_kept (hk 8 (by decide)) t8) (load_NB (n8.below hD)) ⟨rfl, rfl⟩
    · exact op_load (a := a) (eval_kept (hk 8 (by decide)) t8) (load_NB ((n8.below hD).put h58 c0 c1)) ⟨rfl, rfl⟩
  · intro a hk e
    exact op_store (a := a) (eval_kept (hk 5 (by decide)) t5) e e1 ⟨rfl, rfl⟩
  · intro a hk e
    exact op_store (a := a) (eval_kept (hk 6 (by decide)) t6) e e2 ⟨rfl, rfl⟩
  · intro a hd hsz hk
    exact hQ a _ hd hsz hk (m5.put (Ne.symm h56) _ _) m6 ((iy'.putN n5' _ _).putN n6' _ _) (im'.putN n6' _ _) (below_put (below_put (hD.mono (Nat.le_trans b5 (Nat.le_of_lt n5.lt))) b5 _ _) b6 _ _) (fun r u h h' n => ((n.below hD).put (Ne.symm h) _ _).put (Ne.symm h') _ _)

set_option maxRecDepth 100000 in
set_option maxHeartbeats 8000000 in
theorem gcdN_any (v1 v2 : Value) (z1 z2 : Int) (w : World) (h1 : IsN w v1 z1) (h2 : IsN w v2 z2) (b1 : (z1.natAbs : Int) < T4.pw 3000) (b2 : (z2.natAbs : Int) < T4.pw 3000) :
    Calls Tryz.prog 65 #[v1, v2] w fun e w' => ∃ r, e = .returned r ∧ Below w.heap.size w w' ∧ IsN w' r (Int.gcd z1 z2 : Int) := by
  obtain ⟨nbNat, nbNat_eq'⟩ := nb_nat
  have HBN : Hid (∀ (W : World) (R : Nat) (v : Value) (z : Int), NB W R v → IsN W v z → nbNat W R = z.natAbs) := fun _ _ _ _ h k => nbNat_eq' h k
  clear nbNat_eq'
  obtain ⟨a1, l1, c1, xs, rfl, n1, d1, m1, e1, q1⟩ := h1.small b1
  obtain ⟨a2, l2, c2, ys, rfl, n2, d2, m2, e2, q2⟩ := h2.small b2
  have x1 := ((NB.new w (decide (z1 < 0)) a1 l1 c1).alloc (.cells #[.bool (decide (z2 < 0)), .slice a2 l2 c2] 31)).alloc (.cells #[.bool false, .slice none 0 0] 31)
  have x2 := (NB.new (w.alloc (.cells #[.bool (decide (z1 < 0)), .slice a1 l1 c1] 31)) (decide (z2 < 0)) a2 l2 c2).alloc (.cells #[.bool false, .slice none 0 0] 31)
  have x3 := NB.new ((w.alloc (.cells #[.bool (decide (z1 < 0)), .slice a1 l1 c1] 31)).alloc (.cells #[.bool (decide (z2 < 0)), .slice a2 l2 c2] 31)) false none 0 0
  simp only [World.size_alloc] at x2 x3
  have hB : Below w.heap.size w (((w.alloc (.cells #[.bool (decide (z1 < 0)), .slice a1 l1 c1] 31)).alloc (.cells #[.bool (decide (z2 < 0)), .slice a2 l2 c2] 31)).alloc (.cells #[.bool false, .slice none 0 0] 31)) := (((Below.refl _ w).alloc (Nat.le_refl _) _).alloc (by simp) _).alloc (by simp; omega) _
  have HX := hide (show IsN (((w.alloc (.cells #[.bool (decide (z1 < 0)), .slice a1 l1 c1] 31)).alloc (.cells #[.bool (decide (z2 < 0)), .slice a2 l2 c2] 31)).alloc (.cells #[.bool false, .slice none 0 0] 31)) (.agg #[.bool false, .slice a1 l1 c1]) (z1.natAbs : Int) from ⟨a1, l1, c1, xs, by simp, n1.below hB, d1, m1, by rw [e1]; simp⟩)
  have HY := hide (show IsN (((w.alloc (.cells #[.bool (decide (z1 < 0)), .slice a1 l1 c1] 31)).alloc (.cells #[.bool (decide (z2 < 0)), .slice a2 l2 c2] 31)).alloc (.cells #[.bool false, .slice none 0 0] 31)) (.agg #[.bool false, .slice a2 l2 c2]) (z2.natAbs : Int) from ⟨a2, l2, c2, ys, by simp, n2.below hB, d2, m2, by rw [e2]; simp⟩)
  have X1 := hide x1
  have X2 := hide x2
  have X3 := hide x3
  have HB := hide hB
  have HE := hide (And.intro b1 b2)
  clear h1 h2 n1 n2 d1 d2 m1 m2 e1 e2 q1 q2 x1 x2 x3 hB b1 b2
  go_enter Tryz.func65, Tryz.ntmps65
  go_wp2_with fail
  refine gcdN_r1 w.heap.size (w.heap.size + 1) a1 a2 l1 c1 l2 c2 (z1.natAbs : Int) (z2.natAbs : Int) rfl rfl rfl (unhide X1).facts.2.1 (unhide X2).facts.2.1 (unhide X1).lt (unhide X2).lt (unhide HX) (unhide HY) ?_
  intro a' w2 rA rB vA vB hd hsz hk eA eB hne lA lB nA qA nB qB hb2
  have hA2 : w.heap.size ≤ rA := by have := (unhide HB).size; omega
  have hB2 : w.heap.size ≤ rB := by have := (unhide HB).size; omega
  have ne2 : rA ≠ w.heap.size + 1 + 1 := by have := (unhide X3).lt; omega
  have ne3 : rB ≠ w.heap.size + 1 + 1 := by have := (unhide X3).lt; omega
  have Z3 := hide ((unhide X3).below hb2)
  have HB2 := hide ((unhide HB).trans (hb2.mono (unhide HB).size))
  have HG : Hid (Int.gcd (z1.natAbs : Int) (z2.natAbs : Int) = Int.gcd z1 z2) := by
    show _ = _
    rw [Int.gcd_natCast_natCast]; rfl
  clear lA lB hb2 X1 X2 X3 HB HX HY
  obtain ⟨u7, e7⟩ : ∃ u, a'.tmps.getD 7 undef = u := ⟨_, rfl⟩
  obtain ⟨u8, e8⟩ : ∃ u, a'.tmps.getD 8 undef = u := ⟨_, rfl⟩
  obtain ⟨u9, e9⟩ : ∃ u, a'.tmps.getD 9 undef = u := ⟨_, rfl⟩
  obtain ⟨u10, e10⟩ : ∃ u, a'.tmps.getD 10 undef = u := ⟨_, rfl⟩
  obtain ⟨u11, e11⟩ : ∃ u, a'.tmps.getD 11 undef = u := ⟨_, rfl⟩
  obtain ⟨u12, e12⟩ : ∃ u, a'.tmps.getD 12 undef = u := ⟨_, rfl⟩
  obtain ⟨u13, e13⟩ : ∃ u, a'.tmps.getD 13 undef = u := ⟨_, rfl⟩
  obtain ⟨u14, e14⟩ : ∃ u, a'.tmps.getD 14 undef = u := ⟨_, rfl⟩
  obtain ⟨u15, e15⟩ : ∃ u, a'.tmps.getD 15 undef = u := ⟨_, rfl⟩
  obtain ⟨u16, e16⟩ : ∃ u, a'.tmps.getD 16 undef = u := ⟨_, rfl⟩
  obtain ⟨u17, e17⟩ : ∃ u, a'.tmps.getD 17 undef = u := ⟨_, rfl⟩
  obtain ⟨u18, e18⟩ : ∃ u, a'.tmps.getD 18 undef = u := ⟨_, rfl⟩
  obtain ⟨u19, e19⟩ : ∃ u, a'.tmps.getD 19 undef = u := ⟨_, rfl⟩
  obtain ⟨u20, e20⟩ : ∃ u, a'.tmps.getD 20 undef = u := ⟨_, rfl⟩
  obtain ⟨u21, e21⟩ : ∃ u, a'.tmps.getD 21 undef = u := ⟨_, rfl⟩
  obtain ⟨u22, e22⟩ : ∃ u, a'.tmps.getD 22 undef = u := ⟨_, rfl⟩
  obtain ⟨u23, e23⟩ : ∃ u, a'.tmps.getD 23 undef = u := ⟨_, rfl⟩
  obtain ⟨u24, e24⟩ : ∃ u, a'.tmps.getD 24 undef = u := ⟨_, rfl⟩
  obtain ⟨u25, e25⟩ : ∃ u, a'.tmps.getD 25 undef = u := ⟨_, rfl⟩
  obtain ⟨u26, e26⟩ : ∃ u, a'.tmps.getD 26 undef = u := ⟨_, rfl⟩
  obtain ⟨u27, e27⟩ : ∃ u, a'.tmps.getD 27 undef = u := ⟨_, rfl⟩
  obtain rfl := act_lit [.agg #[.bool (decide (z1 < 0)), .slice a1 l1 c1], .agg #[.bool (decide (z2 < 0)), .slice a2 l2 c2], .pointer (some ⟨w.heap.size, 0, none⟩), .pointer (some ⟨w.heap.size + 1, 0, none⟩), .pointer (some ⟨w.heap.size + 1 + 1, 0, none⟩), .pointer (some ⟨rA, 0, none⟩), .pointer (some ⟨rB, 0, none⟩), u7, u8, u9, u10, u11, u12, u13, u14, u15, u16, u17, u18, u19, u20, u21, u22, u23, u24, u25, u26, u27] hsz hd (fun k hk9 => by
    match k, hk9 with
    | 0, _ => exact (hk 0 (by decide)).trans rfl
    | 1, _ => exact (hk 1 (by decide)).trans rfl
    | 2, _ => exact (hk 2 (by decide)).trans rfl
    | 3, _ => exact (hk 3 (by decide)).trans rfl
    | 4, _ => exact (hk 4 (by decide)).trans rfl
    | 5, _ => exact tmp_get (by omega) eA
    | 6, _ => exact tmp_get (by omega) eB
    | 7, _ => exact tmp_get (by omega) e7
    | 8, _ => exact tmp_get (by omega) e8
    | 9, _ => exact tmp_get (by omega) e9
    | 10, _ => exact tmp_get (by omega) e10
    | 11, _ => exact tmp_get (by omega) e11
    | 12, _ => exact tmp_get (by omega) e12
    | 13, _ => exact tmp_get (by omega) e13
    | 14, _ => exact tmp_get (by omega) e14
    | 15, _ => exact tmp_get (by omega) e15
    | 16, _ => exact tmp_get (by omega) e16
    | 17, _ => exact tmp_get (by omega) e17
    | 18, _ => exact tmp_get (by omega) e18
    | 19, _ => exact tmp_get (by omega) e19
    | 20, _ => exact tmp_get (by omega) e20
    | 21, _ => exact tmp_get (by omega) e21
    | 22, _ => exact tmp_get (by omega) e22
    | 23, _ => exact tmp_get (by omega) e23
    | 24, _ => exact tmp_get (by omega) e24
    | 25, _ => exact tmp_get (by omega) e25
    | 26, _ => exact tmp_get (by omega) e26
    | 27, _ => exact tmp_get (by omega) e27
    | _ + 28, h => exact absurd h (by simp))
  clear e7 e8 e9 e10 e11 e12 e13 e14 e15 e16 e17 e18 e19 e20 e21 e22 e23 e24 e25 e26 e27 hsz hd
  clear hk eA eB
  go_wp2_with fail
  go_loopw [7] (fun _ wr => ∃ y1 y2 x y, Below w.heap.size w wr ∧ NB wr rA y1 ∧ NB wr rB y2 ∧ (∃ u, NB wr (w.heap.size + 1 + 1) u) ∧ IsN wr y1 x ∧ IsN wr y2 y ∧ 0 ≤ x ∧ x < T4.pw 3000 ∧ 0 ≤ y ∧ y < T4.pw 3000 ∧ Int.gcd x y = Int.gcd z1 z2) (fun _ wr => nbNat wr rB)
  case atStart => exact ⟨vA, vB, (z1.natAbs : Int), (z2.natAbs : Int), unhide HB2, nA, nB, ⟨_, unhide Z3⟩, qA, qB, by omega, (unhide HE).1, by omega, (unhide HE).2, unhide HG⟩
  case round =>
    obtain ⟨y1, y2, x, y, hbl, bA, bB, ⟨uR, bR⟩, iX, iY, x0, x1, p0, p1, hg⟩ := hrel
    have hiX := iX
    have hiY := iY
    obtain ⟨ax, lx, cx, zx, rfl, _⟩ := iX
    obtain ⟨ay, ly, cy, zy, rfl, ny, dy, my, ey⟩ := iY
    obtain ⟨kA0, kA1, kAf0, kAf1⟩ := bA.facts
    obtain ⟨kB0, kB1, kBf0, kBf1⟩ := bB.facts
    have hly := ny.len
    have hv0 := val_zero_iff dy my
    rw [ey, ← hly] at hv0
    by_cases hy : y = 0
    · have hl0 : ly = 0 := hv0.1 (by rw [hy]; rfl)
      have HYY := hide hy
      obtain ⟨_, _, kR0, kR1, kRf0, kRf1⟩ := bR.facts0
      subst hl0
      have HF := hide (And.intro bR hiX)
      have HG2 := hide hg
      clear hy hv0 hly ny dy my ey bR hiX hiY hg
      go_wp2
      refine bodyPost_ret (res_N rfl rfl ((unhide HF).1.set _ _ _ _)) rfl ⟨_, rfl, below_put hbl (by omega) _ _, ?_⟩
      have e9 : x = (Int.gcd z1 z2 : Int) := by
        rw [← unhide HG2, unhide HYY, Int.gcd_zero_right]; omega
      rw [← e9]
      exact (unhide HF).2.putN (unhide HF).1 _ _
    · have hl0 : (0 : Int) < (ly : Int) := by
        rcases Nat.eq_zero_or_pos ly with h | h
        · exact absurd (by have := hv0.2 h; omega) hy
        · omega
      have HYY := hide hy
      have HG2 := hide hg
      have HXX := hide (And.intro hiX hiY)
      have HPP := hide (And.intro x1 p1)
      clear hy hv0 hly ny dy my ey hiX hiY hg x1 p1
      have HQ := hide (quoN_any _ _ x y _ (unhide HXX).1 (unhide HXX).2 (by have := (unhide HPP).1; omega) (by have := (unhide HPP).2; omega))
      go_wp2_with fail
      refine (unhide HQ).mono ?_
      rintro e w3 ⟨q1, q2, rfl, hb3, iQ, iM⟩
      obtain ⟨bq, aq, lq, cq, rfl⟩ := iQ.form
      obtain ⟨bm, am, lm, cm, rfl⟩ := iM.form
      have hb5 : Below w3.heap.size w3 ((w3.alloc (.cells #[.bool bq, .slice aq lq cq] 31)).alloc (.cells #[.bool bm, .slice am lm cm] 31)) := ((Below.refl _ _).alloc (Nat.le_refl _) _).alloc (by simp) _
      have hb6 := hb3.trans (hb5.mono hb3.size)
      have cA := bA.below hb6
      have cB := bB.below hb6
      have cR := bR.below hb6
      have jY := (unhide HXX).2.below hb6
      have q8 := iM.below hb5
      have n8 := NB.new (w3.alloc (.cells #[.bool bq, .slice aq lq cq] 31)) bm am lm cm
      rw [World.size_alloc] at n8
      have ne58 : rA ≠ w3.heap.size + 1 := by have := bA.lt; have := hb3.size; omega
      have HM := hide (unhide HBN _ _ _ _ bB (unhide HXX).2)
      have hbl3 := hbl.trans (hb6.mono hbl.size)
      have CC := hide (And.intro cA (And.intro cB (And.intro cR (And.intro jY (And.intro n8 q8)))))
      clear kA0 kA1 kAf0 kAf1 kB0 kB1 kBf0 kBf1 hb3 hb5 hb6 iQ iM bA bB bR HXX HQ cA cB cR jY n8 q8
      go_wp2_with fail
      refine gcdN_r4 w.heap.size rA rB (w3.heap.size + 1) _ _ _ y (x % y) rfl rfl rfl rfl (unhide CC).1 (unhide CC).2.1 (unhide CC).2.2.2.2.1 (unhide CC).2.2.2.1 (unhide CC).2.2.2.2.2 hne ne58 hA2 hB2 ?_
      intro a' w4 hd hsz hk n5 n6 i5 i6 hb4 hoth
      have sR := hoth _ _ (Ne.symm ne2) (Ne.symm ne3) (unhide CC).2.2.1
      have hbl4 := hbl3.trans hb4
      have hz9 : ((0 : Int) ≤ x % y ∧ x % y < y) := ⟨Int.emod_nonneg _ (unhide HYY), Int.emod_lt_of_pos _ (by have := unhide HYY; omega)⟩
      have hfin := hide (And.intro n5 (And.intro n6 (And.intro i5 (And.intro i6 (And.intro sR (And.intro hbl4 hz9))))))
      clear n5 n6 i5 i6 sR hbl4 hz9 hb4 hoth hbl3 CC
      obtain ⟨t15, e15⟩ : ∃ u, a'.tmps.getD 15 undef = u := ⟨_, rfl⟩
      obtain ⟨t16, e16⟩ : ∃ u, a'.tmps.getD 16 undef = u := ⟨_, rfl⟩
      obtain ⟨t17, e17⟩ : ∃ u, a'.tmps.getD 17 undef = u := ⟨_, rfl⟩
      obtain ⟨t18, e18⟩ : ∃ u, a'.tmps.getD 18 undef = u := ⟨_, rfl⟩
      obtain ⟨t19, e19⟩ : ∃ u, a'.tmps.getD 19 undef = u := ⟨_, rfl⟩
      obtain ⟨t20, e20⟩ : ∃ u, a'.tmps.getD 20 undef = u := ⟨_, rfl⟩
      obtain ⟨t21, e21⟩ : ∃ u, a'.tmps.getD 21 undef = u := ⟨_, rfl⟩
      obtain ⟨t22, e22⟩ : ∃ u, a'.tmps.getD 22 undef = u := ⟨_, rfl⟩
      obtain ⟨t23, e23⟩ : ∃ u, a'.tmps.getD 23 undef = u := ⟨_, rfl⟩
      obtain ⟨t24, e24⟩ : ∃ u, a'.tmps.getD 24 undef = u := ⟨_, rfl⟩
      obtain ⟨t25, e25⟩ : ∃ u, a'.tmps.getD 25 undef = u := ⟨_, rfl⟩
      obtain ⟨t26, e26⟩ : ∃ u, a'.tmps.getD 26 undef = u := ⟨_, rfl⟩
      obtain rfl := act_lit [.agg #[.bool (decide (z1 < 0)), .slice a1 l1 c1], .agg #[.bool (decide (z2 < 0)), .slice a2 l2 c2], .pointer (some ⟨w.heap.size, 0, none⟩), .pointer (some ⟨w.heap.size + 1, 0, none⟩), .pointer (some ⟨w.heap.size + 1 + 1, 0, none⟩), .pointer (some ⟨rA, 0, none⟩), .pointer (some ⟨rB, 0, none⟩), .pointer (some ⟨w3.heap.size, 0, none⟩), .pointer (some ⟨w3.heap.size + 1, 0, none⟩), u9, u10, u11, u12, u13, u14, t15, t16, t17, t18, t19, t20, t21, t22, t23, t24, t25, t26, u27] hsz hd (fun k hk9 => by
        match k, hk9 with
        | 0, _ => exact (hk 0 (by decide)).trans rfl
        | 1, _ => exact (hk 1 (by decide)).trans rfl
        | 2, _ => exact (hk 2 (by decide)).trans rfl
        | 3, _ => exact (hk 3 (by decide)).trans rfl
        | 4, _ => exact (hk 4 (by decide)).trans rfl
        | 5, _ => exact (hk 5 (by decide)).trans rfl
        | 6, _ => exact (hk 6 (by decide)).trans rfl
        | 7, _ => exact (hk 7 (by decide)).trans rfl
        | 8, _ => exact (hk 8 (by decide)).trans rfl
        | 9, _ => exact (hk 9 (by decide)).trans rfl
        | 10, _ => exact (hk 10 (by decide)).trans rfl
        | 11, _ => exact (hk 11 (by decide)).trans rfl
        | 12, _ => exact (hk 12 (by decide)).trans rfl
        | 13, _ => exact (hk 13 (by decide)).trans rfl
        | 14, _ => exact (hk 14 (by decide)).trans rfl
        | 15, _ => exact tmp_get (by omega) e15
        | 16, _ => exact tmp_get (by omega) e16
        | 17, _ => exact tmp_get (by omega) e17
        | 18, _ => exact tmp_get (by omega) e18
        | 19, _ => exact tmp_get (by omega) e19
        | 20, _ => exact tmp_get (by omega) e20
        | 21, _ => exact tmp_get (by omega) e21
        | 22, _ => exact tmp_get (by omega) e22
        | 23, _ => exact tmp_get (by omega) e23
        | 24, _ => exact tmp_get (by omega) e24
        | 25, _ => exact tmp_get (by omega) e25
        | 26, _ => exact tmp_get (by omega) e26
        | 27, _ => exact (hk 27 (by decide)).trans rfl
        | _ + 28, h => exact absurd h (by simp))
      clear e15 e16 e17 e18 e19 e20 e21 e22 e23 e24 e25 e26 hsz hd
      clear hk
      go_wp2
      obtain ⟨n5, n6, i5, i6, sR, hbl4, hz9⟩ := unhide hfin
      exact ⟨⟨_, _, y, x % y, hbl4, n5, n6, ⟨_, sR⟩, i5, i6, p0, (unhide HPP).2, hz9.1, by have := (unhide HPP).2; omega, by rw [gcd_step x y x0 p0]; exact unhide HG2⟩, by have h1 := unhide HBN _ _ _ _ n6 i6; have h2 := unhide HM; refine Nat.lt_of_le_of_lt (Nat.le_of_eq h1) ?_; rw [h2]; omega⟩

end Go.Proofs.YtlcfldkmojpkpaaGreatDoor

/- NumDivides: its long test by specs, and its walk. -/
namespace Go.Proofs.YtlcfldkmojpkpaaGreatDoor
open Go Go.RowKit

theorem ediv_lt {a b : Int} {X : Int} (h : (a.natAbs : Int) < X) : ((a / b).natAbs : Int) < X := by
  have := Int.natAbs_ediv_le_natAbs a b
  omega
section
variable {Q : Exit → Act → World → Prop} {a : Act} {w : World} {dst : Option Tmp} {ty : TypeId} {pos : String} {af : Array Edge} {gd : Option (Nat × Bool)} {s t : Nat} {tys : Array TypeId}
theorem enter_gcdN : Enters Tryz.prog 65 := ⟨fun xs w => by go_simp⟩
theorem T4.le3 {z : Int} {k : Nat} (h : (z.natAbs : Int) < T4.pw k) (hk : k ≤ 3000) : (z.natAbs : Int) < T4.pw 3000 := Int.lt_of_lt_of_le h (T4.pw_mono hk)
theorem T4.gcd_lt2 {y z : Int} {a b : Nat} (h : (y.natAbs : Int) < T4.pw a) (k : (z.natAbs : Int) < T4.pw b) : (((Int.gcd y z : Int)).natAbs : Int) < T4.pw (max a b) := by
  have h2 := T4.pw_mono (Nat.le_max_left a b)
  have h3 := T4.pw_mono (Nat.le_max_right a b)
  have hp := T4.pw_pos (max a b)
  by_cases hy : y = 0
  · subst hy
    rw [Int.gcd_zero_left]
    omega
  · have := Int.gcd_le_natAbs_left z (a := y) hy
    omega
end
end Go.Proofs.YtlcfldkmojpkpaaGreatDoor
