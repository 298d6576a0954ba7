/- The document's numbers: so many times, by a digit. -/
import Derived.Test.YtblblpilmoefgaaDoorDT
import Derived.Laws.AppendOwnNone
import Derived.Test.YtblblpilmoefgaaDoorP1
import Derived.Laws.RangeAny
import Derived.Test.YtblblpilmoefgaaDoorO1
import Derived.Test.YtblblpilmoefgaaDoorO2
import Derived.BigRegion
import Derived.Lib.ItoaNum
import Derived.Test.YtblblpilmoefgaaDoorK1
import Derived.Test.YtblblpilmoefgaaDoorN2
import Derived.Test.YtblblpilmoefgaaDoorL0

namespace Go.Proofs.YtblblpilmoefgaaDoor
open Go Go.RowKit

theorem timesN_step (X zs : List Int) (k : Nat) (m c x : Int) (hz : zs.length = k) (hx : X[k]?.getD 0 = x) (h : T4.val zs + T4.pw k * c = m * T4.val (X.take k)) :
    ∀ d c' : Int, c + x * m = d + 10000 * c' → T4.val (zs ++ [d]) + T4.pw (k + 1) * c' = m * T4.val (X.take (k + 1)) := by
  intro d c' e
  rw [T4.val_snoc, hz, T4.val_take_succ', hx]
  simp only [T4.pw]
  have e2 : T4.pw k * c + T4.pw k * (x * m) = T4.pw k * d + T4.pw k * (10000 * c') := by rw [← Int.mul_add, ← Int.mul_add, e]
  have e3 : T4.pw k * (10000 * c') = 10000 * T4.pw k * c' := by rw [← Int.mul_assoc, Int.mul_comm (T4.pw k)]
  have e4 : m * (T4.val (X.take k) + T4.pw k * x) = m * T4.val (X.take k) + T4.pw k * (x * m) := by
    rw [Int.mul_add, ← Int.mul_assoc m, Int.mul_comm m (T4.pw k), Int.mul_assoc, Int.mul_comm m x]
  omega

theorem field_d {w : World} {b : Bool} {a : Option Addr} {l c : Nat} : (Instr.field 31 (.agg #[.bool b, .slice a l c]) 1).run Tryd.prog w = .ok (.slice a l c) w := by kernel_rfl

set_option maxRecDepth 100000 in
set_option maxHeartbeats 1600000 in
theorem timesN_any (vx : Value) (xs : List Int) (m : Int) (w : World) (hmx : Ns w vx xs) (hdx : T4.Dig xs) (hlx : xs.length ≤ 10000) (m0 : 0 ≤ m) (m1 : m < 10000) :
    Calls Tryd.prog 78 #[vx, .int .i64 m] w fun e w' => ∃ v zs, e = .returned v ∧ Below w.heap.size w w' ∧ Ns w' v zs ∧ T4.Dig zs ∧ T4.Norm zs ∧ T4.val zs = m * T4.val xs := by
  obtain ⟨i0, hi, hz0, hz1, hz2⟩ := info_parts infoInt
  obtain ⟨ax, capx, rfl, hcx, hatx⟩ := hmx
  go_enter Tryd.func78, Tryd.ntmps78
  go_wp2
  go_loopw [5, 6, 7] (fun dv cv iv wr => ∃ (k : Nat) (cr : Int) (zs : List Int), iv = .int .i64 k ∧ cv = .int .i64 cr ∧ 0 ≤ cr ∧ cr < 10000 ∧ (k ≤ xs.length ∨ k = xs.length + 1 ∧ cr = 0) ∧ zs.length = k ∧ wr.ownsRow w.heap.size 3 1 dv zs.length (zs.map (Value.int .i64)) ∧ Below w.heap.size w wr ∧ T4.Dig zs ∧ T4.val zs + T4.pw k * cr = m * T4.val (xs.take k)) (fun _ _ iv _ => xs.length + 1 - (intOf iv).toNat)
  case atStart => exact ⟨0, 0, [], rfl, rfl, by omega, by omega, .inl (Nat.zero_le _), rfl, World.ownsRow_nil _ _ _ _, Below.refl _ _, T4.Dig.nil, by simp [T4.val, T4.pw]⟩
  case round =>
    obtain ⟨k, cr, zs, rfl, rfl, hc0, hc1, hkm, hzl, hown, hbel, hdz, hval⟩ := hrel
    obtain ⟨x, hx, hx0, hx1⟩ := hdx.get k
    have hzle : zs.length ≤ 100000 := by omega
    have HV := hide hval
    have HZ := hide hzl
    have HX := hide hx
    have HK := hide hkm
    have key := hide (timesN_step xs zs k m cr x hzl hx hval)
    have hkb : k ≤ 10001 := by omega
    clear hval hzl hx hkm
    by_cases hX : k < xs.length
    · obtain ⟨bx, ox, rfl, hbx, hcx9⟩ := hatx (by intro e; subst e; simp at hX)
      have hcxk : wr.cell? ⟨bx, ox + k, none⟩ = some (.int .i64 x) := by rw [← unhide HX]; exact (hbel.cell (p := ⟨bx, ox + k, none⟩) hbx).trans (hcx9 k hX)
      have hXi : (k : Int) < (xs.length : Int) := by omega
      obtain ⟨hm0, hm1⟩ := mulN_bd hx0 hx1 m0 m1
      go_wp2_with (at_builtin; refine wpList_append_own _ rfl _ _ 29 rfl w.heap.size 3 i0 (.int .i64 0) 1 8 Tryd.underlying29 hi hz0 hz1 hz2 rfl (by decide) _ _ _ rfl (hown.alloc _) ⟨wr.heap.size, 0, none⟩ 1 1 [.int .i64 ((cr + x * m) % 10000)] rfl rfl (cell_one_new _ _ _) (one64 _) ?c3 ?c4 ?c5 ?_)
      case c3 => unfold maxLen; omega
      case c4 => omega
      case c5 => have := hbel.size; simp; omega
      intro v' w1 hown' hgrow _
      have hB := (hbel.alloc hbel.size (.cells #[.int .i64 ((cr + x * m) % 10000)] 3)).grown hgrow (by have := hbel.size; simp; omega) (fun k hk => (hown.lt k hk).1)
      have hO := own_snocI hown'
      clear hown' hgrow hown hbel
      go_wp2
      exact ⟨⟨k + 1, (cr + x * m) / 10000, zs ++ [(cr + x * m) % 10000], by simp, rfl, by omega, by omega, by omega, by simp [unhide HZ], hO, hB, hdz.append (T4.Dig.one (by omega) (by omega)), unhide key _ _ (by omega)⟩, by simp [intOf]; omega⟩
    · have hXn : ¬ (k : Int) < (xs.length : Int) := by omega
      by_cases hc : 0 < cr
      · obtain rfl : x = 0 := by rw [← unhide HX, List.getElem?_eq_none (by omega)]; rfl
        have hkx : k = xs.length := by have := unhide HK; omega
        have HKX := hide hkx
        clear hkx
        go_wp2_with (at_builtin; refine wpList_append_own _ rfl _ _ 29 rfl w.heap.size 3 i0 (.int .i64 0) 1 8 Tryd.underlying29 hi hz0 hz1 hz2 rfl (by decide) _ _ _ rfl (hown.alloc _) ⟨wr.heap.size, 0, none⟩ 1 1 [.int .i64 (cr % 10000)] rfl rfl (cell_one_new _ _ _) (one64 _) ?c3 ?c4 ?c5 ?_)
        case c3 => unfold maxLen; omega
        case c4 => omega
        case c5 => have := hbel.size; simp; omega
        intro v' w1 hown' hgrow _
        have hB := (hbel.alloc hbel.size (.cells #[.int .i64 (cr % 10000)] 3)).grown hgrow (by have := hbel.size; simp; omega) (fun k hk => (hown.lt k hk).1)
        have hO := own_snocI hown'
        clear hown' hgrow hown hbel
        go_wp2
        exact ⟨⟨k + 1, cr / 10000, zs ++ [cr % 10000], by simp, rfl, by omega, by omega, by have := unhide HKX; omega, by simp [unhide HZ], hO, hB, hdz.append (T4.Dig.one (by omega) (by omega)), unhide key _ _ (by omega)⟩, by have := unhide HKX; simp [intOf]; omega⟩
      · obtain rfl : cr = 0 := by omega
        have HR := hide (show T4.val zs = m * T4.val xs by
          have := unhide HV
          rw [List.take_of_length_le (by omega)] at this
          omega)
        have hm := Ns.of_owns hown
        have hT := trimN_is false _ zs wr hm hdz hzle
        simp only [Bool.false_eq_true, if_false, unhide HR] at hT
        have HT := hide hT
        have HP := hide (Int.mul_nonneg m0 (T4.val_nonneg hdx))
        clear hown hT
        go_wp2_with fail
        refine (unhide HT).mono ?_
        rintro e w3 ⟨r, rfl, hb3, hi3⟩
        obtain ⟨a3, l3, c3, zs3, rfl, n3, d3, o3, v3⟩ := hi3
        have HN := hide (And.intro n3 (And.intro d3 (And.intro o3 v3)))
        have HB := hide (hbel.trans (hb3.mono hbel.size))
        clear n3 d3 o3 v3 hb3
        have hfd := field_d (w := w3) (b := decide (m * T4.val xs < 0)) (a := a3) (l := l3) (c := c3)
        go_wp2
        go_ret
        refine ⟨_, zs3, rfl, unhide HB, (unhide HN).1, (unhide HN).2.1, (unhide HN).2.2.1, ?_⟩
        have h9 := (unhide HN).2.2.2
        have h8 := unhide HP
        omega

end Go.Proofs.YtblblpilmoefgaaDoor

/- The document's numbers: trim where the sign is no; digits by digits. -/
namespace Go.Proofs.YtblblpilmoefgaaDoor
open Go Go.RowKit

set_option maxRecDepth 100000 in
set_option maxHeartbeats 800000 in
theorem trimD_is (a : Option Addr) (cap : Nat) (xs : List Int) (w : World) (hm : Ns w (.slice a xs.length cap) xs) (hd : T4.Dig xs) (hl : xs.length ≤ 100000) :
    Calls Tryd.prog 42 #[.bool false, .slice a xs.length cap] w fun e w' => ∃ r k, e = .returned r ∧ r = .agg #[.bool false, .slice a k cap] ∧ Below w.heap.size w w' ∧ Ns w' (.slice a k cap) (xs.take k) ∧ T4.Dig (xs.take k) ∧ T4.Norm (xs.take k) ∧ T4.val (xs.take k) = T4.val xs := by
  have hm' := hm
  obtain ⟨a', cap', e', hcap, hat⟩ := hm
  simp only [Value.slice.injEq, true_and] at e'
  obtain ⟨rfl, rfl⟩ := e'
  have HF := hide (fun (k : Nat) (W : World) (hB : Below w.heap.size w W) (hk : k ≤ xs.length) (hz : ∀ j, k ≤ j → j < xs.length → xs[j]?.getD 0 = 0) (ht : 0 < k → xs[k - 1]?.getD 0 ≠ 0) => (⟨(hm'.take hk).below hB, trim_spec hd k hk hz ht⟩ : Ns W (.slice a k cap) (xs.take k) ∧ T4.Dig (xs.take k) ∧ T4.Norm (xs.take k) ∧ T4.val (xs.take k) = T4.val xs))
  clear hm'
  go_enter Tryd.func42, Tryd.ntmps42
  go_wp2
  go_loop [1] (fun sv => ∃ k : Nat, k ≤ xs.length ∧ sv = .slice a k cap ∧ ∀ j, k ≤ j → j < xs.length → xs[j]?.getD 0 = 0) (fun sv => lenOf sv)
  case atStart => exact ⟨xs.length, Nat.le_refl _, rfl, fun j h1 h2 => by omega⟩
  case round =>
    obtain ⟨k, hk, rfl, hz⟩ := hrel
    have hcap' : k ≤ cap := by omega
    have HZ := hide hz
    clear hz
    by_cases hk0 : 0 < k
    · obtain ⟨b, off, rfl, hb, hc⟩ := hat (by intro e; subst e; simp at hk; omega)
      have hck := hc (k - 1) (by omega)
      have hin : (k : Int) - 1 = ((k - 1 : Nat) : Int) := by omega
      obtain ⟨d, hdd⟩ : ∃ d, xs[k - 1]?.getD 0 = d := ⟨_, rfl⟩
      rw [hdd] at hck
      have HD := hide hdd
      clear hc hat hdd
      by_cases hv : d = 0
      · have hv' : (d == 0) = true := by simp [hv]
        have HV := hide hv
        clear hv
        go_wp2
        refine ⟨⟨k - 1, by omega, rfl, fun j h1 h2 => ?_⟩, by simp [lenOf]; omega⟩
        by_cases e : j = k - 1
        · rw [e, unhide HD, unhide HV]
        · exact unhide HZ j (by omega) h2
      · have hv' : (d == 0) = false := by simp [hv]
        have HV := hide hv
        clear hv
        have HR := hide (fun (W : World) (hB : Below w.heap.size w W) => unhide HF k W hB hk (unhide HZ) (fun _ => by rw [unhide HD]; exact unhide HV))
        clear HF
        go_wp2
        exact bodyPost_ret (v := .agg #[.bool false, .slice (some ⟨b, off, none⟩) k cap]) (by simp [results, Tryd.results42, go_sem]) rfl ⟨_, rfl, k, rfl, (Below.refl _ w).alloc (Nat.le_refl _) _, unhide HR _ ((Below.refl _ w).alloc (Nat.le_refl _) _)⟩
    · obtain rfl : k = 0 := by omega
      have HR := hide (fun (W : World) (hB : Below w.heap.size w W) => unhide HF 0 W hB hk (unhide HZ) (fun h => absurd h (by omega)))
      clear hat HF
      go_wp2
      exact bodyPost_ret (v := .agg #[.bool false, .slice a 0 cap]) (by simp [results, Tryd.results42, go_sem]) rfl ⟨_, rfl, 0, rfl, (Below.refl _ w).alloc (Nat.le_refl _) _, unhide HR _ ((Below.refl _ w).alloc (Nat.le_refl _) _)⟩

theorem own_oneI {base : Nat} (w : World) (d : Int) (hb : base ≤ w.heap.size) : (w.alloc (.cells #[.int .i64 d] 3)).ownsRow base 3 1 (.slice (some ⟨w.heap.size, 0, none⟩) 1 1) 1 [.int .i64 d] :=
  ⟨by simp, .inr ⟨w.heap.size, 1, #[.int .i64 d], rfl, hb, heap_alloc_new w _, Nat.le_refl _, by unfold maxLen; omega, rfl, by simp⟩⟩

theorem run_append_none_c {P : Program} {w : World} (base : Nat) (t ty e : TypeId) (i : TypeInfo) (size : Nat) (ht : P.underlying t = some (.slice e)) (hi : P.info? e = some i)
    (v : Value) (n : Nat) (xs : List Value) (hown : w.ownsRow base e size v n xs) (c : Nat) :
    (Builtin.append_ #[t, t] ty #[v, .slice none 0 c]).run P w = .ok v w := by
  rcases hown.2 with ⟨rfl, rfl⟩ | ⟨g, cap, cur, rfl, _, _, hnc, _⟩
  · simp [Builtin.append_, run_underlying ht, sizeOf, typeInfo, hi, Builtin.lenOf, Builtin.firstCells]
  · simp [Builtin.append_, run_underlying ht, sizeOf, typeInfo, hi, Builtin.lenOf, Builtin.firstCells, hnc, storeCells]
theorem wpList_append_none_c {P : Program} {w : World} {ops : Array Oper} {rest : List Oper} {o : Oper} {a : Act} {Q : Exit → Act → World → Prop} (hgd : o.guard = none) (s x : Operand) (t : TypeId)
    (ho : o.op = .call { callee := .builtin .append, args := #[s, x], argTypes := #[t, t] })
    (base : Nat) (e : TypeId) (i : TypeInfo) (size : Nat) (ht : P.underlying t = some (.slice e)) (hi : P.info? e = some i)
    (v : Value) (n : Nat) (xs : List Value) (hs : a.eval s = v) (hown : w.ownsRow base e size v n xs) (c : Nat) (hx : a.eval x = .slice none 0 c)
    (h : wpList P ops Q rest (a.put o.dst v) w) : wpList P ops Q (o :: rest) a w := by
  refine wpList_plain hgd fun K hK => ?_
  have hrun := run_append_none_c (P := P) (w := w) base t o.type e i size ht hi v n xs hown c
  unfold Oper.wp
  simp [execOp, ho, resolve, invoke, builtin, hs, hx, hrun, Result.andThen]
  exact hK _ _ h
set_option maxRecDepth 100000 in
theorem wpList_append_ns {w : World} {ops : Array Oper} {rest : List Oper} {o : Oper} {a : Act} {Q : Exit → Act → World → Prop} (hgd : o.guard = none) (s x : Operand)
    (ho : o.op = .call { callee := .builtin .append, args := #[s, x], argTypes := #[29, 29] })
    (base : Nat) (v : Value) (n : Nat) (xs : List Value) (hs : a.eval s = v) (hown : w.ownsRow base 3 1 v n xs)
    (vs : Value) (ys : List Int) (hx : a.eval x = vs) (hns : Ns w vs ys) (hl : n + ys.length ≤ 100000) (hbase : base ≤ w.heap.size)
    (h : ∀ v' w', w'.ownsRow base 3 1 v' (n + ys.length) (xs ++ ys.map (Value.int .i64)) → w.grownBy w' v.ownBlock → wpList Tryd.prog ops Q rest (a.put o.dst v') w') : wpList Tryd.prog ops Q (o :: rest) a w := by
  obtain ⟨i0, hi, hz0, hz1, hz2⟩ := info_parts infoInt
  obtain ⟨a', cap, rfl, hc, hat⟩ := hns
  by_cases hy : ys = []
  · subst hy
    cases a' with
    | none => exact wpList_append_none_c hgd s x 29 ho base 3 i0 1 Tryd.underlying29 hi v n xs hs hown cap hx (h v w (by simpa using hown) ⟨rfl, rfl, rfl, Nat.le_refl _, fun _ _ _ => rfl⟩)
    | some p => exact wpList_append_own w hgd s x 29 ho base 3 i0 (.int .i64 0) 1 8 Tryd.underlying29 hi hz0 hz1 hz2 rfl (by decide) v n xs hs hown p 0 cap [] hx rfl (fun j u hj => by simp at hj) (fun u hu => by simp at hu) (by unfold maxLen; simp at hl; omega) (by simp at hl; omega) hbase (fun v' w' h1 h2 _ => h v' w' (by simpa using h1) h2)
  · obtain ⟨b, off, rfl, hb, hcell⟩ := hat hy
    refine wpList_append_own w hgd s x 29 ho base 3 i0 (.int .i64 0) 1 8 Tryd.underlying29 hi hz0 hz1 hz2 rfl (by decide) v n xs hs hown ⟨b, off, none⟩ ys.length cap (ys.map (Value.int .i64)) hx (by simp) (fun j u hj => ?_) (fun u hu => ?_) (by unfold maxLen; omega) (by omega) hbase (fun v' w' h1 h2 _ => h v' w' h1 h2)
    · have hjl : j < ys.length := by
        have := (List.getElem?_eq_some_iff.1 hj).1
        simpa using this
      rw [Addr.add_lit, hcell j hjl]
      rw [List.getElem?_map, List.getElem?_eq_getElem hjl] at hj
      rw [List.getElem?_eq_getElem hjl]
      simpa using hj
    · simp only [List.mem_map] at hu
      obtain ⟨d, _, rfl⟩ := hu
      rfl

end Go.Proofs.YtblblpilmoefgaaDoor

/- The document's numbers: digits by digits, rounded down, and what is left. -/
namespace Go.Proofs.YtblblpilmoefgaaDoor
open Go Go.RowKit

theorem cmpI_le (a b : Int) : cmpI a b ≤ 0 ↔ a ≤ b := by
  unfold cmpI
  split
  · omega
  · split <;> omega
theorem val_cons4 (x : Int) (xs : List Int) : T4.val (x :: xs) = x + 10000 * T4.val xs := rfl
theorem part_inv {xs : List Int} {j : Nat} {x : Int} (hx : xs[j]?.getD 0 = x) (hj : j < xs.length) {q Y r lo R : Int} (h : T4.val (xs.drop (j + 1)) = q * Y + r) (hR : R = x + 10000 * r) : T4.val (xs.drop j) = (lo + 10000 * q) * Y + (R - lo * Y) := by
  rw [List.getElem?_eq_getElem hj, Option.getD_some] at hx
  rw [List.drop_eq_getElem_cons hj, val_cons4, h, hx, hR]
  grind

theorem part_lt {R lo Y : Int} (h : R < (lo + 1) * Y) : R - lo * Y < Y := by
  rw [Int.add_mul] at h
  omega

set_option maxRecDepth 100000 in
set_option maxHeartbeats 1600000 in
theorem partN_any (va vb : Value) (xs ys : List Int) (w : World) (h1 : Ns w va xs) (h2 : Ns w vb ys) (dx : T4.Dig xs) (dy : T4.Dig ys) (hlx : xs.length ≤ 4000) (hly : ys.length ≤ 4000) (hy : 0 < T4.val ys) :
    Calls Tryd.prog 62 #[va, vb] w fun e w' => ∃ vq vr qs rs, e = .returned (.tuple #[vq, vr]) ∧ Below w.heap.size w w' ∧ Ns w' vq qs ∧ Ns w' vr rs ∧ T4.Dig qs ∧ T4.Dig rs ∧ T4.val xs = T4.val qs * T4.val ys + T4.val rs ∧ T4.val rs < T4.val ys ∧ qs.length ≤ 4000 ∧ rs.length ≤ 4000 := by
  have hyw : T4.val ys < T4.pw ys.length := T4.val_lt dy
  have hpm : T4.pw ys.length ≤ T4.pw 4000 := T4.pw_mono hly
  obtain ⟨ax, capx, rfl, hcx, hatx⟩ := h1
  obtain ⟨Y, hY⟩ : ∃ Y, Y = T4.val ys := ⟨_, rfl⟩
  have HY := hide (And.intro hY (And.intro hyw hpm))
  rw [← hY] at hy ⊢
  clear hY hyw hpm
  have H2 := hide h2
  clear h2
  go_enter Tryd.func62, Tryd.ntmps62
  go_wp2
  go_loopw [6, 7, 8] (fun qv rv iv wr => ∃ (i : Int) (qs rs : List Int), iv = .int .i64 i ∧ -1 ≤ i ∧ i < xs.length ∧ (qs.length : Int) + i + 1 = xs.length ∧ Ns wr qv qs ∧ Ns wr rv rs ∧ Below w.heap.size w wr ∧ T4.Dig qs ∧ T4.Dig rs ∧ T4.Norm rs ∧ Hid (T4.val (xs.drop (i + 1).toNat) = T4.val qs * Y + T4.val rs ∧ T4.val rs < Y)) (fun _ _ iv _ => (intOf iv + 1).toNat)
  case atStart =>
    exact ⟨_, [], [], rfl, by omega, by omega, by simp, ⟨none, 0, rfl, Nat.le_refl _, fun h => absurd rfl h⟩, ⟨none, 0, rfl, Nat.le_refl _, fun h => absurd rfl h⟩, Below.refl _ _, T4.Dig.nil, T4.Dig.nil, fun h => absurd rfl h, hide ⟨by rw [List.drop_eq_nil_of_le (by omega)]; simp [T4.val], by simp [T4.val]; omega⟩⟩
  case round =>
    obtain ⟨i, qs, rs, rfl, hi0, hi1, hql, hnq, hnr, hbel, hdq, hdr, hnm, hinv⟩ := hrel
    by_cases h0 : 0 ≤ i
    · obtain ⟨j, rfl⟩ : ∃ j : Nat, i = (j : Int) := ⟨i.toNat, by omega⟩
      have hj : j < xs.length := by omega
      obtain ⟨x, hx, hx0, hx1⟩ := dx.get j
      obtain ⟨bx, ox, rfl, hbx, hcx9⟩ := hatx (by intro e; subst e; simp at hj)
      have hcxj : wr.cell? ⟨bx, ox + j, none⟩ = some (.int .i64 x) := by rw [← hx]; exact (hbel.cell (p := ⟨bx, ox + j, none⟩) hbx).trans (hcx9 j hj)
      have HX := hide hx
      have HQL := hide hql
      have hqlen : qs.length ≤ 4000 := by omega
      have hrl : rs.length ≤ 4000 := T4.len_le hdr hnm (by have := unhide hinv; have := unhide HY; omega)
      clear hx hql
      go_wp2_with (at_builtin; refine wpList_append_ns rfl _ _ rfl w.heap.size _ 1 [.int .i64 x] rfl (own_oneI wr x hbel.size) _ rs rfl (hnr.below ((Below.refl _ _).alloc (Nat.le_refl _) _)) ?c1 ?c2 ?_)
      case c1 => omega
      case c2 => have := hbel.size; simp; omega
      intro v1 w1 hown1 hgrow1
      have hb1 : Below wr.heap.size wr w1 := ((Below.refl _ wr).alloc (Nat.le_refl _) _).grown hgrow1 (by simp) (fun k hk => by simp [Value.ownBlock] at hk; subst hk; exact Nat.le_refl _)
      have hO1 : w1.ownsRow w.heap.size 3 1 v1 (x :: rs).length ((x :: rs).map (Value.int .i64)) := by simpa [Nat.add_comm] using hown1
      obtain ⟨a1, cap1, rfl, hc1, hat1⟩ := Ns.of_owns hO1
      have HTD := hide (trimD_is a1 cap1 (x :: rs) w1 ⟨a1, cap1, rfl, hc1, hat1⟩ (by intro d hd; rcases List.mem_cons.1 hd with rfl | hd; exact ⟨hx0, hx1⟩; exact hdr d hd) (by simp; omega))
      have Hq1 := hide (hnq.below hb1)
      have hbel1 := hbel.trans (hb1.mono hbel.size)
      clear hown1 hgrow1 hO1 hc1 hat1 hnq hnr hb1
      go_wp2_with fail
      refine (unhide HTD).mono ?_
      rintro e w2 ⟨_, k1, rfl, rfl, hb2, n2, d2, o2, v2⟩
      generalize (x :: rs).take k1 = rs1 at *
      rw [val_cons4] at v2
      obtain ⟨R, hR⟩ : ∃ R, R = T4.val rs1 := ⟨_, rfl⟩
      have HR := hide (And.intro hR v2)
      have hR0 : 0 ≤ R := by rw [hR]; exact T4.val_nonneg d2
      have hRY : R < 10000 * Y := by have := (unhide hinv).2; rw [hR, v2]; omega
      have hl2 : rs1.length ≤ 4001 := T4.len_le d2 o2 (by have h3 := unhide HY; have h4 : T4.pw 4001 = 10000 * T4.pw 4000 := rfl; omega)
      have N2 := hide (And.intro n2 (And.intro d2 o2))
      have Hq2 := hide ((unhide Hq1).below hb2)
      have hbel2 := hbel1.trans (hb2.mono hbel1.size)
      have hfd := field_d (w := w2) (b := false) (a := a1) (l := k1) (c := cap1)
      clear hb2 n2 d2 o2 v2 Hq1 hR hcxj hbel hbel1 HTD
      go_wp2
      clear hfd
      go_loopw [9, 10] (fun lov hiv wq => ∃ (lo hi : Int), lov = .int .i64 lo ∧ hiv = .int .i64 hi ∧ 0 ≤ lo ∧ lo < hi ∧ hi ≤ 10000 ∧ Below w2.heap.size w2 wq ∧ Hid (lo * Y ≤ R ∧ R < hi * Y)) (fun lov hiv _ => (intOf hiv - intOf lov).toNat)
      case atStart => exact ⟨0, 10000, rfl, rfl, by omega, by omega, by omega, Below.refl _ _, hide ⟨by omega, hRY⟩⟩
      case round =>
        obtain ⟨lo, hi, rfl, rfl, hlo, hlh, hhi, hbq, hlr⟩ := hrel
        have hyq := (unhide H2).below (hbel2.trans (hbq.mono hbel2.size))
        by_cases hgo : 1 < hi - lo
        · have hm0 : 0 ≤ (lo + hi) / 2 := by omega
          have hm1 : (lo + hi) / 2 < 10000 := by omega
          obtain ⟨m, hm⟩ : ∃ m, m = (lo + hi) / 2 := ⟨_, rfl⟩
          have HTM := hide (timesN_any vb ys ((lo + hi) / 2) wr hyq dy (by omega) hm0 hm1)
          go_wp2_with fail
          refine (unhide HTM).mono ?_
          rintro e w3 ⟨v3, zs, rfl, hb3, n3, d3, o3, e3⟩
          have hlz : zs.length ≤ 4001 := T4.len_le d3 o3 (by
            have h3 := unhide HY
            have h4 : T4.pw 4001 = 10000 * T4.pw 4000 := rfl
            have h5 := Int.mul_le_mul_of_nonneg_right (show (lo + hi) / 2 ≤ 9999 by omega) (Int.le_of_lt hy)
            rw [e3, ← h3.1]
            omega)
          have HL := hide (lessN_any v3 _ zs rs1 w3 n3 ((unhide N2).1.below (hbq.trans (hb3.mono hbq.size))) d3 (unhide N2).2.1 o3 (unhide N2).2.2 (by omega) (by omega))
          rw [e3, ← (unhide HR).1, ← (unhide HY).1, ← hm] at HL
          have hbq3 := hbq.trans (hb3.mono hbq.size)
          rw [← hm]
          have hmlo : lo < m := by omega
          have hmhi : m < hi := by omega
          clear HTM hb3 n3 d3 o3 e3 hlz hm hm0 hm1 hyq
          go_wp2_with fail
          refine (unhide HL).mono ?_
          rintro e w4 ⟨rfl, hb4⟩
          have hbq4 := hbq3.trans (hb4.mono hbq3.size)
          have hiff := cmpI_le (m * Y) R
          generalize cmpI (m * Y) R = cc at *
          clear hb4 hbq3 HL
          by_cases hc : cc ≤ 0
          · have hle := hide (hiff.1 hc)
            clear hiff
            go_wp2
            exact ⟨⟨m, hi, rfl, rfl, by omega, by omega, by omega, hbq4, hide ⟨unhide hle, (unhide hlr).2⟩⟩, by simp [intOf]; omega⟩
          · have hle := hide (show R < m * Y by rcases Int.lt_or_le R (m * Y) with h | h; exact h; exact absurd (hiff.2 h) hc)
            have hc' : decide (cc ≤ 0) = false := by simpa using hc
            clear hiff hc
            go_wp2
            exact ⟨⟨lo, m, rfl, rfl, by omega, by omega, by omega, hbq4, hide ⟨(unhide hlr).1, unhide hle⟩⟩, by simp [intOf]; omega⟩
        · obtain rfl : hi = lo + 1 := by omega
          have hqq := (unhide Hq2).below hbq
          have hbelq := hbel2.trans (hbq.mono hbel2.size)
          have hgo' : ¬ (1 < lo + 1 - lo) := hgo
          go_wp2_with (at_builtin; refine wpList_append_ns rfl _ _ rfl w.heap.size _ 1 [.int .i64 lo] rfl (own_oneI wr lo hbelq.size) _ qs rfl (hqq.below ((Below.refl _ _).alloc (Nat.le_refl _) _)) ?d1 ?d2 ?_)
          case d1 => omega
          case d2 => have := hbelq.size; simp; omega
          intro v5 w5 hown5 hgrow5
          have hb5 : Below wr.heap.size wr w5 := ((Below.refl _ wr).alloc (Nat.le_refl _) _).grown hgrow5 (by simp) (fun k hk => by simp [Value.ownBlock] at hk; subst hk; exact Nat.le_refl _)
          have hO5 : w5.ownsRow w.heap.size 3 1 v5 (lo :: qs).length ((lo :: qs).map (Value.int .i64)) := by simpa [Nat.add_comm] using hown5
          have Nq5 := hide (Ns.of_owns hO5)
          have hbq5 := hbq.trans (hb5.mono hbq.size)
          have hbel5 := hbelq.trans (hb5.mono hbelq.size)
          have HTM := hide (timesN_any vb ys lo w5 (hyq.below hb5) dy (by omega) hlo (by omega))
          clear hown5 hgrow5 hO5 hqq hb5 hbelq hbq hyq
          go_wp2_with fail
          refine (unhide HTM).mono ?_
          rintro e w6 ⟨v6, zs, rfl, hb6, n6, d6, o6, e6⟩
          rw [← (unhide HY).1] at e6
          have hvle : T4.val zs ≤ T4.val rs1 := by rw [e6, ← (unhide HR).1]; exact (unhide hlr).1
          have hll : zs.length ≤ rs1.length := T4.len_le d6 o6 (Int.lt_of_le_of_lt hvle (T4.val_lt (unhide N2).2.1))
          have HMN := hide (minusN_any _ v6 rs1 zs w6 ((unhide N2).1.below (hbq5.trans (hb6.mono hbq5.size))) n6 (unhide N2).2.1 d6 (by omega) hll hvle)
          have Nq6 := hide ((unhide Nq5).below hb6)
          have hbel6 := hbel5.trans (hb6.mono hbel5.size)
          have HE6 := hide e6
          clear HTM hb6 n6 d6 o6 e6 hvle hll Nq5 hbq5 hbel5
          go_wp2_with fail
          refine (unhide HMN).mono ?_
          rintro e w7 ⟨v7, ts, rfl, hb7, n7, d7, e7, l7⟩
          rw [← (unhide HR).1, unhide HE6] at e7
          obtain ⟨a7, cap7, rfl, hc7, hat7⟩ := n7
          have HTD := hide (trimD_is a7 cap7 ts w7 ⟨a7, cap7, rfl, hc7, hat7⟩ d7 (by omega))
          have Nq7 := hide ((unhide Nq6).below hb7)
          have hbel7 := hbel6.trans (hb7.mono hbel6.size)
          have HE7 := hide e7
          clear HMN hb7 hc7 hat7 d7 e7 l7 Nq6 hbel6 HE6
          go_wp2_with fail
          refine (unhide HTD).mono ?_
          rintro e w8 ⟨_, k8, rfl, rfl, hb8, n8, d8, o8, v8⟩
          rw [unhide HE7] at v8
          generalize ts.take k8 = rs8 at *
          have N8 := hide (And.intro n8 (And.intro d8 (And.intro o8 v8)))
          have Nq8 := hide ((unhide Nq7).below hb8)
          have hbel8 := hbel7.trans (hb8.mono hbel7.size)
          have hfd := field_d (w := w8) (b := false) (a := a7) (l := k8) (c := cap7)
          have hlo1 : lo < 10000 := by omega
          clear HTD hb8 n8 d8 o8 v8 Nq7 hbel7 HE7
          go_wp2
          refine ⟨⟨(j : Int) - 1, lo :: qs, rs8, rfl, by omega, by omega, by have := unhide HQL; simp; omega, unhide Nq8, (unhide N8).1, hbel8, ?_, (unhide N8).2.1, (unhide N8).2.2.1, ?_⟩, by simp [intOf]⟩
          · intro d hd
            rcases List.mem_cons.1 hd with rfl | hd
            · exact ⟨hlo, hlo1⟩
            · exact hdq d hd
          · have h9 := (unhide N8).2.2.2
            have h8 := (unhide hinv).1
            rw [show ((j : Int) + 1).toNat = j + 1 by omega] at h8
            have h7 := (unhide hlr).2
            refine hide ⟨?_, by rw [h9]; exact part_lt h7⟩
            rw [show ((j : Int) - 1 + 1).toNat = j by omega, val_cons4, h9]
            exact part_inv (unhide HX) hj h8 (by rw [(unhide HR).1, (unhide HR).2])
    · obtain rfl : i = -1 := by omega
      have HV := hide (show T4.val xs = T4.val qs * Y + T4.val rs by have := (unhide hinv).1; simpa using this)
      have hrl : rs.length ≤ 4000 := T4.len_le hdr hnm (by have := unhide hinv; have := unhide HY; omega)
      have hqlen : qs.length ≤ 4000 := by omega
      go_wp2
      refine bodyPost_ret (v := .tuple #[u6, u7]) (by simp [results, Tryd.results62, go_sem]) rfl ⟨_, _, rfl, hbel, qs, hnq, rs, hnr, hdq, hdr, unhide HV, (unhide hinv).2, hqlen, hrl⟩

end Go.Proofs.YtblblpilmoefgaaDoor

/- The document's numbers: Of. -/
namespace Go.Proofs.YtblblpilmoefgaaDoor
open Go Go.RowKit

theorem norm_snoc {zs : List Int} {d : Int} (h : d ≠ 0) : T4.Norm (zs ++ [d]) := fun _ => by simpa using h

theorem ofN_len {zs : List Int} (hd : T4.Dig zs) {u V : Int} (hu : 0 < u) (h : T4.val zs + T4.pw zs.length * u = V) (hV : V ≤ 9223372036854775808) : zs.length ≤ 5 := by
  rcases Nat.lt_or_ge 5 zs.length with h5 | h5
  · exfalso
    have h1 := T4.pw_mono (Nat.le_of_lt h5)
    have h2 : T4.pw 5 = 100000000000000000000 := by decide
    have h3 := T4.val_nonneg hd
    have h4 := Int.mul_le_mul_of_nonneg_left (show 1 ≤ u by omega) (Int.le_trans (by omega) h1)
    omega
  · exact h5
theorem ofN_step {zs : List Int} {u V : Int} (h : T4.val zs + T4.pw zs.length * u = V) : T4.val (zs ++ [u % 10000]) + T4.pw (zs ++ [u % 10000]).length * (u / 10000) = V := by
  rw [T4.val_snoc, List.length_append, List.length_singleton]
  simp only [T4.pw]
  have h1 : u = u % 10000 + 10000 * (u / 10000) := by omega
  have h2 : T4.pw zs.length * u = T4.pw zs.length * (u % 10000) + T4.pw zs.length * (10000 * (u / 10000)) := by rw [← Int.mul_add, ← h1]
  have h3 : T4.pw zs.length * (10000 * (u / 10000)) = 10000 * T4.pw zs.length * (u / 10000) := by rw [← Int.mul_assoc, Int.mul_comm (T4.pw zs.length)]
  omega

set_option maxRecDepth 100000 in
set_option maxHeartbeats 1600000 in
theorem ofN_any (z : Int) (w : World) (hz0 : -9223372036854775808 ≤ z) (hz9 : z ≤ 9223372036854775807) :
    Calls Tryd.prog 18 #[.int .i64 z] w fun e w' => ∃ r, e = .returned r ∧ Below w.heap.size w w' ∧ IsN w' r z := by
  obtain ⟨i0, hi, hz0', hz1, hz2⟩ := info_parts infoInt
  have x1 := NB.new w false none 0 0
  have hB : Below w.heap.size w (w.alloc (.cells #[.bool false, .slice none 0 0] 31)) := (Below.refl _ w).alloc (Nat.le_refl _) _
  by_cases hn : z < 0
  · have e1 : IntKind.u64.wrap z = z + 18446744073709551616 := by simp [IntKind.wrap_u64]; omega
    have e2 : IntKind.u64.wrap (-(z + 18446744073709551616)) = -z := by simp [IntKind.wrap_u64]; omega
    go_enter Tryd.func18, Tryd.ntmps18
    go_wp2
    have X1 := hide x1
    have HB := hide hB
    generalize (w.alloc (.cells #[.bool false, .slice none 0 0] 31)) = W0 at *
    go_loopw [4, 5] (fun uv dv wr => ∃ (u : Int) (zs : List Int), uv = .int .u64 u ∧ 0 ≤ u ∧ u ≤ 9223372036854775808 ∧ wr.ownsRow W0.heap.size 3 1 dv zs.length (zs.map (Value.int .i64)) ∧ Below W0.heap.size W0 wr ∧ T4.Dig zs ∧ Hid (u = 0 → T4.Norm zs) ∧ Hid (T4.val zs + T4.pw zs.length * u = -z)) (fun uv _ _ => (intOf uv).toNat)
    case atStart => exact ⟨_, [], rfl, by omega, by omega, World.ownsRow_nil _ _ _ _, Below.refl _ _, T4.Dig.nil, hide (fun _ h => absurd rfl h), hide (by simp [T4.val, T4.pw])⟩
    case round =>
      obtain ⟨u, zs, rfl, hu0, hu1, hown, hbel, hdz, hnm, hval⟩ := hrel
      by_cases hu : 0 < u
      · have hzl : zs.length ≤ 5 := ofN_len hdz hu (unhide hval) (by omega)
        go_wp2_with (at_builtin; refine wpList_append_own _ rfl _ _ 29 rfl W0.heap.size 3 i0 (.int .i64 0) 1 8 Tryd.underlying29 hi hz0' hz1 hz2 rfl (by decide) _ _ _ rfl (hown.alloc _) ⟨wr.heap.size, 0, none⟩ 1 1 [.int .i64 (u % 10000)] rfl rfl (cell_one_new _ _ _) (one64 _) ?c3 ?c4 ?c5 ?_)
        case c3 => unfold maxLen; omega
        case c4 => omega
        case c5 => have := hbel.size; simp; omega
        intro v' w1 hown' hgrow _
        have hB1 := (hbel.alloc hbel.size (.cells #[.int .i64 (u % 10000)] 3)).grown hgrow (by have := hbel.size; simp; omega) (fun k hk => (hown.lt k hk).1)
        have hO := own_snocI hown'
        clear hown' hgrow hown hbel
        go_wp2
        exact ⟨⟨u / 10000, zs ++ [u % 10000], rfl, by omega, by omega, hO, hB1, hdz.append (T4.Dig.one (by omega) (by omega)), hide (fun h => norm_snoc (by omega)), hide (ofN_step (unhide hval))⟩, by simp [intOf]; omega⟩
      · obtain rfl : u = 0 := by omega
        have hm := Ns.of_owns hown
        obtain ⟨a3, c3, rfl, hc3, hat3⟩ := id hm
        have hbx := (unhide X1).below hbel
        obtain ⟨_, _, k30, k31, f30, f31⟩ := hbx.facts0
        have HI := hide (show IsN wr (.agg #[.bool true, .slice a3 zs.length c3]) z from ⟨a3, zs.length, c3, zs, by simp [hn], hm, hdz, unhide hnm rfl, by have := unhide hval; omega⟩)
        have HBX := hide hbx
        clear hown hm hat3 hbx
        go_wp2
        refine bodyPost_ret (res_N rfl rfl ((unhide HBX).set true a3 zs.length c3)) rfl ⟨_, rfl, ?_, (unhide HI).putN (unhide HBX) _ _⟩
        exact below_put ((unhide HB).trans (hbel.mono (unhide HB).size)) (by omega) _ _
  · have e1 : IntKind.u64.wrap z = z := by simp [IntKind.wrap_u64]; omega
    have hn' : decide (z < 0) = false := by simpa using hn
    go_enter Tryd.func18, Tryd.ntmps18
    go_wp2
    have X1 := hide x1
    have HB := hide hB
    generalize (w.alloc (.cells #[.bool false, .slice none 0 0] 31)) = W0 at *
    go_loopw [4, 5] (fun uv dv wr => ∃ (u : Int) (zs : List Int), uv = .int .u64 u ∧ 0 ≤ u ∧ u ≤ 9223372036854775808 ∧ wr.ownsRow W0.heap.size 3 1 dv zs.length (zs.map (Value.int .i64)) ∧ Below W0.heap.size W0 wr ∧ T4.Dig zs ∧ Hid (u = 0 → T4.Norm zs) ∧ Hid (T4.val zs + T4.pw zs.length * u = z)) (fun uv _ _ => (intOf uv).toNat)
    case atStart => exact ⟨_, [], rfl, by omega, by omega, World.ownsRow_nil _ _ _ _, Below.refl _ _, T4.Dig.nil, hide (fun _ h => absurd rfl h), hide (by simp [T4.val, T4.pw])⟩
    case round =>
      obtain ⟨u, zs, rfl, hu0, hu1, hown, hbel, hdz, hnm, hval⟩ := hrel
      by_cases hu : 0 < u
      · have hzl : zs.length ≤ 5 := ofN_len hdz hu (unhide hval) (by omega)
        go_wp2_with (at_builtin; refine wpList_append_own _ rfl _ _ 29 rfl W0.heap.size 3 i0 (.int .i64 0) 1 8 Tryd.underlying29 hi hz0' hz1 hz2 rfl (by decide) _ _ _ rfl (hown.alloc _) ⟨wr.heap.size, 0, none⟩ 1 1 [.int .i64 (u % 10000)] rfl rfl (cell_one_new _ _ _) (one64 _) ?c3 ?c4 ?c5 ?_)
        case c3 => unfold maxLen; omega
        case c4 => omega
        case c5 => have := hbel.size; simp; omega
        intro v' w1 hown' hgrow _
        have hB1 := (hbel.alloc hbel.size (.cells #[.int .i64 (u % 10000)] 3)).grown hgrow (by have := hbel.size; simp; omega) (fun k hk => (hown.lt k hk).1)
        have hO := own_snocI hown'
        clear hown' hgrow hown hbel
        go_wp2
        exact ⟨⟨u / 10000, zs ++ [u % 10000], rfl, by omega, by omega, hO, hB1, hdz.append (T4.Dig.one (by omega) (by omega)), hide (fun h => norm_snoc (by omega)), hide (ofN_step (unhide hval))⟩, by simp [intOf]; omega⟩
      · obtain rfl : u = 0 := by omega
        have hm := Ns.of_owns hown
        obtain ⟨a3, c3, rfl, hc3, hat3⟩ := id hm
        have hbx := (unhide X1).below hbel
        obtain ⟨_, _, k30, k31, f30, f31⟩ := hbx.facts0
        have HI := hide (show IsN wr (.agg #[.bool false, .slice a3 zs.length c3]) z from ⟨a3, zs.length, c3, zs, by simp [hn'], hm, hdz, unhide hnm rfl, by have := unhide hval; omega⟩)
        have HBX := hide hbx
        clear hown hm hat3 hbx
        go_wp2
        refine bodyPost_ret (res_N rfl rfl ((unhide HBX).set false a3 zs.length c3)) rfl ⟨_, rfl, ?_, (unhide HI).putN (unhide HBX) _ _⟩
        exact below_put ((unhide HB).trans (hbel.mono (unhide HB).size)) (by omega) _ _

end Go.Proofs.YtblblpilmoefgaaDoor

/- The document's numbers: Small. -/
namespace Go.Proofs.YtblblpilmoefgaaDoor
open Go Go.RowKit

theorem enter_ofN : Enters Tryd.prog 18 := ⟨fun xs w => by go_simp⟩
section
variable {Q : Exit → Act → World → Prop} {a a0 : Act} {w w0 : World} {dst : Option Tmp} {ty : TypeId} {pos : String} {af : Array Edge} {gd : Option (Nat × Bool)} {tys : Array TypeId} {s t : Nat}
set_option maxRecDepth 100000 in
theorem st_OfN {z : Int} (h0 : -9223372036854775808 ≤ z) (h1 : z ≤ 9223372036854775807) :
    Oper.wp Tryd.prog ⟨dst, .call ⟨.value (.func 18), #[.const (.int .i64 z)], tys⟩, ty, pos, af, gd⟩ a w (fun a' w' => ∃ v, a' = a.put dst v ∧ Below w.heap.size w w' ∧ (Sp.doc z).ok w' v) Q :=
  op_call enter_ofN (by
    have e : (#[Operand.const (.int .i64 z)]).map a.eval = #[.int .i64 z] := by simp only [List.map_toArray, List.map_cons, List.map_nil, Act.eval]
    rw [e]
    exact Calls.mono (ofN_any z w h0 h1) fun _ _ ⟨r, h1, h2, h3⟩ => ⟨r, h1, r, rfl, h2, h3⟩)
theorem st_lss0 {m n : Int} {b : Bool} (p : (Sp.int m).ok w (a.tmps.getD s undef)) (hb : decide (m < n) = b) :
    Oper.wp Tryd.prog ⟨dst, .binOp .lss 3 (.tmp s) (.const (.int .i64 n)) 3, ty, pos, af, gd⟩ a w (fun a' w' => ∃ v, a' = a.put dst v ∧ Below w.heap.size w w' ∧ (Sp.bool b).ok w' v) Q := by
  have he : a.eval (.tmp s) = .int .i64 m := p
  have hf : a.eval (.const (.int .i64 n)) = .int .i64 n := rfl
  unfold Oper.wp
  simp only [execOp, he, hf]
  subst hb
  go_simp
  exact ⟨_, rfl, Below.refl _ _, rfl⟩
theorem st_gtr0 {m n : Int} {b : Bool} (p : (Sp.int m).ok w (a.tmps.getD s undef)) (hb : decide (n < m) = b) :
    Oper.wp Tryd.prog ⟨dst, .binOp .gtr 3 (.tmp s) (.const (.int .i64 n)) 3, ty, pos, af, gd⟩ a w (fun a' w' => ∃ v, a' = a.put dst v ∧ Below w.heap.size w w' ∧ (Sp.bool b).ok w' v) Q := by
  have he : a.eval (.tmp s) = .int .i64 m := p
  have hf : a.eval (.const (.int .i64 n)) = .int .i64 n := rfl
  unfold Oper.wp
  simp only [execOp, he, hf]
  subst hb
  go_simp
  exact ⟨_, rfl, Below.refl _ _, rfl⟩
end

structure SmallE (a0 : Act) (w0 : World) (z : Int) : Prop where
  h : (z.natAbs : Int) < T4.pw 4000
  t : PD a0 w0 1 z
theorem min_lt : (((-9223372036854775808 : Int)).natAbs : Int) < T4.pw 5 := by decide
theorem max_lt : (((9223372036854775807 : Int)).natAbs : Int) < T4.pw 5 := by decide
def smallKept : List Nat := [0, 1, 2, 3, 4, 5, 16, 17, 18, 19, 20, 21, 22, 23, 24, 25, 26, 27, 28, 29, 30, 31, 32, 33, 34, 35, 36, 37]
def smallSpA (z : Int) : List Sp := [Sp.doc z, Sp.doc (-9223372036854775808), Sp.int (-1), Sp.bool true, Sp.bool true, Sp.val undef, Sp.val undef, Sp.val undef, Sp.val undef, Sp.bool true]
def smallSpB (z n m : Int) (b : Bool) : List Sp := [Sp.doc z, Sp.doc (-9223372036854775808), Sp.int n, Sp.bool false, Sp.bool false, Sp.doc z, Sp.doc 9223372036854775807, Sp.int m, Sp.bool b, Sp.bool b]
section
variable {Q : Exit → Act → World → Prop} {a0 : Act} {w0 : World} {z : Int}
set_option maxRecDepth 100000 in
theorem small_sA0 (E : SmallE a0 w0 z) (_h : sgn (z - (-9223372036854775808)) = -1) : StepOk Tryd.prog Q (regionOf Tryd.f16 1) (smallSpA z) a0 w0 smallKept 0 := by
  intro a w hb hk _hp
  exact st_want (wanted_none rfl) (st_loadN (hk 1 (by decide)) E.t hb)
set_option maxRecDepth 100000 in
theorem small_sA1 (_E : SmallE a0 w0 z) (_h : sgn (z - (-9223372036854775808)) = -1) : StepOk Tryd.prog Q (regionOf Tryd.f16 1) (smallSpA z) a0 w0 smallKept 1 := by
  intro a w _hb _hk _hp
  exact st_want (wanted_none rfl) (st_OfN (by decide) (by decide))
set_option maxRecDepth 100000 in
theorem small_sA2 (E : SmallE a0 w0 z) (h : sgn (z - (-9223372036854775808)) = -1) : StepOk Tryd.prog Q (regionOf Tryd.f16 1) (smallSpA z) a0 w0 smallKept 2 := by
  intro a w _hb _hk hp
  have p0 : (Sp.doc z).ok w (a.tmps.getD 6 undef) := hp 0 rfl
  have p1 : (Sp.doc (-9223372036854775808)).ok w (a.tmps.getD 7 undef) := hp 1 rfl
  exact st_want (wanted_none rfl) (st_CmpN p0 p1 E.h min_lt (by decide) (by decide) h)
set_option maxRecDepth 100000 in
theorem small_sA3 (_E : SmallE a0 w0 z) (_h : sgn (z - (-9223372036854775808)) = -1) : StepOk Tryd.prog Q (regionOf Tryd.f16 1) (smallSpA z) a0 w0 smallKept 3 := by
  intro a w _hb _hk hp
  have p0 : (Sp.int (-1)).ok w (a.tmps.getD 8 undef) := hp 2 rfl
  exact st_want (wanted_none rfl) (st_lss0 p0 rfl)
set_option maxRecDepth 100000 in
theorem small_sA4 (_E : SmallE a0 w0 z) (_h : sgn (z - (-9223372036854775808)) = -1) : StepOk Tryd.prog Q (regionOf Tryd.f16 1) (smallSpA z) a0 w0 smallKept 4 := by
  intro a w _hb _hk hp
  have p0 : (Sp.bool true).ok w (a.tmps.getD 9 undef) := hp 3 rfl
  exact st_want (wanted_none rfl) (st_move p0)
set_option maxRecDepth 100000 in
theorem small_sA5 (_E : SmallE a0 w0 z) (_h : sgn (z - (-9223372036854775808)) = -1) : StepOk Tryd.prog Q (regionOf Tryd.f16 1) (smallSpA z) a0 w0 smallKept 5 := by
  intro a w _hb _hk hp
  have pg : slotOf (regionOf Tryd.f16 1).toArray a 4 = .bool true := hp 4 rfl
  exact st_unwant (unwanted_slot rfl pg (by decide) rfl) rfl
set_option maxRecDepth 100000 in
theorem small_sA6 (_E : SmallE a0 w0 z) (_h : sgn (z - (-9223372036854775808)) = -1) : StepOk Tryd.prog Q (regionOf Tryd.f16 1) (smallSpA z) a0 w0 smallKept 6 := by
  intro a w _hb _hk hp
  have pg : slotOf (regionOf Tryd.f16 1).toArray a 4 = .bool true := hp 4 rfl
  exact st_unwant (unwanted_slot rfl pg (by decide) rfl) rfl
set_option maxRecDepth 100000 in
theorem small_sA7 (_E : SmallE a0 w0 z) (_h : sgn (z - (-9223372036854775808)) = -1) : StepOk Tryd.prog Q (regionOf Tryd.f16 1) (smallSpA z) a0 w0 smallKept 7 := by
  intro a w _hb _hk hp
  have pg : slotOf (regionOf Tryd.f16 1).toArray a 4 = .bool true := hp 4 rfl
  exact st_unwant (unwanted_slot rfl pg (by decide) rfl) rfl
set_option maxRecDepth 100000 in
theorem small_sA8 (_E : SmallE a0 w0 z) (_h : sgn (z - (-9223372036854775808)) = -1) : StepOk Tryd.prog Q (regionOf Tryd.f16 1) (smallSpA z) a0 w0 smallKept 8 := by
  intro a w _hb _hk hp
  have pg : slotOf (regionOf Tryd.f16 1).toArray a 4 = .bool true := hp 4 rfl
  exact st_unwant (unwanted_slot rfl pg (by decide) rfl) rfl
set_option maxRecDepth 100000 in
theorem small_sA9 (_E : SmallE a0 w0 z) (_h : sgn (z - (-9223372036854775808)) = -1) : StepOk Tryd.prog Q (regionOf Tryd.f16 1) (smallSpA z) a0 w0 smallKept 9 := by
  intro a w _hb _hk hp
  have p0 : (Sp.bool true).ok w (a.tmps.getD 10 undef) := hp 4 rfl
  exact st_want (wanted_none rfl) (st_pick (S := Sp.bool true) p0 rfl)
set_option maxRecDepth 100000 in
theorem small_sB0 {n m : Int} {b : Bool} (E : SmallE a0 w0 z) (_h1 : sgn (z - (-9223372036854775808)) = n) (_h2 : decide (n < 0) = false) (_h3 : sgn (z - 9223372036854775807) = m) (_h4 : decide (0 < m) = b) : StepOk Tryd.prog Q (regionOf Tryd.f16 1) (smallSpB z n m b) a0 w0 smallKept 0 := by
  intro a w hb hk _hp
  exact st_want (wanted_none rfl) (st_loadN (hk 1 (by decide)) E.t hb)
set_option maxRecDepth 100000 in
theorem small_sB1 {n m : Int} {b : Bool} (_E : SmallE a0 w0 z) (_h1 : sgn (z - (-9223372036854775808)) = n) (_h2 : decide (n < 0) = false) (_h3 : sgn (z - 9223372036854775807) = m) (_h4 : decide (0 < m) = b) : StepOk Tryd.prog Q (regionOf Tryd.f16 1) (smallSpB z n m b) a0 w0 smallKept 1 := by
  intro a w _hb _hk _hp
  exact st_want (wanted_none rfl) (st_OfN (by decide) (by decide))
set_option maxRecDepth 100000 in
theorem small_sB2 {n m : Int} {b : Bool} (E : SmallE a0 w0 z) (h1 : sgn (z - (-9223372036854775808)) = n) (_h2 : decide (n < 0) = false) (_h3 : sgn (z - 9223372036854775807) = m) (_h4 : decide (0 < m) = b) : StepOk Tryd.prog Q (regionOf Tryd.f16 1) (smallSpB z n m b) a0 w0 smallKept 2 := by
  intro a w _hb _hk hp
  have p0 : (Sp.doc z).ok w (a.tmps.getD 6 undef) := hp 0 rfl
  have p1 : (Sp.doc (-9223372036854775808)).ok w (a.tmps.getD 7 undef) := hp 1 rfl
  exact st_want (wanted_none rfl) (st_CmpN p0 p1 E.h min_lt (by decide) (by decide) h1)
set_option maxRecDepth 100000 in
theorem small_sB3 {n m : Int} {b : Bool} (_E : SmallE a0 w0 z) (_h1 : sgn (z - (-9223372036854775808)) = n) (h2 : decide (n < 0) = false) (_h3 : sgn (z - 9223372036854775807) = m) (_h4 : decide (0 < m) = b) : StepOk Tryd.prog Q (regionOf Tryd.f16 1) (smallSpB z n m b) a0 w0 smallKept 3 := by
  intro a w _hb _hk hp
  have p0 : (Sp.int (n)).ok w (a.tmps.getD 8 undef) := hp 2 rfl
  exact st_want (wanted_none rfl) (st_lss0 p0 h2)
set_option maxRecDepth 100000 in
theorem small_sB4 {n m : Int} {b : Bool} (_E : SmallE a0 w0 z) (_h1 : sgn (z - (-9223372036854775808)) = n) (_h2 : decide (n < 0) = false) (_h3 : sgn (z - 9223372036854775807) = m) (_h4 : decide (0 < m) = b) : StepOk Tryd.prog Q (regionOf Tryd.f16 1) (smallSpB z n m b) a0 w0 smallKept 4 := by
  intro a w _hb _hk hp
  have p0 : (Sp.bool false).ok w (a.tmps.getD 9 undef) := hp 3 rfl
  exact st_want (wanted_none rfl) (st_move p0)
set_option maxRecDepth 100000 in
theorem small_sB5 {n m : Int} {b : Bool} (E : SmallE a0 w0 z) (_h1 : sgn (z - (-9223372036854775808)) = n) (_h2 : decide (n < 0) = false) (_h3 : sgn (z - 9223372036854775807) = m) (_h4 : decide (0 < m) = b) : StepOk Tryd.prog Q (regionOf Tryd.f16 1) (smallSpB z n m b) a0 w0 smallKept 5 := by
  intro a w hb hk hp
  have pg : slotOf (regionOf Tryd.f16 1).toArray a 4 = .bool false := hp 4 rfl
  exact st_want (wanted_slot rfl pg rfl) (st_loadN (hk 1 (by decide)) E.t hb)
set_option maxRecDepth 100000 in
theorem small_sB6 {n m : Int} {b : Bool} (_E : SmallE a0 w0 z) (_h1 : sgn (z - (-9223372036854775808)) = n) (_h2 : decide (n < 0) = false) (_h3 : sgn (z - 9223372036854775807) = m) (_h4 : decide (0 < m) = b) : StepOk Tryd.prog Q (regionOf Tryd.f16 1) (smallSpB z n m b) a0 w0 smallKept 6 := by
  intro a w _hb _hk hp
  have pg : slotOf (regionOf Tryd.f16 1).toArray a 4 = .bool false := hp 4 rfl
  exact st_want (wanted_slot rfl pg rfl) (st_OfN (by decide) (by decide))
set_option maxRecDepth 100000 in
theorem small_sB7 {n m : Int} {b : Bool} (E : SmallE a0 w0 z) (_h1 : sgn (z - (-9223372036854775808)) = n) (_h2 : decide (n < 0) = false) (h3 : sgn (z - 9223372036854775807) = m) (_h4 : decide (0 < m) = b) : StepOk Tryd.prog Q (regionOf Tryd.f16 1) (smallSpB z n m b) a0 w0 smallKept 7 := by
  intro a w _hb _hk hp
  have pg : slotOf (regionOf Tryd.f16 1).toArray a 4 = .bool false := hp 4 rfl
  have p0 : (Sp.doc z).ok w (a.tmps.getD 11 undef) := hp 5 rfl
  have p1 : (Sp.doc 9223372036854775807).ok w (a.tmps.getD 12 undef) := hp 6 rfl
  exact st_want (wanted_slot rfl pg rfl) (st_CmpN p0 p1 E.h max_lt (by decide) (by decide) h3)
set_option maxRecDepth 100000 in
theorem small_sB8 {n m : Int} {b : Bool} (_E : SmallE a0 w0 z) (_h1 : sgn (z - (-9223372036854775808)) = n) (_h2 : decide (n < 0) = false) (_h3 : sgn (z - 9223372036854775807) = m) (h4 : decide (0 < m) = b) : StepOk Tryd.prog Q (regionOf Tryd.f16 1) (smallSpB z n m b) a0 w0 smallKept 8 := by
  intro a w _hb _hk hp
  have pg : slotOf (regionOf Tryd.f16 1).toArray a 4 = .bool false := hp 4 rfl
  have p0 : (Sp.int m).ok w (a.tmps.getD 13 undef) := hp 7 rfl
  exact st_want (wanted_slot rfl pg rfl) (st_gtr0 p0 h4)
set_option maxRecDepth 100000 in
theorem small_sB9 {n m : Int} {b : Bool} (_E : SmallE a0 w0 z) (_h1 : sgn (z - (-9223372036854775808)) = n) (_h2 : decide (n < 0) = false) (_h3 : sgn (z - 9223372036854775807) = m) (_h4 : decide (0 < m) = b) : StepOk Tryd.prog Q (regionOf Tryd.f16 1) (smallSpB z n m b) a0 w0 smallKept 9 := by
  intro a w _hb _hk hp
  have p0 : (Sp.bool false).ok w (a.tmps.getD 10 undef) := hp 4 rfl
  have p1 : (Sp.bool b).ok w (a.tmps.getD 14 undef) := hp 8 rfl
  exact st_want (wanted_none rfl) (st_pick p0 p1)
set_option maxRecDepth 100000 in
theorem small_r1 (E : SmallE a0 w0 z) (hN : a0.tmps.size = 38) {r : Bool} (hr : decide (z < (-9223372036854775808) ∨ 9223372036854775807 < z) = r)
    (hQ : ∀ (a : Act) (w : World), Below w0.heap.size w0 w → a.defers = a0.defers → a.tmps.size = 38 → (∀ k, k ∈ smallKept → a.tmps[k]? = a0.tmps[k]?) → a.tmps.getD 15 undef = .bool r → Q .normal a w) :
    (Code.region 1 (regionOf Tryd.f16 1).toArray true).wp Tryd.prog Q a0 w0 := by
  by_cases hA : z < (-9223372036854775808)
  · obtain rfl : r = true := by rw [← hr]; simp [hA]
    have h : sgn (z - (-9223372036854775808)) = -1 := by unfold sgn; rw [if_pos (by omega)]
    exact region_sp 38 smallKept (smallSpA z) (by kernel_rfl) (by kernel_rfl) hN 10 (by kernel_rfl) (flip lt_step (small_sA9 E h) <| flip lt_step (small_sA8 E h) <| flip lt_step (small_sA7 E h) <| flip lt_step (small_sA6 E h) <| flip lt_step (small_sA5 E h) <| flip lt_step (small_sA4 E h) <| flip lt_step (small_sA3 E h) <| flip lt_step (small_sA2 E h) <| flip lt_step (small_sA1 E h) <| flip lt_step (small_sA0 E h) <| lt_zero) (fun a w hb hd hs hk h => hQ a w hb hd hs hk (h 9 (by decide)))
  · have h2 : decide (sgn (z - (-9223372036854775808)) < 0) = false := by
      unfold sgn
      rw [if_neg (by omega)]
      split <;> rfl
    have h4 : decide (0 < sgn (z - 9223372036854775807)) = r := by
      rw [← hr]
      unfold sgn
      by_cases h9 : 9223372036854775807 < z
      · rw [if_neg (by omega), if_pos (by omega)]
        simp [h9]
      · have : ¬ (z < (-9223372036854775808) ∨ 9223372036854775807 < z) := by omega
        rw [decide_eq_false this]
        split
        · rfl
        · rw [if_neg (by omega)]; rfl
    exact region_sp 38 smallKept (smallSpB z _ _ r) (by kernel_rfl) (by kernel_rfl) hN 10 (by kernel_rfl) (flip lt_step (small_sB9 E rfl h2 rfl h4) <| flip lt_step (small_sB8 E rfl h2 rfl h4) <| flip lt_step (small_sB7 E rfl h2 rfl h4) <| flip lt_step (small_sB6 E rfl h2 rfl h4) <| flip lt_step (small_sB5 E rfl h2 rfl h4) <| flip lt_step (small_sB4 E rfl h2 rfl h4) <| flip lt_step (small_sB3 E rfl h2 rfl h4) <| flip lt_step (small_sB2 E rfl h2 rfl h4) <| flip lt_step (small_sB1 E rfl h2 rfl h4) <| flip lt_step (small_sB0 E rfl h2 rfl h4) <| lt_zero) (fun a w hb hd hs hk h => hQ a w hb hd hs hk (h 9 (by decide)))
end

end Go.Proofs.YtblblpilmoefgaaDoor

/- The document's numbers: Small. -/
namespace Go.Proofs.YtblblpilmoefgaaDoor
open Go Go.RowKit

set_option maxRecDepth 100000 in
set_option maxHeartbeats 800000 in
theorem smallN_no (v : Value) (z : Int) (w : World) (h : IsN w v z) (hz : (z.natAbs : Int) < T4.pw 4000) (hs : z < -9223372036854775808 ∨ 9223372036854775807 < z) :
    Calls Tryd.prog 16 #[v] w fun e w' => e = .returned (.tuple #[.int .i64 0, .bool false]) ∧ Below w.heap.size w w' := by
  obtain ⟨b, a, l, c, rfl⟩ := h.form
  have hB : Below w.heap.size w (w.alloc (.cells #[.bool b, .slice a l c] 31)) := (Below.refl _ w).alloc (Nat.le_refl _) _
  have x1 := NB.new w b a l c
  have HE := hide (fun a0 (t1 : a0.tmps[1]? = some (.pointer (some ⟨w.heap.size, 0, none⟩))) => (⟨hz, ⟨_, t1, _, x1, h.below hB⟩⟩ : SmallE a0 _ z))
  have HS := hide hs
  have HB := hide hB
  clear h hz hs x1 hB
  go_enter Tryd.func16, Tryd.ntmps16
  go_wp2_with fail
  refine small_r1 (unhide HE _ rfl) rfl (r := true) (by simp only [decide_eq_true_eq]; exact unhide HS) ?_
  intro a' w' hb hd hsz hk h15
  have HB2 := hide ((unhide HB).trans (hb.mono (unhide HB).size))
  clear hb HE HS HB
  obtain ⟨u6, e6⟩ : ∃ u, a'.tmps.getD 6 undef = u := ⟨_, rfl⟩
  obtain ⟨u7, e7⟩ : ∃ u, a'.tmps.getD 7 undef = u := ⟨_, rfl⟩
  obtain ⟨u8, e8⟩ : ∃ u, a'.tmps.getD 8 undef = u := ⟨_, rfl⟩
  obtain ⟨u9, e9⟩ : ∃ u, a'.tmps.getD 9 undef = u := ⟨_, rfl⟩
  obtain ⟨u10, e10⟩ : ∃ u, a'.tmps.getD 10 undef = u := ⟨_, rfl⟩
  obtain ⟨u11, e11⟩ : ∃ u, a'.tmps.getD 11 undef = u := ⟨_, rfl⟩
  obtain ⟨u12, e12⟩ : ∃ u, a'.tmps.getD 12 undef = u := ⟨_, rfl⟩
  obtain ⟨u13, e13⟩ : ∃ u, a'.tmps.getD 13 undef = u := ⟨_, rfl⟩
  obtain ⟨u14, e14⟩ : ∃ u, a'.tmps.getD 14 undef = u := ⟨_, rfl⟩
  obtain rfl := act_lit [.agg #[.bool b, .slice a l c], .pointer (some ⟨w.heap.size, 0, none⟩), .int .i64 0, .bool false, undef, undef, u6, u7, u8, u9, u10, u11, u12, u13, u14, .bool true, undef, undef, undef, undef, undef, undef, undef, undef, undef, undef, undef, undef, undef, undef, undef, undef, undef, undef, undef, undef, undef, undef] hsz hd (fun k hk9 => by
    match k, hk9 with
    | 0, _ => exact (hk 0 (by decide)).trans rfl
    | 1, _ => exact (hk 1 (by decide)).trans rfl
    | 2, _ => exact (hk 2 (by decide)).trans rfl
    | 3, _ => exact (hk 3 (by decide)).trans rfl
    | 4, _ => exact (hk 4 (by decide)).trans rfl
    | 5, _ => exact (hk 5 (by decide)).trans rfl
    | 6, _ => exact tmp_get (by omega) e6
    | 7, _ => exact tmp_get (by omega) e7
    | 8, _ => exact tmp_get (by omega) e8
    | 9, _ => exact tmp_get (by omega) e9
    | 10, _ => exact tmp_get (by omega) e10
    | 11, _ => exact tmp_get (by omega) e11
    | 12, _ => exact tmp_get (by omega) e12
    | 13, _ => exact tmp_get (by omega) e13
    | 14, _ => exact tmp_get (by omega) e14
    | 15, _ => exact tmp_get (by omega) h15
    | 16, _ => exact (hk 16 (by decide)).trans rfl
    | 17, _ => exact (hk 17 (by decide)).trans rfl
    | 18, _ => exact (hk 18 (by decide)).trans rfl
    | 19, _ => exact (hk 19 (by decide)).trans rfl
    | 20, _ => exact (hk 20 (by decide)).trans rfl
    | 21, _ => exact (hk 21 (by decide)).trans rfl
    | 22, _ => exact (hk 22 (by decide)).trans rfl
    | 23, _ => exact (hk 23 (by decide)).trans rfl
    | 24, _ => exact (hk 24 (by decide)).trans rfl
    | 25, _ => exact (hk 25 (by decide)).trans rfl
    | 26, _ => exact (hk 26 (by decide)).trans rfl
    | 27, _ => exact (hk 27 (by decide)).trans rfl
    | 28, _ => exact (hk 28 (by decide)).trans rfl
    | 29, _ => exact (hk 29 (by decide)).trans rfl
    | 30, _ => exact (hk 30 (by decide)).trans rfl
    | 31, _ => exact (hk 31 (by decide)).trans rfl
    | 32, _ => exact (hk 32 (by decide)).trans rfl
    | 33, _ => exact (hk 33 (by decide)).trans rfl
    | 34, _ => exact (hk 34 (by decide)).trans rfl
    | 35, _ => exact (hk 35 (by decide)).trans rfl
    | 36, _ => exact (hk 36 (by decide)).trans rfl
    | 37, _ => exact (hk 37 (by decide)).trans rfl
    | _ + 38, h => exact absurd h (by simp))
  clear e6 e7 e8 e9 e10 e11 e12 e13 e14 hk h15 hsz hd
  go_wp2
  refine bodyPost_ret (v := .tuple #[.int .i64 0, .bool false]) (by simp [results, Tryd.results16, go_sem]) rfl ⟨rfl, unhide HB2⟩

set_option maxRecDepth 100000 in
set_option maxHeartbeats 1600000 in
theorem smallN_yes (v : Value) (z : Int) (w : World) (h : IsN w v z) (hz : (z.natAbs : Int) < T4.pw 4000) (hs0 : -9223372036854775808 ≤ z) (hs1 : z ≤ 9223372036854775807) :
    Calls Tryd.prog 16 #[v] w fun e w' => e = .returned (.tuple #[.int .i64 z, .bool true]) ∧ Below w.heap.size w w' := by
  have h' := h
  obtain ⟨a, l, c, xs, rfl, n1, dx, m1, e1, q1⟩ := h.small hz
  have hl1 := n1.len
  subst hl1
  have hB : Below w.heap.size w (w.alloc (.cells #[.bool (decide (z < 0)), .slice a xs.length c] 31)) := (Below.refl _ w).alloc (Nat.le_refl _) _
  have x1 := NB.new w (decide (z < 0)) a xs.length c
  have HE := hide (fun a0 (t1 : a0.tmps[1]? = some (.pointer (some ⟨w.heap.size, 0, none⟩))) => (⟨hz, ⟨_, t1, _, x1, h'.below hB⟩⟩ : SmallE a0 _ z))
  have HB := hide hB
  have X1 := hide x1
  have HV := hide e1
  have hvb : T4.val xs ≤ 9223372036854775808 := by rw [e1]; omega
  obtain ⟨_, _, ee1, hcx, hatx⟩ := n1
  simp only [Value.slice.injEq, true_and] at ee1
  obtain ⟨rfl, rfl⟩ := ee1
  clear h h' hz x1 hB m1 e1
  go_enter Tryd.func16, Tryd.ntmps16
  go_wp2_with fail
  refine small_r1 (unhide HE _ rfl) rfl (r := false) (by simp only [decide_eq_false_iff_not]; omega) ?_
  intro a' w' hb hd hsz hk h15
  have HB2 := hide ((unhide HB).trans (hb.mono (unhide HB).size))
  have x2 := (unhide X1).below hb
  obtain ⟨k0, k1, _, _⟩ := x2.facts
  have hbl := (unhide HB).trans (hb.mono (unhide HB).size)
  clear hb HE HB X1 x2
  obtain ⟨u6, e6⟩ : ∃ u, a'.tmps.getD 6 undef = u := ⟨_, rfl⟩
  obtain ⟨u7, e7⟩ : ∃ u, a'.tmps.getD 7 undef = u := ⟨_, rfl⟩
  obtain ⟨u8, e8⟩ : ∃ u, a'.tmps.getD 8 undef = u := ⟨_, rfl⟩
  obtain ⟨u9, e9⟩ : ∃ u, a'.tmps.getD 9 undef = u := ⟨_, rfl⟩
  obtain ⟨u10, e10⟩ : ∃ u, a'.tmps.getD 10 undef = u := ⟨_, rfl⟩
  obtain ⟨u11, e11⟩ : ∃ u, a'.tmps.getD 11 undef = u := ⟨_, rfl⟩
  obtain ⟨u12, e12⟩ : ∃ u, a'.tmps.getD 12 undef = u := ⟨_, rfl⟩
  obtain ⟨u13, e13⟩ : ∃ u, a'.tmps.getD 13 undef = u := ⟨_, rfl⟩
  obtain ⟨u14, e14⟩ : ∃ u, a'.tmps.getD 14 undef = u := ⟨_, rfl⟩
  obtain rfl := act_lit [.agg #[.bool (decide (z < 0)), .slice a xs.length c], .pointer (some ⟨w.heap.size, 0, none⟩), .int .i64 0, .bool false, undef, undef, u6, u7, u8, u9, u10, u11, u12, u13, u14, .bool false, undef, undef, undef, undef, undef, undef, undef, undef, undef, undef, undef, undef, undef, undef, undef, undef, undef, undef, undef, undef, undef, undef] hsz hd (fun k hk9 => by
    match k, hk9 with
    | 0, _ => exact (hk 0 (by decide)).trans rfl
    | 1, _ => exact (hk 1 (by decide)).trans rfl
    | 2, _ => exact (hk 2 (by decide)).trans rfl
    | 3, _ => exact (hk 3 (by decide)).trans rfl
    | 4, _ => exact (hk 4 (by decide)).trans rfl
    | 5, _ => exact (hk 5 (by decide)).trans rfl
    | 6, _ => exact tmp_get (by omega) e6
    | 7, _ => exact tmp_get (by omega) e7
    | 8, _ => exact tmp_get (by omega) e8
    | 9, _ => exact tmp_get (by omega) e9
    | 10, _ => exact tmp_get (by omega) e10
    | 11, _ => exact tmp_get (by omega) e11
    | 12, _ => exact tmp_get (by omega) e12
    | 13, _ => exact tmp_get (by omega) e13
    | 14, _ => exact tmp_get (by omega) e14
    | 15, _ => exact tmp_get (by omega) h15
    | 16, _ => exact (hk 16 (by decide)).trans rfl
    | 17, _ => exact (hk 17 (by decide)).trans rfl
    | 18, _ => exact (hk 18 (by decide)).trans rfl
    | 19, _ => exact (hk 19 (by decide)).trans rfl
    | 20, _ => exact (hk 20 (by decide)).trans rfl
    | 21, _ => exact (hk 21 (by decide)).trans rfl
    | 22, _ => exact (hk 22 (by decide)).trans rfl
    | 23, _ => exact (hk 23 (by decide)).trans rfl
    | 24, _ => exact (hk 24 (by decide)).trans rfl
    | 25, _ => exact (hk 25 (by decide)).trans rfl
    | 26, _ => exact (hk 26 (by decide)).trans rfl
    | 27, _ => exact (hk 27 (by decide)).trans rfl
    | 28, _ => exact (hk 28 (by decide)).trans rfl
    | 29, _ => exact (hk 29 (by decide)).trans rfl
    | 30, _ => exact (hk 30 (by decide)).trans rfl
    | 31, _ => exact (hk 31 (by decide)).trans rfl
    | 32, _ => exact (hk 32 (by decide)).trans rfl
    | 33, _ => exact (hk 33 (by decide)).trans rfl
    | 34, _ => exact (hk 34 (by decide)).trans rfl
    | 35, _ => exact (hk 35 (by decide)).trans rfl
    | 36, _ => exact (hk 36 (by decide)).trans rfl
    | 37, _ => exact (hk 37 (by decide)).trans rfl
    | _ + 38, h => exact absurd h (by simp))
  clear e6 e7 e8 e9 e10 e11 e12 e13 e14 hk h15 hsz hd
  go_wp2
  go_loop [4, 5] (fun nv iv => ∃ (i : Int), iv = .int .i64 i ∧ -1 ≤ i ∧ i < xs.length ∧ nv = .int .i64 (-T4.val (xs.drop (i + 1).toNat))) (fun _ iv => (intOf iv + 1).toNat)
  case atStart => exact ⟨_, rfl, by omega, by omega, by rw [List.drop_eq_nil_of_le (by omega)]; rfl⟩
  case round =>
    obtain ⟨i, rfl, hi0, hi1, rfl⟩ := hrel
    by_cases h0 : 0 ≤ i
    · obtain ⟨j, rfl⟩ : ∃ j : Nat, i = (j : Int) := ⟨i.toNat, by omega⟩
      have hj : j < xs.length := by omega
      obtain ⟨x, hx, hx0, hx1⟩ := dx.get j
      obtain ⟨bx, ox, rfl, hbx, hcx9⟩ := hatx (by intro e; subst e; simp at hj)
      have hcxj : w'.cell? ⟨bx, ox + j, none⟩ = some (.int .i64 x) := by rw [← hx]; exact (hbl.cell (p := ⟨bx, ox + j, none⟩) hbx).trans (hcx9 j hj)
      obtain ⟨V, hV⟩ : ∃ V, V = T4.val (xs.drop (j + 1)) := ⟨_, rfl⟩
      have hstep : T4.val (xs.drop j) = x + 10000 * V := by
        rw [List.getElem?_eq_getElem hj, Option.getD_some] at hx
        rw [List.drop_eq_getElem_cons hj, val_cons4, hx, hV]
      have hle : T4.val (xs.drop j) ≤ T4.val xs := by
        have h1 := T4.val_append (xs.take j) (xs.drop j)
        rw [List.take_append_drop] at h1
        have h2 := T4.val_nonneg (dx.take j)
        have h3 := T4.val_nonneg (dx.drop j)
        have h4 := Int.mul_le_mul_of_nonneg_right (show 1 ≤ T4.pw (xs.take j).length by have := T4.pw_pos (xs.take j).length; omega) h3
        omega
      have hV0 : 0 ≤ V := by rw [hV]; exact T4.val_nonneg (dx.drop (j + 1))
      have hVb : x + 10000 * V ≤ 9223372036854775808 := by rw [← hstep]; omega
      rw [show ((j : Int) + 1).toNat = j + 1 by omega, ← hV]
      have HST := hide hstep
      clear hx hV hstep hle
      go_wp2
      refine ⟨⟨(j : Int) - 1, rfl, by omega, by omega, ?_⟩, by simp [intOf]⟩
      rw [show ((j : Int) - 1 + 1).toNat = j by omega, unhide HST]
      congr 1
      omega
    · obtain rfl : i = -1 := by omega
      have hval : T4.val (xs.drop (((-1 : Int) + 1).toNat)) = z.natAbs := by rw [← unhide HV]; rfl
      rw [hval]
      clear hval
      by_cases hn : z < 0
      · rw [decide_eq_true hn] at k0
        have hzz : -((z.natAbs : Nat) : Int) = z := by omega
        rw [hzz]
        go_wp2
        refine bodyPost_ret (v := .tuple #[.int .i64 z, .bool true]) (by simp [results, Tryd.results16, go_sem]) rfl ⟨rfl, unhide HB2⟩
      · rw [decide_eq_false hn] at k0
        have hzz : ((z.natAbs : Nat) : Int) = z := by omega
        rw [hzz]
        go_wp2
        refine bodyPost_ret (v := .tuple #[.int .i64 z, .bool true]) (by simp [results, Tryd.results16, go_sem]) rfl ⟨rfl, unhide HB2⟩

end Go.Proofs.YtblblpilmoefgaaDoor

/- areDigits at texts that are not digits. -/
namespace Go.Proofs.YtblblpilmoefgaaDoor
open Go Go.RowKit

set_option maxRecDepth 100000 in
set_option maxHeartbeats 800000 in
theorem areDigits_no (s : ByteArray) (w : World) (hd : s.size = 0 ∨ ¬ Dg s.data.toList) (_hl : s.size ≤ 1000) :
    Calls Tryd.prog 38 #[.string s] w fun e w' => e = .returned (.bool false) ∧ Below w.heap.size w w' := by
  have hk0 : (w.iter s 0).heap[w.heap.size]? = some (.stringIter s 0) := World.iter_heap w s 0
  have hb0 : Below w.heap.size w (w.iter s 0) := (Below.refl _ w).alloc (Nat.le_refl _) _
  have HDD := hide hd
  clear hd
  go_enter Tryd.func38, Tryd.ntmps38
  go_wp2
  go_loopw [4] (fun _ wr => ∃ pos : Nat, pos ≤ s.size ∧ wr.heap[w.heap.size]? = some (.stringIter s pos) ∧ Below w.heap.size w wr ∧ Hid (∀ i (hi : i < s.size), i < pos → 48 ≤ (s[i]'hi).toNat ∧ (s[i]'hi).toNat ≤ 57)) (fun _ wr => s.size - wr.iterPos w.heap.size)
  case atStart => exact ⟨0, Nat.zero_le _, hk0, hb0, hide (fun i hi h => absurd h (by omega))⟩
  case round =>
    obtain ⟨pos, hps, hk, hnx, hall⟩ := hrel
    clear hk0 hb0
    by_cases hp : pos < s.size
    · by_cases hg : 48 ≤ (s[pos]'hp).toNat ∧ (s[pos]'hp).toNat ≤ 57
      · obtain ⟨c0, c1⟩ := hg
        have hnext : ∀ ty, (Instr.next (.pointer (some ⟨w.heap.size, 0, none⟩)) true ty).run Tryd.prog wr = _ := fun ty => Lib.run_next_ascii_at wr w.heap.size s pos ty hk hp (by omega)
        have hk1 := Lib.iterAt_heap wr w.heap.size s pos (pos + 1) hk
        have hnx1 : Below w.heap.size w (wr.iterAt w.heap.size s (pos + 1)) := Lib.below_iterAt hnx (by omega) s (pos + 1)
        have hmu : wr.iterPos w.heap.size = pos := by simp [World.iterPos, hk]
        generalize wr.iterAt w.heap.size s (pos + 1) = W1 at hnext hk1 hnx1
        have hall1 := hide (fun i (hi : i < s.size) (h : i < pos + 1) => show 48 ≤ (s[i]'hi).toNat ∧ (s[i]'hi).toNat ≤ 57 from by
          by_cases e : i = pos
          · subst e; exact ⟨c0, c1⟩
          · exact unhide hall i hi (by omega))
        obtain ⟨c, hc⟩ : ∃ c : Int, c = ((s[pos]'hp).toNat : Int) := ⟨_, rfl⟩
        have c0' : 48 ≤ c := by omega
        have c1' : c ≤ 57 := by omega
        rw [← hc] at hnext
        clear hc c0 c1
        have ct0 : decide (c < 48) = false := by simp; omega
        have ct1 : decide (57 < c) = false := by simp; omega
        have HM := hide hmu
        clear hmu
        go_wp2
        exact ⟨⟨pos + 1, by omega, hk1, hnx1, hall1⟩, by rw [unhide HM]; simp [World.iterPos, hk1]; omega⟩
      · have hnext : ∀ ty, (Instr.next (.pointer (some ⟨w.heap.size, 0, none⟩)) true ty).run Tryd.prog wr = _ := fun ty => Lib.run_next_any_at wr w.heap.size s pos ty hk hp
        have hnx1 : Below w.heap.size w (wr.iterAt w.heap.size s (pos + (Utf8.decode s pos).2)) := Lib.below_iterAt hnx (by omega) s _
        have hrune : ((Utf8.decode s pos).1 : Int) < 48 ∨ 57 < ((Utf8.decode s pos).1 : Int) := by
          by_cases ha : (s[pos]'hp).toNat < 128
          · rw [decode_ascii s pos hp ha]
            have : ¬ (48 ≤ (s[pos]'hp).toNat ∧ (s[pos]'hp).toNat ≤ 57) := hg
            show (((s[pos]'hp).toNat : Nat) : Int) < 48 ∨ 57 < (((s[pos]'hp).toNat : Nat) : Int)
            omega
          · have := (decode_high s pos hp (by omega)).1
            omega
        generalize wr.iterAt w.heap.size s (pos + (Utf8.decode s pos).2) = W1 at hnext hnx1
        generalize ((Utf8.decode s pos).1 : Int) = c at hnext hrune
        clear hg hall
        by_cases h48 : c < 48
        · go_wp2
          go_ret
          exact ⟨rfl, hnx1⟩
        · have h57 : 57 < c := by omega
          have ct0 : decide (c < 48) = false := by simp; omega
          go_wp2
          go_ret
          exact ⟨rfl, hnx1⟩
    · have hnext : ∀ ty, (Instr.next (.pointer (some ⟨w.heap.size, 0, none⟩)) true ty).run Tryd.prog wr = _ := fun ty => Lib.run_next_end_at wr w.heap.size s pos ty hk hp
      have hz : s.size = 0 := by
        rcases unhide HDD with h | h
        · exact h
        · exfalso
          apply h
          intro b hb
          obtain ⟨i, hi, rfl⟩ := List.mem_iff_getElem.1 hb
          have hi' : i < s.size := by simpa using hi
          rw [get_toList s i hi' hi]
          exact unhide hall i hi' (by omega)
      have hemp : (!s.toList.isEmpty) = false := by
        rw [Lib.toList_data]
        have h2 : s.data.toList.length = s.size := by simp
        rw [List.eq_nil_of_length_eq_zero (h2.trans hz)]
        rfl
      have HE := hide hemp
      clear hemp hz
      go_wp2
      go_ret
      exact ⟨by show Ending.returned (Value.bool (!s.toList.isEmpty)) = _; rw [unhide HE], hnx⟩

end Go.Proofs.YtblblpilmoefgaaDoor

/- num.Parse at texts that are not right. -/
namespace Go.Proofs.YtblblpilmoefgaaDoor
open Go Go.RowKit

set_option maxRecDepth 100000 in
set_option maxHeartbeats 800000 in
theorem parse_not (T : List UInt8) (w : World) (hl : T.length ≤ 300) (h : ¬ RT (Lib.hasPrefix T [45]) (Lib.trimPrefix T [45])) :
    Calls Tryd.prog 11 #[.string ⟨T.toArray⟩] w fun e w' => e = .returned (.tuple #[.agg #[.int .i64 0, .slice none 0 0], .bool false]) ∧ Below w.heap.size w w' := by
  have HC := hide (Tryd.strings_CutPrefix ⟨T.toArray⟩ ⟨#[45]⟩)
  obtain ⟨D, hD⟩ : ∃ D, D = Lib.trimPrefix T [45] := ⟨_, rfl⟩
  obtain ⟨neg, hneg⟩ : ∃ neg, neg = Lib.hasPrefix T [45] := ⟨_, rfl⟩
  rw [← hD, ← hneg] at h
  have hDl : D.length ≤ 300 := by
    rw [hD]
    unfold Lib.trimPrefix
    split
    · simp; omega
    · exact hl
  have hcut : ∀ w, Calls Tryd.prog 37 #[.string ⟨T.toArray⟩, .string ⟨#[45]⟩] w fun e w' => e = .returned (.tuple #[.string ⟨D.toArray⟩, .bool neg]) ∧ w' = w := fun w => by
    have := unhide HC w
    dsimp only at this
    rw [← hD, ← hneg] at this
    exact this
  clear HC
  obtain ⟨S, hS⟩ : ∃ S : ByteArray, S = ⟨D.toArray⟩ := ⟨_, rfl⟩
  obtain ⟨TT, hT⟩ : ∃ TT : ByteArray, TT = ⟨T.toArray⟩ := ⟨_, rfl⟩
  have hSD : S.data.toList = D := by rw [hS]
  have hSn : S.size = D.length := by rw [hS]; simp [ByteArray.size]
  rw [← hS, ← hT] at hcut
  rw [← hT]
  clear hS hT
  have HCUT := hide hcut
  clear hcut hD hneg hl
  have hbox := Bx.new w 0 none 0 0
  have hbw : Below w.heap.size w (w.alloc (.cells #[.int .i64 0, .slice none 0 0] 26)) := (Below.refl _ w).alloc (Nat.le_refl _) _
  by_cases hok : D ≠ [] ∧ Dg D
  · obtain ⟨hne, hdg⟩ := hok
    have hpos : 0 < S.size := by rw [hSn]; exact List.length_pos_iff.2 hne
    have hgS : Dg S.data.toList := by rw [hSD]; exact hdg
    have hfirst : D.head? = some 48 ∧ ¬ (D = [48] ∧ neg = false) := by
      by_cases hh : D.head? = some 48
      · exact ⟨hh, fun h9 => h ⟨hdg, hne, fun _ => h9, by omega⟩⟩
      · exact absurd ⟨hdg, hne, fun h9 => absurd h9 hh, by omega⟩ h
    have h48 : (((S[0]'hpos).toNat : Int) == 48) = true := by
      cases D with
      | nil => exact absurd rfl hne
      | cons b D' =>
        have h2 := get_toList S 0 hpos (by rw [hSD]; simp)
        simp only [hSD, List.getElem_cons_zero] at h2
        have h3 := hfirst.1
        simp only [List.head?_cons, Option.some.injEq] at h3
        rw [← h2, h3]
        rfl
    have hor : neg = true ∨ (1 : Int) < (S.size : Int) := by
      cases neg with
      | true => exact .inl rfl
      | false =>
        refine .inr ?_
        rcases Nat.lt_or_ge 1 S.size with h9 | h9
        · omega
        · exfalso
          apply hfirst.2
          refine ⟨?_, rfl⟩
          cases D with
          | nil => exact absurd rfl hne
          | cons b D' =>
            have h3 := hfirst.1
            simp only [List.head?_cons, Option.some.injEq] at h3
            have h4 : D' = [] := List.eq_nil_of_length_eq_zero (by simp at hSn; omega)
            rw [h3, h4]
    have HAD := hide (fun w => areDigits_yes S w hgS hpos (by omega))
    clear h hfirst hgS hdg hne hDl hSn hSD
    go_enter Tryd.func11, Tryd.ntmps11
    go_wp2_with fail
    refine (unhide HCUT _).mono ?_
    rintro e w1 ⟨rfl, rfl⟩
    go_wp2_with fail
    refine (unhide HAD _).mono ?_
    rintro e w2 ⟨rfl, hb2⟩
    have hbx := hbox.below hb2
    obtain ⟨kR0, kR1, kRf0, kRf1⟩ := hbx.facts
    have hbel := hbw.trans (hb2.mono hbw.size)
    rcases hor with rfl | h1
    · go_wp2
      refine bodyPost_ret (v := .tuple #[.agg #[.int .i64 0, .slice none 0 0], .bool false]) ?_ rfl ?_
      · simp [results, Tryd.results11, go_sem, kR0, kR1]
      · exact ⟨rfl, below_put hbel (Nat.le_refl _) _ _⟩
    · cases neg
      all_goals
        go_wp2
        refine bodyPost_ret (v := .tuple #[.agg #[.int .i64 0, .slice none 0 0], .bool false]) ?_ rfl ?_
        · simp [results, Tryd.results11, go_sem, kR0, kR1]
        · exact ⟨rfl, below_put hbel (Nat.le_refl _) _ _⟩
  · have HAD := hide (fun w => areDigits_no S w (by
      by_cases hne : D = []
      · left; rw [hSn, hne]; rfl
      · right; rw [hSD]; exact fun h9 => hok ⟨hne, h9⟩) (by omega))
    clear h hok hDl hSn hSD
    go_enter Tryd.func11, Tryd.ntmps11
    go_wp2_with fail
    refine (unhide HCUT _).mono ?_
    rintro e w1 ⟨rfl, rfl⟩
    go_wp2_with fail
    refine (unhide HAD _).mono ?_
    rintro e w2 ⟨rfl, hb2⟩
    have hbx := hbox.below hb2
    obtain ⟨kR0, kR1, kRf0, kRf1⟩ := hbx.facts
    have hbel := hbw.trans (hb2.mono hbw.size)
    go_wp2
    refine bodyPost_ret (v := .tuple #[.agg #[.int .i64 0, .slice none 0 0], .bool false]) ?_ rfl ?_
    · simp [results, Tryd.results11, go_sem, kR0, kR1]
    · exact ⟨rfl, below_put hbel (Nat.le_refl _) _ _⟩

end Go.Proofs.YtblblpilmoefgaaDoor

/- The document's Right and Parse at texts that are not right. -/
namespace Go.Proofs.YtblblpilmoefgaaDoor
open Go Go.RowKit

theorem bad_of {L : List UInt8} (h : ¬ Dg L) : ∃ i, ∃ hi : i < L.length, ¬ (48 ≤ (L[i]'hi).toNat ∧ (L[i]'hi).toNat ≤ 57) := by
  apply Classical.byContradiction
  intro hn
  apply h
  intro b hb
  obtain ⟨i, hi, rfl⟩ := List.mem_iff_getElem.1 hb
  apply Classical.byContradiction
  intro h9
  exact hn ⟨i, hi, h9⟩
theorem get_list {T : ByteArray} {L : List UInt8} (h : T.data.toList = L) (i : Nat) (hi : i < T.size) (hl : i < L.length) : T[i]'hi = L[i]'hl := by
  subst h
  exact (get_toList T i hi hl).symm

set_option maxRecDepth 100000 in
set_option maxHeartbeats 800000 in
theorem right_no (T : ByteArray) (L : List UInt8) (w : World) (hT : T.data.toList = L) (hl : L.length ≤ 300) (h : ¬ RT (Lib.hasPrefix L [45]) (Lib.trimPrefix L [45])) :
    Calls Tryd.prog 41 #[.string T] w fun e w' => e = .returned (.bool false) ∧ Below w.heap.size w w' := by
  have hsz : T.size = L.length := by rw [← hT]; simp
  cases L with
  | nil =>
    have h0 : (T.size : Int) = 0 := by rw [hsz]; rfl
    clear h hT
    go_enter Tryd.func41, Tryd.ntmps41
    go_wp2
    go_ret
    exact ⟨rfl, Below.refl _ _⟩
  | cons b R =>
    have hpos : 0 < T.size := by rw [hsz]; simp
    have hsz' : T.size = R.length + 1 := by rw [hsz]; simp
    have hl' : R.length ≤ 300 := by simp at hl; omega
    have hls : T.size ≤ 1000 := by omega
    have hb0 : T[0]'hpos = b := get_list hT 0 hpos (by simp)
    have hposI : (0 : Int) < (T.size : Int) := by omega
    by_cases hb : b = 45
    · subst hb
      have hp : Lib.hasPrefix (45 :: R) [45] = true := by simp [Lib.hasPrefix]
      have hq : Lib.trimPrefix (45 :: R) [45] = R := by simp [Lib.trimPrefix, hp]
      rw [hp, hq] at h
      have h45 : (((T[0]'hpos).toNat : Int) == 45) = true := by rw [hb0]; rfl
      by_cases h1 : 1 < T.size
      · have hR : R ≠ [] := by intro e; subst e; simp at hsz'; omega
        have hb1 : T[1]'h1 = R[0]'(by omega) := get_list hT 1 h1 (by simp; omega)
        have h0L : ((1 : Int) == (T.size : Int)) = false := by simp; omega
        by_cases h48 : (T[1]'h1).toNat = 48
        · have h48' : (((T[1]'h1).toNat : Int) == 48) = true := by simp; omega
          clear h hT hb0 hb1 hsz hsz' hl hl'
          by_cases h2 : (2 : Int) < (T.size : Int)
          · go_enter Tryd.func41, Tryd.ntmps41
            go_wp2
            go_ret
            exact ⟨rfl, Below.refl _ _⟩
          · have h2' : decide ((2 : Int) < (T.size : Int)) = false := by simpa using h2
            go_enter Tryd.func41, Tryd.ntmps41
            go_wp2
            go_ret
            exact ⟨rfl, Below.refl _ _⟩
        · have h48' : (((T[1]'h1).toNat : Int) == 48) = false := by simp; omega
          have hnd : ¬ Dg R := fun hd => h ⟨hd, hR, fun h9 => by
            exfalso
            cases R with
            | nil => exact hR rfl
            | cons c R' =>
              simp only [List.head?_cons, Option.some.injEq] at h9
              rw [hb1] at h48
              simp only [List.getElem_cons_zero] at h48
              rw [h9] at h48
              exact h48 rfl, by omega⟩
          have hbad : ∃ i, ∃ hi : i < T.size, 1 ≤ i ∧ ¬ (48 ≤ (T[i]'hi).toNat ∧ (T[i]'hi).toNat ≤ 57) := by
            obtain ⟨i, hi, h9⟩ := bad_of hnd
            refine ⟨i + 1, by omega, by omega, ?_⟩
            rw [get_list hT (i + 1) (by omega) (by simp; omega)]
            simpa using h9
          have HBAD := hide hbad
          clear hbad h hT hb0 hb1 hnd h48 hsz hsz' hl hl'
          go_enter Tryd.func41, Tryd.ntmps41
          go_wp2
          go_loop [3] (fun iv => ∃ i : Nat, 1 ≤ i ∧ i ≤ T.size ∧ iv = .int .i64 i ∧ Hid (∀ j (hj : j < T.size), 1 ≤ j → j < i → 48 ≤ (T[j]'hj).toNat ∧ (T[j]'hj).toNat ≤ 57)) (fun iv => T.size - (intOf iv).toNat)
          case atStart => exact ⟨1, Nat.le_refl _, by omega, rfl, hide (fun j hj h1 h2 => absurd h2 (by omega))⟩
          case round =>
            obtain ⟨i, hi0, hi1, rfl, hall⟩ := hrel
            by_cases hi : i < T.size
            · by_cases d0 : (T[i]'hi).toNat < 48
              · have t0 : decide (((T[i]'hi).toNat : Int) < 48) = true := by simp; omega
                go_wp2
                go_ret
                exact ⟨rfl, Below.refl _ _⟩
              · have t0 : decide (((T[i]'hi).toNat : Int) < 48) = false := by simp; omega
                by_cases d1 : 57 < (T[i]'hi).toNat
                · have t1 : decide (57 < ((T[i]'hi).toNat : Int)) = true := by simp; omega
                  go_wp2
                  go_ret
                  exact ⟨rfl, Below.refl _ _⟩
                · have t1 : decide (57 < ((T[i]'hi).toNat : Int)) = false := by simp; omega
                  have hall1 := hide (fun j (hj : j < T.size) (h1 : 1 ≤ j) (h2 : j < i + 1) => show 48 ≤ (T[j]'hj).toNat ∧ (T[j]'hj).toNat ≤ 57 from by
                    by_cases e : j = i
                    · subst e; omega
                    · exact unhide hall j hj h1 (by omega))
                  go_wp2
                  exact ⟨⟨i + 1, by omega, by omega, by simp, hall1⟩, by simp [intOf]; omega⟩
            · exfalso
              obtain ⟨j, hj, h1, h2⟩ := unhide HBAD
              exact h2 (unhide hall j hj h1 (by omega))
      · have h0L : (T.size : Int) = 1 := by omega
        clear h hT hb0 hsz hsz' hl hl'
        go_enter Tryd.func41, Tryd.ntmps41
        go_wp2
        go_ret
        exact ⟨rfl, Below.refl _ _⟩
    · have e : ([45] : List UInt8).isPrefixOf (b :: R) = false := by simp [List.isPrefixOf, Ne.symm hb]
      have hp : Lib.hasPrefix (b :: R) [45] = false := by simp [Lib.hasPrefix, e]
      have hq : Lib.trimPrefix (b :: R) [45] = b :: R := by simp [Lib.trimPrefix, Lib.hasPrefix, e]
      rw [hp, hq] at h
      have hbn : b.toNat ≠ 45 := fun h9 => hb (UInt8.toNat_inj.1 h9)
      have h45 : (((T[0]'hpos).toNat : Int) == 45) = false := by rw [hb0]; simp; omega
      have h0L : ((0 : Int) == (T.size : Int)) = false := by simp; omega
      by_cases h48 : (T[0]'hpos).toNat = 48
      · have h48' : (((T[0]'hpos).toNat : Int) == 48) = true := by simp; omega
        have h1 : (1 : Int) < (T.size : Int) := by
          rcases Nat.lt_or_ge 1 T.size with h9 | h9
          · omega
          · exfalso
            have hR : R = [] := List.eq_nil_of_length_eq_zero (by omega)
            subst hR
            rw [hb0] at h48
            have hb8 : b = 48 := UInt8.toNat_inj.1 h48
            subst hb8
            exact h ⟨by intro x hx; simp at hx; subst hx; decide, by simp, fun _ => ⟨rfl, rfl⟩, by decide⟩
        clear h hT hb0 hsz hsz' hl hl'
        go_enter Tryd.func41, Tryd.ntmps41
        go_wp2
        go_ret
        exact ⟨rfl, Below.refl _ _⟩
      · have h48' : (((T[0]'hpos).toNat : Int) == 48) = false := by simp; omega
        have hnd : ¬ Dg (b :: R) := fun hd => h ⟨hd, by simp, fun h9 => by
          exfalso
          simp only [List.head?_cons, Option.some.injEq] at h9
          rw [hb0, h9] at h48
          exact h48 rfl, by simp; omega⟩
        have hbad : ∃ i, ∃ hi : i < T.size, 0 ≤ i ∧ ¬ (48 ≤ (T[i]'hi).toNat ∧ (T[i]'hi).toNat ≤ 57) := by
          obtain ⟨i, hi, h9⟩ := bad_of hnd
          have hi' : i < T.size := by rw [hsz]; exact hi
          refine ⟨i, hi', Nat.zero_le _, ?_⟩
          rw [get_list hT i hi' hi]
          exact h9
        have HBAD := hide hbad
        clear hbad h hT hb0 hnd h48 hsz hsz' hl hl'
        go_enter Tryd.func41, Tryd.ntmps41
        go_wp2
        go_loop [3] (fun iv => ∃ i : Nat, 0 ≤ i ∧ i ≤ T.size ∧ iv = .int .i64 i ∧ Hid (∀ j (hj : j < T.size), 0 ≤ j → j < i → 48 ≤ (T[j]'hj).toNat ∧ (T[j]'hj).toNat ≤ 57)) (fun iv => T.size - (intOf iv).toNat)
        case atStart => exact ⟨0, Nat.le_refl _, by omega, rfl, hide (fun j hj h1 h2 => absurd h2 (by omega))⟩
        case round =>
          obtain ⟨i, hi0, hi1, rfl, hall⟩ := hrel
          by_cases hi : i < T.size
          · by_cases d0 : (T[i]'hi).toNat < 48
            · have t0 : decide (((T[i]'hi).toNat : Int) < 48) = true := by simp; omega
              go_wp2
              go_ret
              exact ⟨rfl, Below.refl _ _⟩
            · have t0 : decide (((T[i]'hi).toNat : Int) < 48) = false := by simp; omega
              by_cases d1 : 57 < (T[i]'hi).toNat
              · have t1 : decide (57 < ((T[i]'hi).toNat : Int)) = true := by simp; omega
                go_wp2
                go_ret
                exact ⟨rfl, Below.refl _ _⟩
              · have t1 : decide (57 < ((T[i]'hi).toNat : Int)) = false := by simp; omega
                have hall1 := hide (fun j (hj : j < T.size) (h1 : 0 ≤ j) (h2 : j < i + 1) => show 48 ≤ (T[j]'hj).toNat ∧ (T[j]'hj).toNat ≤ 57 from by
                  by_cases e : j = i
                  · subst e; omega
                  · exact unhide hall j hj h1 (by omega))
                go_wp2
                exact ⟨⟨i + 1, by omega, by omega, by simp, hall1⟩, by simp [intOf]; omega⟩
          · exfalso
            obtain ⟨j, hj, h1, h2⟩ := unhide HBAD
            exact h2 (unhide hall j hj h1 (by omega))

end Go.Proofs.YtblblpilmoefgaaDoor

/- The document's Parse at texts that are not right. -/
namespace Go.Proofs.YtblblpilmoefgaaDoor
open Go Go.RowKit

set_option maxRecDepth 100000 in
set_option maxHeartbeats 800000 in
theorem parseN_not (T : ByteArray) (L : List UInt8) (w : World) (hT : T.data.toList = L) (hl : L.length ≤ 300) (h : ¬ RT (Lib.hasPrefix L [45]) (Lib.trimPrefix L [45])) :
    Calls Tryd.prog 12 #[.string T] w fun e w' => e = .returned (.tuple #[.agg #[.bool false, .slice none 0 0], .bool false]) ∧ Below w.heap.size w w' := by
  have HR := hide (fun w => right_no T L w hT hl h)
  clear hT hl h
  go_enter Tryd.func12, Tryd.ntmps12
  go_wp2_with fail
  refine (unhide HR _).mono ?_
  rintro e w1 ⟨rfl, hb1⟩
  have hbox : NB w1 w.heap.size (.agg #[.bool false, .slice none 0 0]) := (NB.new w false none 0 0).below hb1
  have hbw : Below w.heap.size w w1 := ((Below.refl _ w).alloc (Nat.le_refl _) _).trans (hb1.mono (by simp))
  obtain ⟨kR0, kR1, kRf0, kRf1⟩ := hbox.facts
  clear HR
  go_wp2
  refine bodyPost_ret (v := .tuple #[.agg #[.bool false, .slice none 0 0], .bool false]) ?_ rfl ?_
  · simp [results, Tryd.results12, go_sem, kR0, kR1]
  · exact ⟨rfl, below_put hbw (Nat.le_refl _) _ _⟩

end Go.Proofs.YtblblpilmoefgaaDoor

/- A right text is its number's text. -/
namespace Go.Proofs.YtblblpilmoefgaaDoor
open Go Go.RowKit

theorem dd_dec_aux (n : Nat) : ∀ D : List UInt8, D.length = n + 1 → Dg D → D.head? ≠ some 48 → Lib.decDigits (dec D).toNat = D ∧ 1 ≤ dec D := by
  induction n with
  | zero =>
    intro D hl hd hh
    match D, hl with
    | [b], _ =>
      have hb := hd b (by simp)
      have hb8 : b.toNat ≠ 48 := fun h9 => hh (by simp only [List.head?_cons, Option.some.injEq]; exact UInt8.toNat_inj.1 h9)
      have e : dec [b] = (b.toNat : Int) - 48 := by simp [dec]
      rw [e]
      refine ⟨?_, by omega⟩
      rw [Lib.decDigits, dif_pos (by omega)]
      congr 1
      apply UInt8.toNat_inj.1
      rw [UInt8.toNat_ofNat']
      omega
  | succ n ih =>
    intro D hl hd hh
    rcases List.eq_nil_or_concat D with rfl | ⟨Q, b, rfl⟩
    · simp at hl
    · rw [List.concat_eq_append] at *
      have hQl : Q.length = n + 1 := by simpa using hl
      have hb := hd b (by simp)
      have hQh : Q.head? ≠ some 48 := by
        cases Q with
        | nil => simp at hQl
        | cons c Q' => simpa using hh
      obtain ⟨h1, h2⟩ := ih Q hQl (fun x hx => hd x (by simp [hx])) hQh
      rw [dec_snoc]
      refine ⟨?_, by omega⟩
      rw [Lib.decDigits, dif_neg (by omega)]
      rw [show (10 * dec Q + ((b.toNat : Int) - 48)).toNat / 10 = (dec Q).toNat by omega, h1]
      congr 2
      apply UInt8.toNat_inj.1
      rw [UInt8.toNat_ofNat']
      omega
theorem itoa_txt {neg : Bool} {D : List UInt8} (h : RT neg D) : Lib.itoa (if neg then - dec D else dec D) = txt neg D := by
  by_cases hh : D.head? = some 48
  · obtain ⟨rfl, rfl⟩ := h.z hh
    have e : dec [48] = 0 := by decide
    simp only [Bool.false_eq_true, if_false, e]
    rw [Lib.itoa, if_neg (by omega), Lib.decDigits, dif_pos (by decide)]
    rfl
  · have hpos : 0 < D.length := List.length_pos_iff.2 h.ne
    obtain ⟨h1, h2⟩ := dd_dec_aux (D.length - 1) D (by omega) h.dg hh
    cases neg with
    | true =>
      simp only [if_true]
      rw [Lib.itoa, if_pos (by omega), show (-dec D).natAbs = (dec D).toNat by omega, h1]
      rfl
    | false =>
      simp only [Bool.false_eq_true, if_false]
      rw [Lib.itoa, if_neg (by omega), h1]
      rfl

end Go.Proofs.YtblblpilmoefgaaDoor

/- The walk of NumTexts. -/
namespace Go.Proofs.YtblblpilmoefgaaDoor
open Go Go.RowKit

theorem txt_parts (L : List UInt8) : txt (Lib.hasPrefix L [45]) (Lib.trimPrefix L [45]) = L := by
  cases L with
  | nil => rfl
  | cons b R =>
    by_cases hb : b = 45
    · subst hb
      have hp : Lib.hasPrefix (45 :: R) [45] = true := by simp [Lib.hasPrefix]
      have hq : Lib.trimPrefix (45 :: R) [45] = R := by simp [Lib.trimPrefix, hp]
      rw [hp, hq]; rfl
    · have e : ([45] : List UInt8).isPrefixOf (b :: R) = false := by simp [List.isPrefixOf, Ne.symm hb]
      have hp : Lib.hasPrefix (b :: R) [45] = false := by simp [Lib.hasPrefix, e]
      have hq : Lib.trimPrefix (b :: R) [45] = b :: R := by simp [Lib.trimPrefix, Lib.hasPrefix, e]
      rw [hp, hq]; rfl
theorem parts_len (L : List UInt8) : (Lib.trimPrefix L [45]).length ≤ L.length := by
  unfold Lib.trimPrefix
  split
  · simp
  · exact Nat.le_refl _
/-- What both make of a text of at most 300 bytes. -/
theorem both_parse (s : ByteArray) (hs : s.size ≤ 300) : ∃ (b : Bool) (z : Int), (z.natAbs : Int) < pw 40 ∧ (z.natAbs : Int) < T4.pw 100 ∧ (b = true → Lib.itoa z = s.data.toList) ∧
    (∀ w, Calls Tryd.prog 11 #[.string s] w fun e w' => ∃ r, e = .returned (.tuple #[r, .bool b]) ∧ Below w.heap.size w w' ∧ IsI w' r z) ∧
    (∀ w, Calls Tryd.prog 12 #[.string s] w fun e w' => ∃ r, e = .returned (.tuple #[r, .bool b]) ∧ Below w.heap.size w w' ∧ IsN w' r z) := by
  obtain ⟨L, hL⟩ : ∃ L, s.data.toList = L := ⟨_, rfl⟩
  have hLl : L.length ≤ 300 := by rw [← hL]; simpa using hs
  have hsL : (⟨L.toArray⟩ : ByteArray) = s := by rw [← hL]
  by_cases h : RT (Lib.hasPrefix L [45]) (Lib.trimPrefix L [45])
  · have ht := txt_parts L
    have hl := parts_len L
    generalize Lib.hasPrefix L [45] = neg at *
    generalize Lib.trimPrefix L [45] = D at *
    refine ⟨true, if neg then -dec D else dec D, val_bound h.dg (by omega), val_bound4 h.dg (by omega), fun _ => by rw [itoa_txt h, ht, hL], fun w => ?_, fun w => parseN_val neg D s w (by rw [hL, ht]) h⟩
    have := parse_yes neg D w h.dg h.ne h.z h.len
    rw [ht, hsL] at this
    exact this
  · refine ⟨false, 0, by have := pw_pos 40; simpa using this, by have := T4.pw_pos 100; simpa using this, fun e => (by cases e), fun w => ?_, fun w => ?_⟩
    · have := parse_not L w hLl h
      rw [hsL] at this
      exact Calls.mono this fun e w' ⟨h1, h2⟩ => ⟨_, h1, h2, .inl ⟨rfl, by omega, by omega⟩⟩
    · exact Calls.mono (parseN_not s L w hL hLl h) fun e w' ⟨h1, h2⟩ => ⟨_, h1, h2, ⟨none, 0, 0, [], rfl, ⟨none, 0, rfl, Nat.le_refl _, fun h => absurd rfl h⟩, T4.Dig.nil, fun h => absurd rfl h, rfl⟩⟩

theorem smallI_yes (v : Value) (z : Int) (w : World) (h : IsI w v z) (h0 : -9223372036854775808 ≤ z) (h1 : z ≤ 9223372036854775807) :
    Calls Tryd.prog 15 #[v] w fun e w' => e = .returned (.tuple #[.int .i64 z, .bool true]) ∧ Below w.heap.size w w' := by
  have := small_any v z w h
  rwa [if_pos ⟨h0, h1⟩] at this
theorem smallI_no (v : Value) (z : Int) (w : World) (h : IsI w v z) (hf : z < -9223372036854775808 ∨ 9223372036854775807 < z) :
    Calls Tryd.prog 15 #[v] w fun e w' => e = .returned (.tuple #[.int .i64 0, .bool false]) ∧ Below w.heap.size w w' := by
  have := small_any v z w h
  rwa [if_neg (by omega)] at this
theorem k_pw {k : Int} (h0 : -9223372036854775808 ≤ k) (h1 : k ≤ 9223372036854775807) : (k.natAbs : Int) < pw 4000 := by
  have h2 := pw_mono (show 3 ≤ 4000 by decide)
  have h3 : pw 3 = 1000000000000000000000000000 := by decide
  omega
theorem k_pw4 {k : Int} (h0 : -9223372036854775808 ≤ k) (h1 : k ≤ 9223372036854775807) : (k.natAbs : Int) < T4.pw 4000 := by
  have h2 := T4.pw_mono (show 5 ≤ 4000 by decide)
  have h3 : T4.pw 5 = 100000000000000000000 := by decide
  omega

set_option maxRecDepth 100000 in
set_option maxHeartbeats 8000000 in
theorem texts_walk (s : ByteArray) (k : Int) (w : World) (hT : Tab w) (hs : s.size ≤ 9223372036854775807) (hk0 : -9223372036854775808 ≤ k) (hk1 : k ≤ 9223372036854775807) :
    Calls Tryd.prog 3 #[.string s, .int .i64 k] w fun e w' => e = .returned (.bool true) ∧ Below w.heap.size w w' := by
  have HK := hide (known_yes w hT)
  have HT := hide hT
  clear hT
  go_enter Tryd.func3, Tryd.ntmps3
  go_wp2_with fail
  refine (unhide HK).mono ?_
  rintro e w1 ⟨rfl, hb1⟩
  go_wp2_with fail
  have hl3 : ∀ j (hj : j < [s].length), (w1.alloc (.cells #[.string s] 9)).cell? ⟨w1.heap.size, 0 + j, none⟩ = some (.string ([s][j]'hj)) := fun j hj => by
    rw [World.cell?_alloc_at _ _ _ _ rfl]
    match j, hj with
    | 0, _ => rfl
  refine (light_any w1.heap.size 0 1 1 [s] _ rfl (by decide) (fun x hx => by simp at hx; subst hx; assumption) hl3).mono ?_
  rintro e w2 ⟨hlight, rfl⟩
  have hb2 : Below w.heap.size w (w1.alloc (.cells #[.string s] 9)) := hb1.alloc hb1.size _
  clear hl3 hs HK
  generalize (w1.alloc (.cells #[.string s] 9)) = w2 at *
  rcases hlight.symm with ⟨_, rfl⟩ | ⟨hsz, rfl⟩
  · go_wp2
    go_ret
    exact ⟨rfl, hb2⟩
  have hs : s.size ≤ 300 := hsz s (by simp)
  clear hsz hb1
  obtain ⟨b, z, hz1, hz2, hbt, hp, hq⟩ := both_parse s hs
  have HZ := hide (And.intro hz1 (And.intro hz2 hbt))
  have HP := hide hp
  have HQ := hide hq
  clear hz1 hz2 hbt hp hq hs
  go_wp2_with fail
  refine (unhide HP w2).mono ?_
  rintro e wA ⟨vA, rfl, hbA, iA⟩
  obtain ⟨cA1, cA2, cA3, cA4, rfl⟩ := iA.form
  have hBA := hb2.trans (hbA.mono hb2.size)
  clear hbA hb2
  go_wp2_with fail
  have xA := Bx.new wA cA1 cA2 cA3 cA4
  have hgA : Below wA.heap.size wA (wA.alloc (.cells #[.int .i64 cA1, .slice cA2 cA3 cA4] 26)) := (Below.refl _ _).alloc (Nat.le_refl _) _
  replace iA := iA.below hgA
  have hBA2 := hBA.trans (hgA.mono hBA.size)
  clear hBA hgA
  generalize (wA.alloc (.cells #[.int .i64 cA1, .slice cA2 cA3 cA4] 26)) = WA at *
  generalize wA.heap.size = rA at *
  refine (unhide HQ WA).mono ?_
  rintro e wB ⟨vB, rfl, hbB, jB⟩
  obtain ⟨cB1, cB2, cB3, cB4, rfl⟩ := jB.form
  replace xA := xA.below hbB
  replace iA := iA.below hbB
  have hBB := hBA2.trans (hbB.mono hBA2.size)
  clear hbB hBA2
  obtain ⟨kA0, kA1, _, _⟩ := xA.facts
  have lA := xA.lt
  go_wp2_with fail
  have yB := NB.new wB cB1 cB2 cB3 cB4
  have hgB : Below wB.heap.size wB (wB.alloc (.cells #[.bool cB1, .slice cB2 cB3 cB4] 31)) := (Below.refl _ _).alloc (Nat.le_refl _) _
  replace xA := xA.below hgB
  replace iA := iA.below hgB
  replace jB := jB.below hgB
  have hB := hBB.trans (hgB.mono hBB.size)
  clear hBB hgB kA0 kA1 lA
  generalize (wB.alloc (.cells #[.bool cB1, .slice cB2 cB3 cB4] 31)) = WB at *
  generalize wB.heap.size = rB at *
  refine (same_any _ _ z WB ((unhide HT).below hB) iA jB (le4 (unhide HZ).1 (by decide)) (T4.le4 (unhide HZ).2.1 (by decide))).mono ?_
  rintro e wC ⟨rfl, hbC⟩
  replace xA := xA.below hbC
  replace iA := iA.below hbC
  replace yB := yB.below hbC
  replace jB := jB.below hbC
  replace hB := hB.trans (hbC.mono hB.size)
  clear hbC
  cases b with
  | true =>
    obtain ⟨kA0, kA1, _, _⟩ := xA.facts
    go_wp2_with fail
    have HST := str_any _ z wC ((unhide HT).below hB) iA (le4 (unhide HZ).1 (by decide))
    rw [show (⟨(Lib.itoa z).toArray⟩ : ByteArray) = s by rw [(unhide HZ).2.2 trivial]] at HST
    refine HST.mono ?_
    rintro e wC2 ⟨rfl, hbC⟩
    clear HST kA0 kA1
    replace xA := xA.below hbC
    replace iA := iA.below hbC
    replace yB := yB.below hbC
    replace jB := jB.below hbC
    replace hB := hB.trans (hbC.mono hB.size)
    obtain ⟨kA0, kA1, _, _⟩ := xA.facts
    clear hbC
    go_wp2_with fail
    by_cases hf : -9223372036854775808 ≤ z ∧ z ≤ 9223372036854775807
    · skip
      refine (smallI_yes _ z _ iA hf.1 hf.2).mono ?_
      rintro e wD ⟨rfl, hbD⟩
      replace yB := yB.below hbD
      replace jB := jB.below hbD
      replace hB := hB.trans (hbD.mono hB.size)
      obtain ⟨kB0, kB1, _, _⟩ := yB.facts
      clear hbD iA xA
      go_wp2_with fail
      refine (smallN_yes _ z _ jB (T4.le4 (unhide HZ).2.1 (by decide)) hf.1 hf.2).mono ?_
      rintro e wE ⟨rfl, hbE⟩
      replace hB := hB.trans (hbE.mono hB.size)
      clear hbE jB yB kB0 kB1
      go_wp2_with fail
      refine (of_any k wE).mono ?_
      rintro e wF ⟨rfl, hbF⟩
      replace hB := hB.trans (hbF.mono hB.size)
      clear hbF
      go_wp2_with fail
      refine (smallI_yes _ k _ (.inl ⟨rfl, hk0, hk1⟩) hk0 hk1).mono ?_
      rintro e wG ⟨rfl, hbG⟩
      replace hB := hB.trans (hbG.mono hB.size)
      clear hbG
      go_wp2_with fail
      refine (of_any k wG).mono ?_
      rintro e wH ⟨rfl, hbH⟩
      replace hB := hB.trans (hbH.mono hB.size)
      clear hbH
      go_wp2_with fail
      refine (str_any _ k wH ((unhide HT).below hB) (.inl ⟨rfl, hk0, hk1⟩) (k_pw hk0 hk1)).mono ?_
      rintro e wI ⟨rfl, hbI⟩
      replace hB := hB.trans (hbI.mono hB.size)
      clear hbI
      go_wp2_with fail
      refine (ofN_any k wI hk0 hk1).mono ?_
      rintro e wJ ⟨r, rfl, hbJ, iJ⟩
      replace hB := hB.trans (hbJ.mono hB.size)
      have HTX := hide (textN_any r k wJ iJ (k_pw4 hk0 hk1))
      obtain ⟨cJ1, cJ2, cJ3, cJ4, rfl⟩ := iJ.form
      clear hbJ iJ
      go_wp2_with fail
      refine (unhide HTX).mono ?_
      rintro e wK ⟨rfl, hbK⟩
      replace hB := hB.trans (hbK.mono hB.size)
      clear hbK HTX
      go_wp2
      go_ret
      exact ⟨rfl, hB⟩
    · replace hf : z < -9223372036854775808 ∨ 9223372036854775807 < z := by omega
      refine (smallI_no _ z _ iA hf).mono ?_
      rintro e wD ⟨rfl, hbD⟩
      replace yB := yB.below hbD
      replace jB := jB.below hbD
      replace hB := hB.trans (hbD.mono hB.size)
      obtain ⟨kB0, kB1, _, _⟩ := yB.facts
      clear hbD iA xA
      go_wp2_with fail
      refine (smallN_no _ z _ jB (T4.le4 (unhide HZ).2.1 (by decide)) hf).mono ?_
      rintro e wE ⟨rfl, hbE⟩
      replace hB := hB.trans (hbE.mono hB.size)
      clear hbE jB yB kB0 kB1
      go_wp2_with fail
      refine (of_any k wE).mono ?_
      rintro e wF ⟨rfl, hbF⟩
      replace hB := hB.trans (hbF.mono hB.size)
      clear hbF
      go_wp2_with fail
      refine (smallI_yes _ k _ (.inl ⟨rfl, hk0, hk1⟩) hk0 hk1).mono ?_
      rintro e wG ⟨rfl, hbG⟩
      replace hB := hB.trans (hbG.mono hB.size)
      clear hbG
      go_wp2_with fail
      refine (of_any k wG).mono ?_
      rintro e wH ⟨rfl, hbH⟩
      replace hB := hB.trans (hbH.mono hB.size)
      clear hbH
      go_wp2_with fail
      refine (str_any _ k wH ((unhide HT).below hB) (.inl ⟨rfl, hk0, hk1⟩) (k_pw hk0 hk1)).mono ?_
      rintro e wI ⟨rfl, hbI⟩
      replace hB := hB.trans (hbI.mono hB.size)
      clear hbI
      go_wp2_with fail
      refine (ofN_any k wI hk0 hk1).mono ?_
      rintro e wJ ⟨r, rfl, hbJ, iJ⟩
      replace hB := hB.trans (hbJ.mono hB.size)
      have HTX := hide (textN_any r k wJ iJ (k_pw4 hk0 hk1))
      obtain ⟨cJ1, cJ2, cJ3, cJ4, rfl⟩ := iJ.form
      clear hbJ iJ
      go_wp2_with fail
      refine (unhide HTX).mono ?_
      rintro e wK ⟨rfl, hbK⟩
      replace hB := hB.trans (hbK.mono hB.size)
      clear hbK HTX
      go_wp2
      go_ret
      exact ⟨rfl, hB⟩
  | false =>
    obtain ⟨kA0, kA1, _, _⟩ := xA.facts
    go_wp2_with fail
    by_cases hf : -9223372036854775808 ≤ z ∧ z ≤ 9223372036854775807
    · skip
      refine (smallI_yes _ z _ iA hf.1 hf.2).mono ?_
      rintro e wD ⟨rfl, hbD⟩
      replace yB := yB.below hbD
      replace jB := jB.below hbD
      replace hB := hB.trans (hbD.mono hB.size)
      obtain ⟨kB0, kB1, _, _⟩ := yB.facts
      clear hbD iA xA
      go_wp2_with fail
      refine (smallN_yes _ z _ jB (T4.le4 (unhide HZ).2.1 (by decide)) hf.1 hf.2).mono ?_
      rintro e wE ⟨rfl, hbE⟩
      replace hB := hB.trans (hbE.mono hB.size)
      clear hbE jB yB kB0 kB1
      go_wp2_with fail
      refine (of_any k wE).mono ?_
      rintro e wF ⟨rfl, hbF⟩
      replace hB := hB.trans (hbF.mono hB.size)
      clear hbF
      go_wp2_with fail
      refine (smallI_yes _ k _ (.inl ⟨rfl, hk0, hk1⟩) hk0 hk1).mono ?_
      rintro e wG ⟨rfl, hbG⟩
      replace hB := hB.trans (hbG.mono hB.size)
      clear hbG
      go_wp2_with fail
      refine (of_any k wG).mono ?_
      rintro e wH ⟨rfl, hbH⟩
      replace hB := hB.trans (hbH.mono hB.size)
      clear hbH
      go_wp2_with fail
      refine (str_any _ k wH ((unhide HT).below hB) (.inl ⟨rfl, hk0, hk1⟩) (k_pw hk0 hk1)).mono ?_
      rintro e wI ⟨rfl, hbI⟩
      replace hB := hB.trans (hbI.mono hB.size)
      clear hbI
      go_wp2_with fail
      refine (ofN_any k wI hk0 hk1).mono ?_
      rintro e wJ ⟨r, rfl, hbJ, iJ⟩
      replace hB := hB.trans (hbJ.mono hB.size)
      have HTX := hide (textN_any r k wJ iJ (k_pw4 hk0 hk1))
      obtain ⟨cJ1, cJ2, cJ3, cJ4, rfl⟩ := iJ.form
      clear hbJ iJ
      go_wp2_with fail
      refine (unhide HTX).mono ?_
      rintro e wK ⟨rfl, hbK⟩
      replace hB := hB.trans (hbK.mono hB.size)
      clear hbK HTX
      go_wp2
      go_ret
      exact ⟨rfl, hB⟩
    · replace hf : z < -9223372036854775808 ∨ 9223372036854775807 < z := by omega
      refine (smallI_no _ z _ iA hf).mono ?_
      rintro e wD ⟨rfl, hbD⟩
      replace yB := yB.below hbD
      replace jB := jB.below hbD
      replace hB := hB.trans (hbD.mono hB.size)
      obtain ⟨kB0, kB1, _, _⟩ := yB.facts
      clear hbD iA xA
      go_wp2_with fail
      refine (smallN_no _ z _ jB (T4.le4 (unhide HZ).2.1 (by decide)) hf).mono ?_
      rintro e wE ⟨rfl, hbE⟩
      replace hB := hB.trans (hbE.mono hB.size)
      clear hbE jB yB kB0 kB1
      go_wp2_with fail
      refine (of_any k wE).mono ?_
      rintro e wF ⟨rfl, hbF⟩
      replace hB := hB.trans (hbF.mono hB.size)
      clear hbF
      go_wp2_with fail
      refine (smallI_yes _ k _ (.inl ⟨rfl, hk0, hk1⟩) hk0 hk1).mono ?_
      rintro e wG ⟨rfl, hbG⟩
      replace hB := hB.trans (hbG.mono hB.size)
      clear hbG
      go_wp2_with fail
      refine (of_any k wG).mono ?_
      rintro e wH ⟨rfl, hbH⟩
      replace hB := hB.trans (hbH.mono hB.size)
      clear hbH
      go_wp2_with fail
      refine (str_any _ k wH ((unhide HT).below hB) (.inl ⟨rfl, hk0, hk1⟩) (k_pw hk0 hk1)).mono ?_
      rintro e wI ⟨rfl, hbI⟩
      replace hB := hB.trans (hbI.mono hB.size)
      clear hbI
      go_wp2_with fail
      refine (ofN_any k wI hk0 hk1).mono ?_
      rintro e wJ ⟨r, rfl, hbJ, iJ⟩
      replace hB := hB.trans (hbJ.mono hB.size)
      have HTX := hide (textN_any r k wJ iJ (k_pw4 hk0 hk1))
      obtain ⟨cJ1, cJ2, cJ3, cJ4, rfl⟩ := iJ.form
      clear hbJ iJ
      go_wp2_with fail
      refine (unhide HTX).mono ?_
      rintro e wK ⟨rfl, hbK⟩
      replace hB := hB.trans (hbK.mono hB.size)
      clear hbK HTX
      go_wp2
      go_ret
      exact ⟨rfl, hB⟩

end Go.Proofs.YtblblpilmoefgaaDoor
