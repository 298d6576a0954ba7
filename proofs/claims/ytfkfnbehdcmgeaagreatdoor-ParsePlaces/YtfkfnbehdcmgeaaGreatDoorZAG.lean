/- Package parse: the drawn regions of unary. -/
import Derived.Test.YtfkfnbehdcmgeaaGreatDoorZAF
set_option linter.unusedVariables false
set_option linter.unusedSimpArgs false

/- Package parse: joined: its drawn region. -/
namespace Go.Proofs.YtfkfnbehdcmgeaaGreatDoor
open Go Go.RowKit
def stJ (W : World) (q6 : Nat) (ai : Int) (T : ByteArray) (i0 i6 j0 j6 : Int) (s1 s2 u1 u2 : ByteArray) (b3 d3 : Bool) (a4 e4 : Option Addr) (n4 c4 m4 k4 : Nat) (n : Nat) (s : Nat → Value) (w : World) : Prop := match n with
  | 0 => w = W.drew
  | 1 => s 6 = .slice (some ⟨W.heap.size, 0, none⟩) 2 2 ∧ w = (W.drew.alloc (.cells #[.int .i64 i0, .string s1, .string s2, .bool b3, .slice a4 n4 c4, .int .i64 0, .int .i64 i6, .int .i64 j0, .string u1, .string u2, .bool d3, .slice e4 m4 k4, .int .i64 0, .int .i64 j6] 36))
  | 2 => s 7 = .agg #[.int .i64 (opOf T), .string ⟨#[]⟩, .string ⟨#[]⟩, .bool false, .slice (some ⟨W.heap.size, 0, none⟩) 2 2, .int .i64 0, .int .i64 ai] ∧ Below (W.drew.alloc (.cells #[.int .i64 i0, .string s1, .string s2, .bool b3, .slice a4 n4 c4, .int .i64 0, .int .i64 i6, .int .i64 j0, .string u1, .string u2, .bool d3, .slice e4 m4 k4, .int .i64 0, .int .i64 j6] 36)).heap.size (W.drew.alloc (.cells #[.int .i64 i0, .string s1, .string s2, .bool b3, .slice a4 n4 c4, .int .i64 0, .int .i64 i6, .int .i64 j0, .string u1, .string u2, .bool d3, .slice e4 m4 k4, .int .i64 0, .int .i64 j6] 36)) w
  | _ => ∃ W2, Below (W.drew.alloc (.cells #[.int .i64 i0, .string s1, .string s2, .bool b3, .slice a4 n4 c4, .int .i64 0, .int .i64 i6, .int .i64 j0, .string u1, .string u2, .bool d3, .slice e4 m4 k4, .int .i64 0, .int .i64 j6] 36)).heap.size (W.drew.alloc (.cells #[.int .i64 i0, .string s1, .string s2, .bool b3, .slice a4 n4 c4, .int .i64 0, .int .i64 i6, .int .i64 j0, .string u1, .string u2, .bool d3, .slice e4 m4 k4, .int .i64 0, .int .i64 j6] 36)) W2 ∧ w = set7 W2 q6 (.int .i64 (opOf T)) (.string ⟨#[]⟩) (.string ⟨#[]⟩) (.bool false) (.slice (some ⟨W.heap.size, 0, none⟩) 2 2) (.int .i64 0) (.int .i64 ai)
theorem stJ_at {W : World} {q6 : Nat} {ai : Int} {T : ByteArray} {i0 i6 j0 j6 : Int} {s1 s2 u1 u2 : ByteArray} {b3 d3 : Bool} {a4 e4 : Option Addr} {n4 c4 m4 k4 : Nat} {n : Nat} {s : Nat → Value} {w : World} (h : stJ W q6 ai T i0 i6 j0 j6 s1 s2 u1 u2 b3 d3 a4 e4 n4 c4 m4 k4 n s w) : ∀ q, q < W.heap.size → q ≠ q6 → w.heap[q]? = W.heap[q]? := by
  intro q hq hne
  have hC : Below W.heap.size W (W.drew.alloc (.cells #[.int .i64 i0, .string s1, .string s2, .bool b3, .slice a4 n4 c4, .int .i64 0, .int .i64 i6, .int .i64 j0, .string u1, .string u2, .bool d3, .slice e4 m4 k4, .int .i64 0, .int .i64 j6] 36)) := ((Below.refl _ W).drew).alloc (Nat.le_refl _) _
  rcases n with _ | _ | _ | n
  · obtain rfl : w = W.drew := h
    rfl
  · obtain ⟨-, rfl⟩ := h
    exact hC.block q hq
  · obtain ⟨-, hb⟩ := h
    exact (hb.block q (Nat.lt_of_lt_of_le hq hC.size)).trans (hC.block q hq)
  · obtain ⟨W2, hb, rfl⟩ := h
    unfold set7
    rw [same7 hne]
    exact (hb.block q (Nat.lt_of_lt_of_le hq hC.size)).trans (hC.block q hq)
def spJ (q7 : Nat) (kk ai : Int) (T : ByteArray) (x y : Value) : List Value := [.pointer (some ⟨q7, 1, none⟩), .string T, .int .i64 (opOf T), .agg #[.int .i64 kk, .string T, .int .i64 ai], x, y]
set_option maxRecDepth 100000 in
set_option maxHeartbeats 4000000 in
theorem joined_r3 {Q : Exit → Act → World → Prop} {a0 : Act} {W : World} {q4 q6 q7 q8 : Nat} {kk ai : Int} {T : ByteArray} {i0 i6 j0 j6 : Int} {s1 s2 u1 u2 : ByteArray} {b3 d3 : Bool} {a4 e4 : Option Addr} {n4 c4 m4 k4 : Nat} (hN : a0.tmps.size = 21) (h4 : a0.tmps[4]? = some (.pointer (some ⟨q4, 0, none⟩))) (h6 : a0.tmps[6]? = some (.pointer (some ⟨q6, 0, none⟩))) (h7 : a0.tmps[7]? = some (.pointer (some ⟨q7, 0, none⟩))) (h8 : a0.tmps[8]? = some (.pointer (some ⟨q8, 0, none⟩)))
    (b4 : W.heap[q4]? = some (.cells #[.int .i64 i0, .string s1, .string s2, .bool b3, .slice a4 n4 c4, .int .i64 0, .int .i64 i6] 36)) (b8 : W.heap[q8]? = some (.cells #[.int .i64 j0, .string u1, .string u2, .bool d3, .slice e4 m4 k4, .int .i64 0, .int .i64 j6] 36)) (b7 : W.heap[q7]? = some (.cells #[.int .i64 kk, .string T, .int .i64 ai] 74)) (z6 : ZB W q6) (n4' : q4 ≠ q6) (n7' : q7 ≠ q6) (n8' : q8 ≠ q6)
    (hend : ∀ (a : Act) (W2 : World), a.defers = a0.defers → (∀ k, k ∈ List.range 13 → a.tmps[k]? = a0.tmps[k]?) → Below (W.drew.alloc (.cells #[.int .i64 i0, .string s1, .string s2, .bool b3, .slice a4 n4 c4, .int .i64 0, .int .i64 i6, .int .i64 j0, .string u1, .string u2, .bool d3, .slice e4 m4 k4, .int .i64 0, .int .i64 j6] 36)).heap.size (W.drew.alloc (.cells #[.int .i64 i0, .string s1, .string s2, .bool b3, .slice a4 n4 c4, .int .i64 0, .int .i64 i6, .int .i64 j0, .string u1, .string u2, .bool d3, .slice e4 m4 k4, .int .i64 0, .int .i64 j6] 36)) W2 → Q .normal a (set7 W2 q6 (.int .i64 (opOf T)) (.string ⟨#[]⟩) (.string ⟨#[]⟩) (.bool false) (.slice (some ⟨W.heap.size, 0, none⟩) 2 2) (.int .i64 0) (.int .i64 ai))) :
    (Code.region 3 (regionOf Tryz.f121 3).toArray true).wp Tryz.prog Q a0 W := by
  have hl : (regionOf Tryz.f121 3).length = 9 := by kernel_rfl
  have hds : ((List.range 8).all fun i => ((regionOf Tryz.f121 3).getD i default).dst.isSome) = true := by kernel_rfl
  have bx : ∀ {n : Nat} {s : Nat → Value} {w : World}, stJ W q6 ai T i0 i6 j0 j6 s1 s2 u1 u2 b3 d3 a4 e4 n4 c4 m4 k4 n s w → w.heap[q4]? = some (.cells #[.int .i64 i0, .string s1, .string s2, .bool b3, .slice a4 n4 c4, .int .i64 0, .int .i64 i6] 36) ∧ w.heap[q8]? = some (.cells #[.int .i64 j0, .string u1, .string u2, .bool d3, .slice e4 m4 k4, .int .i64 0, .int .i64 j6] 36) ∧ w.heap[q7]? = some (.cells #[.int .i64 kk, .string T, .int .i64 ai] 74) := fun h => ⟨(stJ_at h q4 (blk b4).1 n4').trans b4, (stJ_at h q8 (blk b8).1 n8').trans b8, (stJ_at h q7 (blk b7).1 n7').trans b7⟩
  refine wp_region_any (by kernel_rfl) ?_
  refine seqN (l := (regionOf Tryz.f121 3)) 21 (List.range 13) [6, 7, 8] (fun j v => j < 6 → v = (spJ q7 kk ai T (.agg #[.int .i64 i0, .string s1, .string s2, .bool b3, .slice a4 n4 c4, .int .i64 0, .int .i64 i6]) (.agg #[.int .i64 j0, .string u1, .string u2, .bool d3, .slice e4 m4 k4, .int .i64 0, .int .i64 j6])).getD j undef) (stJ W q6 ai T i0 i6 j0 j6 s1 s2 u1 u2 b3 d3 a4 e4 n4 c4 m4 k4) (by kernel_rfl) hN (by decide) (by rw [hl]; decide) ?_ ?_ ?_ rfl ?_ ?_ ?_
  · intro k hk
    have hk2 : k = 0 ∨ k = 1 := by simp at hk; omega
    rcases hk2 with rfl | rfl
    · show (preds ((regionOf Tryz.f121 3).getD 7 default)).contains 6 = true
      kernel_rfl
    · show (preds ((regionOf Tryz.f121 3).getD 8 default)).contains 7 = true
      kernel_rfl
  · intro i o ho hd
    have hi : i < 9 := by rw [← hl]; exact (List.getElem?_eq_some_iff.1 ho).1
    have he : (regionOf Tryz.f121 3).getD i default = o := by simp [List.getD, ho]
    rcases Nat.lt_or_ge i 8 with h | h
    · have := List.all_eq_true.1 hds i (List.mem_range.2 h)
      rw [he, hd] at this
      cases this
    · obtain rfl : i = 8 := by omega
      exact ⟨by decide, fun v h => by omega⟩
  · intro n s s' w h hs
    have e6 := h 0 (by decide) (by kernel_rfl)
    have e7 := h 1 (by decide) (by kernel_rfl)
    have e6' : s 6 = s' 6 := e6
    have e7' : s 7 = s' 7 := e7
    rcases n with _ | _ | _ | n
    · exact hs
    · exact ⟨e6' ▸ hs.1, hs.2⟩
    · exact ⟨e7' ▸ hs.1, hs.2⟩
    · exact hs
  · intro i hi hni a w n s hd hsz hk hp hn hs
    rw [hl] at hi
    have hi6 : i = 0 ∨ i = 1 ∨ i = 2 ∨ i = 3 ∨ i = 4 ∨ i = 5 := by simp at hni; omega
    have ke4 : a.eval (.tmp 4) = .pointer (some ⟨q4, 0, none⟩) := getD_of ((hk 4 (by decide)).trans h4)
    have ke7 : a.eval (.tmp 7) = .pointer (some ⟨q7, 0, none⟩) := getD_of ((hk 7 (by decide)).trans h7)
    have ke8 : a.eval (.tmp 8) = .pointer (some ⟨q8, 0, none⟩) := getD_of ((hk 8 (by decide)).trans h8)
    obtain ⟨cc4, cc8, cc7⟩ := bx hs
    rcases hi6 with rfl | rfl | rfl | rfl | rfl | rfl
    · exact st_want (wnone rfl) (op_fieldAddr ke7 (fa_tok q7 1 w (by omega)) ⟨_, rfl, rfl, fun _ => rfl⟩)
    · have e1 : a.eval (.tmp 13) = .pointer (some ⟨q7, 1, none⟩) := hp 0 (by kernel_rfl) (by omega)
      exact st_want (wnone rfl) (op_load e1 (ld_str ((blk cc7).2.1 1 _ rfl)) ⟨_, rfl, rfl, fun _ => rfl⟩)
    · have e1 : a.tmps.getD 14 undef = .string T := hp 1 (by kernel_rfl) (by omega)
      refine st_want (wnone rfl) (op_call enter_opOf ?_)
      have hargs : (#[Operand.tmp 14]).map a.eval = #[.string T] := by
        simp only [List.map_toArray, List.map_cons, List.map_nil, Act.eval]
        rw [e1]
      rw [hargs]
      refine (opOf_eq T w).mono ?_
      rintro ex w' ⟨rfl, rfl⟩
      exact ⟨_, rfl, _, rfl, rfl, fun _ => rfl⟩
    · exact st_want (wnone rfl) (op_load ke7 (ld_Tok cc7) ⟨_, rfl, rfl, fun _ => rfl⟩)
    · exact st_want (wnone rfl) (op_load ke4 (ld_Ex cc4) ⟨_, rfl, rfl, fun _ => rfl⟩)
    · exact st_want (wnone rfl) (op_load ke8 (ld_Ex cc8) ⟨_, rfl, rfl, fun _ => rfl⟩)
  · intro k hk a w hd hsz hkp hp hs
    have hk3 : k = 0 ∨ k = 1 ∨ k = 2 := by simp at hk; omega
    have k6 : a.tmps.getD 6 undef = .pointer (some ⟨q6, 0, none⟩) := getD_of ((hkp 6 (by decide)).trans h6)
    rcases hk3 with rfl | rfl | rfl
    · obtain rfl : w = W.drew := hs
      have e1 : a.tmps.getD 17 undef = .agg #[.int .i64 i0, .string s1, .string s2, .bool b3, .slice a4 n4 c4, .int .i64 0, .int .i64 i6] := hp 4 (by kernel_rfl) (by omega)
      have e2 : a.tmps.getD 18 undef = .agg #[.int .i64 j0, .string u1, .string u2, .bool d3, .slice e4 m4 k4, .int .i64 0, .int .i64 j6] := hp 5 (by kernel_rfl) (by omega)
      exact st_want (wnone rfl) (op_bs2E e1 e2 ⟨_, rfl, (fun _ h => absurd (show (6 : Nat) < 6 from h) (by decide)), rfl, rfl⟩)
    · obtain ⟨hs6, rfl⟩ := hs
      have e0 : a.tmps.getD 15 undef = .int .i64 (opOf T) := hp 2 (by kernel_rfl) (by omega)
      have e1 : a.tmps.getD 16 undef = .agg #[.int .i64 kk, .string T, .int .i64 ai] := hp 3 (by kernel_rfl) (by omega)
      have e2 : a.tmps.getD 19 undef = .slice (some ⟨W.heap.size, 0, none⟩) 2 2 := hs6
      refine st_want (wnone rfl) (op_call enter_made ?_)
      have hargs : (#[Operand.tmp 15, .tmp 16, .tmp 19]).map a.eval = #[.int .i64 (opOf T), .agg #[.int .i64 kk, .string T, .int .i64 ai], .slice (some ⟨W.heap.size, 0, none⟩) 2 2] := by
        simp only [List.map_toArray, List.map_cons, List.map_nil, Act.eval]
        rw [e0, e1, e2]
      rw [hargs]
      refine (made_any _ _ _ _ _ _ _ _).mono ?_
      rintro ex w' ⟨rfl, hb⟩
      exact ⟨_, rfl, _, rfl, (fun _ h => absurd (show (7 : Nat) < 6 from h) (by decide)), rfl, hb⟩
    · obtain ⟨hs7, hb⟩ := hs
      have e2 : a.tmps.getD 20 undef = .agg #[.int .i64 (opOf T), .string ⟨#[]⟩, .string ⟨#[]⟩, .bool false, .slice (some ⟨W.heap.size, 0, none⟩) 2 2, .int .i64 0, .int .i64 ai] := hs7
      have hC : Below W.heap.size W (W.drew.alloc (.cells #[.int .i64 i0, .string s1, .string s2, .bool b3, .slice a4 n4 c4, .int .i64 0, .int .i64 i6, .int .i64 j0, .string u1, .string u2, .bool d3, .slice e4 m4 k4, .int .i64 0, .int .i64 j6] 36)) := ((Below.refl _ W).drew).alloc (Nat.le_refl _) _
      have hz : ZB w q6 := (hb.block q6 (Nat.lt_of_lt_of_le (blk z6).1 hC.size)).trans ((hC.block q6 (blk z6).1).trans z6)
      exact st_want (wnone rfl) (op_stE k6 e2 hz ⟨undef, rfl, (fun h => absurd (show false = true from h) (by decide)), w, hb, rfl⟩)
  · intro a w hd hsz hk hp hs
    obtain ⟨W2, hb, rfl⟩ := hs
    exact hend a W2 hd hk hb
end Go.Proofs.YtfkfnbehdcmgeaaGreatDoor

/- Package parse: joined. -/
namespace Go.Proofs.YtfkfnbehdcmgeaaGreatDoor
open Go Go.RowKit
theorem ret_putP {fn : Func} {a : Act} {tt : Nat} {w w3 : World} {r p q d q6 : Nat} {P : Nat → Prop} {ts : List (Int × ByteArray × Int)} {t : Ex} {Y : (Except (Int × Int) (Ex × Nat))} {x0 x1 x2 x3 x4 x5 x6 : Value} (hf : fn.results = #[.cell tt 36]) (ht : a.tmps[tt]? = some (.pointer (some ⟨q6, 0, none⟩))) (hdf : a.defers = []) (hbu : But r w w3) (hr : r < q6) (hq6 : w.heap.size ≤ q6) (hz : ZB w3 q6) (hY : Y = .ok (t, q)) (hpq : p ≤ q) (hR : RD w3 r ts q d) (hv : IsEP w3 (fun b => P b ∧ b ≠ q6) (.agg #[x0, x1, x2, x3, x4, x5, x6]) t) :
    bodyPost Tryz.prog fn (RP (fun w' v t => IsEP w' P v t) Y r ts p d w) .ret a (set7 w3 q6 x0 x1 x2 x3 x4 x5 x6) := by
  subst hY
  refine bodyPost_ret (res_row (cs := [x0, x1, x2, x3, x4, x5, x6]) hf ht (range_block (fill7 hz)) Tryz.underlying36 rfl (by kernel_rfl)) hdf ?_
  refine ⟨but7 hbu hq6 _ _ _ _ _ _ _, hpq, hR.put hr _ _ _ _ _ _ _, _, rfl, hv.keep ⟨by unfold set7; simp, fun k hk hs => same7 hk.2 _ _ _ _ _ _ _⟩ fun b hb => hb.1⟩
set_option maxRecDepth 100000 in
set_option maxHeartbeats 8000000 in
theorem joined_of {k r d lo : Nat} {ts : List (Int × ByteArray × Int)} {O : Nat → (Except (Int × Int) (Ex × Nat))} (hT : TsOk ts) (hEn : Enters Tryz.prog k) (hO : RuC k r ts d lo O) : JoC k r ts d lo O := by
  intro w p P t i0 i6 s1 s2 b3 a4 n4 c4 hlo hp1 hR hv hPr hPn
  obtain ⟨Y, hY⟩ : ∃ Y, joinR ts O t p = Y := ⟨_, rfl⟩
  rw [hY]
  unfold joinR at hY
  have hr := hR.rlt
  obtain ⟨A, eA, hbA, hsA, hhA⟩ := box_new w #[.int .i64 i0, .string s1, .string s2, .bool b3, .slice a4 n4 c4, .int .i64 0, .int .i64 i6] 36
  obtain ⟨B, eB, hbB, hzB, hsB⟩ := zb_new A
  rw [hsA] at hzB
  have hbAB : Below w.heap.size w B := hbA.trans (hbB.mono hbA.size)
  have hx4 := (hbB.block w.heap.size (blk hhA).1).trans hhA
  have hRB := hR.keep hbAB
  have HC := hide (take_any hRB hT hp1)
  unfold tkV at HC
  obtain ⟨⟨kk, T, ai⟩, hN⟩ : ∃ X, nx ts p = X := ⟨_, rfl⟩
  rw [hN] at HC
  have HA := hide (And.intro hY (And.intro hN (And.intro hv (And.intro hPr (And.intro hPn (And.intro hlo (And.intro hT (And.intro hO hEn))))))))
  have HM := hide (And.intro hbAB (And.intro hx4 (And.intro hzB (And.intro hsA hsB))))
  have HE := hide (And.intro eA eB)
  clear hY hN hv hPr hPn hlo hT hO hEn hR hp1 hRB eA hbA hsA hhA eB hbB hzB hsB hbAB hx4
  go_enter Tryz.func121, Tryz.ntmps121
  go_wp2_with fail
  rw [(unhide HE).1, (unhide HE).2]
  refine (unhide HC).mono ?_
  rintro e w2 ⟨rfl, hb2, hR2⟩
  obtain ⟨hY, hN, hv, hPr, hPn, hlo, hT, hO, hEn⟩ := unhide HA
  obtain ⟨hbAB, hx4, hzB, hsA, hsB⟩ := unhide HM
  have hs2 := hb2.size
  have hbw2 : But r w w2 := (But.of hbAB).trans hb2
  have hx42 := (hb2.block w.heap.size (blk hx4).1 (by omega)).trans hx4
  have hz2 : ZB w2 (w.heap.size + 1) := hzB.but hb2 (by omega)
  obtain ⟨C, eC, hbC, hsC, hhC⟩ := box_new w2 #[.int .i64 kk, .string T, .int .i64 ai] 74
  have hRC := hR2.keep hbC
  have HC2 := hide (hO C (p + 1) (by omega) hRC)
  have hx4C := (hbC.block w.heap.size (blk hx42).1).trans hx42
  have hzC : ZB C (w.heap.size + 1) := (hbC.block _ (blk hz2).1).trans hz2
  have hlt2 : w.heap.size + 1 < w2.heap.size := (blk hz2).1
  have HM2 := hide (And.intro (hbw2.trans (But.of hbC)) (And.intro hx4C (And.intro hzC (And.intro hhC (And.intro hlt2 hsC)))))
  have HEC := hide eC
  have hEn' := hide hEn
  clear hY hN hv hPr hPn hlo hT hO hEn hbAB hx4 hzB hsA hsB hs2 hbw2 hx42 hz2 eC hbC hsC hhC hRC hx4C hzC hlt2 hb2 hR2 HC HM HE
  go_wp2_with fail
  rw [(unhide hEn').run, unhide HEC]
  refine Calls.mono (unhide HC2) ?_
  intro e w4 h4
  obtain ⟨hY, hN, hv, hPr, hPn, hlo, hT, hO, hEn⟩ := unhide HA
  obtain ⟨hbC, hx4, hzC, hx7, hlt2, hsC⟩ := unhide HM2
  rcases hX : O (p + 1) with er | ⟨ty, q⟩
  · rw [hX] at h4 hY
    obtain ⟨ei, en⟩ := er
    have hYe : Y = .error (ei, en) := hY.symm
    subst hYe
    obtain ⟨hb4, h4⟩ := h4
    obtain rfl : e = _ := h4
    have HP := hide (hbC.trans hb4)
    clear hY hN hv hPr hPn hlo hT hO hEn hbC hx4 hzC hx7 hlt2 hsC hb4 HC2 hX
    go_wp2
    exact ⟨rfl, unhide HP, rfl⟩
  · rw [hX] at h4 hY
    obtain ⟨hb4, hle4, hR4, v4, rfl, hv4⟩ := h4
    obtain ⟨j0, j6, u1, u2, d3, e4, m4, k4, rfl⟩ := hv4.form
    simp only [thenR] at hY
    have hs4 := hb4.size
    have hx44 := (hb4.block w.heap.size (blk hx4).1 (by omega)).trans hx4
    have hz4 : ZB w4 (w.heap.size + 1) := hzC.but hb4 (by omega)
    have hx74 := (hb4.block w2.heap.size (blk hx7).1 (by omega)).trans hx7
    obtain ⟨D, eD, hbD, hsD, hhD⟩ := box_new w4 #[.int .i64 j0, .string u1, .string u2, .bool d3, .slice e4 m4 k4, .int .i64 0, .int .i64 j6] 36
    have hbwD : But r w D := (hbC.trans hb4).trans (But.of hbD)
    have hx4D := (hbD.block w.heap.size (blk hx44).1).trans hx44
    have hzD : ZB D (w.heap.size + 1) := (hbD.block _ (blk hz4).1).trans hz4
    have hx7D := (hbD.block w2.heap.size (blk hx74).1).trans hx74
    have hRD := hR4.keep hbD
    have hlD : IsEP D (fun b => P b ∧ b ≠ w.heap.size + 1) (.agg #[.int .i64 i0, .string s1, .string s2, .bool b3, .slice a4 n4 c4, .int .i64 0, .int .i64 i6]) t := hv.bnd.keep ⟨hbwD.size, fun k hk hs => hbwD.block k hs (fun e => hPr (e ▸ hk.1))⟩ fun b hb => ⟨hb.1, by have := hb.2; omega⟩
    have hrD : IsEP D (fun b => P b ∧ b ≠ w.heap.size + 1) (.agg #[.int .i64 j0, .string u1, .string u2, .bool d3, .slice e4 m4 k4, .int .i64 0, .int .i64 j6]) ty := IsEP.keep hv4 ⟨hbD.size, fun k _ hs => hbD.block k hs⟩ fun b hb => ⟨hPn b (by omega), by omega⟩
    have hsz4 : w2.heap.size < w4.heap.size := by omega
    have HF := hide (And.intro hbwD (And.intro hx4D (And.intro hzD (And.intro hx7D (And.intro hhD (And.intro hRD (And.intro hlD (And.intro hrD (And.intro hle4 hsD)))))))))
    have HG := hide (And.intro hY (And.intro hN (And.intro hPn (And.intro hlt2 hsz4))))
    have HED := hide eD
    clear hY hN hv hPr hPn hlo hT hO hEn hbC hx4 hzC hx7 hsC hb4 HC2 hX hle4 hR4 hv4 hs4 hx44 hz4 hx74 eD hbD hhD hsD hbwD hx4D hzD hx7D hRD hlD hrD hlt2 hsz4
    go_wp2_with fail
    rw [unhide HED]
    obtain ⟨hbwD, hx4D, hzD, hx7D, hhD, hRD, hlD, hrD, hle4, hsD⟩ := unhide HF
    obtain ⟨hY, hN, hPn, hlt2, hsz4⟩ := unhide HG
    refine joined_r3 rfl rfl rfl rfl rfl hx4D hhD hx7D hzD (by omega) (by omega) (by omega) ?_
    intro a W2 hd hk hb
    have h6 : a.tmps[6]? = some (.pointer (some ⟨w.heap.size + 1, 0, none⟩)) := (hk 6 (by decide)).trans rfl
    have hDD : Below D.heap.size D (D.drew.alloc (.cells #[.int .i64 i0, .string s1, .string s2, .bool b3, .slice a4 n4 c4, .int .i64 0, .int .i64 i6, .int .i64 j0, .string u1, .string u2, .bool d3, .slice e4 m4 k4, .int .i64 0, .int .i64 j6] 36)) := ((Below.refl _ D).drew).alloc (Nat.le_refl _) _
    have hD2 : Below D.heap.size D W2 := hDD.trans (hb.mono hDD.size)
    have hnode := nodeP (w := D.drew) (P := fun b => P b ∧ b ≠ w.heap.size + 1) (l := [t, ty]) (vs := [[.int .i64 i0, .string s1, .string s2, .bool b3, .slice a4 n4 c4, .int .i64 0, .int .i64 i6], [.int .i64 j0, .string u1, .string u2, .bool d3, .slice e4 m4 k4, .int .i64 0, .int .i64 j6]]) (cs := #[.int .i64 i0, .string s1, .string s2, .bool b3, .slice a4 n4 c4, .int .i64 0, .int .i64 i6, .int .i64 j0, .string u1, .string u2, .bool d3, .slice e4 m4 k4, .int .i64 0, .int .i64 j6]) (ty := 36) (opOf T) ai ⟨#[]⟩ ⟨#[]⟩ false rfl rfl (by simp) rfl (by simp) (show P D.heap.size ∧ D.heap.size ≠ w.heap.size + 1 from ⟨hPn _ hbwD.size, by omega⟩) (fun j v t' hv ht => by
      rcases j with _ | _ | j
      · obtain rfl := Option.some.inj hv
        obtain rfl := Option.some.inj ht
        exact hlD.keep ⟨Nat.le_refl _, fun _ _ _ => rfl⟩ fun _ h => h
      · obtain rfl := Option.some.inj hv
        obtain rfl := Option.some.inj ht
        exact hrD.keep ⟨Nat.le_refl _, fun _ _ _ => rfl⟩ fun _ h => h
      · simp at hv)
    have hn2 := IsEP.keep (w' := W2) hnode ⟨hb.size, fun k _ hs => hb.block k hs⟩ fun _ h => h
    have hz2 : ZB W2 (w.heap.size + 1) := (hD2.block _ (blk hzD).1).trans hzD
    have hYe : Y = .ok (madeR (opOf T) [t, ty] ai, q) := by
      rw [← hY]
      unfold txt
      rw [hN]
    have HQ := hide (And.intro hd (And.intro h6 (And.intro (hbwD.trans (But.of hD2)) (And.intro hz2 (And.intro hYe (And.intro hle4 (And.intro (hRD.keep hD2) hn2)))))))
    clear hd hk hb h6 hDD hD2 hnode hn2 hz2 hYe hbwD hx4D hzD hx7D hhD hRD hlD hrD hle4 hsD hY hN hPn hlt2 hsz4
    go_wp2
    obtain ⟨hd, h6, h1, h2, h3, h4, h5, h7⟩ := unhide HQ
    exact ret_putP rfl h6 hd h1 (by omega) (Nat.le_succ _) h2 h3 h4 h5 h7
end Go.Proofs.YtfkfnbehdcmgeaaGreatDoor

namespace Go.Proofs.YtfkfnbehdcmgeaaGreatDoor
open Go Go.RowKit
def stunary_r3 (W : World) (r : Nat) (ts : List (Int × ByteArray × Int)) (p d q6 : Nat) (X : (Except (Int × Int) (Ex × Nat))) (ai : Int) (T : ByteArray) (n : Nat) (s : Nat → Value) (w : World) : Prop := match n with
  | 0 => w = W.drew
  | 1 => ∃ t q, X = .ok (t, q) ∧ But r W w ∧ RD w r ts q d ∧ p ≤ q ∧ IsE w W.heap.size (s 2) t
  | 2 => ∃ t q b, X = .ok (t, q) ∧ s 3 = .slice (some ⟨b, 0, none⟩) 1 1 ∧ But r W w ∧ RD w r ts q d ∧ p ≤ q ∧ IsE w W.heap.size (.agg #[.int .i64 7, .string ⟨#[]⟩, .string ⟨#[]⟩, .bool false, .slice (some ⟨b, 0, none⟩) 1 1, .int .i64 0, .int .i64 ai]) (.mk 7 ⟨#[]⟩ ⟨#[]⟩ false [t] ai)
  | 3 => ∃ t q b, X = .ok (t, q) ∧ s 4 = .agg #[.int .i64 7, .string ⟨#[]⟩, .string ⟨#[]⟩, .bool false, .slice (some ⟨b, 0, none⟩) 1 1, .int .i64 0, .int .i64 ai] ∧ But r W w ∧ RD w r ts q d ∧ p ≤ q ∧ IsE w W.heap.size (.agg #[.int .i64 7, .string ⟨#[]⟩, .string ⟨#[]⟩, .bool false, .slice (some ⟨b, 0, none⟩) 1 1, .int .i64 0, .int .i64 ai]) (.mk 7 ⟨#[]⟩ ⟨#[]⟩ false [t] ai)
  | _ => ∃ t q b W2, X = .ok (t, q) ∧ But r W W2 ∧ RD W2 r ts q d ∧ p ≤ q ∧ IsE W2 W.heap.size (.agg #[.int .i64 7, .string ⟨#[]⟩, .string ⟨#[]⟩, .bool false, .slice (some ⟨b, 0, none⟩) 1 1, .int .i64 0, .int .i64 ai]) (.mk 7 ⟨#[]⟩ ⟨#[]⟩ false [t] ai) ∧ w = set7 W2 q6 (.int .i64 7) (.string ⟨#[]⟩) (.string ⟨#[]⟩) (.bool false) (.slice (some ⟨b, 0, none⟩) 1 1) (.int .i64 0) (.int .i64 ai)
theorem stunary_r3_at {W : World} {r p d q6 : Nat} {ts : List (Int × ByteArray × Int)} {X : (Except (Int × Int) (Ex × Nat))} {ai : Int} {T : ByteArray} {n : Nat} {s : Nat → Value} {w : World} (h : stunary_r3 W r ts p d q6 X ai T n s w) : ∀ q, q < W.heap.size → q ≠ q6 → r ≠ q → w.heap[q]? = W.heap[q]? := by
  intro q3 hq hne hr
  rcases n with _ | _ | _ | _ | n
  · obtain rfl : w = W.drew := h
    rfl
  · obtain ⟨t, q, -, hb, -⟩ := h
    exact hb.block q3 hq (Ne.symm hr)
  · obtain ⟨t, q, b, -, -, hb, -⟩ := h
    exact hb.block q3 hq (Ne.symm hr)
  · obtain ⟨t, q, b, -, -, hb, -⟩ := h
    exact hb.block q3 hq (Ne.symm hr)
  · obtain ⟨t, q, b, W2, -, hb, -, -, -, rfl⟩ := h
    unfold set7
    rw [same7 hne]
    exact hb.block q3 hq (Ne.symm hr)
set_option maxRecDepth 100000 in
set_option maxHeartbeats 4000000 in
theorem unary_r3 {Q : Exit → Act → World → Prop} {a0 : Act} {W : World} {r p d q3 q6 : Nat} {ts : List (Int × ByteArray × Int)} {X : (Except (Int × Int) (Ex × Nat))} {kk ai : Int} {T : ByteArray} (hN : a0.tmps.size = 40) (h0 : a0.tmps[0]? = some (.pointer (some ⟨r, 0, none⟩))) (h2 : a0.tmps[2]? = some (.pointer (some ⟨q6, 0, none⟩))) (h3 : a0.tmps[3]? = some (.pointer (some ⟨q3, 0, none⟩)))
    (b3 : W.heap[q3]? = some (.cells #[.int .i64 kk, .string T, .int .i64 ai] 74)) (z6 : ZB W q6) (n1 : r ≠ q3) (n2 : r ≠ q6) (n3 : q3 ≠ q6) (hC : Calls Tryz.prog 127 #[.pointer (some ⟨r, 0, none⟩)] W.drew (PE X r ts p d W.drew))
    (herr : ∀ (a : Act) (w : World) (ei en : Int), X = .error (ei, en) → a.defers = a0.defers → But r W w → Q (.panic [{ v := .iface 89 (.agg #[.int .i64 ei, .int .i64 en]), recovered := false }]) a w)
    (hend : ∀ (a : Act) (W2 : World) (t : Ex) (q b : Nat), X = .ok (t, q) → a.defers = a0.defers → (∀ k, k ∈ ((List.range 40).filter fun i => !([9, 10, 11, 12, 13].contains i)) → a.tmps[k]? = a0.tmps[k]?) → But r W W2 → RD W2 r ts q d → p ≤ q → IsE W2 W.heap.size (.agg #[.int .i64 7, .string ⟨#[]⟩, .string ⟨#[]⟩, .bool false, .slice (some ⟨b, 0, none⟩) 1 1, .int .i64 0, .int .i64 ai]) (.mk 7 ⟨#[]⟩ ⟨#[]⟩ false [t] ai) → Q .normal a (set7 W2 q6 (.int .i64 7) (.string ⟨#[]⟩) (.string ⟨#[]⟩) (.bool false) (.slice (some ⟨b, 0, none⟩) 1 1) (.int .i64 0) (.int .i64 ai))) :
    (Code.region 3 (regionOf Tryz.f126 3).toArray true).wp Tryz.prog Q a0 W := by
  have hl : (regionOf Tryz.f126 3).length = 6 := by kernel_rfl
  have hds : ((List.range 5).all fun i => ((regionOf Tryz.f126 3).getD i default).dst.isSome) = true := by kernel_rfl
  have bx : ∀ {n : Nat} {s : Nat → Value} {w : World}, stunary_r3 W r ts p d q6 X ai T n s w → w.heap[q3]? = some (.cells #[.int .i64 kk, .string T, .int .i64 ai] 74) := fun h => (stunary_r3_at h q3 (blk b3).1 n3 n1).trans b3
  have hk3 : 3 ∈ ((List.range 40).filter fun i => !([9, 10, 11, 12, 13].contains i)) := by decide
  have hk2 : 2 ∈ ((List.range 40).filter fun i => !([9, 10, 11, 12, 13].contains i)) := by decide
  have hk0 : 0 ∈ ((List.range 40).filter fun i => !([9, 10, 11, 12, 13].contains i)) := by decide
  refine wp_region_any (by kernel_rfl) ?_
  refine seqN (l := (regionOf Tryz.f126 3)) 40 ((List.range 40).filter fun i => !([9, 10, 11, 12, 13].contains i)) [2, 3, 4, 5] (fun j v => (j = 0 → v = .agg #[.int .i64 kk, .string T, .int .i64 ai]) ∧ (j = 1 → v = .pointer (some ⟨r, 0, none⟩))) (stunary_r3 W r ts p d q6 X ai T) (by kernel_rfl) hN (by decide) (by rw [hl]; decide) ?_ ?_ ?_ rfl ?_ ?_ ?_
  · intro k hk
    have hk3 : k = 0 ∨ k = 1 ∨ k = 2 := by simp at hk; omega
    rcases hk3 with rfl | rfl | rfl
    · show (preds ((regionOf Tryz.f126 3).getD 3 default)).contains 2 = true
      kernel_rfl
    · show (preds ((regionOf Tryz.f126 3).getD 4 default)).contains 3 = true
      kernel_rfl
    · show (preds ((regionOf Tryz.f126 3).getD 5 default)).contains 4 = true
      kernel_rfl
  · intro i o ho hd
    have hi : i < 6 := by rw [← hl]; exact (List.getElem?_eq_some_iff.1 ho).1
    have he : (regionOf Tryz.f126 3).getD i default = o := by simp [List.getD, ho]
    rcases Nat.lt_or_ge i 5 with h | h
    · have := List.all_eq_true.1 hds i (List.mem_range.2 h)
      rw [he, hd] at this
      cases this
    · obtain rfl : i = 5 := by omega
      exact ⟨by decide, fun v => ⟨(fun h => absurd h (by decide)), (fun h => absurd h (by decide))⟩⟩
  · intro n s s' w h hs
    have e1 : s 2 = s' 2 := h 0 (by decide) (by kernel_rfl)
    have e2 : s 3 = s' 3 := h 1 (by decide) (by kernel_rfl)
    have e3 : s 4 = s' 4 := h 2 (by decide) (by kernel_rfl)
    rcases n with _ | _ | _ | _ | n
    · exact hs
    · obtain ⟨t, q, g1, g2, g3, g4, g5⟩ := hs
      exact ⟨t, q, g1, g2, g3, g4, e1 ▸ g5⟩
    · obtain ⟨t, q, b, g1, g2, g3⟩ := hs
      exact ⟨t, q, b, g1, e2 ▸ g2, g3⟩
    · obtain ⟨t, q, b, g1, g2, g3⟩ := hs
      exact ⟨t, q, b, g1, e3 ▸ g2, g3⟩
    · exact hs
  · intro i hi hni a w n s hd hsz hk hp hn hs
    rw [hl] at hi
    have hii : i = 0 ∨ i = 1 := by simp at hni; omega
    have ke3 : a.eval (.tmp 3) = .pointer (some ⟨q3, 0, none⟩) := getD_of ((hk 3 hk3).trans h3)
    have ke0 : a.eval (.tmp 0) = .pointer (some ⟨r, 0, none⟩) := getD_of ((hk 0 hk0).trans h0)
    have cc := bx hs
    rcases hii with rfl | rfl
    · exact st_want (wnone rfl) (op_load ke3 (ld_Tok cc) ⟨_, rfl, rfl, ⟨fun _ => rfl, (fun h => absurd h (by decide))⟩⟩)
    · exact st_want (wnone rfl) (op_move ⟨_, rfl, rfl, ⟨(fun h => absurd h (by decide)), fun _ => ke0⟩⟩)
  · intro k hk a w hd hsz hkp hp hs
    have hk4 : k = 0 ∨ k = 1 ∨ k = 2 ∨ k = 3 := by simp at hk; omega
    have ke2 : a.tmps.getD 2 undef = .pointer (some ⟨q6, 0, none⟩) := getD_of ((hkp 2 hk2).trans h2)
    rcases hk4 with rfl | rfl | rfl | rfl
    · obtain rfl : w = W.drew := hs
      have e1 : a.tmps.getD 10 undef = .pointer (some ⟨r, 0, none⟩) := (hp 1 (by kernel_rfl)).2 rfl
      refine st_want (wnone rfl) (op_callP enter_unb ?_)
      have hargs : (#[Operand.tmp 10]).map a.eval = #[.pointer (some ⟨r, 0, none⟩)] := by
        simp only [List.map_toArray, List.map_cons, List.map_nil, Act.eval]
        rw [e1]
      rw [hargs]
      refine hC.mono ?_
      intro e w' h'
      rcases hX : X with er | ⟨t, q⟩
      · rw [hX] at h'
        obtain ⟨ei, en⟩ := er
        obtain ⟨hb, h'⟩ := h'
        obtain rfl : e = _ := h'
        exact .inr ⟨_, rfl, herr a w' ei en hX hd ((But.of ((Below.refl _ W).drew)).trans hb)⟩
      · rw [hX] at h'
        obtain ⟨hb, hle, hR, v, rfl, hv⟩ := h'
        exact .inl ⟨v, rfl, v, rfl, (fun _ => ⟨(fun h => absurd h (by decide)), (fun h => absurd h (by decide))⟩), t, q, (by first | rfl | exact hX), ((But.of ((Below.refl _ W).drew)).trans hb), hR, hle, hv⟩
    · obtain ⟨t, q, hX, hb, hR, hle, hv⟩ := hs
      have hv' : IsE w W.heap.size (a.tmps.getD 11 undef) t := hv
      obtain ⟨i0, i6, s1, s2, b3, a4, n4, c4, e1⟩ := hv'.form
      rw [e1] at hv'
      have hnode := node (w := w) (lo := W.heap.size) (l := [t]) (vs := [[.int .i64 i0, .string s1, .string s2, .bool b3, .slice a4 n4 c4, .int .i64 0, .int .i64 i6]]) (cs := #[.int .i64 i0, .string s1, .string s2, .bool b3, .slice a4 n4 c4, .int .i64 0, .int .i64 i6]) (ty := 36) 7 ai ⟨#[]⟩ ⟨#[]⟩ false rfl rfl (by simp) rfl (by simp) hb.size (fun j v t' hv ht => by
        rcases j with _ | j
        · obtain rfl := Option.some.inj hv
          obtain rfl := Option.some.inj ht
          exact hv'
        · simp at hv)
      have hB : Below w.heap.size w (w.alloc (.cells #[.int .i64 i0, .string s1, .string s2, .bool b3, .slice a4 n4 c4, .int .i64 0, .int .i64 i6] 36)) := (Below.refl _ w).alloc (Nat.le_refl _) _
      exact st_want (wnone rfl) (op_bs1E e1 ⟨_, rfl, (fun _ => ⟨(fun h => absurd h (by decide)), (fun h => absurd h (by decide))⟩), t, q, w.heap.size, hX, rfl, hb.trans (But.of hB), hR.keep hB, hle, hnode⟩)
    · obtain ⟨t, q, b, hX, hsl, hb, hR, hle, hv⟩ := hs
      have e1 : a.tmps.getD 9 undef = .agg #[.int .i64 kk, .string T, .int .i64 ai] := (hp 0 (by kernel_rfl)).1 rfl
      have e2 : a.tmps.getD 12 undef = .slice (some ⟨b, 0, none⟩) 1 1 := hsl
      refine st_want (wnone rfl) (op_call enter_made ?_)
      have hargs : (#[Operand.const (.int .i64 7), .tmp 9, .tmp 12]).map a.eval = #[.int .i64 7, .agg #[.int .i64 kk, .string T, .int .i64 ai], .slice (some ⟨b, 0, none⟩) 1 1] := by
        simp only [List.map_toArray, List.map_cons, List.map_nil, Act.eval]
        rw [e1, e2]
      rw [hargs]
      refine (made_any _ _ _ _ _ _ _ _).mono ?_
      rintro ex w' ⟨rfl, hbw⟩
      exact ⟨_, rfl, _, rfl, (fun _ => ⟨(fun h => absurd h (by decide)), (fun h => absurd h (by decide))⟩), t, q, b, hX, rfl, hb.trans (But.of hbw), hR.keep hbw, hle, hv.keep (Stays.of hbw) (Nat.le_refl _)⟩
    · obtain ⟨t, q, b, hX, hnd, hb, hR, hle, hv⟩ := hs
      have e2 : a.tmps.getD 13 undef = .agg #[.int .i64 7, .string ⟨#[]⟩, .string ⟨#[]⟩, .bool false, .slice (some ⟨b, 0, none⟩) 1 1, .int .i64 0, .int .i64 ai] := hnd
      have hz : ZB w q6 := (hb.block q6 (blk z6).1 (Ne.symm n2)).trans z6
      exact st_want (wnone rfl) (op_stE ke2 e2 hz ⟨undef, rfl, (fun h => absurd (show false = true from h) (by decide)), t, q, b, w, hX, hb, hR, hle, hv, rfl⟩)
  · intro a w hd hsz hk hp hs
    obtain ⟨t, q, b, W2, hX, hb, hR, hle, hv, rfl⟩ := hs
    exact hend a W2 t q b hX hd hk hb hR hle hv
def stunary_r5 (W : World) (r : Nat) (ts : List (Int × ByteArray × Int)) (p d q6 : Nat) (X : (Except (Int × Int) (Ex × Nat))) (ai : Int) (T : ByteArray) (n : Nat) (s : Nat → Value) (w : World) : Prop := match n with
  | 0 => w = W.drew
  | 1 => ∃ t q, X = .ok (t, q) ∧ But r W w ∧ RD w r ts q d ∧ p ≤ q ∧ IsE w W.heap.size (s 2) t
  | 2 => ∃ t q b, X = .ok (t, q) ∧ s 3 = .slice (some ⟨b, 0, none⟩) 1 1 ∧ But r W w ∧ RD w r ts q d ∧ p ≤ q ∧ IsE w W.heap.size (.agg #[.int .i64 8, .string ⟨#[]⟩, .string ⟨#[]⟩, .bool false, .slice (some ⟨b, 0, none⟩) 1 1, .int .i64 0, .int .i64 ai]) (.mk 8 ⟨#[]⟩ ⟨#[]⟩ false [t] ai)
  | 3 => ∃ t q b, X = .ok (t, q) ∧ s 4 = .agg #[.int .i64 8, .string ⟨#[]⟩, .string ⟨#[]⟩, .bool false, .slice (some ⟨b, 0, none⟩) 1 1, .int .i64 0, .int .i64 ai] ∧ But r W w ∧ RD w r ts q d ∧ p ≤ q ∧ IsE w W.heap.size (.agg #[.int .i64 8, .string ⟨#[]⟩, .string ⟨#[]⟩, .bool false, .slice (some ⟨b, 0, none⟩) 1 1, .int .i64 0, .int .i64 ai]) (.mk 8 ⟨#[]⟩ ⟨#[]⟩ false [t] ai)
  | _ => ∃ t q b W2, X = .ok (t, q) ∧ But r W W2 ∧ RD W2 r ts q d ∧ p ≤ q ∧ IsE W2 W.heap.size (.agg #[.int .i64 8, .string ⟨#[]⟩, .string ⟨#[]⟩, .bool false, .slice (some ⟨b, 0, none⟩) 1 1, .int .i64 0, .int .i64 ai]) (.mk 8 ⟨#[]⟩ ⟨#[]⟩ false [t] ai) ∧ w = set7 W2 q6 (.int .i64 8) (.string ⟨#[]⟩) (.string ⟨#[]⟩) (.bool false) (.slice (some ⟨b, 0, none⟩) 1 1) (.int .i64 0) (.int .i64 ai)
theorem stunary_r5_at {W : World} {r p d q6 : Nat} {ts : List (Int × ByteArray × Int)} {X : (Except (Int × Int) (Ex × Nat))} {ai : Int} {T : ByteArray} {n : Nat} {s : Nat → Value} {w : World} (h : stunary_r5 W r ts p d q6 X ai T n s w) : ∀ q, q < W.heap.size → q ≠ q6 → r ≠ q → w.heap[q]? = W.heap[q]? := by
  intro q3 hq hne hr
  rcases n with _ | _ | _ | _ | n
  · obtain rfl : w = W.drew := h
    rfl
  · obtain ⟨t, q, -, hb, -⟩ := h
    exact hb.block q3 hq (Ne.symm hr)
  · obtain ⟨t, q, b, -, -, hb, -⟩ := h
    exact hb.block q3 hq (Ne.symm hr)
  · obtain ⟨t, q, b, -, -, hb, -⟩ := h
    exact hb.block q3 hq (Ne.symm hr)
  · obtain ⟨t, q, b, W2, -, hb, -, -, -, rfl⟩ := h
    unfold set7
    rw [same7 hne]
    exact hb.block q3 hq (Ne.symm hr)
set_option maxRecDepth 100000 in
set_option maxHeartbeats 4000000 in
theorem unary_r5 {Q : Exit → Act → World → Prop} {a0 : Act} {W : World} {r p d q3 q6 : Nat} {ts : List (Int × ByteArray × Int)} {X : (Except (Int × Int) (Ex × Nat))} {kk ai : Int} {T : ByteArray} (hN : a0.tmps.size = 40) (h0 : a0.tmps[0]? = some (.pointer (some ⟨r, 0, none⟩))) (h2 : a0.tmps[2]? = some (.pointer (some ⟨q6, 0, none⟩))) (h3 : a0.tmps[3]? = some (.pointer (some ⟨q3, 0, none⟩)))
    (b3 : W.heap[q3]? = some (.cells #[.int .i64 kk, .string T, .int .i64 ai] 74)) (z6 : ZB W q6) (n1 : r ≠ q3) (n2 : r ≠ q6) (n3 : q3 ≠ q6) (hC : Calls Tryz.prog 127 #[.pointer (some ⟨r, 0, none⟩)] W.drew (PE X r ts p d W.drew))
    (herr : ∀ (a : Act) (w : World) (ei en : Int), X = .error (ei, en) → a.defers = a0.defers → But r W w → Q (.panic [{ v := .iface 89 (.agg #[.int .i64 ei, .int .i64 en]), recovered := false }]) a w)
    (hend : ∀ (a : Act) (W2 : World) (t : Ex) (q b : Nat), X = .ok (t, q) → a.defers = a0.defers → (∀ k, k ∈ ((List.range 40).filter fun i => !([17, 18, 19, 20, 21].contains i)) → a.tmps[k]? = a0.tmps[k]?) → But r W W2 → RD W2 r ts q d → p ≤ q → IsE W2 W.heap.size (.agg #[.int .i64 8, .string ⟨#[]⟩, .string ⟨#[]⟩, .bool false, .slice (some ⟨b, 0, none⟩) 1 1, .int .i64 0, .int .i64 ai]) (.mk 8 ⟨#[]⟩ ⟨#[]⟩ false [t] ai) → Q .normal a (set7 W2 q6 (.int .i64 8) (.string ⟨#[]⟩) (.string ⟨#[]⟩) (.bool false) (.slice (some ⟨b, 0, none⟩) 1 1) (.int .i64 0) (.int .i64 ai))) :
    (Code.region 5 (regionOf Tryz.f126 5).toArray true).wp Tryz.prog Q a0 W := by
  have hl : (regionOf Tryz.f126 5).length = 6 := by kernel_rfl
  have hds : ((List.range 5).all fun i => ((regionOf Tryz.f126 5).getD i default).dst.isSome) = true := by kernel_rfl
  have bx : ∀ {n : Nat} {s : Nat → Value} {w : World}, stunary_r5 W r ts p d q6 X ai T n s w → w.heap[q3]? = some (.cells #[.int .i64 kk, .string T, .int .i64 ai] 74) := fun h => (stunary_r5_at h q3 (blk b3).1 n3 n1).trans b3
  have hk3 : 3 ∈ ((List.range 40).filter fun i => !([17, 18, 19, 20, 21].contains i)) := by decide
  have hk2 : 2 ∈ ((List.range 40).filter fun i => !([17, 18, 19, 20, 21].contains i)) := by decide
  have hk0 : 0 ∈ ((List.range 40).filter fun i => !([17, 18, 19, 20, 21].contains i)) := by decide
  refine wp_region_any (by kernel_rfl) ?_
  refine seqN (l := (regionOf Tryz.f126 5)) 40 ((List.range 40).filter fun i => !([17, 18, 19, 20, 21].contains i)) [2, 3, 4, 5] (fun j v => (j = 0 → v = .agg #[.int .i64 kk, .string T, .int .i64 ai]) ∧ (j = 1 → v = .pointer (some ⟨r, 0, none⟩))) (stunary_r5 W r ts p d q6 X ai T) (by kernel_rfl) hN (by decide) (by rw [hl]; decide) ?_ ?_ ?_ rfl ?_ ?_ ?_
  · intro k hk
    have hk3 : k = 0 ∨ k = 1 ∨ k = 2 := by simp at hk; omega
    rcases hk3 with rfl | rfl | rfl
    · show (preds ((regionOf Tryz.f126 5).getD 3 default)).contains 2 = true
      kernel_rfl
    · show (preds ((regionOf Tryz.f126 5).getD 4 default)).contains 3 = true
      kernel_rfl
    · show (preds ((regionOf Tryz.f126 5).getD 5 default)).contains 4 = true
      kernel_rfl
  · intro i o ho hd
    have hi : i < 6 := by rw [← hl]; exact (List.getElem?_eq_some_iff.1 ho).1
    have he : (regionOf Tryz.f126 5).getD i default = o := by simp [List.getD, ho]
    rcases Nat.lt_or_ge i 5 with h | h
    · have := List.all_eq_true.1 hds i (List.mem_range.2 h)
      rw [he, hd] at this
      cases this
    · obtain rfl : i = 5 := by omega
      exact ⟨by decide, fun v => ⟨(fun h => absurd h (by decide)), (fun h => absurd h (by decide))⟩⟩
  · intro n s s' w h hs
    have e1 : s 2 = s' 2 := h 0 (by decide) (by kernel_rfl)
    have e2 : s 3 = s' 3 := h 1 (by decide) (by kernel_rfl)
    have e3 : s 4 = s' 4 := h 2 (by decide) (by kernel_rfl)
    rcases n with _ | _ | _ | _ | n
    · exact hs
    · obtain ⟨t, q, g1, g2, g3, g4, g5⟩ := hs
      exact ⟨t, q, g1, g2, g3, g4, e1 ▸ g5⟩
    · obtain ⟨t, q, b, g1, g2, g3⟩ := hs
      exact ⟨t, q, b, g1, e2 ▸ g2, g3⟩
    · obtain ⟨t, q, b, g1, g2, g3⟩ := hs
      exact ⟨t, q, b, g1, e3 ▸ g2, g3⟩
    · exact hs
  · intro i hi hni a w n s hd hsz hk hp hn hs
    rw [hl] at hi
    have hii : i = 0 ∨ i = 1 := by simp at hni; omega
    have ke3 : a.eval (.tmp 3) = .pointer (some ⟨q3, 0, none⟩) := getD_of ((hk 3 hk3).trans h3)
    have ke0 : a.eval (.tmp 0) = .pointer (some ⟨r, 0, none⟩) := getD_of ((hk 0 hk0).trans h0)
    have cc := bx hs
    rcases hii with rfl | rfl
    · exact st_want (wnone rfl) (op_load ke3 (ld_Tok cc) ⟨_, rfl, rfl, ⟨fun _ => rfl, (fun h => absurd h (by decide))⟩⟩)
    · exact st_want (wnone rfl) (op_move ⟨_, rfl, rfl, ⟨(fun h => absurd h (by decide)), fun _ => ke0⟩⟩)
  · intro k hk a w hd hsz hkp hp hs
    have hk4 : k = 0 ∨ k = 1 ∨ k = 2 ∨ k = 3 := by simp at hk; omega
    have ke2 : a.tmps.getD 2 undef = .pointer (some ⟨q6, 0, none⟩) := getD_of ((hkp 2 hk2).trans h2)
    rcases hk4 with rfl | rfl | rfl | rfl
    · obtain rfl : w = W.drew := hs
      have e1 : a.tmps.getD 18 undef = .pointer (some ⟨r, 0, none⟩) := (hp 1 (by kernel_rfl)).2 rfl
      refine st_want (wnone rfl) (op_callP enter_unb ?_)
      have hargs : (#[Operand.tmp 18]).map a.eval = #[.pointer (some ⟨r, 0, none⟩)] := by
        simp only [List.map_toArray, List.map_cons, List.map_nil, Act.eval]
        rw [e1]
      rw [hargs]
      refine hC.mono ?_
      intro e w' h'
      rcases hX : X with er | ⟨t, q⟩
      · rw [hX] at h'
        obtain ⟨ei, en⟩ := er
        obtain ⟨hb, h'⟩ := h'
        obtain rfl : e = _ := h'
        exact .inr ⟨_, rfl, herr a w' ei en hX hd ((But.of ((Below.refl _ W).drew)).trans hb)⟩
      · rw [hX] at h'
        obtain ⟨hb, hle, hR, v, rfl, hv⟩ := h'
        exact .inl ⟨v, rfl, v, rfl, (fun _ => ⟨(fun h => absurd h (by decide)), (fun h => absurd h (by decide))⟩), t, q, (by first | rfl | exact hX), ((But.of ((Below.refl _ W).drew)).trans hb), hR, hle, hv⟩
    · obtain ⟨t, q, hX, hb, hR, hle, hv⟩ := hs
      have hv' : IsE w W.heap.size (a.tmps.getD 19 undef) t := hv
      obtain ⟨i0, i6, s1, s2, b3, a4, n4, c4, e1⟩ := hv'.form
      rw [e1] at hv'
      have hnode := node (w := w) (lo := W.heap.size) (l := [t]) (vs := [[.int .i64 i0, .string s1, .string s2, .bool b3, .slice a4 n4 c4, .int .i64 0, .int .i64 i6]]) (cs := #[.int .i64 i0, .string s1, .string s2, .bool b3, .slice a4 n4 c4, .int .i64 0, .int .i64 i6]) (ty := 36) 8 ai ⟨#[]⟩ ⟨#[]⟩ false rfl rfl (by simp) rfl (by simp) hb.size (fun j v t' hv ht => by
        rcases j with _ | j
        · obtain rfl := Option.some.inj hv
          obtain rfl := Option.some.inj ht
          exact hv'
        · simp at hv)
      have hB : Below w.heap.size w (w.alloc (.cells #[.int .i64 i0, .string s1, .string s2, .bool b3, .slice a4 n4 c4, .int .i64 0, .int .i64 i6] 36)) := (Below.refl _ w).alloc (Nat.le_refl _) _
      exact st_want (wnone rfl) (op_bs1E e1 ⟨_, rfl, (fun _ => ⟨(fun h => absurd h (by decide)), (fun h => absurd h (by decide))⟩), t, q, w.heap.size, hX, rfl, hb.trans (But.of hB), hR.keep hB, hle, hnode⟩)
    · obtain ⟨t, q, b, hX, hsl, hb, hR, hle, hv⟩ := hs
      have e1 : a.tmps.getD 17 undef = .agg #[.int .i64 kk, .string T, .int .i64 ai] := (hp 0 (by kernel_rfl)).1 rfl
      have e2 : a.tmps.getD 20 undef = .slice (some ⟨b, 0, none⟩) 1 1 := hsl
      refine st_want (wnone rfl) (op_call enter_made ?_)
      have hargs : (#[Operand.const (.int .i64 8), .tmp 17, .tmp 20]).map a.eval = #[.int .i64 8, .agg #[.int .i64 kk, .string T, .int .i64 ai], .slice (some ⟨b, 0, none⟩) 1 1] := by
        simp only [List.map_toArray, List.map_cons, List.map_nil, Act.eval]
        rw [e1, e2]
      rw [hargs]
      refine (made_any _ _ _ _ _ _ _ _).mono ?_
      rintro ex w' ⟨rfl, hbw⟩
      exact ⟨_, rfl, _, rfl, (fun _ => ⟨(fun h => absurd h (by decide)), (fun h => absurd h (by decide))⟩), t, q, b, hX, rfl, hb.trans (But.of hbw), hR.keep hbw, hle, hv.keep (Stays.of hbw) (Nat.le_refl _)⟩
    · obtain ⟨t, q, b, hX, hnd, hb, hR, hle, hv⟩ := hs
      have e2 : a.tmps.getD 21 undef = .agg #[.int .i64 8, .string ⟨#[]⟩, .string ⟨#[]⟩, .bool false, .slice (some ⟨b, 0, none⟩) 1 1, .int .i64 0, .int .i64 ai] := hnd
      have hz : ZB w q6 := (hb.block q6 (blk z6).1 (Ne.symm n2)).trans z6
      exact st_want (wnone rfl) (op_stE ke2 e2 hz ⟨undef, rfl, (fun h => absurd (show false = true from h) (by decide)), t, q, b, w, hX, hb, hR, hle, hv, rfl⟩)
  · intro a w hd hsz hk hp hs
    obtain ⟨t, q, b, W2, hX, hb, hR, hle, hv, rfl⟩ := hs
    exact hend a W2 t q b hX hd hk hb hR hle hv
end Go.Proofs.YtfkfnbehdcmgeaaGreatDoor
