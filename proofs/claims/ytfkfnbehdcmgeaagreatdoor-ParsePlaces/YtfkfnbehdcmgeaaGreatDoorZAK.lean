/- Package parse: a text is read: a refusal is caught. -/
import Derived.Test.YtfkfnbehdcmgeaaGreatDoorZAG
import Derived.Deep.AppendLies
import Derived.Test.YtfkfnbehdcmgeaaGreatDoorZAE
import Derived.Test.YtfkfnbehdcmgeaaGreatDoorZAF
import Derived.Test.YtfkfnbehdcmgeaaGreatDoorZAH
import Derived.Test.YtfkfnbehdcmgeaaGreatDoorZAI
import Derived.Test.YtfkfnbehdcmgeaaGreatDoorZAJ
import Derived.Test.YtfkfnbehdcmgeaaGreatDoorZAB
import Derived.Defers
import Derived.Recover
set_option linter.unusedVariables false
set_option linter.unusedSimpArgs false

/- Package parse: rows of expressions. -/
namespace Go.Proofs.YtfkfnbehdcmgeaaGreatDoor
open Go Go.RowKit
def IsLs (w : World) (lo : Nat) (v : Value) (l : List Ex) : Prop := ∃ h a c, v = .slice a l.length c ∧ RowX w (fun b => lo ≤ b) a l.length c fun b o j => ∀ t, l[j]? = some t → ExAt w (fun b => lo ≤ b) h b o t
theorem IsLs.keep {w w' : World} {lo lo' : Nat} {v : Value} {l : List Ex} (h : IsLs w lo v l) (hb : Stays lo w w') (hl : lo' ≤ lo) : IsLs w' lo' v l := by
  obtain ⟨k, a, c, e, h2⟩ := h
  exact ⟨k, a, c, e, h2.mono hb.1 (fun _ hb => Nat.le_trans hl hb) fun b o j hr hbl hj t ht => ExAt.keep hb (fun _ hb => Nat.le_trans hl hb) k b o t hr hbl (hj t ht)⟩
theorem IsLs.node {w : World} {lo : Nat} {v : Value} {l : List Ex} (h : IsLs w lo v l) (op i : Int) (nm nu : ByteArray) (bl : Bool) : IsE w lo (.agg #[.int .i64 op, .string nm, .string nu, .bool bl, v, .int .i64 0, .int .i64 i]) (.mk op nm nu bl l i) := by
  obtain ⟨k, a, c, rfl, h2⟩ := h
  exact ⟨k, a, c, rfl, h2⟩
theorem addr_add (b off j : Nat) : (⟨b, off, none⟩ : Addr).add j = ⟨b, off + j, none⟩ := by simp [Addr.add]
theorem addr0 (b j : Nat) : (⟨b, 0, none⟩ : Addr).add j = ⟨b, j, none⟩ := by rw [addr_add, Nat.zero_add]
theorem ex_app {w : World} {B n : Nat} {v : Value} {xs : List Value} (i0 i6 : Int) (s1 s2 : ByteArray) (b3 : Bool) (a4 : Option Addr) (n4 c4 : Nat) (hown : w.ownsRow B 36 7 v n xs) (hn : n ≤ 100000) (hB : B ≤ w.heap.size) :
    ∃ g cap w', (Builtin.append_ #[34, 34] 34 #[v, .slice (some ⟨w.heap.size, 0, none⟩) 1 1]).run Tryz.prog (w.alloc (.cells #[.int .i64 i0, .string s1, .string s2, .bool b3, .slice a4 n4 c4, .int .i64 0, .int .i64 i6] 36)) = .ok (.slice (some ⟨g, 0, none⟩) (n + 1) cap) w' ∧ w'.ownsRow B 36 7 (.slice (some ⟨g, 0, none⟩) (n + 1) cap) (n + 1) (xs ++ [.int .i64 i0, .string s1, .string s2, .bool b3, .slice a4 n4 c4, .int .i64 0, .int .i64 i6]) ∧ (w.alloc (.cells #[.int .i64 i0, .string s1, .string s2, .bool b3, .slice a4 n4 c4, .int .i64 0, .int .i64 i6] 36)).grownBy w' v.ownBlock ∧ (v.ownBlock = some g ∨ g = w.heap.size + 1) := by
  have hb := (MapKept.heap_alloc w (.cells #[.int .i64 i0, .string s1, .string s2, .bool b3, .slice a4 n4 c4, .int .i64 0, .int .i64 i6] 36)).1
  obtain ⟨g, cap, w', hr, ho, hg, hw, -⟩ := run_append_lies (P := Tryz.prog) (w.alloc (.cells #[.int .i64 i0, .string s1, .string s2, .bool b3, .slice a4 n4 c4, .int .i64 0, .int .i64 i6] 36)) 34 34 B 36 Tryz.t36 (.agg #[.int .i64 0, .string ⟨#[]⟩, .string ⟨#[]⟩, .bool false, .slice none 0 0, .int .i64 0, .int .i64 0]) 7 88 Tryz.underlying34 (by kernel_rfl) (by kernel_rfl) (by kernel_rfl) (by kernel_rfl) rfl (by decide) v n xs (hown.alloc _) ⟨w.heap.size, 0, none⟩ 1 1 [.int .i64 i0, .string s1, .string s2, .bool b3, .slice a4 n4 c4, .int .i64 0, .int .i64 i6] rfl (fun j u hj => by
      have h := (blk hb).2.1 j u (by simpa using hj)
      rw [addr0]
      exact h) (fun u hu => by
      simp at hu
      rcases hu with rfl | rfl | rfl | rfl | rfl | rfl | rfl <;> rfl) (by omega) (by unfold maxLen; omega) (by omega) (by simp; omega) _ rfl
  exact ⟨g, cap, w', hr, ho, hg, by simpa using hw⟩
/-- While a row is read. -/
structure EI (w : World) (r : Nat) (ts : List (Int × ByteArray × Int)) (p d lo most : Nat) (E : Nat → (Except (Int × Int) (Ex × Nat))) (Y : (Except (Int × Int) ((List Ex) × Nat))) (v : Value) (l : List Ex) (vs : List (List Value)) (q n : Nat) (V : World) : Prop where
  but : But r w V
  rd : RD V r ts q d
  own : V.ownsRow w.heap.size 36 7 v l.length vs.flatten
  len : vs.length = l.length
  seven : ∀ x ∈ vs, x.length = 7
  tr : ∀ (j : Nat) x t, vs[j]? = some x → l[j]? = some t → IsEP V (fun b => w.heap.size ≤ b ∧ v.ownBlock ≠ some b) (.agg x.toArray) t
  le : p ≤ q ∧ lo ≤ q
  fu : ts.length ≤ q + n
  ch : exprsL ts E most n l q = Y
  sm : l.length ≤ q + 1 ∧ 0 < l.length
theorem EI.ls {w V : World} {r p d lo most q n : Nat} {ts : List (Int × ByteArray × Int)} {E : Nat → (Except (Int × Int) (Ex × Nat))} {Y : (Except (Int × Int) ((List Ex) × Nat))} {v : Value} {l : List Ex} {vs : List (List Value)} (h : EI w r ts p d lo most E Y v l vs q n V) (hl : l.length ≤ 1000000) : IsLs V w.heap.size v l := by
  obtain ⟨g, cap, rfl, hg1, hg2⟩ := h.own.form h.sm.2
  have hc := h.own.cells (g := g) rfl
  obtain ⟨k, hk⟩ := all_high (W := V) (P := fun b => w.heap.size ≤ b) (b := g) l 0 fun j t ht => by
    obtain ⟨x, hx⟩ : ∃ x, vs[j]? = some x := ⟨_, List.getElem?_eq_getElem (by rw [h.len]; exact (List.getElem?_eq_some_iff.1 ht).1)⟩
    refine ((h.tr j x t hx ht).keep (P' := fun b => w.heap.size ≤ b) ⟨Nat.le_refl _, fun _ _ _ => rfl⟩ fun b hb => hb.1).at ⟨Nat.le_refl _, fun _ _ _ => rfl⟩ fun m u hu => ?_
    have := hc (j * 7 + m) u (flat_at vs j x h.seven hx m u hu)
    rw [Nat.zero_add]
    rw [addr0] at this
    exact this
  have hcap : l.length ≤ cap := by
    obtain ⟨-, h1 | ⟨g', c', cur, e, -, -, h2, -⟩⟩ := h.own
    · exact absurd h1.2 (by have := h.sm.2; omega)
    · obtain ⟨-, rfl⟩ : g = g' ∧ cap = c' := by simpa using e
      exact h2
  exact ⟨k, _, _, rfl, hcap, by omega, fun _ => ⟨g, 0, rfl, hg1, hg2, fun j _ t ht => hk j t ht⟩⟩
theorem exprsL_no {ts : List (Int × ByteArray × Int)} {E : Nat → (Except (Int × Int) (Ex × Nat))} {most n q : Nat} {l : List Ex} (h : sees ts q ⟨#[44]⟩ = false) : exprsL ts E most n l q = .ok (l, q) := by
  cases n with
  | zero => rfl
  | succ n => rw [exprsL, h]; rfl
theorem exprsL_many {ts : List (Int × ByteArray × Int)} {E : Nat → (Except (Int × Int) (Ex × Nat))} {most n q : Nat} {l : List Ex} (h : sees ts q ⟨#[44]⟩ = true) (hl : l.length = most) : exprsL ts E most (n + 1) l q = bad ts q 152 := by
  rw [exprsL, h, if_pos rfl, if_pos hl]
theorem exprsL_yes {ts : List (Int × ByteArray × Int)} {E : Nat → (Except (Int × Int) (Ex × Nat))} {most n q : Nat} {l : List Ex} (h : sees ts q ⟨#[44]⟩ = true) (hl : l.length ≠ most) : exprsL ts E most (n + 1) l q = thenR (E (q + 1)) fun x q => exprsL ts E most n (l ++ [x]) q := by
  rw [exprsL, h, if_pos rfl, if_neg hl]
end Go.Proofs.YtfkfnbehdcmgeaaGreatDoor

/- Package parse: exprs. -/
namespace Go.Proofs.YtfkfnbehdcmgeaaGreatDoor
open Go Go.RowKit
theorem EI.grow {w V V' : World} {r p d lo most q n : Nat} {ts : List (Int × ByteArray × Int)} {E : Nat → (Except (Int × Int) (Ex × Nat))} {Y : (Except (Int × Int) ((List Ex) × Nat))} {v : Value} {l : List Ex} {vs : List (List Value)} (h : EI w r ts p d lo most E Y v l vs q n V) (hb : Below V.heap.size V V') : EI w r ts p d lo most E Y v l vs q n V' :=
  ⟨h.but.trans (But.of hb), h.rd.keep hb, own_same h.own hb, h.len, h.seven, fun j x t hx ht => (h.tr j x t hx ht).keep ⟨hb.size, fun k _ hk => hb.block k hk⟩ fun _ h => h, h.le, h.fu, h.ch, h.sm⟩
set_option maxRecDepth 100000 in
set_option maxHeartbeats 8000000 in
theorem exprs_of {r d lo most : Nat} {ts : List (Int × ByteArray × Int)} {E : Nat → (Except (Int × Int) (Ex × Nat))} (hT : TsOk ts) (hE : RuC 59 r ts d lo E) (hm : most ≤ 1000000) {w : World} {p : Nat} (hlo : lo ≤ p) (hR : RD w r ts p d) : Calls Tryz.prog 109 #[.pointer (some ⟨r, 0, none⟩), .int .i64 most] w (RP (fun w' v l => IsLs w' w.heap.size v l) (exprsR ts E most p) r ts p d w) := by
  obtain ⟨Y, hY⟩ : ∃ Y, exprsR ts E most p = Y := ⟨_, rfl⟩
  rw [hY]
  unfold exprsR at hY
  have hr := hR.rlt
  have HC := hide (hE w p hlo hR)
  have HA := hide (And.intro hY (And.intro hT (And.intro hE (And.intro hlo hm))))
  clear hY hT hE hlo hm hR
  go_enter Tryz.func109, Tryz.ntmps109
  go_wp2_with fail
  refine (unhide HC).mono ?_
  intro e w1 h1
  obtain ⟨hY, hT, hE, hlo, hm⟩ := unhide HA
  rcases hX : E p with er | ⟨t, q⟩
  · rw [hX] at h1 hY
    obtain ⟨ei, en⟩ := er
    have hYe : Y = .error (ei, en) := hY.symm
    subst hYe
    obtain ⟨hb1, h1⟩ := h1
    obtain rfl : e = _ := h1
    have HP := hide hb1
    clear hY hT hE hlo hm hb1 HC hX
    go_wp2
    exact ⟨rfl, unhide HP, rfl⟩
  · rw [hX] at h1 hY
    obtain ⟨hb1, hle1, hR1, v1, rfl, hv1⟩ := h1
    obtain ⟨i0, i6, s1, s2, b3, a4, n4, c4, rfl⟩ := hv1.form
    simp only [thenR] at hY
    obtain ⟨B, eB, hbB, hsB, hhB⟩ := box_new w1 #[.int .i64 i0, .string s1, .string s2, .bool b3, .slice a4 n4 c4, .int .i64 0, .int .i64 i6] 36
    have hlen := hT.len
    have HI : Hid (EI w r ts p d lo most E Y (.slice (some ⟨w1.heap.size, 0, none⟩) 1 1) [t] [[.int .i64 i0, .string s1, .string s2, .bool b3, .slice a4 n4 c4, .int .i64 0, .int .i64 i6]] q ts.length B) := by
      refine ⟨hb1.trans (But.of hbB), hR1.keep hbB, ?_, rfl, (by simp), fun j x t' hx ht => ?_, ⟨hle1, by omega⟩, by omega, hY, by simp, by simp⟩
      · refine ⟨by simp, .inr ⟨w1.heap.size, 1, #[.int .i64 i0, .string s1, .string s2, .bool b3, .slice a4 n4 c4, .int .i64 0, .int .i64 i6], rfl, hb1.size, hhB, Nat.le_refl _, by unfold maxLen; omega, rfl, rfl⟩⟩
      · rcases j with _ | j
        · obtain rfl := Option.some.inj hx
          obtain rfl := Option.some.inj ht
          refine (IsEP.bnd hv1).keep ⟨hbB.size, fun k _ hk => hbB.block k hk⟩ fun b hb => ⟨hb.1, fun e => ?_⟩
          have e2 : w1.heap.size = b := by simpa [Value.ownBlock] using e
          have := hb.2
          omega
        · simp at hx
    have HEB := hide eB
    have HT := hide hT
    have HEx := hide (And.intro hE (And.intro hlo hm))
    have hmost : (most : Int) ≤ 1000000 := by omega
    clear hY hT hE hlo hm hb1 hle1 hR1 hv1 HC hX eB hbB hsB hhB hlen HA
    go_wp2_with fail
    rw [unhide HEB]
    go_loopw [5] (fun v wr => ∃ l vs q n a m c, v = .slice a m c ∧ m = l.length ∧ Hid (EI w r ts p d lo most E Y v l vs q n wr)) (fun _ wr => ts.length - (intOf ((wr.cell? ⟨r, 1, none⟩).getD undef)).toNat)
    case atStart => exact ⟨_, _, _, _, _, _, _, rfl, rfl, HI⟩
    case round =>
      obtain ⟨l, vs, q, n, a, m, c, rfl, hml, hEI⟩ := hrel
      obtain ⟨bo, hbo⟩ : ∃ b, sees ts q ⟨#[44]⟩ = b := ⟨_, rfl⟩
      have HC := hide (sees_any (unhide hEI).rd (unhide HT) ⟨#[44]⟩)
      rw [hbo] at HC
      have HO := hide hbo
      replace hml := hide hml
      clear hbo
      go_wp2_with fail
      refine (unhide HC).mono ?_
      rintro e w9 ⟨rfl, hb9⟩
      have h9 := (unhide hEI).grow hb9
      have hqo : (wr.cell? ⟨r, 1, none⟩) = some (.int .i64 (q : Int)) := by
        obtain ⟨g', c', p0, p1, -⟩ := (unhide hEI).rd.facts (Below.refl _ _)
        exact p1
      replace hqo := hide hqo
      have H9 := hide h9
      clear hEI hb9 h9 HC
      rcases bo with _ | _
      · go_wp2
        have h := unhide H9
        refine bodyPost_ret (results_tmp rfl _ _ _) rfl ?_
        have hYe : Y = .ok (l, q) := h.ch.symm.trans (exprsL_no (unhide HO))
        subst hYe
        refine ⟨h.but, h.le.1, h.rd, _, rfl, h.ls ?_⟩
        have := h.sm.1
        have := h.rd.lt
        have := (unhide HT).len
        omega
      · have h := unhide H9
        have hp1 : q + 1 < ts.length := nx_txt (unhide HT) h.rd.lt (by rw [sees_txt (unhide HO)]; decide)
        obtain ⟨n, rfl⟩ : ∃ m, n = m + 1 := ⟨n - 1, by have := h.fu; omega⟩
        have hlb : l.length ≤ 1000000 := by
          have := h.sm.1
          have := h.rd.lt
          have := (unhide HT).len
          omega
        have hm' := unhide hml
        by_cases hlm : m = most
        · have hch := h.ch
          rw [exprsL_many (unhide HO) (by omega)] at hch
          have HRf := hide (refused_any h.rd (unhide HT) 152)
          have HCh := hide hch
          have g1 : (m : Int) = (most : Int) := by omega
          subst hlm
          clear h hch hp1 hlb hm' g1
          go_wp2_with fail
          refine (unhide HRf).mono ?_
          rintro e w8 ⟨rfl, hb8⟩
          have HB8 := hide hb8
          clear hb8 HRf
          go_wp2
          obtain rfl := unhide HCh
          exact ⟨rfl, (unhide H9).but.trans (But.of (unhide HB8)), rfl⟩
        · have hch := h.ch
          rw [exprsL_yes (unhide HO) (by omega)] at hch
          have HCh := hide hch
          have g1 : ¬ (m : Int) = (most : Int) := by omega
          have g2 : ((m : Int) == (most : Int)) = false := by simpa using g1
          have g3 : decide ((m : Int) = (most : Int)) = false := by simpa using g1
          have HTk := hide (take_any h.rd (unhide HT) hp1)
          unfold tkV at HTk
          replace hlb := hide hlb
          clear h hch hp1 hm' hlm
          go_wp2_with fail
          refine (unhide HTk).mono ?_
          rintro e w8 ⟨rfl, hb8, hR8⟩
          have HC2 := hide ((unhide HEx).1 w8 (q + 1) (Nat.le_succ_of_le (unhide H9).le.2) hR8)
          have H8 := hide (And.intro hb8 hR8)
          clear hb8 hR8 HTk
          go_wp2_with fail
          refine (unhide HC2).mono ?_
          intro e w7 h7
          rcases hX : E (q + 1) with er | ⟨t7, q7⟩
          · rw [hX] at h7
            obtain ⟨ei, en⟩ := er
            have hYe : Y = .error (ei, en) := by have h := unhide HCh; rw [hX] at h; exact h.symm
            subst hYe
            obtain ⟨hb7, h7⟩ := h7
            obtain rfl : e = _ := h7
            have HP := hide ((unhide H9).but.trans ((unhide H8).1.trans hb7))
            clear hb7 HC2 hX
            go_wp2
            exact ⟨rfl, unhide HP, rfl⟩
          · rw [hX] at h7
            obtain ⟨hb7, hle7, hR7, v7, rfl, hv7⟩ := h7
            obtain ⟨j0, j6, u1, u2, d3, e4, m4, k4, rfl⟩ := hv7.form
            have hch := unhide HCh
            rw [hX] at hch
            simp only [thenR] at hch
            have h := unhide H9
            have hb97 : But r w9 w7 := (unhide H8).1.trans hb7
            have hown7 : w7.ownsRow w.heap.size 36 7 (.slice a m c) l.length vs.flatten := by
              obtain ⟨k1, k2 | ⟨g, cap, cur, k3, k4, k5, k6⟩⟩ := h.own
              · exact ⟨k1, .inl k2⟩
              · exact ⟨k1, .inr ⟨g, cap, cur, k3, k4, (hb97.block g (blk k5).1 (by omega)).trans k5, k6⟩⟩
            have hs97 := hb97.size
            have hsw := h.but.size
            obtain ⟨g, cap, wa, hrun, hoa, hga, hwa⟩ := ex_app j0 j6 u1 u2 d3 e4 m4 k4 hown7 (by have := h.sm.1; have := h.rd.lt; have := (unhide HT).len; omega) (by omega)
            have R1 := hide hrun
            have HQ := hide (And.intro hb97 (And.intro hle7 (And.intro hR7 (And.intro hv7 (And.intro hch (And.intro hoa (And.intro hga (And.intro hwa hown7))))))))
            clear hb7 hle7 hR7 hv7 hch h hb97 hown7 hs97 hsw hrun hoa hga hwa HC2 hX
            go_wp2_with (at_builtin; refine app_run _ _ _ rfl rfl rfl rfl (unhide R1) ?_; clear R1)
            obtain ⟨hb97, hle7, hR7, hv7, hch, hoa, hga, hwa, hown7⟩ := unhide HQ
            have h := unhide H9
            have hs8 := (unhide H8).1.size
            have hs97 := hb97.size
            have hlt9 := h.own.lt
            have hblk : ∀ k, k < w7.heap.size → (Value.slice a m c).ownBlock ≠ some k → wa.heap[k]? = w7.heap[k]? := fun k hk hne => by
              rw [hga.block k (by simp; omega) (fun e => hne e.symm)]
              exact ((Below.refl _ w7).alloc (Nat.le_refl _) _).block k hk
            have hsa : w7.heap.size ≤ wa.heap.size := by have := hga.size; simp at this; omega
            have hbw7 : But r w w7 := h.but.trans hb97
            have hown_lo : ∀ k, k < w.heap.size → (Value.slice a m c).ownBlock ≠ some k := fun k hk e => by have := (hlt9 k e).1; omega
            have hbwa : But r w wa := ⟨hga.os.trans hbw7.os, hga.tape.trans hbw7.tape, hga.output.trans hbw7.output, Nat.le_trans hbw7.size hsa, fun k hk hne => (hblk k (Nat.lt_of_lt_of_le hk hbw7.size) (hown_lo k hk)).trans (hbw7.block k hk hne)⟩
            have hRa : RD wa r ts q7 d := by
              obtain ⟨⟨g0, c0, h1, h2, h3, h4⟩, h5⟩ := hR7
              refine ⟨⟨g0, c0, (hblk r (blk h1).1 (hown_lo r hr)).trans h1, h2, h3, fun j x hx => range_same (h4 j x hx) (hblk g0 (by have := (blk h1).1; omega) (hown_lo g0 (by omega)))⟩, h5⟩
            have hgne : ∀ b, b < w7.heap.size → (Value.slice a m c).ownBlock ≠ some b → (Value.slice (some ⟨g, 0, none⟩) (l.length + 1) cap).ownBlock ≠ some b := fun b hb hne e => by
              have e2 : g = b := by simpa [Value.ownBlock] using e
              rcases hwa with hw | hw
              · exact hne (by rw [hw, e2])
              · omega
            refine ⟨⟨l ++ [t7], vs ++ [[.int .i64 j0, .string u1, .string u2, .bool d3, .slice e4 m4 k4, .int .i64 0, .int .i64 j6]], q7, n, _, _, _, rfl, by simp, ?_⟩, ?_⟩
            · refine ⟨hbwa, hRa, ?_, by simp [h.len], ?_, ?_, ⟨by have := h.le; omega, by have := h.le; omega⟩, by have := h.fu; omega, hch, by simp; have := h.sm.1; omega, by simp⟩
              · simpa using hoa
              · intro x hx
                rcases List.mem_append.1 hx with hx | hx
                · exact h.seven x hx
                · obtain rfl := List.mem_singleton.1 hx
                  rfl
              · intro j x t' hx ht
                rcases Nat.lt_or_ge j l.length with hj | hj
                · rw [List.getElem?_append_left (by rw [h.len]; exact hj)] at hx
                  rw [List.getElem?_append_left hj] at ht
                  have k1 := (h.tr j x t' hx ht).bnd
                  have k2 := k1.keep (w' := w7) (P' := fun b => (w.heap.size ≤ b ∧ (Value.slice a m c).ownBlock ≠ some b) ∧ b < w7.heap.size) ⟨hs97, fun k hk hs => hb97.block k hs (by omega)⟩ fun b hb => ⟨hb.1, by omega⟩
                  exact k2.keep ⟨hsa, fun k hk hs => hblk k hs hk.1.2⟩ fun b hb => ⟨hb.1.1, hgne b hb.2 hb.1.2⟩
                · have hjl : j = l.length := by
                    have := (List.getElem?_eq_some_iff.1 ht).1
                    simp at this
                    omega
                  subst hjl
                  rw [List.getElem?_append_right (by rw [h.len]; exact Nat.le_refl _), h.len, Nat.sub_self] at hx
                  rw [List.getElem?_append_right (Nat.le_refl _), Nat.sub_self] at ht
                  obtain rfl := Option.some.inj hx
                  obtain rfl := Option.some.inj ht
                  have hne8 : ∀ b, w8.heap.size ≤ b → (Value.slice a m c).ownBlock ≠ some b := fun b hb e => by have := (hlt9 b e).2; omega
                  exact (IsEP.bnd hv7).keep ⟨hsa, fun k hk hs => hblk k hs (hne8 k hk.1)⟩ fun b hb => ⟨by have := hb.1; have := h.but.size; omega, hgne b hb.2 (hne8 b hb.1)⟩
            · have hqn : wa.cell? ⟨r, 1, none⟩ = some (.int .i64 (q7 : Int)) := by
                obtain ⟨g', c', p0, p1, -⟩ := hRa.facts (Below.refl _ _)
                exact p1
              have e1 : intOf ((wa.cell? ⟨r, 1, none⟩).getD undef) = (q7 : Int) := by rw [hqn]; rfl
              have e2 : intOf ((wr.cell? ⟨r, 1, none⟩).getD undef) = (q : Int) := by rw [unhide hqo]; rfl
              have hlt := h.rd.lt
              rw [e1, e2]
              omega
end Go.Proofs.YtfkfnbehdcmgeaaGreatDoor

/- Package parse: calls. -/
namespace Go.Proofs.YtfkfnbehdcmgeaaGreatDoor
open Go Go.RowKit
theorem IsLs.form {w : World} {lo : Nat} {v : Value} {l : List Ex} (h : IsLs w lo v l) : ∃ (a : Option Addr) (n c : Nat), v = .slice a n c := by
  obtain ⟨k, a, c, e, -⟩ := h
  exact ⟨_, _, _, e⟩
set_option maxRecDepth 100000 in
set_option maxHeartbeats 8000000 in
theorem call_of {r d lo : Nat} {ts : List (Int × ByteArray × Int)} {g : Ru → Nat → Nat → (Except (Int × Int) (Ex × Nat))} (hT : TsOk ts) (hE : RuC 59 r ts d (lo + 1) (g .rE d)) {w : World} {p : Nat} (hlo : lo ≤ p) (hp1 : p + 1 < ts.length) (hR : RD w r ts p d) : Calls Tryz.prog 130 #[.pointer (some ⟨r, 0, none⟩)] w (PE (callR ts g d p) r ts p d w) := by
  obtain ⟨Y, hY⟩ : ∃ Y, callR ts g d p = Y := ⟨_, rfl⟩
  rw [hY]
  unfold callR at hY
  have hr := hR.rlt
  obtain ⟨A, eA, hbA, hzA, hsA⟩ := zb_new w
  have HB := hide (But.of (r := r) hbA)
  have HR := hide (hR.keep hbA)
  have HZ := hide hzA
  have HS : Hid (w.heap.size < A.heap.size) := by show _ < _; omega
  have HL : Hid (p ≤ p ∧ lo ≤ p) := ⟨Nat.le_refl _, hlo⟩
  have HSA := hide hsA
  have HE := hide eA
  have HT := hide hT
  have HY := hide hY
  have hrne : r ≠ w.heap.size := by omega
  have hmf : ∀ (fn : Fn) (first cap : Array Value) (w : World), (Instr.makeFunc fn first cap).run Tryz.prog w = .ok (.func fn first cap) w := fun _ _ _ _ => rfl
  replace hE := hide hE
  replace hp1 := hide hp1
  clear hlo hR hbA hzA hsA eA hT hY
  go_enter Tryz.func130, Tryz.ntmps130
  have HC0 := hide (take_any (unhide HR) (unhide HT) (unhide hp1))
  unfold tkV at HC0
  obtain ⟨⟨kk0, T0, at0⟩, hN0⟩ : ∃ X, nx ts p = X := ⟨_, rfl⟩
  rw [hN0] at HC0
  have HN0 := hide hN0
  clear hN0
  go_wp2_with fail
  rw [unhide HE]
  refine (unhide HC0).mono ?_
  rintro e w0 ⟨rfl, hb0, hR0⟩
  replace HB := hide ((unhide HB).trans hb0)
  replace HZ := hide ((unhide HZ).but hb0 hrne)
  replace HS := hide (Nat.lt_of_lt_of_le (unhide HS) hb0.size)
  replace HR := hide hR0
  replace HL : Hid (p ≤ p + 1 ∧ lo + 1 ≤ p + 1) := And.intro (Nat.le_succ_of_le (unhide HL).1) (Nat.succ_le_succ (unhide HL).2)
  clear hb0 hR0 HC0
  obtain ⟨B1, eB1, hbB1, hsB1, hhB1⟩ := box_new w0 #[.int .i64 kk0, .string T0, .int .i64 at0] 74
  have ne1 : r ≠ w0.heap.size := by have := unhide HS; omega
  have HQHX1 := HS
  have hbu2 := But.of (r := r) hbB1
  replace HR := hide ((unhide HR).keep hbB1)
  replace HB := hide ((unhide HB).trans hbu2)
  replace HZ := hide ((unhide HZ).but hbu2 hrne)
  replace HS := hide (Nat.lt_of_lt_of_le (unhide HS) hbu2.size)
  have HX1 := hide hhB1
  have HEB1 := hide eB1
  have HSB1 := hide hsB1
  clear eB1 hbB1 hhB1 hsB1
  have htx : txt ts p = T0 := by unfold txt; rw [unhide HN0]
  have hYt := unhide HY
  rw [htx] at hYt
  replace HY := hide hYt
  clear htx hYt
  have HC3 := hide (must_any (unhide HR) (unhide HT) (s := ⟨#[40]⟩) (by decide))
  go_wp2_with fail
  rw [unhide HEB1]
  refine (unhide HC3).mono ?_
  intro e w3 h3
  rcases hX3 : mustR ts ⟨#[40]⟩ (p + 1) with er | ⟨t3, q3⟩
  · rw [hX3] at h3
    obtain ⟨ei, en⟩ := er
    have hYe : Y = .error (ei, en) := by have h := unhide HY; rw [hX3] at h; exact h.symm
    subst hYe
    obtain ⟨hb3, h3⟩ := h3
    obtain rfl : e = _ := h3
    have HP := hide ((unhide HB).trans hb3)
    clear hb3 HC3 hX3
    go_wp2
    exact ⟨rfl, unhide HP, rfl⟩
  rw [hX3] at h3
  obtain ⟨hb3, hle3, hR3, v3, rfl, hv3⟩ := h3
  have hY3 := unhide HY
  rw [hX3] at hY3
  simp only [thenR] at hY3
  replace HY := hide hY3
  clear hY3
  obtain rfl : v3 = _ := hv3
  replace HB := hide ((unhide HB).trans hb3)
  replace HZ := hide ((unhide HZ).but hb3 hrne)
  replace HX1 := hide ((hb3.block _ (blk (unhide HX1)).1 (Ne.symm ne1)).trans (unhide HX1))
  replace HS := hide (Nat.lt_of_lt_of_le (unhide HS) hb3.size)
  replace HR := hide hR3
  replace HL := hide (And.intro (Nat.le_trans (unhide HL).1 hle3) (Nat.le_trans (unhide HL).2 hle3))
  clear hb3 hle3 hR3 HC3 hX3
  have HC4 := hide (takeIf_any (unhide HR) (unhide HT) (s := ⟨#[41]⟩) (by decide))
  obtain ⟨bo4, hbo4⟩ : ∃ b, sees ts (q3) ⟨#[41]⟩ = b := ⟨_, rfl⟩
  rw [hbo4] at HC4
  have hY4 := unhide HY
  rw [hbo4] at hY4
  replace HY := hide hY4
  have HO4 := hide hbo4
  clear hY4 hbo4
  go_wp2_with fail
  refine (unhide HC4).mono ?_
  rintro e w4 ⟨rfl, hb4, hR4⟩
  replace HB := hide ((unhide HB).trans hb4)
  replace HZ := hide ((unhide HZ).but hb4 hrne)
  replace HX1 := hide ((hb4.block _ (blk (unhide HX1)).1 (Ne.symm ne1)).trans (unhide HX1))
  replace HS := hide (Nat.lt_of_lt_of_le (unhide HS) hb4.size)
  replace HR := hide hR4
  clear hb4 hR4 HC4
  rcases bo4 with _ | _
  rotate_left
  · have hY4 := unhide HY
    simp only [if_true] at hY4
    replace HY := hide hY4
    have hRR := unhide HR
    rw [if_pos rfl] at hRR
    replace HR := hide hRR
    clear hY4 hRR
    replace HL : Hid (p ≤ q3 + 1 ∧ lo + 1 ≤ q3 + 1) := And.intro (Nat.le_succ_of_le (unhide HL).1) (Nat.le_succ_of_le (unhide HL).2)
    have u01 := (blk (unhide HX1)).2.1 0 _ rfl
    have u11 := (blk (unhide HX1)).2.1 1 _ rfl
    have u21 := (blk (unhide HX1)).2.1 2 _ rfl
    have HC5 := hide (named_any 21 kk0 at0 T0 T0 none 0 0 w4)
    go_wp2_with fail
    refine (unhide HC5).mono ?_
    rintro e w5 ⟨rfl, hb5⟩
    have hbu6 := But.of (r := r) hb5
    replace HR := hide ((unhide HR).keep hb5)
    replace HB := hide ((unhide HB).trans hbu6)
    replace HZ := hide ((unhide HZ).but hbu6 hrne)
    replace HX1 := hide ((hbu6.block _ (blk (unhide HX1)).1 (Ne.symm ne1)).trans (unhide HX1))
    replace HS := hide (Nat.lt_of_lt_of_le (unhide HS) hbu6.size)
    clear hb5 HC5
    obtain ⟨y0, y1, y2, y3, y4, y5, y6⟩ := blk7 (unhide HZ)
    obtain ⟨z0, z1, z2, z3, z4, z5, z6⟩ := frz7 (unhide HZ)
    have HNode := hide (leaf (W := w5) (lo := w.heap.size + 1) 21 at0 T0 ⟨#[]⟩ false)
    go_wp2
    exact ret_put rfl rfl rfl (unhide HB) hr (unhide HZ) (by have h := unhide HY; rw [unhide HN0] at h; exact h.symm) (unhide HL).1 (unhide HR) (Nat.lt_succ_self _) (unhide HNode)
  have hY4 := unhide HY
  simp only [Bool.false_eq_true, if_false] at hY4
  replace HY := hide hY4
  have hRR := unhide HR
  rw [if_neg Bool.false_ne_true] at hRR
  replace HR := hide hRR
  clear hY4 hRR
  have HC7 := hide (exprs_of (unhide HT) (unhide hE) (by decide : 8 ≤ 1000000) (unhide HL).2 (unhide HR))
  go_wp2_with fail
  refine (unhide HC7).mono ?_
  intro e w7 h7
  rcases hX7 : exprsR ts (g .rE d) 8 (q3) with er | ⟨t7, q7⟩
  · rw [hX7] at h7
    obtain ⟨ei, en⟩ := er
    have hYe : Y = .error (ei, en) := by have h := unhide HY; rw [hX7] at h; exact h.symm
    subst hYe
    obtain ⟨hb7, h7⟩ := h7
    obtain rfl : e = _ := h7
    have HP := hide ((unhide HB).trans hb7)
    clear hb7 HC7 hX7
    go_wp2
    exact ⟨rfl, unhide HP, rfl⟩
  rw [hX7] at h7
  obtain ⟨hb7, hle7, hR7, v7, rfl, hv7⟩ := h7
  have hY7 := unhide HY
  rw [hX7] at hY7
  simp only [thenR] at hY7
  replace HY := hide hY7
  clear hY7
  obtain ⟨a7, n7, c7, rfl⟩ := IsLs.form hv7
  have HT7 := hide (IsLs.keep (lo' := w.heap.size + 1) hv7 (Stays.of (Below.refl _ _)) (unhide HS))
  replace HB := hide ((unhide HB).trans hb7)
  replace HZ := hide ((unhide HZ).but hb7 hrne)
  replace HX1 := hide ((hb7.block _ (blk (unhide HX1)).1 (Ne.symm ne1)).trans (unhide HX1))
  replace HS := hide (Nat.lt_of_lt_of_le (unhide HS) hb7.size)
  replace HR := hide hR7
  replace HL := hide (And.intro (Nat.le_trans (unhide HL).1 hle7) (Nat.le_trans (unhide HL).2 hle7))
  clear hb7 hle7 hR7 hv7 HC7 hX7
  have HC8 := hide (must_any (unhide HR) (unhide HT) (s := ⟨#[41]⟩) (by decide))
  go_wp2_with fail
  refine (unhide HC8).mono ?_
  intro e w8 h8
  rcases hX8 : mustR ts ⟨#[41]⟩ (q7) with er | ⟨t8, q8⟩
  · rw [hX8] at h8
    obtain ⟨ei, en⟩ := er
    have hYe : Y = .error (ei, en) := by have h := unhide HY; rw [hX8] at h; exact h.symm
    subst hYe
    obtain ⟨hb8, h8⟩ := h8
    obtain rfl : e = _ := h8
    have HP := hide ((unhide HB).trans hb8)
    clear hb8 HC8 hX8
    go_wp2
    exact ⟨rfl, unhide HP, rfl⟩
  rw [hX8] at h8
  obtain ⟨hb8, hle8, hR8, v8, rfl, hv8⟩ := h8
  have hY8 := unhide HY
  rw [hX8] at hY8
  simp only [thenR] at hY8
  replace HY := hide hY8
  clear hY8
  obtain rfl : v8 = _ := hv8
  replace HB := hide ((unhide HB).trans hb8)
  replace HZ := hide ((unhide HZ).but hb8 hrne)
  replace HX1 := hide ((hb8.block _ (blk (unhide HX1)).1 (Ne.symm ne1)).trans (unhide HX1))
  replace HT7 := hide ((unhide HT7).keep (Stays.but hb8 (Nat.lt_succ_of_lt hr)) (Nat.le_refl _))
  replace HS := hide (Nat.lt_of_lt_of_le (unhide HS) hb8.size)
  replace HR := hide hR8
  replace HL := hide (And.intro (Nat.le_trans (unhide HL).1 hle8) (Nat.le_trans (unhide HL).2 hle8))
  clear hb8 hle8 hR8 HC8 hX8
  have u01 := (blk (unhide HX1)).2.1 0 _ rfl
  have u11 := (blk (unhide HX1)).2.1 1 _ rfl
  have u21 := (blk (unhide HX1)).2.1 2 _ rfl
  have HC9 := hide (named_any 21 kk0 at0 T0 T0 a7 n7 c7 w8)
  go_wp2_with fail
  refine (unhide HC9).mono ?_
  rintro e w9 ⟨rfl, hb9⟩
  have hbu10 := But.of (r := r) hb9
  replace HR := hide ((unhide HR).keep hb9)
  replace HB := hide ((unhide HB).trans hbu10)
  replace HZ := hide ((unhide HZ).but hbu10 hrne)
  replace HX1 := hide ((hbu10.block _ (blk (unhide HX1)).1 (Ne.symm ne1)).trans (unhide HX1))
  replace HT7 := hide ((unhide HT7).keep (Stays.but hbu10 (Nat.lt_succ_of_lt hr)) (Nat.le_refl _))
  replace HS := hide (Nat.lt_of_lt_of_le (unhide HS) hbu10.size)
  clear hb9 HC9
  obtain ⟨y0, y1, y2, y3, y4, y5, y6⟩ := blk7 (unhide HZ)
  obtain ⟨z0, z1, z2, z3, z4, z5, z6⟩ := frz7 (unhide HZ)
  have HNode := hide ((unhide HT7).node 21 at0 T0 ⟨#[]⟩ false)
  go_wp2
  exact ret_put rfl rfl rfl (unhide HB) hr (unhide HZ) (by have h := unhide HY; rw [unhide HN0] at h; exact h.symm) (unhide HL).1 (unhide HR) (Nat.lt_succ_self _) (unhide HNode)
end Go.Proofs.YtfkfnbehdcmgeaaGreatDoor

/- Package parse: all rules of expressions. -/
namespace Go.Proofs.YtfkfnbehdcmgeaaGreatDoor
open Go Go.RowKit
theorem enter_within : Enters Tryz.prog 75 := ⟨fun xs w => by go_simp⟩
/-- The three rules that are one deeper, from a place on. -/
def GC (r : Nat) (ts : List (Int × ByteArray × Int)) (f d lo : Nat) : Prop :=
  RuC 59 r ts d lo (gR ts f .rE d) ∧ RuC 127 r ts d lo (gR ts f .rU d) ∧
  ∀ (w : World) (p : Nat), lo ≤ p → RD w r ts p d → Calls Tryz.prog 73 #[.pointer (some ⟨r, 0, none⟩), .bool (begU ts p), .func (.func 115) #[.pointer (some ⟨r, 0, none⟩)] #[]] w (PE (gR ts f .rI d p) r ts p d w)
theorem rules_all {r : Nat} {ts : List (Int × ByteArray × Int)} (hT : TsOk ts) : ∀ (f d lo : Nat), ts.length ≤ lo + f → d + f ≤ 1000000 → GC r ts f d lo
  | 0, d, lo, hf, _ => ⟨fun w p hlo hR => absurd hR.lt (by omega), fun w p hlo hR => absurd hR.lt (by omega), fun w p hlo hR => absurd hR.lt (by omega)⟩
  | f + 1, d, lo, hf, hd => by
    obtain ⟨hE, hU, hI⟩ := rules_all hT f (d + 1) (lo + 1) (by omega) (by omega)
    have hd' : d ≤ 1000000 := by omega
    have hPr : RuC 128 r ts (d + 1) lo (primR ts (gR ts f) (d + 1)) := fun w p hlo hR =>
      primary_of hT (fun w p kk ai T hlo hR => bracketed_of hT hE hlo hR) (fun w p hlo hp1 _ hR => call_of hT hE hlo hp1 hR) hlo hR
    have hUn : RuC 126 r ts (d + 1) lo (unaryR ts (gR ts f) (d + 1)) := fun w p hlo hR => unary_of hT hU hPr hlo hR
    have hTe : RuC 125 r ts (d + 1) lo (termR ts (gR ts f) (d + 1)) := fun w p hlo hR => term_of hT hUn hlo hR
    have hSu : RuC 124 r ts (d + 1) lo (sumR ts (gR ts f) (d + 1)) := fun w p hlo hR => sum_of hT hTe hlo hR
    have hCm : RuC 122 r ts (d + 1) lo (cmpR ts (gR ts f) (d + 1)) := fun w p hlo hR => cmp_of hT hSu hlo hR
    have hAn : RuC 120 r ts (d + 1) lo (andR ts (gR ts f) (d + 1)) := fun w p hlo hR => and_of hT hCm hlo hR
    have hOr : RuC 117 r ts (d + 1) lo (orR ts (gR ts f) (d + 1)) := fun w p hlo hR => or_of hT hAn hlo hR
    have hIm : RuC 115 r ts (d + 1) lo (impR ts (gR ts f) (d + 1)) := fun w p hlo hR => imp_of hT hOr hI hlo hR
    have hPa : RuC 112 r ts (d + 1) lo (partR ts (gR ts f) (d + 1)) := fun w p hlo hR => part_of hT hIm hlo hR
    have hSe : RuC 98 r ts (d + 1) lo (seqR ts (gR ts f) (d + 1)) := fun w p hlo hR => sequence_of hT hPa hE hlo hR
    have hWi : RuC 75 r ts (d + 1) lo (withinR ts (gR ts f) (d + 1)) := fun w p hlo hR =>
      within_of hT (fun w p hlo hp1 hR => branch_of hT hE hlo hp1 hR) (fun w p hlo hp1 hR => binding_of hT hE hlo hp1 hR) (fun w p hlo hp1 hR => handler_of hT hE hlo hp1 hR) hSe hlo hR
    refine ⟨?_, ?_, fun w p hlo hR => ?_⟩
    · exact expr_of hT hd' enter_within hWi
    · exact unb_of hT hd' enter_unary hUn
    · exact nested_any hR hT (begU ts p) hd' enter_imp hIm hlo
end Go.Proofs.YtfkfnbehdcmgeaaGreatDoor

/- Package parse as plain Lean: programs. -/
namespace Go.Proofs.YtfkfnbehdcmgeaaGreatDoor
/-- A type: its kind, its name, what holds of it, its place. -/
structure Ty where
  kind : Int
  name : ByteArray
  r : List Ex
  at' : Int
/-- A parameter: its name, its type, its place. -/
structure Pm where
  name : ByteArray
  t : Ty
  at' : Int
/-- A declaration. -/
structure De where
  cell : Bool
  name : ByteArray
  num : ByteArray
  again : Bool
  ps : List Pm
  eff : Int
  t : Ty
  req : List Ex
  res : ByteArray
  ens : List Ex
  mea : List Ex
  body : Ex
  at' : Int
def zEx : Ex := .mk 0 ⟨#[]⟩ ⟨#[]⟩ false [] 0
def zTy : Ty := .mk 0 ⟨#[]⟩ [] 0
def kindD (s : ByteArray) : Int := if s = ⟨#[105, 110, 116]⟩ then 1 else if s = ⟨#[98, 111, 111, 108]⟩ then 2 else if s = ⟨#[117, 110, 105, 116]⟩ then 3 else 0
def effD (s : ByteArray) : Int := if s = ⟨#[80, 117, 114, 101]⟩ then 1 else if s = ⟨#[83, 116, 97, 116, 101]⟩ then 2 else if s = ⟨#[69, 120, 110]⟩ then 3 else if s = ⟨#[65, 108, 108]⟩ then 4 else if s = ⟨#[68, 105, 118]⟩ then 5 else 0
section
variable (ts : List (Int × ByteArray × Int))
def exR (p : Nat) : (Except (Int × Int) (Ex × Nat)) := gR ts ts.length .rE 0 p
def endR (p : Nat) : (Except (Int × Int) (Unit × Nat)) := if (nx ts p).1 = 0 then .ok ((), p) else bad ts p 150
/-- An expression and the end. -/
def aloneP (p : Nat) : (Except (Int × Int) (Ex × Nat)) := thenR (exR ts p) fun x q => thenR (endR ts q) fun _ z => .ok (x, z)
def refR (p : Nat) : (Except (Int × Int) (Ty × Nat)) := thenR (mustBeR ts 1 (p + 1)) fun n q => thenR (mustR ts ⟨#[58]⟩ q) fun _ q => thenR (mustR ts ⟨#[105, 110, 116]⟩ q) fun _ q => thenR (mustR ts ⟨#[124]⟩ q) fun _ q => thenR (exR ts q) fun x q => thenR (mustR ts ⟨#[125]⟩ q) fun _ q => .ok (.mk 1 n.2.1 [x] (nx ts p).2.2, q)
def typeR (p : Nat) : (Except (Int × Int) (Ty × Nat)) := if sees ts p ⟨#[123]⟩ then refR ts p else if kindD (txt ts p) = 0 then bad ts p 150 else .ok (.mk (kindD (txt ts p)) ⟨#[]⟩ [] (nx ts p).2.2, p + 1)
def effR (p : Nat) : (Except (Int × Int) (Int × Nat)) := if effD (txt ts p) = 0 then bad ts p 150 else .ok (effD (txt ts p), p + 1)
def paramR (p : Nat) : (Except (Int × Int) (Pm × Nat)) := thenR (mustR ts ⟨#[40]⟩ p) fun _ q => thenR (mustBeR ts 1 q) fun n q => thenR (mustR ts ⟨#[58]⟩ q) fun _ q => thenR (typeR ts q) fun t q => thenR (mustR ts ⟨#[41]⟩ q) fun _ q => .ok (.mk n.2.1 t n.2.2, q)
def paramsL : Nat → List Pm → Nat → (Except (Int × Int) ((List Pm) × Nat))
  | 0, out, p => .ok (out, p)
  | n + 1, out, p => if sees ts p ⟨#[40]⟩ then (if out.length = 8 then bad ts p 152 else thenR (paramR ts p) fun x q => paramsL n (out ++ [x]) q) else .ok (out, p)
def paramsR (p : Nat) : (Except (Int × Int) ((List Pm) × Nat)) := paramsL ts ts.length [] p
def reqR (p : Nat) : (Except (Int × Int) ((List Ex) × Nat)) := if sees ts p ⟨#[114, 101, 113, 117, 105, 114, 101, 115]⟩ then thenR (exR ts (p + 1)) fun x q => .ok ([x], q) else .ok ([], p)
def ensR (p : Nat) : (Except (Int × Int) ((ByteArray × List Ex) × Nat)) := if sees ts p ⟨#[101, 110, 115, 117, 114, 101, 115]⟩ then thenR (mustBeR ts 1 (p + 1)) fun n q => thenR (mustR ts ⟨#[46]⟩ q) fun _ q => thenR (exR ts q) fun x q => .ok ((n.2.1, [x]), q) else .ok ((⟨#[]⟩, []), p)
def meaR (p : Nat) : (Except (Int × Int) ((List Ex) × Nat)) := if sees ts p ⟨#[100, 101, 99, 114, 101, 97, 115, 101, 115]⟩ then exprsR ts (exR ts) 65536 (p + 1) else .ok ([], p)
/-- What is required, the result's name, what is ensured, the measure. -/
def contR (p : Nat) : (Except (Int × Int) ((List Ex × ByteArray × List Ex × List Ex) × Nat)) := thenR (reqR ts p) fun a q => thenR (ensR ts q) fun b q => thenR (meaR ts q) fun c q => .ok ((a, b.1, b.2, c), q)
def defR (p : Nat) : (Except (Int × Int) (De × Nat)) :=
  thenR (mustBeR ts 1 (if sees ts p ⟨#[114, 101, 99]⟩ then p + 1 else p)) fun n q => thenR (paramsR ts q) fun ps q => thenR (mustR ts ⟨#[58]⟩ q) fun _ q => thenR (effR ts q) fun e q => thenR (typeR ts q) fun t q => thenR (contR ts q) fun c q => thenR (mustR ts ⟨#[105, 115]⟩ q) fun _ q => thenR (exR ts q) fun x q => thenR (mustR ts ⟨#[59, 59]⟩ q) fun _ q =>
    .ok (.mk false n.2.1 ⟨#[]⟩ (sees ts p ⟨#[114, 101, 99]⟩) ps e t c.1 c.2.1 c.2.2.1 c.2.2.2 x n.2.2, q)
def cellN (below : Bool) (n : ByteArray) : ByteArray := if below ∧ n ≠ ⟨#[48]⟩ then ⟨#[45]⟩ ++ n else n
def cellR (p : Nat) : (Except (Int × Int) (De × Nat)) :=
  thenR (mustBeR ts 1 p) fun n q => thenR (mustR ts ⟨#[58, 61]⟩ q) fun _ q => thenR (mustBeR ts 3 (if sees ts q ⟨#[45]⟩ then q + 1 else q)) fun k z => thenR (mustR ts ⟨#[59, 59]⟩ z) fun _ z =>
    .ok (.mk true n.2.1 (cellN (sees ts q ⟨#[45]⟩) k.2.1) false [] 0 zTy [] ⟨#[]⟩ [] [] zEx n.2.2, z)
def declR (p : Nat) : (Except (Int × Int) (De × Nat)) := if sees ts p ⟨#[114, 101, 102]⟩ then cellR ts (p + 1) else thenR (mustR ts ⟨#[108, 101, 116]⟩ p) fun _ q => defR ts q
def progL : Nat → List De → Nat → (Except (Int × Int) ((List De) × Nat))
  | 0, out, p => .ok (out, p)
  | n + 1, out, p => if ([⟨#[114, 101, 102]⟩, ⟨#[108, 101, 116]⟩] : List ByteArray).any (sees ts p) then (if out.length = 100 then bad ts p 152 else thenR (declR ts p) fun x q => progL n (out ++ [x]) q) else .ok (out, p)
def progR (p : Nat) : (Except (Int × Int) ((List De) × Nat)) := thenR (progL ts ts.length [] p) fun l q => thenR (endR ts q) fun _ z => .ok (l, z)
end
end Go.Proofs.YtfkfnbehdcmgeaaGreatDoor

/- Package parse: an expression and the end. -/
namespace Go.Proofs.YtfkfnbehdcmgeaaGreatDoor
open Go Go.RowKit
set_option maxRecDepth 100000 in
set_option maxHeartbeats 4000000 in
theorem mustEnd_any {w : World} {r p d : Nat} {ts : List (Int × ByteArray × Int)} (hR : RD w r ts p d) (hT : TsOk ts) : Calls Tryz.prog 46 #[.pointer (some ⟨r, 0, none⟩)] w (RP UnOk (endR ts p) r ts p d w) := by
  have HS := hide (next_any hR hT)
  obtain ⟨X, hX⟩ : ∃ X, endR ts p = X := ⟨_, rfl⟩
  rw [hX]
  unfold endR at hX
  have HT := hide (And.intro hR hT)
  unfold tkV at HS
  obtain ⟨⟨kk, T, i⟩, hN⟩ : ∃ Y, nx ts p = Y := ⟨_, rfl⟩
  rw [hN] at HS
  have HA := hide (And.intro hX hN)
  have h0 := fld0 (.int .i64 kk) (.string T) (.int .i64 i)
  clear hR hT hX hN
  by_cases hkk : kk = 0
  · subst hkk
    go_enter Tryz.func46, Tryz.ntmps46
    go_wp2_with fail
    refine (unhide HS).mono ?_
    rintro e w2 ⟨rfl, hb2⟩
    have HB2 := hide hb2
    clear hb2 HS
    go_wp2
    obtain ⟨hX, hN⟩ := unhide HA
    obtain ⟨hR, hT⟩ := unhide HT
    rw [hN, if_pos rfl] at hX
    obtain rfl := hX
    refine bodyPost_ret (results_none rfl _ _ _) rfl ?_
    exact ⟨But.of (unhide HB2), Nat.le_refl _, hR.keep (unhide HB2), _, rfl, rfl⟩
  · have g0 : decide (kk = 0) = false := by simpa using hkk
    go_enter Tryz.func46, Tryz.ntmps46
    go_wp2_with fail
    refine (unhide HS).mono ?_
    rintro e w2 ⟨rfl, hb2⟩
    have HRf := hide (refused_any ((unhide HT).1.keep hb2) (unhide HT).2 150)
    have HB2 := hide hb2
    clear hb2 HS
    go_wp2_with fail
    refine (unhide HRf).mono ?_
    rintro e w3 ⟨rfl, hb3⟩
    have HB3 := hide hb3
    clear hb3 HRf
    go_wp2
    obtain ⟨hX, hN⟩ := unhide HA
    rw [hN, if_neg hkk] at hX
    obtain rfl := hX
    refine ⟨rfl, (But.of (unhide HB2)).trans (But.of (unhide HB3)), ?_⟩
    rfl
set_option maxRecDepth 100000 in
set_option maxHeartbeats 8000000 in
theorem alone_of {r d lo : Nat} {ts : List (Int × ByteArray × Int)} {g : Ru → Nat → Nat → (Except (Int × Int) (Ex × Nat))} (hT : TsOk ts) (hE : RuC 59 r ts d lo (exR ts)) {w : World} {p : Nat} (hlo : lo ≤ p) (hR : RD w r ts p d) : Calls Tryz.prog 36 #[.pointer (some ⟨r, 0, none⟩)] w (PE (aloneP ts p) r ts p d w) := by
  obtain ⟨Y, hY⟩ : ∃ Y, aloneP ts p = Y := ⟨_, rfl⟩
  rw [hY]
  unfold aloneP at hY
  have hr := hR.rlt
  obtain ⟨A, eA, hbA, hzA, hsA⟩ := zb_new w
  have HB := hide (But.of (r := r) hbA)
  have HR := hide (hR.keep hbA)
  have HZ := hide hzA
  have HS : Hid (w.heap.size < A.heap.size) := by show _ < _; omega
  have HL : Hid (p ≤ p ∧ lo ≤ p) := ⟨Nat.le_refl _, hlo⟩
  have HSA := hide hsA
  have HE := hide eA
  have HT := hide hT
  have HY := hide hY
  have hrne : r ≠ w.heap.size := by omega
  have hmf : ∀ (fn : Fn) (first cap : Array Value) (w : World), (Instr.makeFunc fn first cap).run Tryz.prog w = .ok (.func fn first cap) w := fun _ _ _ _ => rfl
  replace hE := hide hE
  clear hlo hR hbA hzA hsA eA hT hY
  go_enter Tryz.func36, Tryz.ntmps36
  have HC0 := hide (unhide hE A (p) (unhide HL).2 (unhide HR))
  go_wp2_with fail
  rw [unhide HE]
  refine (unhide HC0).mono ?_
  intro e w0 h0
  rcases hX0 : exR ts (p) with er | ⟨t0, q0⟩
  · rw [hX0] at h0
    obtain ⟨ei, en⟩ := er
    have hYe : Y = .error (ei, en) := by have h := unhide HY; rw [hX0] at h; exact h.symm
    subst hYe
    obtain ⟨hb0, h0⟩ := h0
    obtain rfl : e = _ := h0
    have HP := hide ((unhide HB).trans hb0)
    clear hb0 HC0 hX0
    go_wp2
    exact ⟨rfl, unhide HP, rfl⟩
  rw [hX0] at h0
  obtain ⟨hb0, hle0, hR0, v0, rfl, hv0⟩ := h0
  have hY0 := unhide HY
  rw [hX0] at hY0
  simp only [thenR] at hY0
  replace HY := hide hY0
  clear hY0
  obtain ⟨i0, j0, s0, m0, b0, a0, n0, c0, rfl⟩ := hv0.form
  have HT0 := hide (hv0.keep (lo' := w.heap.size + 1) (Stays.of (Below.refl _ _)) (unhide HS))
  replace HB := hide ((unhide HB).trans hb0)
  replace HZ := hide ((unhide HZ).but hb0 hrne)
  replace HS := hide (Nat.lt_of_lt_of_le (unhide HS) hb0.size)
  replace HR := hide hR0
  replace HL := hide (And.intro (Nat.le_trans (unhide HL).1 hle0) (Nat.le_trans (unhide HL).2 hle0))
  clear hb0 hle0 hR0 hv0 HC0 hX0
  obtain ⟨B1, eB1, hbB1, hsB1, hhB1⟩ := box_new w0 #[.int .i64 i0, .string s0, .string m0, .bool b0, .slice a0 n0 c0, .int .i64 0, .int .i64 j0] 36
  have ne1 : r ≠ w0.heap.size := by have := unhide HS; omega
  have HQHX1 := HS
  have hbu2 := But.of (r := r) hbB1
  replace HR := hide ((unhide HR).keep hbB1)
  replace HB := hide ((unhide HB).trans hbu2)
  replace HZ := hide ((unhide HZ).but hbu2 hrne)
  replace HT0 := hide ((unhide HT0).keep (Stays.but hbu2 (Nat.lt_succ_of_lt hr)) (Nat.le_refl _))
  replace HS := hide (Nat.lt_of_lt_of_le (unhide HS) hbu2.size)
  have HX1 := hide hhB1
  have HEB1 := hide eB1
  have HSB1 := hide hsB1
  clear eB1 hbB1 hhB1 hsB1
  have HC3 := hide (mustEnd_any (unhide HR) (unhide HT))
  go_wp2_with fail
  rw [unhide HEB1]
  refine (unhide HC3).mono ?_
  intro e w3 h3
  rcases hX3 : endR ts (q0) with er | ⟨t3, q3⟩
  · rw [hX3] at h3
    obtain ⟨ei, en⟩ := er
    have hYe : Y = .error (ei, en) := by have h := unhide HY; rw [hX3] at h; exact h.symm
    subst hYe
    obtain ⟨hb3, h3⟩ := h3
    obtain rfl : e = _ := h3
    have HP := hide ((unhide HB).trans hb3)
    clear hb3 HC3 hX3
    go_wp2
    exact ⟨rfl, unhide HP, rfl⟩
  rw [hX3] at h3
  obtain ⟨hb3, hle3, hR3, v3, rfl, hv3⟩ := h3
  have hY3 := unhide HY
  rw [hX3] at hY3
  simp only [thenR] at hY3
  replace HY := hide hY3
  clear hY3
  obtain rfl : v3 = _ := hv3
  replace HB := hide ((unhide HB).trans hb3)
  replace HZ := hide ((unhide HZ).but hb3 hrne)
  replace HX1 := hide ((hb3.block _ (blk (unhide HX1)).1 (Ne.symm ne1)).trans (unhide HX1))
  replace HT0 := hide ((unhide HT0).keep (Stays.but hb3 (Nat.lt_succ_of_lt hr)) (Nat.le_refl _))
  replace HS := hide (Nat.lt_of_lt_of_le (unhide HS) hb3.size)
  replace HR := hide hR3
  replace HL := hide (And.intro (Nat.le_trans (unhide HL).1 hle3) (Nat.le_trans (unhide HL).2 hle3))
  clear hb3 hle3 hR3 HC3 hX3
  obtain ⟨y01, y11, y21, y31, y41, y51, y61⟩ := blk7 (unhide HX1)
  obtain ⟨y0, y1, y2, y3, y4, y5, y6⟩ := blk7 (unhide HZ)
  obtain ⟨z0, z1, z2, z3, z4, z5, z6⟩ := frz7 (unhide HZ)
  have HNode := hide (unhide HT0)
  go_wp2
  exact ret_put rfl rfl rfl (unhide HB) hr (unhide HZ) (by have h := unhide HY; exact h.symm) (unhide HL).1 (unhide HR) (Nat.lt_succ_self _) (unhide HNode)
end Go.Proofs.YtfkfnbehdcmgeaaGreatDoor

namespace Go.Proofs.YtfkfnbehdcmgeaaGreatDoor
open Go Go.RowKit
theorem tkl_len (s : ByteArray) : (tkL s).length ≤ 65537 := by
  rw [tkL_len]
  have : (tk s).1.length ≤ 65536 := by
    unfold tk
    split
    · simp
    · have := lx_len s s.size 0
      omega
  omega
theorem tsok_of (s : ByteArray) : TsOk (tkL s) := by
  refine ⟨by have := tkl_len s; omega, by rw [tkL_len]; omega, fun j x hx hne => ?_⟩
  have hj := (List.getElem?_eq_some_iff.1 hx).1
  rw [tkL_len] at hj ⊢
  rcases Nat.lt_or_ge j (tk s).1.length with h | h
  · omega
  · have e : j = (tk s).1.length := by omega
    subst e
    unfold tkL at hx
    rw [List.getElem?_append_right (by simp)] at hx
    simp at hx
    subst hx
    rcases hne with h | h
    · exact absurd rfl h
    · exact absurd rfl h
theorem tkp_rd {s : ByteArray} {w w' : World} {e : Ending} (h : TkP s (tk s) w e w') (hn : (tk s).2 = none) : Below w.heap.size w w' ∧ ∃ g c, e = .returned (.tuple #[.slice (some ⟨g, 0, none⟩) (tkL s).length c, .nilIface]) ∧ g < w'.heap.size ∧ (tkL s).length ≤ c ∧ ∀ j x, (tkL s)[j]? = some x → w'.rangeAt g (j * 3) [.int .i64 x.1, .string x.2.1, .int .i64 x.2.2] := by
  obtain ⟨hb, v, he, hr⟩ := tkp_ok h hn
  obtain ⟨a, c, rfl, hr⟩ := hr
  obtain ⟨g, rfl, hg, hc⟩ := hr (by unfold tkL; simp)
  refine ⟨hb, g, c, he, hg, ?_, fun j x hx => ?_⟩
  · obtain ⟨_, ⟨_, v, he2, ho⟩ | ⟨a, n, b, hx, _⟩⟩ := h
    · have e1 : (Value.slice (some ⟨g, 0, none⟩) (tkL s).length c) = v := by
        rw [he] at he2
        simpa using he2
      subst e1
      obtain ⟨-, h1 | ⟨g', c', cur, e, -, -, h2, -⟩⟩ := ho
      · exact absurd h1.2 (by omega)
      · obtain ⟨-, -, rfl⟩ : g = g' ∧ _ ∧ c = c' := by simpa using e
        rw [tkL_len]
        exact h2
    · rw [hn] at hx; cases hx
  · obtain ⟨c0, c1, c2⟩ := hc j x hx
    intro i u hu
    rcases i with _ | _ | _ | i
    · obtain rfl := Option.some.inj hu
      exact c0
    · obtain rfl := Option.some.inj hu
      exact c1
    · obtain rfl := Option.some.inj hu
      exact c2
    · simp at hu
theorem heap_two {w : World} {k : Nat} (h : k < w.heap.size) (o1 o2 : Obj) : ((w.alloc o1).alloc o2).heap[k]? = w.heap[k]? :=
  (((Below.refl (w.alloc o1).heap.size (w.alloc o1)).alloc (Nat.le_refl _) o2).block k (by simp; omega)).trans (((Below.refl w.heap.size w).alloc (Nat.le_refl _) o1).block k h)
set_option maxRecDepth 100000 in
set_option maxHeartbeats 4000000 in
/-- The closure that catches, where a refusal was thrown. -/
theorem catch_panicking (wb : Nat) (old : Value) (i n : Int) (w : World) (hh : w.heap[wb]? = some (.cells #[old] 25)) :
    CallsD Tryz.prog 42 #[.pointer (some ⟨wb, 0, none⟩)] (.panicking [{ v := .iface 89 (.agg #[.int .i64 i, .int .i64 n]), recovered := false }]) w fun e u' w' =>
      e = .returned (.tuple #[]) ∧ u' = .panicking [{ v := .iface 89 (.agg #[.int .i64 i, .int .i64 n]), recovered := true }] ∧ But wb w w' ∧
      ∃ b, w'.heap[wb]? = some (.cells #[.iface 61 (.pointer (some ⟨b, 0, none⟩))] 25) ∧ w'.heap[b]? = some (.cells #[.int .i64 i, .int .i64 n] 66) := by
  refine callsD_of_wpS Tryz.func42 rfl fun c₀ cs hu => ?_
  apply wpS_seq
  apply wpS_region
  simp [wpOpsS, go_sem, recoverD, hu, Tryz.ntmps42, Exit.thenS]
  apply wpS_seq
  apply wpS_region
  simp [wpOpsS, go_sem, Exit.thenS]
  refine wpS_cond (t := true) (by simp [Act.eval, Array.replicate]) ?_
  simp only [if_true]
  refine wpS_of_wp ?_
  have elit : (#[Value.pointer (some { block := wb, off := 0 })] ++ ((((Array.replicate 14 undef).setIfInBounds 2 (Value.iface 89 (Value.agg #[Value.int IntKind.i64 i, Value.int IntKind.i64 n]))).setIfInBounds 0 (Value.iface 89 (Value.agg #[Value.int IntKind.i64 i, Value.int IntKind.i64 n]))).setIfInBounds 3 (Value.iface 89 (Value.agg #[Value.int IntKind.i64 i, Value.int IntKind.i64 n]))).setIfInBounds 4 (Value.bool true)) = #[Value.pointer (some { block := wb, off := 0 }), Value.iface 89 (Value.agg #[Value.int IntKind.i64 i, Value.int IntKind.i64 n]), undef, Value.iface 89 (Value.agg #[Value.int IntKind.i64 i, Value.int IntKind.i64 n]), Value.iface 89 (Value.agg #[Value.int IntKind.i64 i, Value.int IntKind.i64 n]), Value.bool true, undef, undef, undef, undef, undef, undef, undef, undef, undef] := rfl
  rw [elit]
  have hta : ∀ (W : World), (Instr.typeAssert (.iface 89 (.agg #[.int .i64 i, .int .i64 n])) 20 89 false).run Tryz.prog W = .ok (.agg #[.int .i64 i, .int .i64 n]) W := fun W => by rfl
  have hw1 : ∀ o1 o2, ((w.alloc o1).alloc o2).heap[wb]? = some (.cells #[old] 25) := fun o1 o2 => (heap_two (blk hh).1 o1 o2).trans hh
  have hc1 : ∀ o1 o2, ((w.alloc o1).alloc o2).cell? ⟨wb, 0, none⟩ = some old := fun o1 o2 => (blk (hw1 o1 o2)).2.1 0 _ rfl
  have hf1 : ∀ o1 o2, ((w.alloc o1).alloc o2).frozen? ⟨wb, 0, none⟩ = false := fun o1 o2 => (blk (hw1 o1 o2)).2.2 0
  have hlt := (blk hh).1
  have hw0 := hide hh
  clear hw1
  clear elit hu hh
  go_wp2
  obtain ⟨w1, hw9⟩ : ∃ w1, w.setCell ⟨wb, 0, none⟩ (.iface 61 (.pointer (some ⟨w.heap.size + 1, 0, none⟩))) = w1 := ⟨_, rfl⟩
  have hbw : But wb w w1 := by rw [← hw9]; exact (But.refl wb w).set 0 _
  have hs1 : w1.heap.size = w.heap.size := by rw [← hw9]; simp
  have hw2 : w1.heap[wb]? = some (.cells #[.iface 61 (.pointer (some ⟨w.heap.size + 1, 0, none⟩))] 25) := by rw [← hw9]; exact set_block (unhide hw0) _
  rw [hw9]
  refine ⟨rfl, _, rfl, _, results_none rfl _ _ _, rfl, rfl, hbw.trans (But.of (((Below.refl _ w1).alloc (Nat.le_refl _) _).trans ((Below.refl _ _).alloc (by simp) _))), w.heap.size + 1, ?_, ?_⟩
  · rw [heap_two (by omega)]
    exact hw2
  · rw [← hs1]
    have := (MapKept.heap_alloc (w1.alloc (Obj.cells #[Value.int IntKind.i64 i, Value.int IntKind.i64 n] 89)) (Obj.cells #[Value.int IntKind.i64 i, Value.int IntKind.i64 n] 66)).1
    simpa using this
set_option maxRecDepth 100000 in
set_option maxHeartbeats 4000000 in
/-- The closure that catches, where nothing was thrown. -/
theorem catch_idle (wb : Nat) (w : World) :
    CallsD Tryz.prog 42 #[.pointer (some ⟨wb, 0, none⟩)] .returning w fun e u' w' => e = .returned (.tuple #[]) ∧ u' = .returning ∧ w' = w := by
  refine callsD_of_wpS Tryz.func42 rfl fun c₀ cs hu => ?_
  apply wpS_seq
  apply wpS_region
  simp [wpOpsS, go_sem, recoverD, hu, Tryz.ntmps42, Exit.thenS]
  apply wpS_seq
  apply wpS_region
  simp [wpOpsS, go_sem, Exit.thenS]
  refine wpS_cond (t := false) (by simp [Act.eval, Array.replicate]) ?_
  simp only [Bool.false_eq_true, if_false]
  refine wpS_of_wp (wp_skip ?_)
  cases c₀
  simp_all [bodyPostS, results, Tryz.results42]
end Go.Proofs.YtfkfnbehdcmgeaaGreatDoor
