/- The document's parser: declarations go on, errors stay; a row of declarations that grows. -/
import Derived.Test.YtljhpbjngbbjbaaDoorZAP
import Derived.Test.YtljhpbjngbbjbaaDoorZAQ
set_option linter.unusedVariables false
set_option linter.unusedSimpArgs false

/- The document's parser: a declaration. -/
namespace Go.Proofs.YtljhpbjngbbjbaaDoor
open Go Go.RowKit
theorem tD_size {ts : List (Int × ByteArray × Int)} {st : PS} {kk at' : Int} {T : ByteArray} (h : ∀ j, (txt ts j).size ≤ 65536) (hn : tD ts st = (kk, T, at')) : T.size ≤ 65536 := by
  have h1 := congrArg (fun x : (Int × ByteArray × Int) => x.2.1) hn
  simp only at h1
  rw [← h1]
  unfold tD
  split
  · exact h st.i
  · exact Nat.zero_le _
theorem signD_eff {ts : List (Int × ByteArray × Int)} {st : PS} {o : Int} (h : signD ts effsD st = some o) : o ≠ 0 := by
  have hall : ∀ (l : List (ByteArray × Int)), (∀ x ∈ l, x.2 ≠ 0) → signD ts l st = some o → o ≠ 0 := by
    intro l
    induction l with
    | nil => intro _ h; cases h
    | cons x l ih =>
      intro hx h
      rw [signD] at h
      split at h
      · obtain rfl := Option.some.inj h
        exact hx x (by simp)
      · exact ih (fun y hy => hx y (by simp [hy])) h
  exact hall effsD (by unfold effsD; simp) h
/-- A definition as the rests of the rule make it. -/
theorem defD_eq (ts : List (Int × ByteArray × Int)) (st : PS) : defD ts st = parM ts (.mk false (nameD ts (eatD ts ⟨#[114, 101, 99]⟩ st)).1.2.1 ⟨#[]⟩ (isD ts ⟨#[114, 101, 99]⟩ st) [] 0 zTy [] ⟨#[]⟩ [] [] zEx (nameD ts (eatD ts ⟨#[114, 101, 99]⟩ st)).1.2.2) (nameD ts (eatD ts ⟨#[114, 101, 99]⟩ st)).2 := by
  unfold defD parM
  simp only
  rcases hP : paramsD ts ts.length [] (nameD ts (eatD ts ⟨#[114, 101, 99]⟩ st)).2 with ⟨l, s, b⟩
  cases b
  · simp only [Bool.false_eq_true, if_false]
    unfold colM effL effD'
    simp only [if_true]
    have key : ∀ (d : De) (S : PS), d.req = [] → d.res = ⟨#[]⟩ → d.ens = [] → d.mea = [] → typM ts d S = (⟨d.cell, d.name, d.num, d.again, d.ps, d.eff, (typD ts S).1, (reqD ts (typD ts S).2).1, (ensD ts (reqD ts (typD ts S).2).2).1.1, (ensD ts (reqD ts (typD ts S).2).2).1.2, (meaD ts (ensD ts (reqD ts (typD ts S).2).2).2).1, (exD ts (mustD ts ⟨#[105, 115]⟩ (meaD ts (ensD ts (reqD ts (typD ts S).2).2).2).2)).1, d.at'⟩, mustD ts ⟨#[59, 59]⟩ (exD ts (mustD ts ⟨#[105, 115]⟩ (meaD ts (ensD ts (reqD ts (typD ts S).2).2).2).2)).2) := by
      intro d S h1 h2 h3 h4
      obtain ⟨c, nm, nu, ag, ps, ef, ty, rq, rs, en, me, bo, at'⟩ := d
      simp only at h1 h2 h3 h4
      subst h1 h2 h3 h4
      unfold typM reqM reqD
      simp only
      split <;> (unfold ensM ensD; simp only; split <;> (unfold meaM meaD; simp only; split <;> rfl))
    rcases hs : signD ts effsD (mustD ts ⟨#[58]⟩ s) with _ | o
    · simp only
      unfold effM
      rw [if_pos rfl]
      rw [key] <;> rfl
    · simp only
      unfold effM
      rw [if_neg (signD_eff hs)]
      rw [key] <;> rfl
  · rfl
/-- The rule of declarations. -/
def DcD (f : Nat) (r : Nat) (ts : List (Int × ByteArray × Int)) (dd : Nat) (X : PS → De × PS) : Prop := ∀ (w : World) (S : PS), PD w r ts S dd → Calls Tryd.prog f #[.pointer (some ⟨r, 0, none⟩)] w (DDe (X S) r ts dd w)
set_option maxRecDepth 100000 in
set_option maxHeartbeats 16000000 in
theorem ddecl_of {r dd : Nat} {ts : List (Int × ByteArray × Int)} (hT : TsOk ts) (hSz : ∀ j, (txt ts j).size ≤ 65536) (hE : DcC 54 r ts dd (exD ts)) (hN : dpar_ofS ts (parM ts) 7 r dd) : DcD 36 r ts dd (declD ts) := by
  intro w S hR
  obtain ⟨Y, hY⟩ : ∃ Y, declD ts S = Y := ⟨_, rfl⟩
  rw [hY]
  unfold declD at hY
  have hr := hR.rlt
  obtain ⟨A, eA, hbA, hsA, hhA⟩ := box_new w #[.bool false, .string ⟨#[]⟩, .string ⟨#[]⟩, .bool false, .slice none 0 0, .int .i64 0, .int .i64 0, .string ⟨#[]⟩, .slice none 0 0, .int .i64 0, .slice none 0 0, .string ⟨#[]⟩, .slice none 0 0, .slice none 0 0, .int .i64 0, .string ⟨#[]⟩, .string ⟨#[]⟩, .bool false, .slice none 0 0, .int .i64 0, .int .i64 0, .int .i64 0] 53
  obtain ⟨A2, eA2, hbA2, hsA2, hhA2⟩ := box_new A #[.bool false, .string ⟨#[]⟩, .string ⟨#[]⟩, .bool false, .slice none 0 0, .int .i64 0, .int .i64 0, .string ⟨#[]⟩, .slice none 0 0, .int .i64 0, .slice none 0 0, .string ⟨#[]⟩, .slice none 0 0, .slice none 0 0, .int .i64 0, .string ⟨#[]⟩, .string ⟨#[]⟩, .bool false, .slice none 0 0, .int .i64 0, .int .i64 0, .int .i64 0] 53
  have hI : DI w r (.mk false ⟨#[]⟩ ⟨#[]⟩ false [] 0 zTy [] ⟨#[]⟩ [] [] zEx 0 : De) (⟨none, 0, 0, none, 0, 0, none, 0, 0, none, 0, 0, none, 0, 0, none, 0, 0⟩ : DeV) A2 := ⟨(But.of hbA).trans (But.of hbA2), (hbA2.block _ (blk hhA).1).trans hhA, by rw [← hsA]; exact hhA2, ⟨psn, lsn, lsn, lsn, lsn, lsn⟩, hr⟩
  have HI := hide hI
  have HR := hide ((hR.keep hbA).keep hbA2)
  have HT := hide hT
  have HY := hide hY
  have HE1 := hide eA
  have HE2 := hide eA2
  have HSA := hide hsA
  replace hE := hide hE
  replace hN := hide hN
  replace hSz := hide hSz
  have hrq : r ≠ w.heap.size + 1 := by omega
  clear hI hR hT hY eA hbA hsA hhA eA2 hbA2 hsA2 hhA2
  go_enter Tryd.func36, Tryd.ntmps36
  generalize hQQ : bodyPost Tryd.prog Tryd.f36 (DDe Y r ts dd w) = QQ
  have HQQ := hide hQQ
  clear hQQ
  have HC0 := hide (eat_any (unhide HR) (unhide HT) ⟨#[114, 101, 102]⟩)
  obtain ⟨bo0, hbo0⟩ : ∃ b, isD ts ⟨#[114, 101, 102]⟩ (S) = b := ⟨_, rfl⟩
  unfold eatD at HC0
  rw [hbo0] at HC0
  have HO0 := hide hbo0
  clear hbo0
  go_wp2_with fail
  rw [unhide HE1, unhide HE2]
  refine (unhide HC0).mono ?_
  rintro e w0 ⟨rfl, hb0, hR0⟩
  replace HI := hide ((unhide HI).but' hb0)
  replace HR := hide hR0
  have hY1 := unhide HY
  simp only [unhide HO0] at hY1
  replace HY := hide hY1
  clear hY1
  clear hb0 HC0 hR0
  rcases bo0 with _ | _
  rotate_left
  · have hY2 := unhide HY
    simp only [if_true] at hY2
    replace HY := hide hY2
    clear hY2
    have hRR := unhide HR
    rw [if_pos rfl] at hRR
    obtain ⟨S3, hS3⟩ : ∃ Z9, stepD ts (S) = Z9 := ⟨_, rfl⟩
    rw [hS3] at hRR
    replace HR := hide hRR
    have HSt3 := hide hS3
    have hY4 := unhide HY
    simp only [unhide HSt3] at hY4
    replace HY := hide hY4
    clear hY4
    clear hRR hS3
    have hY5 := unhide HY
    unfold cellD at hY5
    replace HY := hide hY5
    clear hY5
    have HC6 := hide (name_any (unhide HR) (unhide HT))
    unfold tkV at HC6
    obtain ⟨⟨⟨kk6, T6, at6⟩, S6⟩, hN6⟩ : ∃ X, nameD ts (S3) = X := ⟨_, rfl⟩
    rw [hN6] at HC6
    have HN6 := hide hN6
    clear hN6
    go_wp2_with fail
    refine (unhide HC6).mono ?_
    rintro e w6 ⟨rfl, hb6, hR6⟩
    have hY7 := unhide HY
    simp only [unhide HN6] at hY7
    replace HY := hide hY7
    clear hY7
    replace HI := hide ((unhide HI).but' hb6)
    replace HR := hide hR6
    clear hb6 hR6 HC6
    obtain ⟨B8, eB8, hbB8, hsB8, hhB8⟩ := box_new w6 #[.int .i64 kk6, .string T6, .int .i64 at6] 87
    have ne8 : r ≠ w6.heap.size := by have := (blk (unhide HI).b).1; omega
    have hq8 : w.heap.size + 1 < w6.heap.size := (blk (unhide HI).b).1
    have hbu9 := But.of (r := r) hbB8
    replace HR := hide ((unhide HR).keep hbB8)
    replace HI := hide ((unhide HI).but' hbu9)
    have HX8 := hide hhB8
    have HEB8 := hide eB8
    have HSB8 := hide hsB8
    clear eB8 hbB8 hhB8 hsB8
    have u1 := (blk (unhide HX8)).2.1 1 _ rfl
    have u2 := (blk (unhide HX8)).2.1 2 _ rfl
    have HTh := hide (there_of (o := 0) (n := 22) (unhide HI).b (by decide))
    rw [← unhide HEB8] at u1 u2 HTh
    go_wp2_with ((with_reducible refine st_de (x := .tmp 3) (y := .tmp 23) (b := w.heap.size + 1) [.bool true, .string T6, .string ⟨#[]⟩, .bool false, .slice none 0 0, .int .i64 0, .int .i64 0, .string ⟨#[]⟩, .slice none 0 0, .int .i64 0, .slice none 0 0, .string ⟨#[]⟩, .slice none 0 0, .slice none 0 0, .int .i64 0, .string ⟨#[]⟩, .string ⟨#[]⟩, .bool false, .slice none 0 0, .int .i64 0, .int .i64 0, .int .i64 at6] ?_ ?_ ?_ ?_ (unhide HTh) ?_ ?_ ?_); exact rfl; exact rfl; exact rfl; exact rfl; exact rfl; exact rfl; clear HTh; intro W9 eW9)
    have e9 := unhide eW9
    rw [unhide HEB8] at e9
    have hD9 : DI w r (.mk true T6 ⟨#[]⟩ false [] 0 zTy [] ⟨#[]⟩ [] [] zEx at6 : De) (⟨none, 0, 0, none, 0, 0, none, 0, 0, none, 0, 0, none, 0, 0, none, 0, 0⟩ : DeV) W9 := by rw [e9]; exact (unhide HI).set 0 [.bool true, .string T6, .string ⟨#[]⟩, .bool false, .slice none 0 0, .int .i64 0, .int .i64 0, .string ⟨#[]⟩, .slice none 0 0, .int .i64 0, .slice none 0 0, .string ⟨#[]⟩, .slice none 0 0, .slice none 0 0, .int .i64 0, .string ⟨#[]⟩, .string ⟨#[]⟩, .bool false, .slice none 0 0, .int .i64 0, .int .i64 0, .int .i64 at6] (show 0 + 22 ≤ 22 by decide) rfl ⟨psn, lsn, lsn, lsn, lsn, lsn⟩
    have hR9 : PD W9 r ts (S6) dd := by rw [e9]; exact (unhide HR).setN (by omega) 0 [.bool true, .string T6, .string ⟨#[]⟩, .bool false, .slice none 0 0, .int .i64 0, .int .i64 0, .string ⟨#[]⟩, .slice none 0 0, .int .i64 0, .slice none 0 0, .string ⟨#[]⟩, .slice none 0 0, .slice none 0 0, .int .i64 0, .string ⟨#[]⟩, .string ⟨#[]⟩, .bool false, .slice none 0 0, .int .i64 0, .int .i64 0, .int .i64 at6]
    replace HI := hide hD9
    replace HR := hide hR9
    clear hD9 hR9 e9 eW9 u1 u2 HX8
    obtain ⟨S10, hS10⟩ : ∃ Z9, mustD ts ⟨#[58, 61]⟩ (S6) = Z9 := ⟨_, rfl⟩
    have HC10 := hide (dmust_any (unhide HR) (unhide HT) ⟨#[58, 61]⟩)
    rw [hS10] at HC10
    have HS10 := hide hS10
    clear hS10
    refine (unhide HC10).mono ?_
    rintro e w10 ⟨rfl, hb10, hR10⟩
    have hY11 := unhide HY
    simp only [unhide HS10] at hY11
    replace HY := hide hY11
    clear hY11
    replace HI := hide ((unhide HI).but' hb10)
    replace HR := hide hR10
    clear hb10 hR10 HC10 HS10
    obtain ⟨S12, hS12⟩ : ∃ Z9, eatD ts ⟨#[45]⟩ (S10) = Z9 := ⟨_, rfl⟩
    obtain ⟨bom, hbo12⟩ : ∃ b, isD ts ⟨#[45]⟩ (S10) = b := ⟨_, rfl⟩
    have HC12 := hide (eat_any (unhide HR) (unhide HT) ⟨#[45]⟩)
    rw [hS12, hbo12] at HC12
    have HS12 := hide hS12
    have HO12 := hide hbo12
    clear hS12 hbo12
    go_wp2_with fail
    refine (unhide HC12).mono ?_
    rintro e w12 ⟨rfl, hb12, hR12⟩
    have hY13 := unhide HY
    simp only [unhide HS12, unhide HO12] at hY13
    replace HY := hide hY13
    clear hY13
    replace HI := hide ((unhide HI).but' hb12)
    replace HR := hide hR12
    clear hb12 hR12 HC12 HS12 HO12
    have HC14 := hide (dt_any (unhide HR) (unhide HT))
    unfold tkV at HC14
    obtain ⟨⟨kk14, T14, at14⟩, hN14⟩ : ∃ X, tD ts (S12) = X := ⟨_, rfl⟩
    rw [hN14] at HC14
    have HN14 := hide hN14
    clear hN14
    go_wp2_with fail
    refine (unhide HC14).mono ?_
    rintro e w14 ⟨rfl, hb14⟩
    have hY15 := unhide HY
    simp only [unhide HN14] at hY15
    replace HY := hide hY15
    clear hY15
    have hbu16 := But.of (r := r) hb14
    replace HR := hide ((unhide HR).keep hb14)
    replace HI := hide ((unhide HI).but' hbu16)
    clear hb14 HC14
    obtain ⟨B17, eB17, hbB17, hsB17, hhB17⟩ := box_new w14 #[.int .i64 kk14, .string T14, .int .i64 at14] 87
    have ne17 : r ≠ w14.heap.size := by have := (blk (unhide HI).b).1; omega
    have hq17 : w.heap.size + 1 < w14.heap.size := (blk (unhide HI).b).1
    have hbu18 := But.of (r := r) hbB17
    replace HR := hide ((unhide HR).keep hbB17)
    replace HI := hide ((unhide HI).but' hbu18)
    have HX17 := hide hhB17
    have HEB17 := hide eB17
    have HSB17 := hide hsB17
    clear eB17 hbB17 hhB17 hsB17
    have u017 := (blk (unhide HX17)).2.1 0 _ rfl
    have u117 := (blk (unhide HX17)).2.1 1 _ rfl
    have u217 := (blk (unhide HX17)).2.1 2 _ rfl
    rw [← unhide HEB17] at u017 u117 u217
    by_cases h3 : kk14 = 3
    · have hY19 := unhide HY
      simp only [if_pos h3] at hY19
      replace HY := hide hY19
      clear hY19
      have n0 : (kk14 == 3) = true := by simpa using h3
      have n1 : decide (kk14 = 3) = true := by simpa using h3
      clear h3
      obtain ⟨S20, hS20⟩ : ∃ Z9, stepD ts (S12) = Z9 := ⟨_, rfl⟩
      have HC20 := hide (step_any (unhide HR) (unhide HT))
      rw [hS20] at HC20
      have HS20 := hide hS20
      clear hS20
      go_wp2_with fail
      rw [unhide HEB17]
      refine (unhide HC20).mono ?_
      rintro e w20 ⟨rfl, hb20, hR20⟩
      have hY21 := unhide HY
      simp only [unhide HS20] at hY21
      replace HY := hide hY21
      clear hY21
      replace HI := hide ((unhide HI).but' hb20)
      replace HX17 := hide ((hb20.block _ (blk (unhide HX17)).1 (Ne.symm ne17)).trans (unhide HX17))
      replace HR := hide hR20
      clear hb20 hR20 HC20 HS20
      have u017 := (blk (unhide HX17)).2.1 0 _ rfl
      have u117 := (blk (unhide HX17)).2.1 1 _ rfl
      rcases bom with _ | _
      · have hY22 := unhide HY
        simp only [show cellN false T14 = T14 from rfl] at hY22
        replace HY := hide hY22
        clear hY22
        have st23_0 := (blk (unhide HI).b).2.1 2 _ rfl
        have sz23_0 := (blk (unhide HI).b).2.2 2
        obtain ⟨V23, eV23⟩ : ∃ V, (w20.setCell ⟨w.heap.size + 1, 2, none⟩ (.string T14)) = V := ⟨_, rfl⟩
        have eN23 : setN w20 (w.heap.size + 1) 2 [.string T14] = V23 := eV23
        have hD23 : DI w r ((.mk true T6 T14 false [] 0 zTy [] ⟨#[]⟩ [] [] zEx at6 : De)) ((⟨none, 0, 0, none, 0, 0, none, 0, 0, none, 0, 0, none, 0, 0, none, 0, 0⟩ : DeV)) V23 := by rw [← eN23]; exact (unhide HI).set 2 [.string T14] (show 2 + 1 ≤ 22 by decide) rfl ⟨psn, lsn, lsn, lsn, lsn, lsn⟩
        have hR23 : PD V23 r ts (S20) dd := by rw [← eN23]; exact (unhide HR).setN (by omega) 2 [.string T14]
        replace HX17 := hide (by rw [← eN23]; exact (heap_setN (by omega) [.string T14] w20 2).trans (unhide HX17) : V23.heap[w14.heap.size]? = some (.cells #[.int .i64 kk14, .string T14, .int .i64 at14] 87))
        replace HI := hide hD23
        replace HR := hide hR23
        have HEV23 := hide eV23
        clear eV23 eN23 hD23 hR23
        obtain ⟨S24, hS24⟩ : ∃ Z9, mustD ts ⟨#[59, 59]⟩ (S20) = Z9 := ⟨_, rfl⟩
        have HC24 := hide (dmust_any (unhide HR) (unhide HT) ⟨#[59, 59]⟩)
        rw [hS24] at HC24
        have HS24 := hide hS24
        clear hS24
        go_wp2_with fail
        rw [unhide HEV23]
        refine (unhide HC24).mono ?_
        rintro e w24 ⟨rfl, hb24, hR24⟩
        have hY25 := unhide HY
        simp only [unhide HS24] at hY25
        replace HY := hide hY25
        clear hY25
        replace HI := hide ((unhide HI).but' hb24)
        replace HR := hide hR24
        clear hb24 hR24 HC24 HS24
        have HLd := hide (range_block (unhide HI).b)
        have HTh := hide (there_of (o := 0) (n := 22) (unhide HI).z (by decide))
        go_wp2_with (first | ((with_reducible refine ld_de (x := .tmp 3) (b := w.heap.size + 1) (deCells ((.mk true T6 T14 false [] 0 zTy [] ⟨#[]⟩ [] [] zEx at6 : De)) ((⟨none, 0, 0, none, 0, 0, none, 0, 0, none, 0, 0, none, 0, 0, none, 0, 0⟩ : DeV))) ?_ ?_ ?_ (unhide HLd) ?_ ?_); exact rfl; exact rfl; exact rfl; exact rfl; clear HLd) | ((with_reducible refine st_de (x := .tmp 2) (y := .tmp 54) (b := w.heap.size) (deCells ((.mk true T6 T14 false [] 0 zTy [] ⟨#[]⟩ [] [] zEx at6 : De)) ((⟨none, 0, 0, none, 0, 0, none, 0, 0, none, 0, 0, none, 0, 0, none, 0, 0⟩ : DeV))) ?_ ?_ ?_ ?_ (unhide HTh) ?_ ?_ ?_); exact rfl; exact rfl; exact rfl; exact rfl; exact rfl; exact rfl; clear HTh; intro W9 eW9; refine ?roundEnd))
        case roundEnd =>
          refine wpList_nil ?_
          refine (‹∀ (a : Act) (w : World), Code.wp Tryd.prog Code.ret _ a w → _› : ∀ (a : Act) (w : World), Code.wp Tryd.prog Code.ret _ a w → _) _ _ (wp_ret ?_)
          have e9 := unhide eW9
          clear eW9
          subst e9
          rw [← unhide HQQ]
          exact dret_de rfl rfl rfl (unhide HI) (unhide HR) (unhide HY).symm
      by_cases h0 : T14 = ⟨#[48]⟩
      · have e0 : (T14.toList == [48]) = true := (eqb T14 ⟨#[48]⟩ [48] rfl).mp h0
        have e1 : (!(T14.toList == [48])) = false := by rw [e0]; rfl
        have hY26 := unhide HY
        simp only [show cellN true T14 = T14 from if_neg (fun h => h.2 h0)] at hY26
        replace HY := hide hY26
        clear hY26
        clear h0
        have st27_0 := (blk (unhide HI).b).2.1 2 _ rfl
        have sz27_0 := (blk (unhide HI).b).2.2 2
        obtain ⟨V27, eV27⟩ : ∃ V, (w20.setCell ⟨w.heap.size + 1, 2, none⟩ (.string T14)) = V := ⟨_, rfl⟩
        have eN27 : setN w20 (w.heap.size + 1) 2 [.string T14] = V27 := eV27
        have hD27 : DI w r ((.mk true T6 T14 false [] 0 zTy [] ⟨#[]⟩ [] [] zEx at6 : De)) ((⟨none, 0, 0, none, 0, 0, none, 0, 0, none, 0, 0, none, 0, 0, none, 0, 0⟩ : DeV)) V27 := by rw [← eN27]; exact (unhide HI).set 2 [.string T14] (show 2 + 1 ≤ 22 by decide) rfl ⟨psn, lsn, lsn, lsn, lsn, lsn⟩
        have hR27 : PD V27 r ts (S20) dd := by rw [← eN27]; exact (unhide HR).setN (by omega) 2 [.string T14]
        replace HX17 := hide (by rw [← eN27]; exact (heap_setN (by omega) [.string T14] w20 2).trans (unhide HX17) : V27.heap[w14.heap.size]? = some (.cells #[.int .i64 kk14, .string T14, .int .i64 at14] 87))
        replace HI := hide hD27
        replace HR := hide hR27
        have HEV27 := hide eV27
        clear eV27 eN27 hD27 hR27
        obtain ⟨S28, hS28⟩ : ∃ Z9, mustD ts ⟨#[59, 59]⟩ (S20) = Z9 := ⟨_, rfl⟩
        have HC28 := hide (dmust_any (unhide HR) (unhide HT) ⟨#[59, 59]⟩)
        rw [hS28] at HC28
        have HS28 := hide hS28
        clear hS28
        go_wp2_with fail
        rw [unhide HEV27]
        refine (unhide HC28).mono ?_
        rintro e w28 ⟨rfl, hb28, hR28⟩
        have hY29 := unhide HY
        simp only [unhide HS28] at hY29
        replace HY := hide hY29
        clear hY29
        replace HI := hide ((unhide HI).but' hb28)
        replace HR := hide hR28
        clear hb28 hR28 HC28 HS28
        have HLd := hide (range_block (unhide HI).b)
        have HTh := hide (there_of (o := 0) (n := 22) (unhide HI).z (by decide))
        go_wp2_with (first | ((with_reducible refine ld_de (x := .tmp 3) (b := w.heap.size + 1) (deCells ((.mk true T6 T14 false [] 0 zTy [] ⟨#[]⟩ [] [] zEx at6 : De)) ((⟨none, 0, 0, none, 0, 0, none, 0, 0, none, 0, 0, none, 0, 0, none, 0, 0⟩ : DeV))) ?_ ?_ ?_ (unhide HLd) ?_ ?_); exact rfl; exact rfl; exact rfl; exact rfl; clear HLd) | ((with_reducible refine st_de (x := .tmp 2) (y := .tmp 54) (b := w.heap.size) (deCells ((.mk true T6 T14 false [] 0 zTy [] ⟨#[]⟩ [] [] zEx at6 : De)) ((⟨none, 0, 0, none, 0, 0, none, 0, 0, none, 0, 0, none, 0, 0, none, 0, 0⟩ : DeV))) ?_ ?_ ?_ ?_ (unhide HTh) ?_ ?_ ?_); exact rfl; exact rfl; exact rfl; exact rfl; exact rfl; exact rfl; clear HTh; intro W9 eW9; refine ?roundEnd))
        case roundEnd =>
          refine wpList_nil ?_
          refine (‹∀ (a : Act) (w : World), Code.wp Tryd.prog Code.ret _ a w → _› : ∀ (a : Act) (w : World), Code.wp Tryd.prog Code.ret _ a w → _) _ _ (wp_ret ?_)
          have e9 := unhide eW9
          clear eW9
          subst e9
          rw [← unhide HQQ]
          exact dret_de rfl rfl rfl (unhide HI) (unhide HR) (unhide HY).symm
      have e0 : (T14.toList == [48]) = false := by have h := h0; rw [eqb T14 ⟨#[48]⟩ [48] rfl] at h; simpa using h
      have hsz9 : T14.size ≤ 65536 := tD_size (unhide hSz) (unhide HN14)
      have hov : (9223372036854775807 < 1 + T14.size) = False := by simp; omega
      have hov2 : (9223372036854775807 < T14.size + 1) = False := by simp; omega
      have hY30 := unhide HY
      simp only [show cellN true T14 = ⟨#[45]⟩ ++ T14 from if_pos ⟨rfl, h0⟩] at hY30
      replace HY := hide hY30
      clear hY30
      clear h0 hsz9
      obtain ⟨NN, hNN⟩ : ∃ x : ByteArray, (⟨#[45]⟩ : ByteArray) ++ T14 = x := ⟨_, rfl⟩
      have hY31 := unhide HY
      simp only [hNN] at hY31
      replace HY := hide hY31
      clear hY31
      have st32_0 := (blk (unhide HI).b).2.1 2 _ rfl
      have sz32_0 := (blk (unhide HI).b).2.2 2
      obtain ⟨V32, eV32⟩ : ∃ V, (w20.setCell ⟨w.heap.size + 1, 2, none⟩ (.string T14)) = V := ⟨_, rfl⟩
      have eN32 : setN w20 (w.heap.size + 1) 2 [.string T14] = V32 := eV32
      have hD32 : DI w r ((.mk true T6 T14 false [] 0 zTy [] ⟨#[]⟩ [] [] zEx at6 : De)) ((⟨none, 0, 0, none, 0, 0, none, 0, 0, none, 0, 0, none, 0, 0, none, 0, 0⟩ : DeV)) V32 := by rw [← eN32]; exact (unhide HI).set 2 [.string T14] (show 2 + 1 ≤ 22 by decide) rfl ⟨psn, lsn, lsn, lsn, lsn, lsn⟩
      have hR32 : PD V32 r ts (S20) dd := by rw [← eN32]; exact (unhide HR).setN (by omega) 2 [.string T14]
      replace HX17 := hide (by rw [← eN32]; exact (heap_setN (by omega) [.string T14] w20 2).trans (unhide HX17) : V32.heap[w14.heap.size]? = some (.cells #[.int .i64 kk14, .string T14, .int .i64 at14] 87))
      replace HI := hide hD32
      replace HR := hide hR32
      have HEV32 := hide eV32
      clear eV32 eN32 hD32 hR32
      have st33_0 := (blk (unhide HI).b).2.1 2 _ rfl
      have sz33_0 := (blk (unhide HI).b).2.2 2
      rw [← unhide HEV32] at st33_0 sz33_0
      obtain ⟨V33, eV33⟩ : ∃ V, (V32.setCell ⟨w.heap.size + 1, 2, none⟩ (.string NN)) = V := ⟨_, rfl⟩
      have eN33 : setN V32 (w.heap.size + 1) 2 [.string NN] = V33 := eV33
      have hD33 : DI w r ((.mk true T6 NN false [] 0 zTy [] ⟨#[]⟩ [] [] zEx at6 : De)) ((⟨none, 0, 0, none, 0, 0, none, 0, 0, none, 0, 0, none, 0, 0, none, 0, 0⟩ : DeV)) V33 := by rw [← eN33]; exact (unhide HI).set 2 [.string NN] (show 2 + 1 ≤ 22 by decide) rfl ⟨psn, lsn, lsn, lsn, lsn, lsn⟩
      have hR33 : PD V33 r ts (S20) dd := by rw [← eN33]; exact (unhide HR).setN (by omega) 2 [.string NN]
      replace HX17 := hide (by rw [← eN33]; exact (heap_setN (by omega) [.string NN] V32 2).trans (unhide HX17) : V33.heap[w14.heap.size]? = some (.cells #[.int .i64 kk14, .string T14, .int .i64 at14] 87))
      replace HI := hide hD33
      replace HR := hide hR33
      have HEV33 := hide eV33
      clear eV33 eN33 hD33 hR33
      obtain ⟨S34, hS34⟩ : ∃ Z9, mustD ts ⟨#[59, 59]⟩ (S20) = Z9 := ⟨_, rfl⟩
      have HC34 := hide (dmust_any (unhide HR) (unhide HT) ⟨#[59, 59]⟩)
      rw [hS34] at HC34
      have HS34 := hide hS34
      clear hS34
      go_wp2_with fail
      rw [unhide HEV32, unhide HEV33]
      refine (unhide HC34).mono ?_
      rintro e w34 ⟨rfl, hb34, hR34⟩
      have hY35 := unhide HY
      simp only [unhide HS34] at hY35
      replace HY := hide hY35
      clear hY35
      replace HI := hide ((unhide HI).but' hb34)
      replace HR := hide hR34
      clear hb34 hR34 HC34 HS34
      have HLd := hide (range_block (unhide HI).b)
      have HTh := hide (there_of (o := 0) (n := 22) (unhide HI).z (by decide))
      go_wp2_with (first | ((with_reducible refine ld_de (x := .tmp 3) (b := w.heap.size + 1) (deCells ((.mk true T6 NN false [] 0 zTy [] ⟨#[]⟩ [] [] zEx at6 : De)) ((⟨none, 0, 0, none, 0, 0, none, 0, 0, none, 0, 0, none, 0, 0, none, 0, 0⟩ : DeV))) ?_ ?_ ?_ (unhide HLd) ?_ ?_); exact rfl; exact rfl; exact rfl; exact rfl; clear HLd) | ((with_reducible refine st_de (x := .tmp 2) (y := .tmp 54) (b := w.heap.size) (deCells ((.mk true T6 NN false [] 0 zTy [] ⟨#[]⟩ [] [] zEx at6 : De)) ((⟨none, 0, 0, none, 0, 0, none, 0, 0, none, 0, 0, none, 0, 0, none, 0, 0⟩ : DeV))) ?_ ?_ ?_ ?_ (unhide HTh) ?_ ?_ ?_); exact rfl; exact rfl; exact rfl; exact rfl; exact rfl; exact rfl; clear HTh; intro W9 eW9; refine ?roundEnd))
      case roundEnd =>
        refine wpList_nil ?_
        refine (‹∀ (a : Act) (w : World), Code.wp Tryd.prog Code.ret _ a w → _› : ∀ (a : Act) (w : World), Code.wp Tryd.prog Code.ret _ a w → _) _ _ (wp_ret ?_)
        have e9 := unhide eW9
        clear eW9
        subst e9
        rw [← unhide HQQ]
        exact dret_de rfl rfl rfl (unhide HI) (unhide HR) (unhide HY).symm
    · have hY36 := unhide HY
      simp only [if_neg h3] at hY36
      replace HY := hide hY36
      clear hY36
      have n0 : (kk14 == 3) = false := by simpa using h3
      have n1 : decide (kk14 = 3) = false := by simpa using h3
      clear h3
      obtain ⟨S37, hS37⟩ : ∃ Z9, (S12).fail at14 150 = Z9 := ⟨_, rfl⟩
      have HC37 := hide (fail_any (unhide HR) at14 150)
      rw [hS37] at HC37
      have HS37 := hide hS37
      clear hS37
      go_wp2_with fail
      rw [unhide HEB17]
      refine (unhide HC37).mono ?_
      rintro e w37 ⟨rfl, hb37, hR37⟩
      have hY38 := unhide HY
      simp only [unhide HS37] at hY38
      replace HY := hide hY38
      clear hY38
      replace HI := hide ((unhide HI).but' hb37)
      replace HX17 := hide ((hb37.block _ (blk (unhide HX17)).1 (Ne.symm ne17)).trans (unhide HX17))
      replace HR := hide hR37
      clear hb37 hR37 HC37 HS37
      obtain ⟨S39, hS39⟩ : ∃ Z9, stepD ts (S37) = Z9 := ⟨_, rfl⟩
      have HC39 := hide (step_any (unhide HR) (unhide HT))
      rw [hS39] at HC39
      have HS39 := hide hS39
      clear hS39
      go_wp2_with fail
      refine (unhide HC39).mono ?_
      rintro e w39 ⟨rfl, hb39, hR39⟩
      have hY40 := unhide HY
      simp only [unhide HS39] at hY40
      replace HY := hide hY40
      clear hY40
      replace HI := hide ((unhide HI).but' hb39)
      replace HX17 := hide ((hb39.block _ (blk (unhide HX17)).1 (Ne.symm ne17)).trans (unhide HX17))
      replace HR := hide hR39
      clear hb39 hR39 HC39 HS39
      have u017 := (blk (unhide HX17)).2.1 0 _ rfl
      have u117 := (blk (unhide HX17)).2.1 1 _ rfl
      rcases bom with _ | _
      · have hY41 := unhide HY
        simp only [show cellN false T14 = T14 from rfl] at hY41
        replace HY := hide hY41
        clear hY41
        have st42_0 := (blk (unhide HI).b).2.1 2 _ rfl
        have sz42_0 := (blk (unhide HI).b).2.2 2
        obtain ⟨V42, eV42⟩ : ∃ V, (w39.setCell ⟨w.heap.size + 1, 2, none⟩ (.string T14)) = V := ⟨_, rfl⟩
        have eN42 : setN w39 (w.heap.size + 1) 2 [.string T14] = V42 := eV42
        have hD42 : DI w r ((.mk true T6 T14 false [] 0 zTy [] ⟨#[]⟩ [] [] zEx at6 : De)) ((⟨none, 0, 0, none, 0, 0, none, 0, 0, none, 0, 0, none, 0, 0, none, 0, 0⟩ : DeV)) V42 := by rw [← eN42]; exact (unhide HI).set 2 [.string T14] (show 2 + 1 ≤ 22 by decide) rfl ⟨psn, lsn, lsn, lsn, lsn, lsn⟩
        have hR42 : PD V42 r ts (S39) dd := by rw [← eN42]; exact (unhide HR).setN (by omega) 2 [.string T14]
        replace HX17 := hide (by rw [← eN42]; exact (heap_setN (by omega) [.string T14] w39 2).trans (unhide HX17) : V42.heap[w14.heap.size]? = some (.cells #[.int .i64 kk14, .string T14, .int .i64 at14] 87))
        replace HI := hide hD42
        replace HR := hide hR42
        have HEV42 := hide eV42
        clear eV42 eN42 hD42 hR42
        obtain ⟨S43, hS43⟩ : ∃ Z9, mustD ts ⟨#[59, 59]⟩ (S39) = Z9 := ⟨_, rfl⟩
        have HC43 := hide (dmust_any (unhide HR) (unhide HT) ⟨#[59, 59]⟩)
        rw [hS43] at HC43
        have HS43 := hide hS43
        clear hS43
        go_wp2_with fail
        rw [unhide HEV42]
        refine (unhide HC43).mono ?_
        rintro e w43 ⟨rfl, hb43, hR43⟩
        have hY44 := unhide HY
        simp only [unhide HS43] at hY44
        replace HY := hide hY44
        clear hY44
        replace HI := hide ((unhide HI).but' hb43)
        replace HR := hide hR43
        clear hb43 hR43 HC43 HS43
        have HLd := hide (range_block (unhide HI).b)
        have HTh := hide (there_of (o := 0) (n := 22) (unhide HI).z (by decide))
        go_wp2_with (first | ((with_reducible refine ld_de (x := .tmp 3) (b := w.heap.size + 1) (deCells ((.mk true T6 T14 false [] 0 zTy [] ⟨#[]⟩ [] [] zEx at6 : De)) ((⟨none, 0, 0, none, 0, 0, none, 0, 0, none, 0, 0, none, 0, 0, none, 0, 0⟩ : DeV))) ?_ ?_ ?_ (unhide HLd) ?_ ?_); exact rfl; exact rfl; exact rfl; exact rfl; clear HLd) | ((with_reducible refine st_de (x := .tmp 2) (y := .tmp 54) (b := w.heap.size) (deCells ((.mk true T6 T14 false [] 0 zTy [] ⟨#[]⟩ [] [] zEx at6 : De)) ((⟨none, 0, 0, none, 0, 0, none, 0, 0, none, 0, 0, none, 0, 0, none, 0, 0⟩ : DeV))) ?_ ?_ ?_ ?_ (unhide HTh) ?_ ?_ ?_); exact rfl; exact rfl; exact rfl; exact rfl; exact rfl; exact rfl; clear HTh; intro W9 eW9; refine ?roundEnd))
        case roundEnd =>
          refine wpList_nil ?_
          refine (‹∀ (a : Act) (w : World), Code.wp Tryd.prog Code.ret _ a w → _› : ∀ (a : Act) (w : World), Code.wp Tryd.prog Code.ret _ a w → _) _ _ (wp_ret ?_)
          have e9 := unhide eW9
          clear eW9
          subst e9
          rw [← unhide HQQ]
          exact dret_de rfl rfl rfl (unhide HI) (unhide HR) (unhide HY).symm
      by_cases h0 : T14 = ⟨#[48]⟩
      · have e0 : (T14.toList == [48]) = true := (eqb T14 ⟨#[48]⟩ [48] rfl).mp h0
        have e1 : (!(T14.toList == [48])) = false := by rw [e0]; rfl
        have hY45 := unhide HY
        simp only [show cellN true T14 = T14 from if_neg (fun h => h.2 h0)] at hY45
        replace HY := hide hY45
        clear hY45
        clear h0
        have st46_0 := (blk (unhide HI).b).2.1 2 _ rfl
        have sz46_0 := (blk (unhide HI).b).2.2 2
        obtain ⟨V46, eV46⟩ : ∃ V, (w39.setCell ⟨w.heap.size + 1, 2, none⟩ (.string T14)) = V := ⟨_, rfl⟩
        have eN46 : setN w39 (w.heap.size + 1) 2 [.string T14] = V46 := eV46
        have hD46 : DI w r ((.mk true T6 T14 false [] 0 zTy [] ⟨#[]⟩ [] [] zEx at6 : De)) ((⟨none, 0, 0, none, 0, 0, none, 0, 0, none, 0, 0, none, 0, 0, none, 0, 0⟩ : DeV)) V46 := by rw [← eN46]; exact (unhide HI).set 2 [.string T14] (show 2 + 1 ≤ 22 by decide) rfl ⟨psn, lsn, lsn, lsn, lsn, lsn⟩
        have hR46 : PD V46 r ts (S39) dd := by rw [← eN46]; exact (unhide HR).setN (by omega) 2 [.string T14]
        replace HX17 := hide (by rw [← eN46]; exact (heap_setN (by omega) [.string T14] w39 2).trans (unhide HX17) : V46.heap[w14.heap.size]? = some (.cells #[.int .i64 kk14, .string T14, .int .i64 at14] 87))
        replace HI := hide hD46
        replace HR := hide hR46
        have HEV46 := hide eV46
        clear eV46 eN46 hD46 hR46
        obtain ⟨S47, hS47⟩ : ∃ Z9, mustD ts ⟨#[59, 59]⟩ (S39) = Z9 := ⟨_, rfl⟩
        have HC47 := hide (dmust_any (unhide HR) (unhide HT) ⟨#[59, 59]⟩)
        rw [hS47] at HC47
        have HS47 := hide hS47
        clear hS47
        go_wp2_with fail
        rw [unhide HEV46]
        refine (unhide HC47).mono ?_
        rintro e w47 ⟨rfl, hb47, hR47⟩
        have hY48 := unhide HY
        simp only [unhide HS47] at hY48
        replace HY := hide hY48
        clear hY48
        replace HI := hide ((unhide HI).but' hb47)
        replace HR := hide hR47
        clear hb47 hR47 HC47 HS47
        have HLd := hide (range_block (unhide HI).b)
        have HTh := hide (there_of (o := 0) (n := 22) (unhide HI).z (by decide))
        go_wp2_with (first | ((with_reducible refine ld_de (x := .tmp 3) (b := w.heap.size + 1) (deCells ((.mk true T6 T14 false [] 0 zTy [] ⟨#[]⟩ [] [] zEx at6 : De)) ((⟨none, 0, 0, none, 0, 0, none, 0, 0, none, 0, 0, none, 0, 0, none, 0, 0⟩ : DeV))) ?_ ?_ ?_ (unhide HLd) ?_ ?_); exact rfl; exact rfl; exact rfl; exact rfl; clear HLd) | ((with_reducible refine st_de (x := .tmp 2) (y := .tmp 54) (b := w.heap.size) (deCells ((.mk true T6 T14 false [] 0 zTy [] ⟨#[]⟩ [] [] zEx at6 : De)) ((⟨none, 0, 0, none, 0, 0, none, 0, 0, none, 0, 0, none, 0, 0, none, 0, 0⟩ : DeV))) ?_ ?_ ?_ ?_ (unhide HTh) ?_ ?_ ?_); exact rfl; exact rfl; exact rfl; exact rfl; exact rfl; exact rfl; clear HTh; intro W9 eW9; refine ?roundEnd))
        case roundEnd =>
          refine wpList_nil ?_
          refine (‹∀ (a : Act) (w : World), Code.wp Tryd.prog Code.ret _ a w → _› : ∀ (a : Act) (w : World), Code.wp Tryd.prog Code.ret _ a w → _) _ _ (wp_ret ?_)
          have e9 := unhide eW9
          clear eW9
          subst e9
          rw [← unhide HQQ]
          exact dret_de rfl rfl rfl (unhide HI) (unhide HR) (unhide HY).symm
      have e0 : (T14.toList == [48]) = false := by have h := h0; rw [eqb T14 ⟨#[48]⟩ [48] rfl] at h; simpa using h
      have hsz9 : T14.size ≤ 65536 := tD_size (unhide hSz) (unhide HN14)
      have hov : (9223372036854775807 < 1 + T14.size) = False := by simp; omega
      have hov2 : (9223372036854775807 < T14.size + 1) = False := by simp; omega
      have hY49 := unhide HY
      simp only [show cellN true T14 = ⟨#[45]⟩ ++ T14 from if_pos ⟨rfl, h0⟩] at hY49
      replace HY := hide hY49
      clear hY49
      clear h0 hsz9
      obtain ⟨NN, hNN⟩ : ∃ x : ByteArray, (⟨#[45]⟩ : ByteArray) ++ T14 = x := ⟨_, rfl⟩
      have hY50 := unhide HY
      simp only [hNN] at hY50
      replace HY := hide hY50
      clear hY50
      have st51_0 := (blk (unhide HI).b).2.1 2 _ rfl
      have sz51_0 := (blk (unhide HI).b).2.2 2
      obtain ⟨V51, eV51⟩ : ∃ V, (w39.setCell ⟨w.heap.size + 1, 2, none⟩ (.string T14)) = V := ⟨_, rfl⟩
      have eN51 : setN w39 (w.heap.size + 1) 2 [.string T14] = V51 := eV51
      have hD51 : DI w r ((.mk true T6 T14 false [] 0 zTy [] ⟨#[]⟩ [] [] zEx at6 : De)) ((⟨none, 0, 0, none, 0, 0, none, 0, 0, none, 0, 0, none, 0, 0, none, 0, 0⟩ : DeV)) V51 := by rw [← eN51]; exact (unhide HI).set 2 [.string T14] (show 2 + 1 ≤ 22 by decide) rfl ⟨psn, lsn, lsn, lsn, lsn, lsn⟩
      have hR51 : PD V51 r ts (S39) dd := by rw [← eN51]; exact (unhide HR).setN (by omega) 2 [.string T14]
      replace HX17 := hide (by rw [← eN51]; exact (heap_setN (by omega) [.string T14] w39 2).trans (unhide HX17) : V51.heap[w14.heap.size]? = some (.cells #[.int .i64 kk14, .string T14, .int .i64 at14] 87))
      replace HI := hide hD51
      replace HR := hide hR51
      have HEV51 := hide eV51
      clear eV51 eN51 hD51 hR51
      have st52_0 := (blk (unhide HI).b).2.1 2 _ rfl
      have sz52_0 := (blk (unhide HI).b).2.2 2
      rw [← unhide HEV51] at st52_0 sz52_0
      obtain ⟨V52, eV52⟩ : ∃ V, (V51.setCell ⟨w.heap.size + 1, 2, none⟩ (.string NN)) = V := ⟨_, rfl⟩
      have eN52 : setN V51 (w.heap.size + 1) 2 [.string NN] = V52 := eV52
      have hD52 : DI w r ((.mk true T6 NN false [] 0 zTy [] ⟨#[]⟩ [] [] zEx at6 : De)) ((⟨none, 0, 0, none, 0, 0, none, 0, 0, none, 0, 0, none, 0, 0, none, 0, 0⟩ : DeV)) V52 := by rw [← eN52]; exact (unhide HI).set 2 [.string NN] (show 2 + 1 ≤ 22 by decide) rfl ⟨psn, lsn, lsn, lsn, lsn, lsn⟩
      have hR52 : PD V52 r ts (S39) dd := by rw [← eN52]; exact (unhide HR).setN (by omega) 2 [.string NN]
      replace HX17 := hide (by rw [← eN52]; exact (heap_setN (by omega) [.string NN] V51 2).trans (unhide HX17) : V52.heap[w14.heap.size]? = some (.cells #[.int .i64 kk14, .string T14, .int .i64 at14] 87))
      replace HI := hide hD52
      replace HR := hide hR52
      have HEV52 := hide eV52
      clear eV52 eN52 hD52 hR52
      obtain ⟨S53, hS53⟩ : ∃ Z9, mustD ts ⟨#[59, 59]⟩ (S39) = Z9 := ⟨_, rfl⟩
      have HC53 := hide (dmust_any (unhide HR) (unhide HT) ⟨#[59, 59]⟩)
      rw [hS53] at HC53
      have HS53 := hide hS53
      clear hS53
      go_wp2_with fail
      rw [unhide HEV51, unhide HEV52]
      refine (unhide HC53).mono ?_
      rintro e w53 ⟨rfl, hb53, hR53⟩
      have hY54 := unhide HY
      simp only [unhide HS53] at hY54
      replace HY := hide hY54
      clear hY54
      replace HI := hide ((unhide HI).but' hb53)
      replace HR := hide hR53
      clear hb53 hR53 HC53 HS53
      have HLd := hide (range_block (unhide HI).b)
      have HTh := hide (there_of (o := 0) (n := 22) (unhide HI).z (by decide))
      go_wp2_with (first | ((with_reducible refine ld_de (x := .tmp 3) (b := w.heap.size + 1) (deCells ((.mk true T6 NN false [] 0 zTy [] ⟨#[]⟩ [] [] zEx at6 : De)) ((⟨none, 0, 0, none, 0, 0, none, 0, 0, none, 0, 0, none, 0, 0, none, 0, 0⟩ : DeV))) ?_ ?_ ?_ (unhide HLd) ?_ ?_); exact rfl; exact rfl; exact rfl; exact rfl; clear HLd) | ((with_reducible refine st_de (x := .tmp 2) (y := .tmp 54) (b := w.heap.size) (deCells ((.mk true T6 NN false [] 0 zTy [] ⟨#[]⟩ [] [] zEx at6 : De)) ((⟨none, 0, 0, none, 0, 0, none, 0, 0, none, 0, 0, none, 0, 0, none, 0, 0⟩ : DeV))) ?_ ?_ ?_ ?_ (unhide HTh) ?_ ?_ ?_); exact rfl; exact rfl; exact rfl; exact rfl; exact rfl; exact rfl; clear HTh; intro W9 eW9; refine ?roundEnd))
      case roundEnd =>
        refine wpList_nil ?_
        refine (‹∀ (a : Act) (w : World), Code.wp Tryd.prog Code.ret _ a w → _› : ∀ (a : Act) (w : World), Code.wp Tryd.prog Code.ret _ a w → _) _ _ (wp_ret ?_)
        have e9 := unhide eW9
        clear eW9
        subst e9
        rw [← unhide HQQ]
        exact dret_de rfl rfl rfl (unhide HI) (unhide HR) (unhide HY).symm
  have hY55 := unhide HY
  simp only [Bool.false_eq_true, if_false] at hY55
  replace HY := hide hY55
  clear hY55
  have hRR := unhide HR
  rw [if_neg Bool.false_ne_true] at hRR
  replace HR := hide hRR
  clear hRR
  obtain ⟨S56, hS56⟩ : ∃ Z9, mustD ts ⟨#[108, 101, 116]⟩ (S) = Z9 := ⟨_, rfl⟩
  have HC56 := hide (dmust_any (unhide HR) (unhide HT) ⟨#[108, 101, 116]⟩)
  rw [hS56] at HC56
  have HS56 := hide hS56
  clear hS56
  go_wp2_with fail
  refine (unhide HC56).mono ?_
  rintro e w56 ⟨rfl, hb56, hR56⟩
  have hY57 := unhide HY
  simp only [unhide HS56] at hY57
  replace HY := hide hY57
  clear hY57
  replace HI := hide ((unhide HI).but' hb56)
  replace HR := hide hR56
  clear hb56 hR56 HC56 HS56
  have hYd := unhide HY
  rw [defD_eq] at hYd
  replace HY := hide hYd
  clear hYd
  obtain ⟨S58, hS58⟩ : ∃ Z9, eatD ts ⟨#[114, 101, 99]⟩ (S56) = Z9 := ⟨_, rfl⟩
  obtain ⟨bor, hbo58⟩ : ∃ b, isD ts ⟨#[114, 101, 99]⟩ (S56) = b := ⟨_, rfl⟩
  have HC58 := hide (eat_any (unhide HR) (unhide HT) ⟨#[114, 101, 99]⟩)
  rw [hS58, hbo58] at HC58
  have HS58 := hide hS58
  have HO58 := hide hbo58
  clear hS58 hbo58
  go_wp2_with fail
  refine (unhide HC58).mono ?_
  rintro e w58 ⟨rfl, hb58, hR58⟩
  have hY59 := unhide HY
  simp only [unhide HS58, unhide HO58] at hY59
  replace HY := hide hY59
  clear hY59
  replace HI := hide ((unhide HI).but' hb58)
  replace HR := hide hR58
  clear hb58 hR58 HC58 HS58 HO58
  have st60_0 := (blk (unhide HI).b).2.1 3 _ rfl
  have sz60_0 := (blk (unhide HI).b).2.2 3
  obtain ⟨V60, eV60⟩ : ∃ V, (w58.setCell ⟨w.heap.size + 1, 3, none⟩ (.bool bor)) = V := ⟨_, rfl⟩
  have eN60 : setN w58 (w.heap.size + 1) 3 [.bool bor] = V60 := eV60
  have hD60 : DI w r ((.mk false ⟨#[]⟩ ⟨#[]⟩ bor [] 0 zTy [] ⟨#[]⟩ [] [] zEx 0 : De)) ((⟨none, 0, 0, none, 0, 0, none, 0, 0, none, 0, 0, none, 0, 0, none, 0, 0⟩ : DeV)) V60 := by rw [← eN60]; exact (unhide HI).set 3 [.bool bor] (show 3 + 1 ≤ 22 by decide) rfl ⟨psn, lsn, lsn, lsn, lsn, lsn⟩
  have hR60 : PD V60 r ts (S58) dd := by rw [← eN60]; exact (unhide HR).setN (by omega) 3 [.bool bor]
  replace HI := hide hD60
  replace HR := hide hR60
  have HEV60 := hide eV60
  clear eV60 eN60 hD60 hR60
  have HC61 := hide (name_any (unhide HR) (unhide HT))
  unfold tkV at HC61
  obtain ⟨⟨⟨kk61, T61, at61⟩, S61⟩, hN61⟩ : ∃ X, nameD ts (S58) = X := ⟨_, rfl⟩
  rw [hN61] at HC61
  have HN61 := hide hN61
  clear hN61
  go_wp2_with fail
  rw [unhide HEV60]
  refine (unhide HC61).mono ?_
  rintro e w61 ⟨rfl, hb61, hR61⟩
  have hY62 := unhide HY
  simp only [unhide HN61] at hY62
  replace HY := hide hY62
  clear hY62
  replace HI := hide ((unhide HI).but' hb61)
  replace HR := hide hR61
  clear hb61 hR61 HC61
  obtain ⟨B63, eB63, hbB63, hsB63, hhB63⟩ := box_new w61 #[.int .i64 kk61, .string T61, .int .i64 at61] 87
  have ne63 : r ≠ w61.heap.size := by have := (blk (unhide HI).b).1; omega
  have hq63 : w.heap.size + 1 < w61.heap.size := (blk (unhide HI).b).1
  have hbu64 := But.of (r := r) hbB63
  replace HR := hide ((unhide HR).keep hbB63)
  replace HI := hide ((unhide HI).but' hbu64)
  have HX63 := hide hhB63
  have HEB63 := hide eB63
  have HSB63 := hide hsB63
  clear eB63 hbB63 hhB63 hsB63
  go_wp2_with fail
  rw [unhide HEB63]
  rename_i KJ hJ
  replace hJ := hide hJ
  have tk1 := (blk (unhide HX63)).2.1 1 _ rfl
  have tk2 := (blk (unhide HX63)).2.1 2 _ rfl
  have oc1 := (blk (unhide HI).b).2.1 1 _ rfl
  have oz1 := (blk (unhide HI).b).2.2 1
  have oc21 := (blk (unhide HI).b).2.1 21 _ rfl
  have oz21 := (blk (unhide HI).b).2.2 21
  have tbne : ¬ w61.heap.size = w.heap.size + 1 := by have := hq63; omega
  have tbne2 : ¬ w.heap.size + 1 = w61.heap.size := by have := hq63; omega
  go_region
  clear tk1 tk2 oc1 oc21 oz1 oz21 tbne tbne2
  have st65_0 := (blk (unhide HI).b).2.1 1 _ rfl
  have sz65_0 := (blk (unhide HI).b).2.2 1
  obtain ⟨V65, eV65⟩ : ∃ V, (B63.setCell ⟨w.heap.size + 1, 1, none⟩ (.string T61)) = V := ⟨_, rfl⟩
  have eN65 : setN B63 (w.heap.size + 1) 1 [.string T61] = V65 := eV65
  have hD65 : DI w r ((.mk false T61 ⟨#[]⟩ bor [] 0 zTy [] ⟨#[]⟩ [] [] zEx 0 : De)) ((⟨none, 0, 0, none, 0, 0, none, 0, 0, none, 0, 0, none, 0, 0, none, 0, 0⟩ : DeV)) V65 := by rw [← eN65]; exact (unhide HI).set 1 [.string T61] (show 1 + 1 ≤ 22 by decide) rfl ⟨psn, lsn, lsn, lsn, lsn, lsn⟩
  have hR65 : PD V65 r ts (S61) dd := by rw [← eN65]; exact (unhide HR).setN (by omega) 1 [.string T61]
  replace HI := hide hD65
  replace HR := hide hR65
  have HEV65 := hide eV65
  clear eV65 eN65 hD65 hR65
  have st66_0 := (blk (unhide HI).b).2.1 21 _ rfl
  have sz66_0 := (blk (unhide HI).b).2.2 21
  rw [← unhide HEV65] at st66_0 sz66_0
  obtain ⟨V66, eV66⟩ : ∃ V, (V65.setCell ⟨w.heap.size + 1, 21, none⟩ (.int .i64 at61)) = V := ⟨_, rfl⟩
  have eN66 : setN V65 (w.heap.size + 1) 21 [.int .i64 at61] = V66 := eV66
  have hD66 : DI w r ((.mk false T61 ⟨#[]⟩ bor [] 0 zTy [] ⟨#[]⟩ [] [] zEx at61 : De)) ((⟨none, 0, 0, none, 0, 0, none, 0, 0, none, 0, 0, none, 0, 0, none, 0, 0⟩ : DeV)) V66 := by rw [← eN66]; exact (unhide HI).set 21 [.int .i64 at61] (show 21 + 1 ≤ 22 by decide) rfl ⟨psn, lsn, lsn, lsn, lsn, lsn⟩
  have hR66 : PD V66 r ts (S61) dd := by rw [← eN66]; exact (unhide HR).setN (by omega) 21 [.int .i64 at61]
  replace HI := hide hD66
  replace HR := hide hR66
  have HEV66 := hide eV66
  clear eV66 eN66 hD66 hR66
  obtain ⟨D9, eD9⟩ : ∃ D, V66.drew = D := ⟨_, rfl⟩
  have hbD : Below V66.heap.size V66 D9 := by rw [← eD9]; exact (Below.refl _ _).drew
  have hbu67 := But.of (r := r) hbD
  replace HR := hide ((unhide HR).keep hbD)
  replace HI := hide ((unhide HI).but' hbu67)
  rw [unhide HEV65, unhide HEV66, eD9]
  refine unhide hJ _ _ ?_
  exact (unhide hN) w _ _ _ _ _ _ _ _ _ _ _ _ _ _ _ _ _ _ _ _ _ _ _ _ _ _ _ _ _ _ _ _ _ _ _ _ _ _ _ _ _ _ _ _ _ _ _ _ _ _ _ _ _ _ _ _ _ _ _ _ _ _ _ _ _ _ _ _ _ _ _ _ _ _ _ _ _ _ _ _ _ _ _ _ _ _ _ _ _ _ _ _ _ _ _ _ _ _ _ _ _ _ _ _ _ _ _ _ _ _ _ _ _ _ _ _ _ _ _ _ _ _ _ _ _ _ _ _ _ _ _ _ _ _ _ _ _ _ _ _ _ _ _ _ _ _ _ _ _ _ _ _ _ _ _ _ _ _ _ _ _ _ _ _ _ _ _ _ _ _ _ _ _ _ _ _ _ _ _ _ _ _ _ _ _ _ _ _ rfl rfl rfl (unhide HI) (unhide HR) (by rw [unhide HY]; exact unhide HQQ)
end Go.Proofs.YtljhpbjngbbjbaaDoor

namespace Go.Proofs.YtljhpbjngbbjbaaDoor
open Go Go.RowKit
section
variable {ts : List (Int × ByteArray × Int)} {S : PS}
theorem fail_bad (h : S.e ≠ 0) (a e : Int) : S.fail a e = S := if_neg h
theorem eatD_bad (h : S.e ≠ 0) (s : ByteArray) : eatD ts s S = S := by
  unfold eatD
  rw [isD_bad h]
  rfl
theorem mustD_bad (h : S.e ≠ 0) (s : ByteArray) : mustD ts s S = S := by
  unfold mustD
  rw [isD_bad h, fail_bad h]
  rfl
theorem nameD_bad (h : S.e ≠ 0) : (nameD ts S).2 = S := by
  unfold nameD
  rw [tD_bad h, fail_bad h]
  rfl
theorem exD_bad (h : S.e ≠ 0) : (exD ts S).2 = S := by
  show (gD ts (199 + 1) .rE S).2 = S
  rw [gD, if_neg h]
theorem typD_bad (h : S.e ≠ 0) : (typD ts S).2 = S := by
  unfold typD
  simp only [isD_bad h, mustD_bad h, nameD_bad h, exD_bad h, Bool.false_eq_true, if_false]
theorem effD_bad (h : S.e ≠ 0) : (effD' ts S).2 = S := by
  unfold effD'
  rw [signD_bad h]
  exact fail_bad h _ _
theorem reqD_bad (h : S.e ≠ 0) : (reqD ts S).2 = S := by
  unfold reqD
  rw [isD_bad h]
  rfl
theorem ensD_bad (h : S.e ≠ 0) : (ensD ts S).2 = S := by
  unfold ensD
  rw [isD_bad h]
  rfl
theorem meaD_bad (h : S.e ≠ 0) : (meaD ts S).2 = S := by
  unfold meaD
  rw [isD_bad h]
  rfl
theorem defD_bad (h : S.e ≠ 0) : (defD ts S).2 = S := by
  unfold defD
  simp only [eatD_bad h, nameD_bad h, paramsD_no (isD_bad h), Bool.false_eq_true, if_false, mustD_bad h, effD_bad h, typD_bad h, reqD_bad h, ensD_bad h, meaD_bad h, exD_bad h]
theorem exD_le (S : PS) : S.i ≤ (exD ts S).2.i := gD_le ts 200 .rE S
theorem paramsD_le : ∀ n l (S : PS), S.i ≤ (paramsD ts n l S).2.1.i
  | 0, _, _ => Nat.le_refl _
  | n + 1, l, S => by
    unfold paramsD
    split
    · split
      · show S.i ≤ (S.fail _ _).i
        rw [fail_i]
        exact Nat.le_refl _
      · exact Nat.le_trans (Nat.le_trans (stepD_le S) (paramD_le ts S)) (paramsD_le n _ _)
    · exact Nat.le_refl _
theorem effD_le (S : PS) : S.i ≤ (effD' ts S).2.i := by
  unfold effD'
  split
  · exact stepD_le S
  · show S.i ≤ (S.fail _ _).i
    rw [fail_i]
    exact Nat.le_refl _
theorem reqD_le (S : PS) : S.i ≤ (reqD ts S).2.i := by
  unfold reqD
  split
  · exact Nat.le_trans (stepD_le S) (exD_le _)
  · exact Nat.le_refl _
theorem ensD_le (S : PS) : S.i ≤ (ensD ts S).2.i := by
  unfold ensD
  split
  · exact Nat.le_trans (stepD_le S) (Nat.le_trans (nameD_le _) (Nat.le_trans (mustD_le _ _) (exD_le _)))
  · exact Nat.le_refl _
theorem meaL_le : ∀ n l (S : PS), S.i ≤ (meaL ts n l S).2.i
  | 0, _, _ => Nat.le_refl _
  | n + 1, l, S => by
    unfold meaL
    split
    · exact Nat.le_trans (Nat.le_trans (stepD_le S) (exD_le _)) (meaL_le n _ _)
    · exact Nat.le_refl _
theorem meaD_le (S : PS) : S.i ≤ (meaD ts S).2.i := by
  unfold meaD
  split
  · exact Nat.le_trans (stepD_le S) (Nat.le_trans (exD_le _) (meaL_le _ _ _))
  · exact Nat.le_refl _
theorem defD_le (S : PS) : S.i ≤ (defD ts S).2.i := by
  unfold defD
  simp only
  have h1 : S.i ≤ (paramsD ts ts.length [] (nameD ts (eatD ts ⟨#[114, 101, 99]⟩ S)).2).2.1.i := Nat.le_trans (eatD_le _ S) (Nat.le_trans (nameD_le _) (paramsD_le _ _ _))
  split
  · exact h1
  · exact Nat.le_trans h1 (Nat.le_trans (mustD_le _ _) (Nat.le_trans (effD_le _) (Nat.le_trans (typD_le ts _) (Nat.le_trans (reqD_le _) (Nat.le_trans (ensD_le _) (Nat.le_trans (meaD_le _) (Nat.le_trans (mustD_le _ _) (Nat.le_trans (exD_le _) (mustD_le _ _)))))))))
theorem cellD_le (S : PS) : S.i ≤ (cellD ts S).2.i := by
  unfold cellD
  simp only
  have h1 : S.i ≤ (eatD ts ⟨#[45]⟩ (mustD ts ⟨#[58, 61]⟩ (nameD ts S).2)).i := Nat.le_trans (nameD_le S) (Nat.le_trans (mustD_le _ _) (eatD_le _ _))
  refine Nat.le_trans h1 (Nat.le_trans ?_ (Nat.le_trans (stepD_le _) (mustD_le _ _)))
  split
  · exact Nat.le_refl _
  · rw [fail_i]
    exact Nat.le_refl _
/-- A declaration that begins as one takes a token; another ends in an error. -/
theorem declD_go (hT : TsOk ts) (hlt : S.i < ts.length) (he : S.e = 0) : ((isD ts ⟨#[114, 101, 102]⟩ S || isD ts ⟨#[108, 101, 116]⟩ S) = true → S.i + 1 ≤ (declD ts S).2.i) ∧ ((isD ts ⟨#[114, 101, 102]⟩ S || isD ts ⟨#[108, 101, 116]⟩ S) = false → (declD ts S).2.e ≠ 0) := by
  unfold declD
  constructor
  · intro h
    split
    · rename_i h1
      have := cellD_le (ts := ts) (stepD ts S)
      rw [stepD_i he (isD_lt hT hlt h1)] at this
      rw [stepD_i he (isD_lt hT hlt h1)]
      exact this
    · rename_i h1
      have h2 : isD ts ⟨#[108, 101, 116]⟩ S = true := by
        rcases Bool.or_eq_true _ _ ▸ h with h | h
        · exact absurd h h1
        · exact h
      have h3 : mustD ts ⟨#[108, 101, 116]⟩ S = stepD ts S := by
        unfold mustD
        rw [h2]
        rfl
      have := defD_le (ts := ts) (stepD ts S)
      rw [h3]
      rw [stepD_i he (isD_lt hT hlt h2)] at this ⊢
      exact this
  · intro h
    obtain ⟨h1, h2⟩ := Bool.or_eq_false_iff.1 h
    rw [h1]
    have h3 : mustD ts ⟨#[108, 101, 116]⟩ S = S.fail (tD ts S).2.2 150 := by
      unfold mustD
      rw [h2]
      rfl
    have h4 : (S.fail (tD ts S).2.2 150).e ≠ 0 := by
      unfold PS.fail
      rw [if_pos he]
      show (150 : Int) ≠ 0
      decide
    show (defD ts (mustD ts ⟨#[108, 101, 116]⟩ S)).2.e ≠ 0
    rw [h3, defD_bad h4]
    exact h4
theorem progLD_end {n : Nat} {l : List De} (h : ¬ (S.e = 0 ∧ (tD ts S).1 ≠ 0)) : progLD ts n l S = (l, S) := by
  cases n with
  | zero => rfl
  | succ n => rw [progLD, if_neg h]
theorem progLD_many {n : Nat} {l : List De} (h : S.e = 0 ∧ (tD ts S).1 ≠ 0) (h1 : (isD ts ⟨#[114, 101, 102]⟩ S || isD ts ⟨#[108, 101, 116]⟩ S) = true) (hl : l.length = 100) : progLD ts (n + 1) l S = (l, S.fail (tD ts S).2.2 152) := by
  rw [progLD, if_pos h, if_pos ⟨h1, hl⟩]
theorem progLD_yes {n : Nat} {l : List De} (h : S.e = 0 ∧ (tD ts S).1 ≠ 0) (h1 : ¬ ((isD ts ⟨#[114, 101, 102]⟩ S || isD ts ⟨#[108, 101, 116]⟩ S) = true ∧ l.length = 100)) : progLD ts (n + 1) l S = progLD ts n (l ++ [(declD ts S).1]) (declD ts S).2 := by
  rw [progLD, if_pos h, if_neg h1]
end
theorem ddecl_all {r : Nat} {ts : List (Int × ByteArray × Int)} (hT : TsOk ts) (hSz : ∀ j, (txt ts j).size ≤ 65536) : DcD 36 r ts 0 (declD ts) :=
  have hE := exD_any (r := r) hT
  have e0 := dend_of hT hE
  have e1 := dmea_of hT hE e0
  have e2 := dens_of hT hE e1
  have e3 := dreq_of hT hE e2
  have e4 := deff_of hT hE e3
  have e5 := dcol_of hT hE e4
  ddecl_of hT hSz hE (dpar_of hT hE e5)
/-- A row of declarations that grows. -/
structure PI (w : World) (r : Nat) (v : Value) (l : List De) (vs : List (List Value)) (V : World) : Prop where
  but : But r w V
  rlt : r < w.heap.size
  own : V.ownsRow w.heap.size 53 22 v l.length vs.flatten
  len : vs.length = l.length
  all : ∀ x ∈ vs, x.length = 22
  tr : ∀ (j : Nat) x t, vs[j]? = some x → l[j]? = some t → DeP V (fun b => w.heap.size ≤ b ∧ v.ownBlock ≠ some b) x t
section
variable {w V V' : World} {r : Nat} {v : Value} {l : List De} {vs : List (List Value)}
theorem PI.but' (h : PI w r v l vs V) (hb : But r V V') : PI w r v l vs V' := by
  have hr := h.rlt
  refine ⟨h.but.trans hb, hr, ?_, h.len, h.all, fun j x t hx ht => (h.tr j x t hx ht).keep ⟨hb.size, fun k hk hs => hb.block k hs (by have := hk.1; omega)⟩ fun _ h => h⟩
  obtain ⟨h5, h6 | ⟨g, cap, cur, e, hB, hc, hr'⟩⟩ := h.own
  · exact ⟨h5, .inl h6⟩
  · exact ⟨h5, .inr ⟨g, cap, cur, e, hB, (hb.block _ (blk hc).1 (by omega)).trans hc, hr'⟩⟩
theorem PI.ds (h : PI w r v l vs V) (hl : l.length ≤ 1000000) : IsDs V w.heap.size v l := by
  rcases Nat.eq_zero_or_pos l.length with h0 | hp
  · obtain ⟨h1, h2 | ⟨g, cap, cur, e, hB, hc, hle, hm, hsz, htk⟩⟩ := h.own
    · rw [h2.1]
      obtain rfl := List.length_eq_zero_iff.1 h0
      exact ⟨none, 0, rfl, Nat.le_refl _, by simp, fun h => absurd rfl h⟩
    · rw [e]
      exact ⟨_, cap, rfl, by omega, hl, fun h => absurd h0 h⟩
  · obtain ⟨g, cap, e, hg1, hg2⟩ := h.own.form hp
    have hc := h.own.cells (g := g) (by rw [e]; rfl)
    have hcap : l.length ≤ cap := by
      obtain ⟨-, h1 | ⟨g', c', cur, e2, -, -, h2, -⟩⟩ := h.own
      · exact absurd h1.2 (by omega)
      · rw [e] at e2
        obtain ⟨-, rfl⟩ : g = g' ∧ cap = c' := by simpa using e2
        exact h2
    refine ⟨some ⟨g, 0, none⟩, cap, e, hcap, hl, fun _ => ⟨g, 0, rfl, hg1, hg2, fun j hj => ?_⟩⟩
    obtain ⟨y, hy⟩ : ∃ y, vs[j]? = some y := ⟨_, List.getElem?_eq_getElem (by rw [h.len]; exact hj)⟩
    refine ⟨y, fun m u hu => ?_, fun t ht => ?_⟩
    · have := hc (j * 22 + m) u (flat_k vs j y h.all hy m u hu)
      rw [Nat.zero_add]
      rw [addr0] at this
      exact this
    · obtain ⟨x, e1, e2⟩ := (h.tr j y t hy ht).keep (P' := fun b => w.heap.size ≤ b) ⟨Nat.le_refl _, fun _ _ _ => rfl⟩ fun b hb => hb.1
      exact ⟨x, e1, e2.toN⟩
theorem PI.more {m c cap g : Nat} {a : Option Addr} {V9 w7 wa : World} {t7 : De} {cs : List Value} {o : Obj} (h : PI w r (.slice a m c) l vs V9) (hb7 : But r V9 w7) (hcs : cs.length = 22) (hv7 : DeP w7 (fun b => V9.heap.size ≤ b) cs t7)
    (hoa : wa.ownsRow w.heap.size 53 22 (.slice (some ⟨g, 0, none⟩) (l.length + 1) cap) (l.length + 1) (vs.flatten ++ cs)) (hga : (w7.alloc o).grownBy wa (Value.slice a m c).ownBlock) (hwa : (Value.slice a m c).ownBlock = some g ∨ g = w7.heap.size + 1) :
    PI w r (.slice (some ⟨g, 0, none⟩) (l.length + 1) cap) (l ++ [t7]) (vs ++ [cs]) wa ∧ ∀ j, j < w.heap.size → wa.heap[j]? = w7.heap[j]? := by
  have hr := h.rlt
  have hs97 := hb7.size
  have hlt9 := h.own.lt
  have hsa : w7.heap.size ≤ wa.heap.size := by have := hga.size; simp at this; omega
  have hblk : ∀ j, j < w7.heap.size → (Value.slice a m c).ownBlock ≠ some j → wa.heap[j]? = w7.heap[j]? := fun j hj hne => by
    rw [hga.block j (by simp; omega) (fun e => hne e.symm)]
    exact ((Below.refl _ w7).alloc (Nat.le_refl _) _).block j hj
  have hbw7 := h.but.trans hb7
  have hw7 := hbw7.size
  have hlo : ∀ j, j < w.heap.size → (Value.slice a m c).ownBlock ≠ some j := fun j hj e => by have := (hlt9 j e).1; omega
  have hbwa : But r w wa := ⟨hga.os.trans hbw7.os, hga.tape.trans hbw7.tape, hga.output.trans hbw7.output, Nat.le_trans hbw7.size hsa, fun j hj hne => (hblk j (Nat.lt_of_lt_of_le hj hbw7.size) (hlo j hj)).trans (hbw7.block j hj hne)⟩
  have hgne : ∀ b, b < w7.heap.size → (Value.slice a m c).ownBlock ≠ some b → (Value.slice (some ⟨g, 0, none⟩) (l.length + 1) cap).ownBlock ≠ some b := fun b hb hne e => by
    have e2 : g = b := by simpa [Value.ownBlock] using e
    rcases hwa with hw | hw
    · exact hne (by rw [hw, e2])
    · omega
  refine ⟨⟨hbwa, hr, by simpa using hoa, by simp [h.len], ?_, ?_⟩, fun j hj => hblk j (by omega) (hlo j hj)⟩
  · intro y hy
    rcases List.mem_append.1 hy with hy | hy
    · exact h.all y hy
    · obtain rfl := List.mem_singleton.1 hy
      exact hcs
  · intro j y t' hy ht
    rcases Nat.lt_or_ge j l.length with hj | hj
    · rw [List.getElem?_append_left (by rw [h.len]; exact hj)] at hy
      rw [List.getElem?_append_left hj] at ht
      have k2 := (h.tr j y t' hy ht).bnd.keep (w' := w7) (P' := fun b => (w.heap.size ≤ b ∧ (Value.slice a m c).ownBlock ≠ some b) ∧ b < w7.heap.size) ⟨hs97, fun k hk hs => hb7.block k hs (by have := hk.1.1; omega)⟩ fun b hb => ⟨hb.1, by have := hb.2; omega⟩
      exact k2.keep ⟨hsa, fun k hk hs => hblk k hs hk.1.2⟩ fun b hb => ⟨hb.1.1, hgne b hb.2 hb.1.2⟩
    · have hjl : j = l.length := by
        have := (List.getElem?_eq_some_iff.1 ht).1
        simp at this
        omega
      subst hjl
      rw [List.getElem?_append_right (by rw [h.len]; exact Nat.le_refl _), h.len, Nat.sub_self] at hy
      rw [List.getElem?_append_right (Nat.le_refl _), Nat.sub_self] at ht
      obtain rfl := Option.some.inj hy
      obtain rfl := Option.some.inj ht
      have hne : ∀ b, V9.heap.size ≤ b → (Value.slice a m c).ownBlock ≠ some b := fun b hb e => by have := (hlt9 b e).2; omega
      have h9 := h.but.size
      exact hv7.bnd.keep ⟨hsa, fun k hk hs => hblk k hs (hne k hk.1)⟩ fun b hb => ⟨by have := hb.1; omega, hgne b hb.2 (hne b hb.1)⟩
end
end Go.Proofs.YtljhpbjngbbjbaaDoor
