/- Package parse: let. -/
import Derived.Test.YtfkfnbehdcmgeaaGreatDoorZAF
import Derived.Test.YtfkfnbehdcmgeaaGreatDoorZAD
set_option linter.unusedVariables false
set_option linter.unusedSimpArgs false

/- avowref16.Expr at trees without calls. -/
namespace Go.Proofs.YtfkfnbehdcmgeaaGreatDoor
open Go Go.RowKit
/-- Each operator has as many operands as it must, and is no call. -/
def wfE : Ex → Bool
  | .mk op _ _ _ l _ => decide (arS op = some l.length) && (l.map fun u => wfE u).all id
/-- The document's text of trees so high. -/
def R16 (k : Nat) : Prop := ∀ (w : World) (v : Value) (t : Ex) (P : Nat → Prop), ExV w P k v t → wfE t = true → (exS t).size ≤ 1000000 → Calls Tryz.prog 23 #[v] w (VP (.string (exS t)) w)
theorem len_two {α : Type} {l : List α} (h : l.length = 2) : ∃ a b, l = [a, b] := by
  rcases l with _ | ⟨a, _ | ⟨b, _ | ⟨c, l⟩⟩⟩
  · cases h
  · cases h
  · exact ⟨a, b, rfl⟩
  · simp at h
theorem len_one {α : Type} {l : List α} (h : l.length = 1) : ∃ a, l = [a] := by
  rcases l with _ | ⟨a, _ | ⟨b, l⟩⟩
  · cases h
  · exact ⟨a, rfl⟩
  · simp at h
theorem len_three {α : Type} {l : List α} (h : l.length = 3) : ∃ a b c, l = [a, b, c] := by
  rcases l with _ | ⟨a, _ | ⟨b, _ | ⟨c, _ | ⟨d, l⟩⟩⟩⟩
  · cases h
  · cases h
  · cases h
  · exact ⟨a, b, c, rfl⟩
  · simp at h
/-- The texts of a row, as the loop has them. -/
def TR (w wr : World) (lv : Value) (i : Nat) (cs : List ByteArray) (bx : Obj) : Prop := Below w.heap.size w wr ∧ wr.heap[w.heap.size]? = some bx ∧ wr.ownsRow (w.heap.size + 1) 9 1 lv i ((cs.take i).map Value.string)
theorem TR.row {w wr : World} {lv : Value} {cs : List ByteArray} {bx : Obj} (h : TR w wr lv cs.length cs bx) (h0 : 0 < cs.length) : ∃ g cap, lv = .slice (some ⟨g, 0, none⟩) cs.length cap ∧ cs.length ≤ cap ∧ ∀ (j : Nat) c, cs[j]? = some c → wr.cell? ⟨g, j, none⟩ = some (.string c) := by
  obtain ⟨g, cap, e, hg1, hg2⟩ := h.2.2.form h0
  have hc := h.2.2.cells (g := g) (by rw [e]; rfl)
  have hcap : cs.length ≤ cap := by
    obtain ⟨-, h1 | ⟨g', c', cur, e2, -, -, h2, -⟩⟩ := h.2.2
    · exact absurd h1.2 (by omega)
    · rw [e] at e2
      obtain ⟨-, rfl⟩ : g = g' ∧ cap = c' := by simpa using e2
      exact h2
  refine ⟨g, cap, e, hcap, fun j c hj => ?_⟩
  have := hc j (.string c) (by simp [hj])
  rw [addr0] at this
  exact this
/-- What is known of an operand. -/
def KidOk (w : World) (a : Option Addr) (j : Nat) (u : Ex) : Prop := ∃ b off a4 n4 c4, a = some ⟨b, off, none⟩ ∧ b < w.heap.size ∧ w.rangeAt b (off + j * 7) [.int .i64 u.op, .string u.name, .string u.num, .bool u.b, .slice a4 n4 c4, .int .i64 0, .int .i64 u.at'] ∧ ∀ W, Below w.heap.size w W → Calls Tryz.prog 23 #[.agg #[.int .i64 u.op, .string u.name, .string u.num, .bool u.b, .slice a4 n4 c4, .int .i64 0, .int .i64 u.at']] W (VP (.string (exS u)) W)
set_option maxRecDepth 100000 in
set_option maxHeartbeats 16000000 in
theorem r16_loop {w : World} {op at' : Int} {nm nu : ByteArray} {bl : Bool} {l : List Ex} {a : Option Addr} {c : Nat} (hn : l.length ≤ 3) (hc : l.length ≤ c) (hk : ∀ (j : Nat) u, l[j]? = some u → KidOk w a j u)
    (hend : ∀ (W : World) (lv : Value) (x7 x8 x9 x10 x11 x12 x13 x14 x15 x16 x17 x18 x19 x20 x21 x22 : Value) (Q : Exit → Act → World → Prop), TR w W lv l.length (l.map exS) (.cells #[.int .i64 op, .string nm, .string nu, .bool bl, .slice a l.length c, .int .i64 0, .int .i64 at'] 36) → (∀ (aa : Act) (W' : World), aa.defers = [] → aa.tmps.getD 2 undef = .string (exS (.mk op nm nu bl l at')) → Below W.heap.size W W' → Q .ret aa W') →
      Code.wp Tryz.prog (sTail Tryz.f23) Q { tmps := #[.agg #[.int .i64 op, .string nm, .string nu, .bool bl, .slice a l.length c, .int .i64 0, .int .i64 at'], .pointer (some ⟨w.heap.size, 0, none⟩), .string ⟨#[]⟩, lv, .int .i64 (l.length : Int), undef, undef, x7, x8, x9, x10, x11, x12, x13, x14, x15, x16, x17, x18, x19, x20, x21, x22, undef, undef, undef, undef, undef, undef, undef, undef, undef, undef, undef, undef, undef, undef, undef, undef, undef, undef, undef, undef, undef, undef, undef, undef, undef, undef, undef, undef, undef, undef, undef, undef, undef, undef, undef, undef, undef, undef, undef, undef, undef, undef, undef, undef, undef, undef, undef, undef, undef, undef, undef, undef, undef, undef, undef, undef, undef, undef, undef, undef, undef, undef, undef, undef, undef, undef, undef, undef, undef, undef, undef, undef, undef, undef, undef, undef, undef, undef, undef, undef, undef, undef, undef, undef, undef, undef, undef, undef, undef, undef, undef, undef, undef, undef, undef, undef, undef, undef, undef, undef, undef, undef, undef, undef, undef, undef, undef, undef, undef, undef, undef, undef, undef, undef, undef, undef, undef, undef, undef, undef, undef, undef, undef, undef, undef, undef, undef, undef, undef, undef, undef, undef, undef, undef, undef, undef, undef, undef, undef, undef, undef, undef, undef, undef, undef, undef, undef, undef, undef, undef, undef, undef, undef, undef, undef, undef, undef, undef, undef, undef, undef, undef, undef, undef], defers := [] } W) :
    Calls Tryz.prog 23 #[.agg #[.int .i64 op, .string nm, .string nu, .bool bl, .slice a l.length c, .int .i64 0, .int .i64 at']] w (VP (.string (exS (.mk op nm nu bl l at'))) w) := by
  obtain ⟨n, hnn⟩ : ∃ n, l.length = n := ⟨_, rfl⟩
  rw [hnn] at hend hn hc ⊢
  obtain ⟨A, eA, hbA, hsA, hhA⟩ := box_new w #[.int .i64 op, .string nm, .string nu, .bool bl, .slice a n c, .int .i64 0, .int .i64 at'] 36
  obtain ⟨TX, hTX⟩ : ∃ x, exS (.mk op nm nu bl l at') = x := ⟨_, rfl⟩
  rw [hTX] at hend ⊢
  have HEnd := hide hend
  have HN := hide (And.intro hnn (And.intro hn hc))
  have HK := hide hk
  have HI : Hid (TR w A (.slice none 0 0) 0 (l.map exS) (.cells #[.int .i64 op, .string nm, .string nu, .bool bl, .slice a n c, .int .i64 0, .int .i64 at'] 36)) := ⟨hbA, hhA, by simp, .inl ⟨rfl, rfl⟩⟩
  have HEA := hide eA
  have gn : (n : Int) ≤ 3 := by omega
  have gc : (n : Int) ≤ (c : Int) := by omega
  unfold VP
  clear hend hk hnn hn hc hbA hsA hhA hTX eA
  go_enter Tryz.func23, Tryz.ntmps23
  generalize hQQ : bodyPost Tryz.prog Tryz.f23 (fun e w' => e = .returned (.string TX) ∧ Below w.heap.size w w') = QQ
  have HQQ := hide hQQ
  clear hQQ
  go_wp2_with fail
  rw [unhide HEA]
  rename_i K1 h1
  replace h1 := hide h1
  go_loopw [3, 4] (fun lv iv wr => ∃ (i : Nat) (aa : Option Addr) (m cc : Nat), i ≤ n ∧ iv = .int .i64 i ∧ lv = .slice aa m cc ∧ Hid (TR w wr (.slice aa m cc) i (l.map exS) (.cells #[.int .i64 op, .string nm, .string nu, .bool bl, .slice a n c, .int .i64 0, .int .i64 at'] 36))) (fun _ iv _ => n - (intOf iv).toNat)
  case atStart => exact ⟨0, none, 0, 0, Nat.zero_le _, rfl, rfl, HI⟩
  case round =>
    obtain ⟨i, aa, m, cc, hi, rfl, rfl, hTR⟩ := hrel
    have b4 := (blk (unhide hTR).2.1).2.1 4 _ rfl
    by_cases hin : i < n
    · obtain ⟨u, hu⟩ : ∃ u, l[i]? = some u := ⟨_, List.getElem?_eq_getElem (by rw [(unhide HN).1]; exact hin)⟩
      obtain ⟨b, off, a4, n4, c4, rfl, hb, hr, hcall⟩ := unhide HK i u hu
      have hw := (unhide hTR).1
      have hr' := range_same hr (hw.block b hb)
      have q0 := hr' 0 _ rfl
      have q1 := hr' 1 _ rfl
      have q2 := hr' 2 _ rfl
      have q3 := hr' 3 _ rfl
      have q4 := hr' 4 _ rfl
      have q5 := hr' 5 _ rfl
      have q6 := hr' 6 _ rfl
      simp only [Nat.add_zero] at q0
      have HC := hide (hcall wr hw)
      have HU := hide hu
      have g1 : (i : Int) < (n : Int) := by omega
      have g3 : (0 : Int) ≤ (i : Int) := by omega
      replace hin := hide hin
      unfold VP at HC
      clear hu hb hr hcall hw hr'
      go_wp2_with fail
      refine (unhide HC).mono ?_
      rintro e w2 ⟨rfl, hb2⟩
      obtain ⟨g, cap, wa, happ, hoa, hga, hwa⟩ := str_app (exS u) (own_same (unhide hTR).2.2 hb2) (by have := (unhide HN).2.1; omega) (by have := (blk (unhide hTR).2.1).1; have := hb2.size; omega)
      have R1 := hide happ
      have HQ := hide (And.intro hb2 (And.intro hoa (And.intro hga hwa)))
      clear happ hb2 hoa hga hwa HC q0 q1 q2 q3 q4 q5 q6 b4
      go_wp2_with (at_builtin; refine app_run _ _ _ rfl rfl rfl rfl (unhide R1) ?_; clear R1)
      obtain ⟨hb2, hoa, hga, hwa⟩ := unhide HQ
      obtain ⟨hw, hbx, how⟩ := unhide hTR
      have hs := (blk hbx).1
      have hol : ∀ k, k ≤ w.heap.size → (Value.slice aa m cc).ownBlock ≠ some k := fun k hk e => by have := (how.lt k e).1; omega
      have hblk : ∀ k, k ≤ w.heap.size → wa.heap[k]? = w2.heap[k]? := fun k hk => by
        rw [hga.block k (by simp; have := hb2.size; omega) (fun e => hol k hk e.symm)]
        exact ((Below.refl _ w2).alloc (Nat.le_refl _) _).block k (by have := hb2.size; omega)
      have hsa : w2.heap.size ≤ wa.heap.size := by have := hga.size; simp at this; omega
      have hw2 : Below w.heap.size w w2 := hw.trans (hb2.mono hw.size)
      have hin' := unhide hin
      refine ⟨⟨i + 1, _, _, cap, by omega, by simp, rfl, ⟨⟨hga.os.trans hw2.os, hga.tape.trans hw2.tape, hga.output.trans hw2.output, Nat.le_trans hw2.size hsa, fun k hk => (hblk k (by omega)).trans (hw2.block k hk)⟩, (hblk _ (Nat.le_refl _)).trans ((hb2.block _ hs).trans hbx), ?_⟩⟩, ?_⟩
      · have e : (List.take (i + 1) (l.map exS)).map Value.string = (List.take i (l.map exS)).map Value.string ++ [.string (exS u)] := by
          rw [List.take_add_one, List.getElem?_map, unhide HU]
          simp
        rw [e]
        exact hoa
      · simp [intOf]
        omega
    · have gi : decide ((i : Int) < (n : Int)) = false := by simp; omega
      have g1 : ¬ ((i : Int) < (n : Int)) := by omega
      obtain rfl : i = n := by omega
      clear hi hin
      go_wp2
      refine unhide h1 _ _ ?_
      refine unhide HEnd _ _ _ _ _ _ _ _ _ _ _ _ _ _ _ _ _ _ QQ (unhide hTR) (fun aa W' hd ht hbl => ?_)
      rw [← unhide HQQ]
      refine bodyPost_ret (results_tmp rfl _ _ _) hd ⟨by rw [ht], (unhide hTR).1.trans (hbl.mono (unhide hTR).1.size)⟩
end Go.Proofs.YtfkfnbehdcmgeaaGreatDoor

/- avowref16.Expr at trees without calls: each operator. -/
namespace Go.Proofs.YtfkfnbehdcmgeaaGreatDoor
open Go Go.RowKit
set_option maxRecDepth 100000 in
set_option maxHeartbeats 16000000 in
theorem r16_end {w W : World} {op at' : Int} {nm nu : ByteArray} {bl : Bool} {l : List Ex} {a : Option Addr} {c : Nat} {lv x7 x8 x9 x10 x11 x12 x13 x14 x15 x16 x17 x18 x19 x20 x21 x22 : Value} {Q : Exit → Act → World → Prop} (har : arS op = some l.length) (hsz : (exS (.mk op nm nu bl l at')).size ≤ 1000000) (hT : TR w W lv l.length (l.map exS) (.cells #[.int .i64 op, .string nm, .string nu, .bool bl, .slice a l.length c, .int .i64 0, .int .i64 at'] 36)) (hQ : ∀ (aa : Act) (W' : World), aa.defers = [] → aa.tmps.getD 2 undef = .string (exS (.mk op nm nu bl l at')) → Below W.heap.size W W' → Q .ret aa W') :
    Code.wp Tryz.prog (sTail Tryz.f23) Q { tmps := #[.agg #[.int .i64 op, .string nm, .string nu, .bool bl, .slice a l.length c, .int .i64 0, .int .i64 at'], .pointer (some ⟨w.heap.size, 0, none⟩), .string ⟨#[]⟩, lv, .int .i64 (l.length : Int), undef, undef, x7, x8, x9, x10, x11, x12, x13, x14, x15, x16, x17, x18, x19, x20, x21, x22, undef, undef, undef, undef, undef, undef, undef, undef, undef, undef, undef, undef, undef, undef, undef, undef, undef, undef, undef, undef, undef, undef, undef, undef, undef, undef, undef, undef, undef, undef, undef, undef, undef, undef, undef, undef, undef, undef, undef, undef, undef, undef, undef, undef, undef, undef, undef, undef, undef, undef, undef, undef, undef, undef, undef, undef, undef, undef, undef, undef, undef, undef, undef, undef, undef, undef, undef, undef, undef, undef, undef, undef, undef, undef, undef, undef, undef, undef, undef, undef, undef, undef, undef, undef, undef, undef, undef, undef, undef, undef, undef, undef, undef, undef, undef, undef, undef, undef, undef, undef, undef, undef, undef, undef, undef, undef, undef, undef, undef, undef, undef, undef, undef, undef, undef, undef, undef, undef, undef, undef, undef, undef, undef, undef, undef, undef, undef, undef, undef, undef, undef, undef, undef, undef, undef, undef, undef, undef, undef, undef, undef, undef, undef, undef, undef, undef, undef, undef, undef, undef, undef, undef, undef, undef, undef, undef, undef, undef, undef, undef, undef, undef, undef, undef], defers := [] } W := by
  have hb := hT.2.1
  have hex : exS (.mk op nm nu bl l at') = shS op nm nu bl (l.map exS) := by rw [exS]
  rw [hex] at hQ hsz
  by_cases h1 : op = 1
  · exact leaf_1 hb h1 (fun aa W hd ht => hQ aa W hd (by rw [ht, h1]; rfl))
  by_cases h2 : op = 2
  · cases bl
    · exact leaf_2f hb h2 rfl (fun aa W hd ht => hQ aa W hd (by rw [ht, h2]; rfl))
    · exact leaf_2t hb h2 rfl (fun aa W hd ht => hQ aa W hd (by rw [ht, h2]; rfl))
  by_cases h3 : op = 3
  · exact leaf_3 hb h3 (fun aa W hd ht => hQ aa W hd (by rw [ht, h3]; rfl))
  by_cases h4 : op = 4
  · exact leaf_4 hb h4 (by rw [h4] at hsz; simpa [shS] using hsz) (fun aa W hd ht => hQ aa W hd (by rw [ht, h4]; rfl))
  by_cases h5 : op = 5
  · exact leaf_5 hb h5 (by rw [h5] at hsz; simp [shS] at hsz; omega) (fun aa W hd ht => hQ aa W hd (by rw [ht, h5]; rfl))
  by_cases h6 : op = 6
  · exact leaf_6 hb h6 (by rw [h6] at hsz; simp [shS] at hsz; omega) (fun aa W hd ht => hQ aa W hd (by rw [ht, h6]; rfl))
  by_cases h7 : op = 7
  · have har2 : some 1 = some l.length := by rw [← har, h7]; rfl
    obtain hl := (Option.some.inj har2).symm
    obtain ⟨u0, rfl⟩ := len_one hl
    obtain ⟨g, cap, elv, hcap, hcs⟩ := TR.row (cs := [u0].map exS) hT (by simp)
    rw [h7] at hsz
    simp [shS] at hsz
    exact leaf_7 hb h7 elv (by simp) (by simpa using hcap) (hcs 0 (exS u0) rfl) (by omega) (fun aa W hd ht => hQ aa W hd (by rw [ht, h7]; rfl))
  by_cases h8 : op = 8
  · have har2 : some 1 = some l.length := by rw [← har, h8]; rfl
    obtain hl := (Option.some.inj har2).symm
    obtain ⟨u0, rfl⟩ := len_one hl
    obtain ⟨g, cap, elv, hcap, hcs⟩ := TR.row (cs := [u0].map exS) hT (by simp)
    rw [h8] at hsz
    simp [shS] at hsz
    exact leaf_8 hb h8 elv (by simp) (by simpa using hcap) (hcs 0 (exS u0) rfl) (by omega) (fun aa W hd ht => hQ aa W hd (by rw [ht, h8]; rfl))
  by_cases h22 : op = 22
  · have har2 : some 3 = some l.length := by rw [← har, h22]; rfl
    obtain hl := (Option.some.inj har2).symm
    obtain ⟨u0, u1, u2, rfl⟩ := len_three hl
    obtain ⟨g, cap, elv, hcap, hcs⟩ := TR.row (cs := [u0, u1, u2].map exS) hT (by simp)
    rw [h22] at hsz
    simp [shS] at hsz
    exact leaf_22 hb h22 elv (by simp) (by simpa using hcap) (hcs 0 (exS u0) rfl) (by omega) (hcs 1 (exS u1) rfl) (by omega) (hcs 2 (exS u2) rfl) (by omega) (fun aa W hd ht => hQ aa W hd (by rw [ht, h22]; rfl))
  by_cases h23 : op = 23
  · have har2 : some 2 = some l.length := by rw [← har, h23]; rfl
    obtain hl := (Option.some.inj har2).symm
    obtain ⟨u0, u1, rfl⟩ := len_two hl
    obtain ⟨g, cap, elv, hcap, hcs⟩ := TR.row (cs := [u0, u1].map exS) hT (by simp)
    rw [h23] at hsz
    simp [shS] at hsz
    exact leaf_23 hb h23 elv (by simp) (by simpa using hcap) (hcs 0 (exS u0) rfl) (by omega) (hcs 1 (exS u1) rfl) (by omega) (by omega) (fun aa W hd ht => hQ aa W hd (by rw [ht, h23]; rfl))
  by_cases h24 : op = 24
  · have har2 : some 2 = some l.length := by rw [← har, h24]; rfl
    obtain hl := (Option.some.inj har2).symm
    obtain ⟨u0, u1, rfl⟩ := len_two hl
    obtain ⟨g, cap, elv, hcap, hcs⟩ := TR.row (cs := [u0, u1].map exS) hT (by simp)
    rw [h24] at hsz
    simp [shS] at hsz
    exact leaf_24 hb h24 elv (by simp) (by simpa using hcap) (hcs 0 (exS u0) rfl) (by omega) (hcs 1 (exS u1) rfl) (by omega) (fun aa W hd ht => hQ aa W hd (by rw [ht, h24]; rfl))
  by_cases h25 : op = 25
  · have har2 : some 1 = some l.length := by rw [← har, h25]; rfl
    obtain hl := (Option.some.inj har2).symm
    obtain ⟨u0, rfl⟩ := len_one hl
    obtain ⟨g, cap, elv, hcap, hcs⟩ := TR.row (cs := [u0].map exS) hT (by simp)
    rw [h25] at hsz
    simp [shS] at hsz
    exact leaf_25 hb h25 elv (by simp) (by simpa using hcap) (hcs 0 (exS u0) rfl) (by omega) (by omega) (fun aa W hd ht => hQ aa W hd (by rw [ht, h25]; rfl))
  by_cases h26 : op = 26
  · have har2 : some 1 = some l.length := by rw [← har, h26]; rfl
    obtain hl := (Option.some.inj har2).symm
    obtain ⟨u0, rfl⟩ := len_one hl
    obtain ⟨g, cap, elv, hcap, hcs⟩ := TR.row (cs := [u0].map exS) hT (by simp)
    rw [h26] at hsz
    simp [shS] at hsz
    exact leaf_26 hb h26 elv (by simp) (by simpa using hcap) (hcs 0 (exS u0) rfl) (by omega) (fun aa W hd ht => hQ aa W hd (by rw [ht, h26]; rfl))
  by_cases h28 : op = 28
  · have har2 : some 1 = some l.length := by rw [← har, h28]; rfl
    obtain hl := (Option.some.inj har2).symm
    obtain ⟨u0, rfl⟩ := len_one hl
    obtain ⟨g, cap, elv, hcap, hcs⟩ := TR.row (cs := [u0].map exS) hT (by simp)
    rw [h28] at hsz
    simp [shS] at hsz
    exact leaf_28 hb h28 elv (by simp) (by simpa using hcap) (hcs 0 (exS u0) rfl) (by omega) (fun aa W hd ht => hQ aa W hd (by rw [ht, h28]; rfl))
  by_cases h27 : op = 27
  · have har2 : some 2 = some l.length := by rw [← har, h27]; rfl
    obtain hl := (Option.some.inj har2).symm
    obtain ⟨u0, u1, rfl⟩ := len_two hl
    obtain ⟨g, cap, elv, hcap, hcs⟩ := TR.row (cs := [u0, u1].map exS) hT (by simp)
    rw [h27] at hsz
    simp [shS] at hsz
    exact leaf_27 hb h27 elv (by simp) (by simpa using hcap) (hcs 0 (exS u0) rfl) (by omega) (hcs 1 (exS u1) rfl) (by omega) (by omega) (fun aa W hd ht => hQ aa W hd (by rw [ht, h27]; rfl))
  have hr : 9 ≤ op ∧ op ≤ 20 ∧ l.length = 2 := by
    unfold arS at har
    split at har
    · rename_i h; have := Option.some.inj har; omega
    · split at har
      · rename_i h; have := Option.some.inj har; omega
      · split at har
        · rename_i h; have := Option.some.inj har; omega
        · exact absurd har (by simp [h22])
  obtain ⟨h9, h20, hl⟩ := hr
  obtain ⟨u0, u1, rfl⟩ := len_two hl
  obtain ⟨g, cap, elv, hcap, hcs⟩ := TR.row (cs := [u0, u1].map exS) hT (by simp)
  have hsh : shS op nm nu bl ([u0, u1].map exS) = ⟨#[40]⟩ ++ exS u0 ++ ⟨#[32]⟩ ++ sgnS op ++ ⟨#[32]⟩ ++ exS u1 ++ ⟨#[41]⟩ := by
    have h21 : op ≠ 21 := by omega
    simp [shS, h21, h1, h2, h3, h4, h5, h6, h7, h8, h22, h23, h24, h25, h26, h28, h27]
  rw [hsh] at hsz hQ
  simp at hsz
  exact leaf_bin hb h9 h20 elv (by simp) (by simpa using hcap) (hcs 0 (exS u0) rfl) (by omega) (hcs 1 (exS u1) rfl) (by omega) (fun aa W hd ht => hQ aa W hd ht)
theorem shS_ge {op : Int} {nm nu : ByteArray} {bl : Bool} {cs : List ByteArray} (har : arS op = some cs.length) {j : Nat} {c : ByteArray} (hj : cs[j]? = some c) : c.size ≤ (shS op nm nu bl cs).size := by
  have hjl := (List.getElem?_eq_some_iff.1 hj).1
  by_cases h1 : op = 1
  · have har2 : some 0 = some cs.length := by rw [← har, h1]; rfl
    obtain hl := (Option.some.inj har2).symm
    omega
  by_cases h2 : op = 2
  · have har2 : some 0 = some cs.length := by rw [← har, h2]; rfl
    obtain hl := (Option.some.inj har2).symm
    omega
  by_cases h3 : op = 3
  · have har2 : some 0 = some cs.length := by rw [← har, h3]; rfl
    obtain hl := (Option.some.inj har2).symm
    omega
  by_cases h4 : op = 4
  · have har2 : some 0 = some cs.length := by rw [← har, h4]; rfl
    obtain hl := (Option.some.inj har2).symm
    omega
  by_cases h5 : op = 5
  · have har2 : some 0 = some cs.length := by rw [← har, h5]; rfl
    obtain hl := (Option.some.inj har2).symm
    omega
  by_cases h6 : op = 6
  · have har2 : some 0 = some cs.length := by rw [← har, h6]; rfl
    obtain hl := (Option.some.inj har2).symm
    omega
  by_cases h7 : op = 7
  · have har2 : some 1 = some cs.length := by rw [← har, h7]; rfl
    obtain hl := (Option.some.inj har2).symm
    obtain ⟨u0, rfl⟩ := len_one hl
    rw [h7]
    rcases j with _ | j
    · obtain rfl : u0 = c := by simpa using hj
      simp [shS]
      omega
    · simp at hj
  by_cases h8 : op = 8
  · have har2 : some 1 = some cs.length := by rw [← har, h8]; rfl
    obtain hl := (Option.some.inj har2).symm
    obtain ⟨u0, rfl⟩ := len_one hl
    rw [h8]
    rcases j with _ | j
    · obtain rfl : u0 = c := by simpa using hj
      simp [shS]
      omega
    · simp at hj
  by_cases h22 : op = 22
  · have har2 : some 3 = some cs.length := by rw [← har, h22]; rfl
    obtain hl := (Option.some.inj har2).symm
    obtain ⟨u0, u1, u2, rfl⟩ := len_three hl
    rw [h22]
    rcases j with _ | _ | _ | j
    · obtain rfl : u0 = c := by simpa using hj
      simp [shS]
      omega
    · obtain rfl : u1 = c := by simpa using hj
      simp [shS]
      omega
    · obtain rfl : u2 = c := by simpa using hj
      simp [shS]
      omega
    · simp at hj
  by_cases h23 : op = 23
  · have har2 : some 2 = some cs.length := by rw [← har, h23]; rfl
    obtain hl := (Option.some.inj har2).symm
    obtain ⟨u0, u1, rfl⟩ := len_two hl
    rw [h23]
    rcases j with _ | _ | j
    · obtain rfl : u0 = c := by simpa using hj
      simp [shS]
      omega
    · obtain rfl : u1 = c := by simpa using hj
      simp [shS]
      omega
    · simp at hj
  by_cases h24 : op = 24
  · have har2 : some 2 = some cs.length := by rw [← har, h24]; rfl
    obtain hl := (Option.some.inj har2).symm
    obtain ⟨u0, u1, rfl⟩ := len_two hl
    rw [h24]
    rcases j with _ | _ | j
    · obtain rfl : u0 = c := by simpa using hj
      simp [shS]
      omega
    · obtain rfl : u1 = c := by simpa using hj
      simp [shS]
      omega
    · simp at hj
  by_cases h25 : op = 25
  · have har2 : some 1 = some cs.length := by rw [← har, h25]; rfl
    obtain hl := (Option.some.inj har2).symm
    obtain ⟨u0, rfl⟩ := len_one hl
    rw [h25]
    rcases j with _ | j
    · obtain rfl : u0 = c := by simpa using hj
      simp [shS]
      omega
    · simp at hj
  by_cases h26 : op = 26
  · have har2 : some 1 = some cs.length := by rw [← har, h26]; rfl
    obtain hl := (Option.some.inj har2).symm
    obtain ⟨u0, rfl⟩ := len_one hl
    rw [h26]
    rcases j with _ | j
    · obtain rfl : u0 = c := by simpa using hj
      simp [shS]
      omega
    · simp at hj
  by_cases h28 : op = 28
  · have har2 : some 1 = some cs.length := by rw [← har, h28]; rfl
    obtain hl := (Option.some.inj har2).symm
    obtain ⟨u0, rfl⟩ := len_one hl
    rw [h28]
    rcases j with _ | j
    · obtain rfl : u0 = c := by simpa using hj
      simp [shS]
      omega
    · simp at hj
  by_cases h27 : op = 27
  · have har2 : some 2 = some cs.length := by rw [← har, h27]; rfl
    obtain hl := (Option.some.inj har2).symm
    obtain ⟨u0, u1, rfl⟩ := len_two hl
    rw [h27]
    rcases j with _ | _ | j
    · obtain rfl : u0 = c := by simpa using hj
      simp [shS]
      omega
    · obtain rfl : u1 = c := by simpa using hj
      simp [shS]
      omega
    · simp at hj
  have hr : 9 ≤ op ∧ op ≤ 20 ∧ cs.length = 2 := by
    unfold arS at har
    split at har
    · rename_i h; have := Option.some.inj har; omega
    · split at har
      · rename_i h; have := Option.some.inj har; omega
      · split at har
        · rename_i h; have := Option.some.inj har; omega
        · exact absurd har (by simp [h22])
  obtain ⟨h9, h20, hl⟩ := hr
  obtain ⟨u0, u1, rfl⟩ := len_two hl
  have h21 : op ≠ 21 := by omega
  have hsh : shS op nm nu bl [u0, u1] = ⟨#[40]⟩ ++ u0 ++ ⟨#[32]⟩ ++ sgnS op ++ ⟨#[32]⟩ ++ u1 ++ ⟨#[41]⟩ := by
    simp [shS, h21, h1, h2, h3, h4, h5, h6, h7, h8, h22, h23, h24, h25, h26, h28, h27]
  rw [hsh]
  rcases j with _ | _ | j
  · obtain rfl : u0 = c := by simpa using hj
    simp
    omega
  · obtain rfl : u1 = c := by simpa using hj
    simp
    omega
  · simp at hj
theorem ar_three {op : Int} {n : Nat} (h : arS op = some n) : n ≤ 3 := by
  unfold arS at h
  split at h
  · have := Option.some.inj h; omega
  · split at h
    · have := Option.some.inj h; omega
    · split at h
      · have := Option.some.inj h; omega
      · split at h
        · have := Option.some.inj h; omega
        · cases h
theorem r16_step {k : Nat} (ih : ∀ k', k = k' + 1 → R16 k') : R16 k := by
  intro w v t P hv hwf hsz
  obtain ⟨x4, rfl, hls⟩ := hv.ls
  obtain ⟨op, nm, nu, bl, l, i⟩ := t
  obtain ⟨a, c, rfl, hrow⟩ := hls
  have hls : LsV w P k (.slice a l.length c) l := ⟨a, c, rfl, hrow⟩
  unfold wfE at hwf
  simp only [Bool.and_eq_true, decide_eq_true_eq, List.all_eq_true, List.mem_map, id_eq, forall_exists_index, and_imp, forall_apply_eq_imp_iff₂] at hwf
  obtain ⟨har, hkids⟩ := hwf
  refine r16_loop (ar_three har) hrow.1 (fun j u hu => ?_) (fun W lv x7 x8 x9 x10 x11 x12 x13 x14 x15 x16 x17 x18 x19 x20 x21 x22 Q hT hQ => r16_end har hsz hT hQ)
  cases k with
  | zero =>
    have := hls.nil
    subst this
    simp at hu
  | succ k =>
    obtain ⟨-, -, b, off, x4, rfl, hb, hr, hx⟩ := hls.at hu
    obtain ⟨y4, e, a4, c4, rfl, -⟩ := hx.ls
    have e4 : x4 = .slice a4 u.l.length c4 := by simpa using e
    subst e4
    refine ⟨b, off, a4, _, c4, rfl, hb, hr, fun W hW => ih k rfl W _ u P (hx.keep hW) (hkids u (List.mem_of_getElem? hu)) ?_⟩
    have h1 : (l.map exS)[j]? = some (exS u) := by rw [List.getElem?_map, hu]; rfl
    have h2 := shS_ge (nm := nm) (nu := nu) (bl := bl) (cs := l.map exS) (by rw [List.length_map]; exact har) h1
    have hex : exS (.mk op nm nu bl l i) = shS op nm nu bl (l.map exS) := by rw [exS]
    rw [hex] at hsz
    exact Nat.le_trans h2 hsz
theorem r16_all : ∀ k, R16 k
  | 0 => r16_step fun k' h => by cases h
  | k + 1 => r16_step fun k' h => by
    obtain rfl : k = k' := by omega
    exact r16_all k
/-- The document's text of a tree without calls. -/
theorem r16_any {w : World} {v : Value} {t : Ex} {P : Nat → Prop} (h : IsEP w P v t) (hwf : wfE t = true) (hsz : (exS t).size ≤ 1000000) : Calls Tryz.prog 23 #[v] w (VP (.string (exS t)) w) := by
  obtain ⟨k, hk⟩ := h.exv
  exact r16_all k w v t P hk hwf hsz
end Go.Proofs.YtfkfnbehdcmgeaaGreatDoor

/- Package parse: if. -/
namespace Go.Proofs.YtfkfnbehdcmgeaaGreatDoor
open Go Go.RowKit
set_option maxRecDepth 100000 in
set_option maxHeartbeats 8000000 in
theorem branch_of {r d lo : Nat} {ts : List (Int × ByteArray × Int)} {g : Ru → Nat → Nat → (Except (Int × Int) (Ex × Nat))} (hT : TsOk ts) (hE : RuC 59 r ts d (lo + 1) (g .rE d)) {w : World} {p : Nat} (hlo : lo ≤ p) (hp1 : p + 1 < ts.length) (hR : RD w r ts p d) : Calls Tryz.prog 95 #[.pointer (some ⟨r, 0, none⟩)] w (PE (branchR ts g d p) r ts p d w) := by
  obtain ⟨Y, hY⟩ : ∃ Y, branchR ts g d p = Y := ⟨_, rfl⟩
  rw [hY]
  unfold branchR at hY
  have hr := hR.rlt
  obtain ⟨A, eA, hbA, hzA, hsA⟩ := zb_new w
  have HB := hide (But.of (r := r) hbA)
  have HR := hide (hR.keep hbA)
  have HZ := hide hzA
  have HS : Hid (w.heap.size < A.heap.size) := by show _ < _; omega
  have HL : Hid (p ≤ p ∧ lo ≤ p) := ⟨Nat.le_refl _, hlo⟩
  have HSA := hide hsA
  have HE := hide eA
  have HT := hide hT
  have HY := hide hY
  have hrne : r ≠ w.heap.size := by omega
  have hmf : ∀ (fn : Fn) (first cap : Array Value) (w : World), (Instr.makeFunc fn first cap).run Tryz.prog w = .ok (.func fn first cap) w := fun _ _ _ _ => rfl
  replace hE := hide hE
  replace hp1 := hide hp1
  clear hlo hR hbA hzA hsA eA hT hY
  go_enter Tryz.func95, Tryz.ntmps95
  have HC0 := hide (take_any (unhide HR) (unhide HT) (unhide hp1))
  unfold tkV at HC0
  obtain ⟨⟨kk0, T0, at0⟩, hN0⟩ : ∃ X, nx ts p = X := ⟨_, rfl⟩
  rw [hN0] at HC0
  have HN0 := hide hN0
  clear hN0
  go_wp2_with fail
  rw [unhide HE]
  refine (unhide HC0).mono ?_
  rintro e w0 ⟨rfl, hb0, hR0⟩
  replace HB := hide ((unhide HB).trans hb0)
  replace HZ := hide ((unhide HZ).but hb0 hrne)
  replace HS := hide (Nat.lt_of_lt_of_le (unhide HS) hb0.size)
  replace HR := hide hR0
  replace HL : Hid (p ≤ p + 1 ∧ lo + 1 ≤ p + 1) := And.intro (Nat.le_succ_of_le (unhide HL).1) (Nat.succ_le_succ (unhide HL).2)
  clear hb0 hR0 HC0
  obtain ⟨B1, eB1, hbB1, hsB1, hhB1⟩ := box_new w0 #[.int .i64 kk0, .string T0, .int .i64 at0] 74
  have ne1 : r ≠ w0.heap.size := by have := unhide HS; omega
  have HQHX1 := HS
  have hbu2 := But.of (r := r) hbB1
  replace HR := hide ((unhide HR).keep hbB1)
  replace HB := hide ((unhide HB).trans hbu2)
  replace HZ := hide ((unhide HZ).but hbu2 hrne)
  replace HS := hide (Nat.lt_of_lt_of_le (unhide HS) hbu2.size)
  have HX1 := hide hhB1
  have HEB1 := hide eB1
  have HSB1 := hide hsB1
  clear eB1 hbB1 hhB1 hsB1
  have HC3 := hide (unhide hE B1 (p + 1) (unhide HL).2 (unhide HR))
  go_wp2_with fail
  rw [unhide HEB1]
  refine (unhide HC3).mono ?_
  intro e w3 h3
  rcases hX3 : g .rE d (p + 1) with er | ⟨t3, q3⟩
  · rw [hX3] at h3
    obtain ⟨ei, en⟩ := er
    have hYe : Y = .error (ei, en) := by have h := unhide HY; rw [hX3] at h; exact h.symm
    subst hYe
    obtain ⟨hb3, h3⟩ := h3
    obtain rfl : e = _ := h3
    have HP := hide ((unhide HB).trans hb3)
    clear hb3 HC3 hX3
    go_wp2
    exact ⟨rfl, unhide HP, rfl⟩
  rw [hX3] at h3
  obtain ⟨hb3, hle3, hR3, v3, rfl, hv3⟩ := h3
  have hY3 := unhide HY
  rw [hX3] at hY3
  simp only [thenR] at hY3
  replace HY := hide hY3
  clear hY3
  obtain ⟨i3, j3, s3, m3, b3, a3, n3, c3, rfl⟩ := hv3.form
  have HT3 := hide (hv3.keep (lo' := w.heap.size + 1) (Stays.of (Below.refl _ _)) (unhide HS))
  replace HB := hide ((unhide HB).trans hb3)
  replace HZ := hide ((unhide HZ).but hb3 hrne)
  replace HX1 := hide ((hb3.block _ (blk (unhide HX1)).1 (Ne.symm ne1)).trans (unhide HX1))
  replace HS := hide (Nat.lt_of_lt_of_le (unhide HS) hb3.size)
  replace HR := hide hR3
  replace HL := hide (And.intro (Nat.le_trans (unhide HL).1 hle3) (Nat.le_trans (unhide HL).2 hle3))
  clear hb3 hle3 hR3 hv3 HC3 hX3
  obtain ⟨B4, eB4, hbB4, hsB4, hhB4⟩ := box_new w3 #[.int .i64 i3, .string s3, .string m3, .bool b3, .slice a3 n3 c3, .int .i64 0, .int .i64 j3] 36
  have ne4 : r ≠ w3.heap.size := by have := unhide HS; omega
  have HQHX4 := HS
  have hbu5 := But.of (r := r) hbB4
  replace HR := hide ((unhide HR).keep hbB4)
  replace HB := hide ((unhide HB).trans hbu5)
  replace HZ := hide ((unhide HZ).but hbu5 hrne)
  replace HX1 := hide ((hbu5.block _ (blk (unhide HX1)).1 (Ne.symm ne1)).trans (unhide HX1))
  replace HT3 := hide ((unhide HT3).keep (Stays.but hbu5 (Nat.lt_succ_of_lt hr)) (Nat.le_refl _))
  replace HS := hide (Nat.lt_of_lt_of_le (unhide HS) hbu5.size)
  have HX4 := hide hhB4
  have HEB4 := hide eB4
  have HSB4 := hide hsB4
  clear eB4 hbB4 hhB4 hsB4
  have HC6 := hide (must_any (unhide HR) (unhide HT) (s := ⟨#[116, 104, 101, 110]⟩) (by decide))
  go_wp2_with fail
  rw [unhide HEB4]
  refine (unhide HC6).mono ?_
  intro e w6 h6
  rcases hX6 : mustR ts ⟨#[116, 104, 101, 110]⟩ (q3) with er | ⟨t6, q6⟩
  · rw [hX6] at h6
    obtain ⟨ei, en⟩ := er
    have hYe : Y = .error (ei, en) := by have h := unhide HY; rw [hX6] at h; exact h.symm
    subst hYe
    obtain ⟨hb6, h6⟩ := h6
    obtain rfl : e = _ := h6
    have HP := hide ((unhide HB).trans hb6)
    clear hb6 HC6 hX6
    go_wp2
    exact ⟨rfl, unhide HP, rfl⟩
  rw [hX6] at h6
  obtain ⟨hb6, hle6, hR6, v6, rfl, hv6⟩ := h6
  have hY6 := unhide HY
  rw [hX6] at hY6
  simp only [thenR] at hY6
  replace HY := hide hY6
  clear hY6
  obtain rfl : v6 = _ := hv6
  replace HB := hide ((unhide HB).trans hb6)
  replace HZ := hide ((unhide HZ).but hb6 hrne)
  replace HX1 := hide ((hb6.block _ (blk (unhide HX1)).1 (Ne.symm ne1)).trans (unhide HX1))
  replace HX4 := hide ((hb6.block _ (blk (unhide HX4)).1 (Ne.symm ne4)).trans (unhide HX4))
  replace HT3 := hide ((unhide HT3).keep (Stays.but hb6 (Nat.lt_succ_of_lt hr)) (Nat.le_refl _))
  replace HS := hide (Nat.lt_of_lt_of_le (unhide HS) hb6.size)
  replace HR := hide hR6
  replace HL := hide (And.intro (Nat.le_trans (unhide HL).1 hle6) (Nat.le_trans (unhide HL).2 hle6))
  clear hb6 hle6 hR6 HC6 hX6
  have HC7 := hide (unhide hE w6 (q6) (unhide HL).2 (unhide HR))
  go_wp2_with fail
  refine (unhide HC7).mono ?_
  intro e w7 h7
  rcases hX7 : g .rE d (q6) with er | ⟨t7, q7⟩
  · rw [hX7] at h7
    obtain ⟨ei, en⟩ := er
    have hYe : Y = .error (ei, en) := by have h := unhide HY; rw [hX7] at h; exact h.symm
    subst hYe
    obtain ⟨hb7, h7⟩ := h7
    obtain rfl : e = _ := h7
    have HP := hide ((unhide HB).trans hb7)
    clear hb7 HC7 hX7
    go_wp2
    exact ⟨rfl, unhide HP, rfl⟩
  rw [hX7] at h7
  obtain ⟨hb7, hle7, hR7, v7, rfl, hv7⟩ := h7
  have hY7 := unhide HY
  rw [hX7] at hY7
  simp only [thenR] at hY7
  replace HY := hide hY7
  clear hY7
  obtain ⟨i7, j7, s7, m7, b7, a7, n7, c7, rfl⟩ := hv7.form
  have HT7 := hide (hv7.keep (lo' := w.heap.size + 1) (Stays.of (Below.refl _ _)) (unhide HS))
  replace HB := hide ((unhide HB).trans hb7)
  replace HZ := hide ((unhide HZ).but hb7 hrne)
  replace HX1 := hide ((hb7.block _ (blk (unhide HX1)).1 (Ne.symm ne1)).trans (unhide HX1))
  replace HX4 := hide ((hb7.block _ (blk (unhide HX4)).1 (Ne.symm ne4)).trans (unhide HX4))
  replace HT3 := hide ((unhide HT3).keep (Stays.but hb7 (Nat.lt_succ_of_lt hr)) (Nat.le_refl _))
  replace HS := hide (Nat.lt_of_lt_of_le (unhide HS) hb7.size)
  replace HR := hide hR7
  replace HL := hide (And.intro (Nat.le_trans (unhide HL).1 hle7) (Nat.le_trans (unhide HL).2 hle7))
  clear hb7 hle7 hR7 hv7 HC7 hX7
  obtain ⟨B8, eB8, hbB8, hsB8, hhB8⟩ := box_new w7 #[.int .i64 i7, .string s7, .string m7, .bool b7, .slice a7 n7 c7, .int .i64 0, .int .i64 j7] 36
  have ne8 : r ≠ w7.heap.size := by have := unhide HS; omega
  have HQHX8 := HS
  have hbu9 := But.of (r := r) hbB8
  replace HR := hide ((unhide HR).keep hbB8)
  replace HB := hide ((unhide HB).trans hbu9)
  replace HZ := hide ((unhide HZ).but hbu9 hrne)
  replace HX1 := hide ((hbu9.block _ (blk (unhide HX1)).1 (Ne.symm ne1)).trans (unhide HX1))
  replace HX4 := hide ((hbu9.block _ (blk (unhide HX4)).1 (Ne.symm ne4)).trans (unhide HX4))
  replace HT3 := hide ((unhide HT3).keep (Stays.but hbu9 (Nat.lt_succ_of_lt hr)) (Nat.le_refl _))
  replace HT7 := hide ((unhide HT7).keep (Stays.but hbu9 (Nat.lt_succ_of_lt hr)) (Nat.le_refl _))
  replace HS := hide (Nat.lt_of_lt_of_le (unhide HS) hbu9.size)
  have HX8 := hide hhB8
  have HEB8 := hide eB8
  have HSB8 := hide hsB8
  clear eB8 hbB8 hhB8 hsB8
  have HC10 := hide (must_any (unhide HR) (unhide HT) (s := ⟨#[101, 108, 115, 101]⟩) (by decide))
  go_wp2_with fail
  rw [unhide HEB8]
  refine (unhide HC10).mono ?_
  intro e w10 h10
  rcases hX10 : mustR ts ⟨#[101, 108, 115, 101]⟩ (q7) with er | ⟨t10, q10⟩
  · rw [hX10] at h10
    obtain ⟨ei, en⟩ := er
    have hYe : Y = .error (ei, en) := by have h := unhide HY; rw [hX10] at h; exact h.symm
    subst hYe
    obtain ⟨hb10, h10⟩ := h10
    obtain rfl : e = _ := h10
    have HP := hide ((unhide HB).trans hb10)
    clear hb10 HC10 hX10
    go_wp2
    exact ⟨rfl, unhide HP, rfl⟩
  rw [hX10] at h10
  obtain ⟨hb10, hle10, hR10, v10, rfl, hv10⟩ := h10
  have hY10 := unhide HY
  rw [hX10] at hY10
  simp only [thenR] at hY10
  replace HY := hide hY10
  clear hY10
  obtain rfl : v10 = _ := hv10
  replace HB := hide ((unhide HB).trans hb10)
  replace HZ := hide ((unhide HZ).but hb10 hrne)
  replace HX1 := hide ((hb10.block _ (blk (unhide HX1)).1 (Ne.symm ne1)).trans (unhide HX1))
  replace HX4 := hide ((hb10.block _ (blk (unhide HX4)).1 (Ne.symm ne4)).trans (unhide HX4))
  replace HX8 := hide ((hb10.block _ (blk (unhide HX8)).1 (Ne.symm ne8)).trans (unhide HX8))
  replace HT3 := hide ((unhide HT3).keep (Stays.but hb10 (Nat.lt_succ_of_lt hr)) (Nat.le_refl _))
  replace HT7 := hide ((unhide HT7).keep (Stays.but hb10 (Nat.lt_succ_of_lt hr)) (Nat.le_refl _))
  replace HS := hide (Nat.lt_of_lt_of_le (unhide HS) hb10.size)
  replace HR := hide hR10
  replace HL := hide (And.intro (Nat.le_trans (unhide HL).1 hle10) (Nat.le_trans (unhide HL).2 hle10))
  clear hb10 hle10 hR10 HC10 hX10
  have HC11 := hide (unhide hE w10 (q10) (unhide HL).2 (unhide HR))
  go_wp2_with fail
  refine (unhide HC11).mono ?_
  intro e w11 h11
  rcases hX11 : g .rE d (q10) with er | ⟨t11, q11⟩
  · rw [hX11] at h11
    obtain ⟨ei, en⟩ := er
    have hYe : Y = .error (ei, en) := by have h := unhide HY; rw [hX11] at h; exact h.symm
    subst hYe
    obtain ⟨hb11, h11⟩ := h11
    obtain rfl : e = _ := h11
    have HP := hide ((unhide HB).trans hb11)
    clear hb11 HC11 hX11
    go_wp2
    exact ⟨rfl, unhide HP, rfl⟩
  rw [hX11] at h11
  obtain ⟨hb11, hle11, hR11, v11, rfl, hv11⟩ := h11
  have hY11 := unhide HY
  rw [hX11] at hY11
  simp only [thenR] at hY11
  replace HY := hide hY11
  clear hY11
  obtain ⟨i11, j11, s11, m11, b11, a11, n11, c11, rfl⟩ := hv11.form
  have HT11 := hide (hv11.keep (lo' := w.heap.size + 1) (Stays.of (Below.refl _ _)) (unhide HS))
  replace HB := hide ((unhide HB).trans hb11)
  replace HZ := hide ((unhide HZ).but hb11 hrne)
  replace HX1 := hide ((hb11.block _ (blk (unhide HX1)).1 (Ne.symm ne1)).trans (unhide HX1))
  replace HX4 := hide ((hb11.block _ (blk (unhide HX4)).1 (Ne.symm ne4)).trans (unhide HX4))
  replace HX8 := hide ((hb11.block _ (blk (unhide HX8)).1 (Ne.symm ne8)).trans (unhide HX8))
  replace HT3 := hide ((unhide HT3).keep (Stays.but hb11 (Nat.lt_succ_of_lt hr)) (Nat.le_refl _))
  replace HT7 := hide ((unhide HT7).keep (Stays.but hb11 (Nat.lt_succ_of_lt hr)) (Nat.le_refl _))
  replace HS := hide (Nat.lt_of_lt_of_le (unhide HS) hb11.size)
  replace HR := hide hR11
  replace HL := hide (And.intro (Nat.le_trans (unhide HL).1 hle11) (Nat.le_trans (unhide HL).2 hle11))
  clear hb11 hle11 hR11 hv11 HC11 hX11
  obtain ⟨B12, eB12, hbB12, hsB12, hhB12⟩ := box_new w11 #[.int .i64 i11, .string s11, .string m11, .bool b11, .slice a11 n11 c11, .int .i64 0, .int .i64 j11] 36
  have ne12 : r ≠ w11.heap.size := by have := unhide HS; omega
  have HQHX12 := HS
  have hbu13 := But.of (r := r) hbB12
  replace HR := hide ((unhide HR).keep hbB12)
  replace HB := hide ((unhide HB).trans hbu13)
  replace HZ := hide ((unhide HZ).but hbu13 hrne)
  replace HX1 := hide ((hbu13.block _ (blk (unhide HX1)).1 (Ne.symm ne1)).trans (unhide HX1))
  replace HX4 := hide ((hbu13.block _ (blk (unhide HX4)).1 (Ne.symm ne4)).trans (unhide HX4))
  replace HX8 := hide ((hbu13.block _ (blk (unhide HX8)).1 (Ne.symm ne8)).trans (unhide HX8))
  replace HT3 := hide ((unhide HT3).keep (Stays.but hbu13 (Nat.lt_succ_of_lt hr)) (Nat.le_refl _))
  replace HT7 := hide ((unhide HT7).keep (Stays.but hbu13 (Nat.lt_succ_of_lt hr)) (Nat.le_refl _))
  replace HT11 := hide ((unhide HT11).keep (Stays.but hbu13 (Nat.lt_succ_of_lt hr)) (Nat.le_refl _))
  replace HS := hide (Nat.lt_of_lt_of_le (unhide HS) hbu13.size)
  have HX12 := hide hhB12
  have HEB12 := hide eB12
  have HSB12 := hide hsB12
  clear eB12 hbB12 hhB12 hsB12
  have u01 := (blk (unhide HX1)).2.1 0 _ rfl
  have u11 := (blk (unhide HX1)).2.1 1 _ rfl
  have u21 := (blk (unhide HX1)).2.1 2 _ rfl
  obtain ⟨y04, y14, y24, y34, y44, y54, y64⟩ := blk7 (unhide HX4)
  obtain ⟨y08, y18, y28, y38, y48, y58, y68⟩ := blk7 (unhide HX8)
  obtain ⟨y012, y112, y212, y312, y412, y512, y612⟩ := blk7 (unhide HX12)
  rw [← unhide HEB12] at u01 u11 u21 y04 y14 y24 y34 y44 y54 y64 y08 y18 y28 y38 y48 y58 y68 y012 y112 y212 y312 y412 y512 y612
  go_wp2_with fail
  rw [unhide HEB12]
  clear u01 u11 u21 y04 y14 y24 y34 y44 y54 y64 y08 y18 y28 y38 y48 y58 y68 y012 y112 y212 y312 y412 y512 y612
  refine (made_any _ _ _ _ _ _ _ _).mono ?_
  rintro e w14 ⟨rfl, hb14⟩
  obtain ⟨C14, eC14, hbC14, hsC14, hhC14⟩ := box_new B12 #[.int .i64 i3, .string s3, .string m3, .bool b3, .slice a3 n3 c3, .int .i64 0, .int .i64 j3, .int .i64 i7, .string s7, .string m7, .bool b7, .slice a7 n7 c7, .int .i64 0, .int .i64 j7, .int .i64 i11, .string s11, .string m11, .bool b11, .slice a11 n11 c11, .int .i64 0, .int .i64 j11] 36
  rw [eC14] at hb14
  have hnode := node (l := [t3, t7, t11]) (vs := [[.int .i64 i3, .string s3, .string m3, .bool b3, .slice a3 n3 c3, .int .i64 0, .int .i64 j3], [.int .i64 i7, .string s7, .string m7, .bool b7, .slice a7 n7 c7, .int .i64 0, .int .i64 j7], [.int .i64 i11, .string s11, .string m11, .bool b11, .slice a11 n11 c11, .int .i64 0, .int .i64 j11]]) 22 at0 ⟨#[]⟩ ⟨#[]⟩ false eC14 rfl (by simp) rfl (by simp) (unhide HS) (fun j v t hv ht => by
    rcases j with _ | _ | _ | j
    · obtain rfl := Option.some.inj hv
      obtain rfl := Option.some.inj ht
      exact unhide HT3
    · obtain rfl := Option.some.inj hv
      obtain rfl := Option.some.inj ht
      exact unhide HT7
    · obtain rfl := Option.some.inj hv
      obtain rfl := Option.some.inj ht
      exact unhide HT11
    · simp at hv)
  rw [unhide HSB12] at hnode
  have hbCb := hbC14.trans (hb14.mono hbC14.size)
  replace hnode := hnode.keep (Stays.of hb14) (Nat.le_refl _)
  have hbu15 := But.of (r := r) hbCb
  replace HR := hide ((unhide HR).keep hbCb)
  replace HB := hide ((unhide HB).trans hbu15)
  replace HZ := hide ((unhide HZ).but hbu15 hrne)
  replace HX1 := hide ((hbu15.block _ (blk (unhide HX1)).1 (Ne.symm ne1)).trans (unhide HX1))
  replace HX4 := hide ((hbu15.block _ (blk (unhide HX4)).1 (Ne.symm ne4)).trans (unhide HX4))
  replace HX8 := hide ((hbu15.block _ (blk (unhide HX8)).1 (Ne.symm ne8)).trans (unhide HX8))
  replace HX12 := hide ((hbu15.block _ (blk (unhide HX12)).1 (Ne.symm ne12)).trans (unhide HX12))
  replace HS := hide (Nat.lt_of_lt_of_le (unhide HS) hbu15.size)
  obtain ⟨y0, y1, y2, y3, y4, y5, y6⟩ := blk7 (unhide HZ)
  obtain ⟨z0, z1, z2, z3, z4, z5, z6⟩ := frz7 (unhide HZ)
  have HNode := hide hnode
  go_wp2
  exact ret_put rfl rfl rfl (unhide HB) hr (unhide HZ) (by have h := unhide HY; rw [unhide HN0] at h; exact h.symm) (unhide HL).1 (unhide HR) (Nat.lt_succ_self _) (unhide HNode)
end Go.Proofs.YtfkfnbehdcmgeaaGreatDoor

namespace Go.Proofs.YtfkfnbehdcmgeaaGreatDoor
open Go Go.RowKit
set_option maxRecDepth 100000 in
set_option maxHeartbeats 8000000 in
theorem binding_of {r d lo : Nat} {ts : List (Int × ByteArray × Int)} {g : Ru → Nat → Nat → (Except (Int × Int) (Ex × Nat))} (hT : TsOk ts) (hE : RuC 59 r ts d (lo + 1) (g .rE d)) {w : World} {p : Nat} (hlo : lo ≤ p) (hp1 : p + 1 < ts.length) (hR : RD w r ts p d) : Calls Tryz.prog 96 #[.pointer (some ⟨r, 0, none⟩)] w (PE (bindR ts g d p) r ts p d w) := by
  obtain ⟨Y, hY⟩ : ∃ Y, bindR ts g d p = Y := ⟨_, rfl⟩
  rw [hY]
  unfold bindR at hY
  have hr := hR.rlt
  obtain ⟨A, eA, hbA, hzA, hsA⟩ := zb_new w
  have HB := hide (But.of (r := r) hbA)
  have HR := hide (hR.keep hbA)
  have HZ := hide hzA
  have HS : Hid (w.heap.size < A.heap.size) := by show _ < _; omega
  have HL : Hid (p ≤ p ∧ lo ≤ p) := ⟨Nat.le_refl _, hlo⟩
  have HE := hide eA
  have HT := hide hT
  have HY := hide hY
  have hrne : r ≠ w.heap.size := by omega
  have hmf : ∀ (fn : Fn) (first cap : Array Value) (w : World), (Instr.makeFunc fn first cap).run Tryz.prog w = .ok (.func fn first cap) w := fun _ _ _ _ => rfl
  replace hE := hide hE
  replace hp1 := hide hp1
  clear hlo hR hbA hzA hsA eA hT hY
  go_enter Tryz.func96, Tryz.ntmps96
  have HC0 := hide (take_any (unhide HR) (unhide HT) (unhide hp1))
  unfold tkV at HC0
  obtain ⟨⟨kk0, T0, at0⟩, hN0⟩ : ∃ X, nx ts p = X := ⟨_, rfl⟩
  rw [hN0] at HC0
  have HN0 := hide hN0
  clear hN0
  go_wp2_with fail
  rw [unhide HE]
  refine (unhide HC0).mono ?_
  rintro e w0 ⟨rfl, hb0, hR0⟩
  replace HB := hide ((unhide HB).trans hb0)
  replace HZ := hide ((unhide HZ).but hb0 hrne)
  replace HS := hide (Nat.lt_of_lt_of_le (unhide HS) hb0.size)
  replace HR := hide hR0
  replace HL : Hid (p ≤ p + 1 ∧ lo + 1 ≤ p + 1) := And.intro (Nat.le_succ_of_le (unhide HL).1) (Nat.succ_le_succ (unhide HL).2)
  clear hb0 hR0 HC0
  obtain ⟨B1, eB1, hbB1, hsB1, hhB1⟩ := box_new w0 #[.int .i64 kk0, .string T0, .int .i64 at0] 74
  have ne1 : r ≠ w0.heap.size := by have := unhide HS; omega
  have hbu2 := But.of (r := r) hbB1
  replace HR := hide ((unhide HR).keep hbB1)
  replace HB := hide ((unhide HB).trans hbu2)
  replace HZ := hide ((unhide HZ).but hbu2 hrne)
  replace HS := hide (Nat.lt_of_lt_of_le (unhide HS) hbu2.size)
  have HX1 := hide hhB1
  have HEB1 := hide eB1
  have HSB1 := hide hsB1
  clear eB1 hbB1 hhB1 hsB1
  have HC3 := hide (mustBe_any (unhide HR) (unhide HT) (k := 1) (by decide))
  go_wp2_with fail
  rw [unhide HEB1]
  refine (unhide HC3).mono ?_
  intro e w3 h3
  rcases hX3 : mustBeR ts 1 (p + 1) with er | ⟨t3, q3⟩
  · rw [hX3] at h3
    obtain ⟨ei, en⟩ := er
    have hYe : Y = .error (ei, en) := by have h := unhide HY; rw [hX3] at h; exact h.symm
    subst hYe
    obtain ⟨hb3, h3⟩ := h3
    obtain rfl : e = _ := h3
    have HP := hide ((unhide HB).trans hb3)
    clear hb3 HC3 hX3
    go_wp2
    exact ⟨rfl, unhide HP, rfl⟩
  rw [hX3] at h3
  obtain ⟨hb3, hle3, hR3, v3, rfl, hv3⟩ := h3
  have hY3 := unhide HY
  rw [hX3] at hY3
  simp only [thenR] at hY3
  replace HY := hide hY3
  clear hY3
  obtain ⟨kk3, T3, at3⟩ := t3
  obtain rfl : v3 = _ := hv3
  have hf03 := fld0 (.int .i64 kk3) (.string T3) (.int .i64 at3)
  have hf13 := fld1 (.int .i64 kk3) (.string T3) (.int .i64 at3)
  unfold tkV
  replace HB := hide ((unhide HB).trans hb3)
  replace HZ := hide ((unhide HZ).but hb3 hrne)
  replace HX1 := hide ((hb3.block _ (blk (unhide HX1)).1 (Ne.symm ne1)).trans (unhide HX1))
  replace HS := hide (Nat.lt_of_lt_of_le (unhide HS) hb3.size)
  replace HR := hide hR3
  replace HL := hide (And.intro (Nat.le_trans (unhide HL).1 hle3) (Nat.le_trans (unhide HL).2 hle3))
  clear hb3 hle3 hR3 HC3 hX3
  have HC4 := hide (must_any (unhide HR) (unhide HT) (s := ⟨#[61]⟩) (by decide))
  go_wp2_with fail
  refine (unhide HC4).mono ?_
  intro e w4 h4
  rcases hX4 : mustR ts ⟨#[61]⟩ (q3) with er | ⟨t4, q4⟩
  · rw [hX4] at h4
    obtain ⟨ei, en⟩ := er
    have hYe : Y = .error (ei, en) := by have h := unhide HY; rw [hX4] at h; exact h.symm
    subst hYe
    obtain ⟨hb4, h4⟩ := h4
    obtain rfl : e = _ := h4
    have HP := hide ((unhide HB).trans hb4)
    clear hb4 HC4 hX4
    go_wp2
    exact ⟨rfl, unhide HP, rfl⟩
  rw [hX4] at h4
  obtain ⟨hb4, hle4, hR4, v4, rfl, hv4⟩ := h4
  have hY4 := unhide HY
  rw [hX4] at hY4
  simp only [thenR] at hY4
  replace HY := hide hY4
  clear hY4
  obtain rfl : v4 = _ := hv4
  replace HB := hide ((unhide HB).trans hb4)
  replace HZ := hide ((unhide HZ).but hb4 hrne)
  replace HX1 := hide ((hb4.block _ (blk (unhide HX1)).1 (Ne.symm ne1)).trans (unhide HX1))
  replace HS := hide (Nat.lt_of_lt_of_le (unhide HS) hb4.size)
  replace HR := hide hR4
  replace HL := hide (And.intro (Nat.le_trans (unhide HL).1 hle4) (Nat.le_trans (unhide HL).2 hle4))
  clear hb4 hle4 hR4 HC4 hX4
  have HC5 := hide (unhide hE w4 (q4) (unhide HL).2 (unhide HR))
  go_wp2_with fail
  refine (unhide HC5).mono ?_
  intro e w5 h5
  rcases hX5 : g .rE d (q4) with er | ⟨t5, q5⟩
  · rw [hX5] at h5
    obtain ⟨ei, en⟩ := er
    have hYe : Y = .error (ei, en) := by have h := unhide HY; rw [hX5] at h; exact h.symm
    subst hYe
    obtain ⟨hb5, h5⟩ := h5
    obtain rfl : e = _ := h5
    have HP := hide ((unhide HB).trans hb5)
    clear hb5 HC5 hX5
    go_wp2
    exact ⟨rfl, unhide HP, rfl⟩
  rw [hX5] at h5
  obtain ⟨hb5, hle5, hR5, v5, rfl, hv5⟩ := h5
  have hY5 := unhide HY
  rw [hX5] at hY5
  simp only [thenR] at hY5
  replace HY := hide hY5
  clear hY5
  obtain ⟨i5, j5, s5, m5, b5, a5, n5, c5, rfl⟩ := hv5.form
  have HT5 := hide (hv5.keep (lo' := w.heap.size + 1) (Stays.of (Below.refl _ _)) (unhide HS))
  replace HB := hide ((unhide HB).trans hb5)
  replace HZ := hide ((unhide HZ).but hb5 hrne)
  replace HX1 := hide ((hb5.block _ (blk (unhide HX1)).1 (Ne.symm ne1)).trans (unhide HX1))
  replace HS := hide (Nat.lt_of_lt_of_le (unhide HS) hb5.size)
  replace HR := hide hR5
  replace HL := hide (And.intro (Nat.le_trans (unhide HL).1 hle5) (Nat.le_trans (unhide HL).2 hle5))
  clear hb5 hle5 hR5 hv5 HC5 hX5
  obtain ⟨B6, eB6, hbB6, hsB6, hhB6⟩ := box_new w5 #[.int .i64 i5, .string s5, .string m5, .bool b5, .slice a5 n5 c5, .int .i64 0, .int .i64 j5] 36
  have ne6 : r ≠ w5.heap.size := by have := unhide HS; omega
  have hbu7 := But.of (r := r) hbB6
  replace HR := hide ((unhide HR).keep hbB6)
  replace HB := hide ((unhide HB).trans hbu7)
  replace HZ := hide ((unhide HZ).but hbu7 hrne)
  replace HX1 := hide ((hbu7.block _ (blk (unhide HX1)).1 (Ne.symm ne1)).trans (unhide HX1))
  replace HT5 := hide ((unhide HT5).keep (Stays.but hbu7 (Nat.lt_succ_of_lt hr)) (Nat.le_refl _))
  replace HS := hide (Nat.lt_of_lt_of_le (unhide HS) hbu7.size)
  have HX6 := hide hhB6
  have HEB6 := hide eB6
  have HSB6 := hide hsB6
  clear eB6 hbB6 hhB6 hsB6
  have HC8 := hide (must_any (unhide HR) (unhide HT) (s := ⟨#[105, 110]⟩) (by decide))
  go_wp2_with fail
  rw [unhide HEB6]
  refine (unhide HC8).mono ?_
  intro e w8 h8
  rcases hX8 : mustR ts ⟨#[105, 110]⟩ (q5) with er | ⟨t8, q8⟩
  · rw [hX8] at h8
    obtain ⟨ei, en⟩ := er
    have hYe : Y = .error (ei, en) := by have h := unhide HY; rw [hX8] at h; exact h.symm
    subst hYe
    obtain ⟨hb8, h8⟩ := h8
    obtain rfl : e = _ := h8
    have HP := hide ((unhide HB).trans hb8)
    clear hb8 HC8 hX8
    go_wp2
    exact ⟨rfl, unhide HP, rfl⟩
  rw [hX8] at h8
  obtain ⟨hb8, hle8, hR8, v8, rfl, hv8⟩ := h8
  have hY8 := unhide HY
  rw [hX8] at hY8
  simp only [thenR] at hY8
  replace HY := hide hY8
  clear hY8
  obtain rfl : v8 = _ := hv8
  replace HB := hide ((unhide HB).trans hb8)
  replace HZ := hide ((unhide HZ).but hb8 hrne)
  replace HX1 := hide ((hb8.block _ (blk (unhide HX1)).1 (Ne.symm ne1)).trans (unhide HX1))
  replace HX6 := hide ((hb8.block _ (blk (unhide HX6)).1 (Ne.symm ne6)).trans (unhide HX6))
  replace HT5 := hide ((unhide HT5).keep (Stays.but hb8 (Nat.lt_succ_of_lt hr)) (Nat.le_refl _))
  replace HS := hide (Nat.lt_of_lt_of_le (unhide HS) hb8.size)
  replace HR := hide hR8
  replace HL := hide (And.intro (Nat.le_trans (unhide HL).1 hle8) (Nat.le_trans (unhide HL).2 hle8))
  clear hb8 hle8 hR8 HC8 hX8
  have HC9 := hide (unhide hE w8 (q8) (unhide HL).2 (unhide HR))
  go_wp2_with fail
  refine (unhide HC9).mono ?_
  intro e w9 h9
  rcases hX9 : g .rE d (q8) with er | ⟨t9, q9⟩
  · rw [hX9] at h9
    obtain ⟨ei, en⟩ := er
    have hYe : Y = .error (ei, en) := by have h := unhide HY; rw [hX9] at h; exact h.symm
    subst hYe
    obtain ⟨hb9, h9⟩ := h9
    obtain rfl : e = _ := h9
    have HP := hide ((unhide HB).trans hb9)
    clear hb9 HC9 hX9
    go_wp2
    exact ⟨rfl, unhide HP, rfl⟩
  rw [hX9] at h9
  obtain ⟨hb9, hle9, hR9, v9, rfl, hv9⟩ := h9
  have hY9 := unhide HY
  rw [hX9] at hY9
  simp only [thenR] at hY9
  replace HY := hide hY9
  clear hY9
  obtain ⟨i9, j9, s9, m9, b9, a9, n9, c9, rfl⟩ := hv9.form
  have HT9 := hide (hv9.keep (lo' := w.heap.size + 1) (Stays.of (Below.refl _ _)) (unhide HS))
  replace HB := hide ((unhide HB).trans hb9)
  replace HZ := hide ((unhide HZ).but hb9 hrne)
  replace HX1 := hide ((hb9.block _ (blk (unhide HX1)).1 (Ne.symm ne1)).trans (unhide HX1))
  replace HX6 := hide ((hb9.block _ (blk (unhide HX6)).1 (Ne.symm ne6)).trans (unhide HX6))
  replace HT5 := hide ((unhide HT5).keep (Stays.but hb9 (Nat.lt_succ_of_lt hr)) (Nat.le_refl _))
  replace HS := hide (Nat.lt_of_lt_of_le (unhide HS) hb9.size)
  replace HR := hide hR9
  replace HL := hide (And.intro (Nat.le_trans (unhide HL).1 hle9) (Nat.le_trans (unhide HL).2 hle9))
  clear hb9 hle9 hR9 hv9 HC9 hX9
  obtain ⟨B10, eB10, hbB10, hsB10, hhB10⟩ := box_new w9 #[.int .i64 i9, .string s9, .string m9, .bool b9, .slice a9 n9 c9, .int .i64 0, .int .i64 j9] 36
  have ne10 : r ≠ w9.heap.size := by have := unhide HS; omega
  have hbu11 := But.of (r := r) hbB10
  replace HR := hide ((unhide HR).keep hbB10)
  replace HB := hide ((unhide HB).trans hbu11)
  replace HZ := hide ((unhide HZ).but hbu11 hrne)
  replace HX1 := hide ((hbu11.block _ (blk (unhide HX1)).1 (Ne.symm ne1)).trans (unhide HX1))
  replace HX6 := hide ((hbu11.block _ (blk (unhide HX6)).1 (Ne.symm ne6)).trans (unhide HX6))
  replace HT5 := hide ((unhide HT5).keep (Stays.but hbu11 (Nat.lt_succ_of_lt hr)) (Nat.le_refl _))
  replace HT9 := hide ((unhide HT9).keep (Stays.but hbu11 (Nat.lt_succ_of_lt hr)) (Nat.le_refl _))
  replace HS := hide (Nat.lt_of_lt_of_le (unhide HS) hbu11.size)
  have HX10 := hide hhB10
  have HEB10 := hide eB10
  have HSB10 := hide hsB10
  clear eB10 hbB10 hhB10 hsB10
  have u01 := (blk (unhide HX1)).2.1 0 _ rfl
  have u11 := (blk (unhide HX1)).2.1 1 _ rfl
  have u21 := (blk (unhide HX1)).2.1 2 _ rfl
  obtain ⟨y06, y16, y26, y36, y46, y56, y66⟩ := blk7 (unhide HX6)
  obtain ⟨y010, y110, y210, y310, y410, y510, y610⟩ := blk7 (unhide HX10)
  rw [← unhide HEB10] at u01 u11 u21 y06 y16 y26 y36 y46 y56 y66 y010 y110 y210 y310 y410 y510 y610
  go_wp2_with fail
  rw [unhide HEB10]
  clear u01 u11 u21 y06 y16 y26 y36 y46 y56 y66 y010 y110 y210 y310 y410 y510 y610
  refine (named_any _ _ _ _ _ _ _ _ _).mono ?_
  rintro e w12 ⟨rfl, hb12⟩
  obtain ⟨C12, eC12, hbC12, hsC12, hhC12⟩ := box_new B10 #[.int .i64 i5, .string s5, .string m5, .bool b5, .slice a5 n5 c5, .int .i64 0, .int .i64 j5, .int .i64 i9, .string s9, .string m9, .bool b9, .slice a9 n9 c9, .int .i64 0, .int .i64 j9] 36
  rw [eC12] at hb12
  have hnode := node (l := [t5, t9]) (vs := [[.int .i64 i5, .string s5, .string m5, .bool b5, .slice a5 n5 c5, .int .i64 0, .int .i64 j5], [.int .i64 i9, .string s9, .string m9, .bool b9, .slice a9 n9 c9, .int .i64 0, .int .i64 j9]]) 23 at0 T3 ⟨#[]⟩ false eC12 rfl (by simp) rfl (by simp) (unhide HS) (fun j v t hv ht => by
    rcases j with _ | _ | j
    · obtain rfl := Option.some.inj hv
      obtain rfl := Option.some.inj ht
      exact unhide HT5
    · obtain rfl := Option.some.inj hv
      obtain rfl := Option.some.inj ht
      exact unhide HT9
    · simp at hv)
  rw [unhide HSB10] at hnode
  have hbCb := hbC12.trans (hb12.mono hbC12.size)
  replace hnode := hnode.keep (Stays.of hb12) (Nat.le_refl _)
  have hbu13 := But.of (r := r) hbCb
  replace HR := hide ((unhide HR).keep hbCb)
  replace HB := hide ((unhide HB).trans hbu13)
  replace HZ := hide ((unhide HZ).but hbu13 hrne)
  replace HX1 := hide ((hbu13.block _ (blk (unhide HX1)).1 (Ne.symm ne1)).trans (unhide HX1))
  replace HX6 := hide ((hbu13.block _ (blk (unhide HX6)).1 (Ne.symm ne6)).trans (unhide HX6))
  replace HX10 := hide ((hbu13.block _ (blk (unhide HX10)).1 (Ne.symm ne10)).trans (unhide HX10))
  replace HS := hide (Nat.lt_of_lt_of_le (unhide HS) hbu13.size)
  obtain ⟨y0, y1, y2, y3, y4, y5, y6⟩ := blk7 (unhide HZ)
  obtain ⟨z0, z1, z2, z3, z4, z5, z6⟩ := frz7 (unhide HZ)
  have HNode := hide hnode
  go_wp2
  exact ret_put rfl rfl rfl (unhide HB) hr (unhide HZ) (by have h := unhide HY; rw [unhide HN0] at h; exact h.symm) (unhide HL).1 (unhide HR) (Nat.lt_succ_self _) (unhide HNode)
end Go.Proofs.YtfkfnbehdcmgeaaGreatDoor
