/- Package farkas: Sum. -/
import Derived.Shelf.SlIter.Nil
import Derived.Shelf.SortM.Plain
import Derived.Shelf.SortM.SortNone
import Derived.Ground.GgzProg
import Derived.Ground.SlgmProg
import Derived.Test.YthgdmppmjnmiiaaGreatDoorProg
import Derived.Test.YthgdmppmjnmiiaaGreatDoorZAM
import Derived.Sort.KeysCollected
set_option linter.unusedVariables false
set_option linter.unusedSimpArgs false

/- The kit's contracts on the sorted keys of a map, at this program: each one application of a theorem of the kit. -/
namespace Go.Proofs
open Go.RowKit Go.Maps Go.Sort Go.Shelf
def Tryz.keys32_ren : Go.Shelf.Ren := ⟨fun | 7 => 32 | 10 => 51 | n => n, fun | 23 => 46 | 26 => 9 | 3 => 49 | 28 => 80 | 0 => 0 | 27 => 79 | 33 => 82 | 4 => 4 | n => n, fun | n => n⟩
theorem Tryz.keys32 : Go.Proofs.SlLaysZ.n7 Tryz.prog Tryz.keys32_ren := {
  mixed := by kernel_rfl
  f7 := ⟨Tryz.f32.name, by decide, Tryz.func32.trans (congrArg some (by kernel_rfl))⟩
  f10 := ⟨Tryz.f51.name, by decide, Tryz.func51.trans (congrArg some (by kernel_rfl))⟩
  t0 := Tryz.underlying0
  a0 := Tryz.isAgg0
  z0 := Tryz.sizeOf0
  v0 := Tryz.zeroValue0
  t4 := Tryz.underlying4
  a4 := Tryz.isAgg4
  z4 := Tryz.sizeOf4
  v4 := Tryz.zeroValue4
  t23 := Tryz.underlying46
  a23 := Tryz.isAgg46
  z23 := Tryz.sizeOf46
  v23 := Tryz.zeroValue46
  t26 := Tryz.underlying9
  a26 := Tryz.isAgg9
  z26 := Tryz.sizeOf9
  v26 := Tryz.zeroValue9
  t27 := Tryz.underlying79
  a27 := Tryz.isAgg79
  z27 := Tryz.sizeOf79
  v27 := Tryz.zeroValue79
  t28 := Tryz.underlying80
  a28 := Tryz.isAgg80
  z28 := Tryz.sizeOf80
  v28 := Tryz.zeroValue80
  t33 := Tryz.underlying82
  a33 := Tryz.isAgg82
  z33 := Tryz.sizeOf82
  v33 := Tryz.zeroValue82 }
def Tryz.sorted31_ren : Go.Shelf.Ren := ⟨fun | 6 => 31 | 8 => 49 | 9 => 50 | 11 => 72 | 13 => 74 | 12 => 73 | 23 => 102 | 24 => 103 | 14 => 93 | 15 => 94 | 16 => 95 | 17 => 96 | 18 => 97 | 19 => 98 | 20 => 99 | 21 => 100 | 22 => 101 | 25 => 111 | 26 => 112 | 27 => 113 | 28 => 114 | 29 => 115 | 30 => 116 | 31 => 119 | n => n, fun | 26 => 9 | 28 => 80 | 24 => 23 | 0 => 0 | 3 => 3 | 37 => 126 | 48 => 118 | 50 => 86 | 4 => 4 | 40 => 144 | 39 => 143 | 45 => 149 | 5 => 5 | 9 => 9 | 51 => 158 | 55 => 162 | 57 => 164 | 58 => 165 | 33 => 82 | n => n, fun | n => n⟩
theorem Tryz.sorted31 : Go.Proofs.SlLaysZ.n6 Tryz.prog Tryz.sorted31_ren := {
  mixed := by kernel_rfl
  f6 := ⟨Tryz.f31.name, by decide, Tryz.func31.trans (congrArg some (by kernel_rfl))⟩
  f8 := ⟨Tryz.f49.name, by decide, Tryz.func49.trans (congrArg some (by kernel_rfl))⟩
  f11 := ⟨Tryz.f72.name, by decide, Tryz.func72.trans (congrArg some (by kernel_rfl))⟩
  t0 := Tryz.underlying0
  a0 := Tryz.isAgg0
  z0 := Tryz.sizeOf0
  v0 := Tryz.zeroValue0
  t24 := Tryz.underlying23
  a24 := Tryz.isAgg23
  z24 := Tryz.sizeOf23
  v24 := Tryz.zeroValue23
  t26 := Tryz.underlying9
  a26 := Tryz.isAgg9
  z26 := Tryz.sizeOf9
  v26 := Tryz.zeroValue9
  t28 := Tryz.underlying80
  a28 := Tryz.isAgg80
  z28 := Tryz.sizeOf80
  v28 := Tryz.zeroValue80
  i26 := by kernel_rfl }
def Tryz.sort50_ren : Go.Shelf.Ren := ⟨fun | 6 => 50 | 8 => 74 | 9 => 73 | 19 => 102 | 20 => 103 | 21 => 93 | 22 => 94 | 23 => 95 | 24 => 96 | 25 => 97 | 26 => 98 | 27 => 99 | 28 => 100 | 29 => 101 | 36 => 111 | 31 => 112 | 32 => 113 | 37 => 114 | 38 => 115 | 39 => 116 | 41 => 119 | n => n, fun | 27 => 23 | 29 => 9 | 3 => 3 | 32 => 126 | 26 => 23 | 0 => 0 | 44 => 118 | 46 => 86 | 4 => 4 | 36 => 144 | 35 => 143 | 41 => 149 | 5 => 5 | 9 => 9 | 53 => 158 | 57 => 162 | 63 => 164 | 64 => 165 | n => n, fun | n => n⟩
theorem Tryz.sort50 : Go.Proofs.SlLaysM.n6 Tryz.prog Tryz.sort50_ren := {
  mixed := by kernel_rfl
  f6 := ⟨Tryz.f50.name, by decide, Tryz.func50.trans (congrArg some (by kernel_rfl))⟩
  f8 := Tryz.func74.trans (congrArg some (by kernel_rfl))
  f9 := ⟨Tryz.f73.name, by decide, Tryz.func73.trans (congrArg some (by kernel_rfl))⟩
  f19 := Tryz.func102.trans (congrArg some (by kernel_rfl))
  f20 := Tryz.func103.trans (congrArg some (by kernel_rfl))
  f21 := ⟨Tryz.f93.name, by decide, Tryz.func93.trans (congrArg some (by kernel_rfl))⟩
  f22 := ⟨Tryz.f94.name, by decide, Tryz.func94.trans (congrArg some (by kernel_rfl))⟩
  f23 := ⟨Tryz.f95.name, by decide, Tryz.func95.trans (congrArg some (by kernel_rfl))⟩
  f24 := ⟨Tryz.f96.name, by decide, Tryz.func96.trans (congrArg some (by kernel_rfl))⟩
  f25 := ⟨Tryz.f97.name, by decide, Tryz.func97.trans (congrArg some (by kernel_rfl))⟩
  f26 := ⟨Tryz.f98.name, by decide, Tryz.func98.trans (congrArg some (by kernel_rfl))⟩
  f27 := ⟨Tryz.f99.name, by decide, Tryz.func99.trans (congrArg some (by kernel_rfl))⟩
  f28 := ⟨Tryz.f100.name, by decide, Tryz.func100.trans (congrArg some (by kernel_rfl))⟩
  f29 := ⟨Tryz.f101.name, by decide, Tryz.func101.trans (congrArg some (by kernel_rfl))⟩
  f31 := Tryz.func112.trans (congrArg some (by kernel_rfl))
  f32 := Tryz.func113.trans (congrArg some (by kernel_rfl))
  f36 := ⟨Tryz.f111.name, by decide, Tryz.func111.trans (congrArg some (by kernel_rfl))⟩
  f37 := ⟨Tryz.f114.name, by decide, Tryz.func114.trans (congrArg some (by kernel_rfl))⟩
  f38 := ⟨Tryz.f115.name, by decide, Tryz.func115.trans (congrArg some (by kernel_rfl))⟩
  f39 := ⟨Tryz.f116.name, by decide, Tryz.func116.trans (congrArg some (by kernel_rfl))⟩
  f41 := ⟨Tryz.f119.name, by decide, Tryz.func119.trans (congrArg some (by kernel_rfl))⟩
  t0 := Tryz.underlying0
  a0 := Tryz.isAgg0
  z0 := Tryz.sizeOf0
  v0 := Tryz.zeroValue0
  t3 := Tryz.underlying3
  a3 := Tryz.isAgg3
  z3 := Tryz.sizeOf3
  v3 := Tryz.zeroValue3
  t4 := Tryz.underlying4
  a4 := Tryz.isAgg4
  z4 := Tryz.sizeOf4
  v4 := Tryz.zeroValue4
  t5 := Tryz.underlying5
  a5 := Tryz.isAgg5
  z5 := Tryz.sizeOf5
  v5 := Tryz.zeroValue5
  t9 := Tryz.underlying9
  a9 := Tryz.isAgg9
  z9 := Tryz.sizeOf9
  v9 := Tryz.zeroValue9
  t26 := Tryz.underlying23
  a26 := Tryz.isAgg23
  z26 := Tryz.sizeOf23
  v26 := Tryz.zeroValue23
  t27 := Tryz.underlying23
  a27 := Tryz.isAgg23
  z27 := Tryz.sizeOf23
  v27 := Tryz.zeroValue23
  t29 := Tryz.underlying9
  a29 := Tryz.isAgg9
  z29 := Tryz.sizeOf9
  v29 := Tryz.zeroValue9
  t32 := Tryz.underlying126
  a32 := Tryz.isAgg126
  z32 := Tryz.sizeOf126
  v32 := Tryz.zeroValue126
  t35 := Tryz.underlying143
  a35 := Tryz.isAgg143
  z35 := Tryz.sizeOf143
  v35 := Tryz.zeroValue143
  t36 := Tryz.underlying144
  a36 := Tryz.isAgg144
  z36 := Tryz.sizeOf144
  v36 := Tryz.zeroValue144
  t41 := Tryz.underlying149
  a41 := Tryz.isAgg149
  z41 := Tryz.sizeOf149
  v41 := Tryz.zeroValue149
  t44 := Tryz.underlying118
  a44 := Tryz.isAgg118
  z44 := Tryz.sizeOf118
  v44 := Tryz.zeroValue118
  t46 := Tryz.underlying86
  a46 := Tryz.isAgg86
  z46 := Tryz.sizeOf86
  v46 := Tryz.zeroValue86
  t53 := Tryz.underlying158
  a53 := Tryz.isAgg158
  z53 := Tryz.sizeOf158
  v53 := Tryz.zeroValue158
  t57 := Tryz.underlying162
  a57 := Tryz.isAgg162
  z57 := Tryz.sizeOf162
  v57 := Tryz.zeroValue162
  t63 := Tryz.underlying164
  a63 := Tryz.isAgg164
  z63 := Tryz.sizeOf164
  v63 := Tryz.zeroValue164
  t64 := Tryz.underlying165
  a64 := Tryz.isAgg165
  z64 := Tryz.sizeOf165
  v64 := Tryz.zeroValue165 }


theorem Tryz.sorts31 (m : Nat) : AnyZ.SortsIn Tryz.prog Tryz.sorted31_ren Fence.wide m :=
  ⟨fun blk off cap ss W hH hblk hsz => callsIn_wide.2 (AnyM.slices_Sort_string Tryz.sort50 blk off cap ss W hH hblk hsz),
   fun p cap W => callsIn_wide.2 (AnyM.slices_Sort_string_none Tryz.sort50 p cap W)⟩

theorem Tryz.maps_Keys_32 (mb : Option Nat) (W : World) : CallsIn Fence.wide 5 Tryz.prog 32 #[.map mb] W fun e w' => e = .returned (.func (.func 51) #[] #[.pointer (some ⟨W.heap.size, 0, none⟩)]) ∧ w' = W.alloc (.cells #[.map mb] 46) :=
  AnyZ.keys_in Tryz.keys32 Fence.wide 5 trivial rfl mb W

set_option maxHeartbeats 1000000 in
theorem Tryz.slices_Sorted_keys_31_32 {H : Type} (b nn : Nat) (D0 : DataW H) (R : Value → Option (DataW H × List MemPlace)) (w : World) (hown : w.ownsMap Tryz.prog 9 R b nn D0) (hmax : Maps.size D0 ≤ maxLen) (hbytes : Maps.size D0 * 16 ≤ 140737488355328) :
    CallsIn Fence.wide 5 Tryz.prog 31 #[.func (.func 51) #[] #[.pointer (some ⟨w.heap.size, 0, none⟩)]] (w.alloc (.cells #[.map (some b)] 46)) fun e w' => ∃ (v : Value) (ss : List (List UInt8)), e = .returned v ∧ ss.Perm (strKeys D0) ∧
      w'.ownsRow (w.alloc (.cells #[.map (some b)] 46)).heap.size 9 1 v ss.length ((ss.mergeSort (fun x y => decide (x ≤ y))).map encStr) ∧ (v = .slice none 0 0 ↔ ss = []) ∧ Below (w.alloc (.cells #[.map (some b)] 46)).heap.size (w.alloc (.cells #[.map (some b)] 46)) w' := by
  have hbl := hown.lt
  have hseq : SeqGives Fence.wide 2 Tryz.prog 51 #[.pointer (some ⟨w.heap.size, 0, none⟩)] encStr (fun ss => ss.Perm (strKeys D0)) (Maps.size D0) (w.alloc (.cells #[.map (some b)] 46)) :=
    AnyZ.keys_gives (ρ := Tryz.keys32_ren) { Tryz.keys32 with } Fence.wide _ trivial rfl (by omega) w.heap.size b nn D0 _ (by simp) (by simp) (by
      obtain ⟨es, clock, hb, Ft, hs, hD⟩ := hown
      exact ⟨es, clock, (Below.heap_alloc _ _ b hbl).trans hb, Ft, hs, hD⟩)
  exact AnyZ.sorted_in Tryz.sorted31 Fence.wide 5 trivial trivial trivial trivial rfl (by omega) (Tryz.sorts31 _) (enters_of Tryz.func50 (by kernel_rfl) rfl) 51 #[.pointer (some ⟨w.heap.size, 0, none⟩)] trivial (enters_of Tryz.func51 (by kernel_rfl) rfl) _ _ hmax hbytes _ hseq

end Go.Proofs

/- Package farkas: tell. -/
namespace Go.Proofs.YthgdmppmjnmiiaaGreatDoor
open Go Go.RowKit Go.Maps
open _root_.Go.Proofs.YthgdmppmjnmiiaaGreatDoor.Nm (IsI pw)
def kept5 : List Nat := (List.range 33).filter fun i => !(decide (19 ≤ i) && decide (i ≤ 30))
def chn5 (i : Nat) : Bool := i == 7 || i == 9 || i == 10
def phi5 (ob sb mb : Nat) (v0 lv : Value) (nm st : ByteArray) (j : Nat) (v : Value) : Prop :=
  (j = 0 → v = .pointer (some ⟨ob, 0, none⟩)) ∧ (j = 1 → v = v0) ∧ (j = 2 → v = .string nm) ∧ (j = 3 → v = .pointer (some ⟨sb, 0, none⟩)) ∧ (j = 4 → v = .map (some mb)) ∧ (j = 5 → v = .string nm) ∧ (j = 6 → v = lv) ∧ (j = 7 → v = .string st) ∧ (j = 8 → v = .agg #[.string nm, .string st]) ∧ (j = 11 → v = .pointer (some ⟨ob, 0, none⟩))
set_option maxRecDepth 100000 in
set_option maxHeartbeats 4000000 in
theorem tell_r5 {X : Exit → Act → World → Prop} {a0 : Act} {w0 : World} {E0 n ob sb mb : Nat} {v0 kv lv : Value} {xs : List Value} {nm st : ByteArray}
    (hN : a0.tmps.size = 33) (h1 : a0.tmps[1]? = some (.pointer (some ⟨sb, 0, none⟩))) (h3 : a0.tmps[3]? = some (.pointer (some ⟨ob, 0, none⟩))) (h5 : a0.tmps[5]? = some (.string nm))
    (hO : w0.heap[ob]? = some (.cells #[v0, kv] 28)) (hOo : v0.ownBlock ≠ some ob) (hS : w0.cell? ⟨sb, 0, none⟩ = some (.map (some mb))) (hsb : sb < w0.heap.size) (hSo : v0.ownBlock ≠ some sb)
    (hlk : ∀ w : World, w.heap[mb]? = w0.heap[mb]? → (Instr.lookup 46 (.map (some mb)) (.string nm) false).run Tryz.prog w = .ok lv w) (hmb : mb < w0.heap.size) (hmo : v0.ownBlock ≠ some mb)
    (ho : w0.ownsRow E0 39 2 v0 n xs) (hE : E0 ≤ w0.heap.size) (hEo : E0 ≤ ob) (hn : n ≤ 1000000)
    (hcall : ∀ W, Below w0.heap.size w0 W → Calls Tryz.prog 30 #[lv] W (VPost (.string st) W))
    (hend : ∀ (a : Act) (w : World) (v' : Value), a.defers = a0.defers → a.tmps.size = 33 → (∀ k, k ∈ kept5 → a.tmps[k]? = a0.tmps[k]?) → Below E0 w0 w → (∀ k, k < w0.heap.size → k ≠ ob → v0.ownBlock ≠ some k → w.heap[k]? = w0.heap[k]?) → w.heap[ob]? = some (.cells #[v', kv] 28) → v'.ownBlock ≠ some ob → w.ownsRow E0 39 2 v' (n + 1) (xs ++ [.string nm, .string st]) → (∀ g, v'.ownBlock = some g → v0.ownBlock = some g ∨ w0.heap.size ≤ g) → w0.heap.size ≤ w.heap.size → X .normal a w) :
    (Code.region 5 (Nm.regionOf Tryz.f16 5).toArray true).wp Tryz.prog X a0 w0 := by
  have hob : ob < w0.heap.size := (Array.getElem?_eq_some_iff.1 hO).1
  have hl : (Nm.regionOf Tryz.f16 5).length = 13 := by kernel_rfl
  refine wp_region_any (by kernel_rfl) ?_
  refine seqS (l := (Nm.regionOf Tryz.f16 5)) (w0 := w0.drew) 33 12 kept5 (phi5 ob sb mb v0 lv nm st) chn5 (TQ w0 E0 n v0 xs nm st) (by kernel_rfl) hN (by rw [hl]; decide) (by kernel_rfl) (by kernel_rfl) (by kernel_rfl) (by kernel_rfl)
    (fun a w => ∃ v', Below E0 w0 w ∧ (∀ k, k < w0.heap.size → k ≠ ob → v0.ownBlock ≠ some k → w.heap[k]? = w0.heap[k]?) ∧ w.heap[ob]? = some (.cells #[v', kv] 28) ∧ v'.ownBlock ≠ some ob ∧ w.ownsRow E0 39 2 v' (n + 1) (xs ++ [.string nm, .string st]) ∧ (∀ g, v'.ownBlock = some g → v0.ownBlock = some g ∨ w0.heap.size ≤ g) ∧ w0.heap.size ≤ w.heap.size)
    (fun v => by simp [phi5]) ?_ ?_ ?_ ?_ ?_ ?_ ?_
  · intro j hj
    rw [hl]
    simp [chn5] at hj
    omega
  · exact TQ.start ho hE
  · intro Lf Lf' s s' w hh hq
    exact hq.loc (hh 9 rfl) (hh 10 rfl)
  · intro j hj hcn hjs a w Lf hn' hk hp hq
    rw [hl] at hj
    have hj' : j = 0 ∨ j = 1 ∨ j = 2 ∨ j = 3 ∨ j = 4 ∨ j = 5 ∨ j = 6 ∨ j = 8 ∨ j = 11 := by
      simp [chn5] at hcn
      omega
    have k1 : a.eval (.tmp 1) = .pointer (some ⟨sb, 0, none⟩) := getD_of ((hk 1 (by decide)).trans h1)
    have k3 : a.eval (.tmp 3) = .pointer (some ⟨ob, 0, none⟩) := getD_of ((hk 3 (by decide)).trans h3)
    have k5 : a.eval (.tmp 5) = .string nm := getD_of ((hk 5 (by decide)).trans h5)
    rcases hj' with rfl | rfl | rfl | rfl | rfl | rfl | rfl | rfl | rfl
    · exact ⟨wnone rfl, op_fieldAddr k3 (fa_lin ob w) ⟨_, rfl, rfl, by simp [phi5]⟩⟩
    · have e : a.eval (.tmp 19) = .pointer (some ⟨ob, 0, none⟩) := (hp 0 rfl).1 rfl
      have hrb : w.heap[ob]? = some (.cells #[v0, kv] 28) := (hq.2.2.1 ob hob hOo).trans hO
      exact ⟨wnone rfl, op_load e (ld_C ((blk hrb).2.1 0 _ rfl)) ⟨_, rfl, rfl, by simp [phi5]⟩⟩
    · refine ⟨wnone rfl, op_move ⟨_, rfl, rfl, ?_⟩⟩
      rw [k5]
      simp [phi5]
    · exact ⟨wnone rfl, op_fieldAddr k1 (fa_sum0 sb w) ⟨_, rfl, rfl, by simp [phi5]⟩⟩
    · have e : a.eval (.tmp 22) = .pointer (some ⟨sb, 0, none⟩) := (hp 3 rfl).2.2.2.1 rfl
      have hcw : w.cell? ⟨sb, 0, none⟩ = some (.map (some mb)) := (World.cell?_of_block (w := w0) (a := ⟨sb, 0, none⟩) (hq.2.2.1 sb hsb hSo)).trans hS
      exact ⟨wnone rfl, op_load e (ld_M hcw) ⟨_, rfl, rfl, by simp [phi5]⟩⟩
    · refine ⟨wnone rfl, op_move ⟨_, rfl, rfl, ?_⟩⟩
      rw [k5]
      simp [phi5]
    · have e1 : a.eval (.tmp 23) = .map (some mb) := (hp 4 rfl).2.2.2.2.1 rfl
      have e2 : a.eval (.tmp 24) = .string nm := (hp 5 rfl).2.2.2.2.2.1 rfl
      exact ⟨wnone rfl, op_lk e1 e2 (hlk w (hq.2.2.1 mb hmb hmo)) ⟨_, rfl, rfl, by simp [phi5]⟩⟩
    · have e1 : a.tmps.getD 21 undef = .string nm := (hp 2 rfl).2.2.1 rfl
      have e2 : a.tmps.getD 26 undef = .string st := (hp 7 rfl).2.2.2.2.2.2.2.1 rfl
      exact ⟨wnone rfl, op_bldC e1 e2 ⟨_, rfl, rfl, by simp [phi5]⟩⟩
    · exact ⟨wnone rfl, op_fieldAddr k3 (fa_lin ob w) ⟨_, rfl, rfl, by simp [phi5]⟩⟩
  · intro j hcn a w Lf hn' hk hp hLj hd hq
    have dn : ∀ j k, j < 13 → (preds ((Nm.regionOf Tryz.f16 5).getD j default)).contains k = true → Lf k = false → Lf j = false := fun j k hj hk hLk => by
      cases hL : Lf j with
      | false => rfl
      | true => rw [hd j (by rw [hl]; exact hj) hL k hk] at hLk; cases hLk
    have hj' : j = 7 ∨ j = 9 ∨ j = 10 := by simp [chn5] at hcn; omega
    rcases hj' with rfl | rfl | rfl
    · have e1 : a.tmps.getD 25 undef = lv := (hp 6 rfl).2.2.2.2.2.2.2.1 rfl
      have l8 := dn 8 7 (by decide) rfl hLj
      have l9 := dn 9 8 (by decide) rfl l8
      have l10 := dn 10 9 (by decide) rfl l9
      have hbW := (hq.2.2.2.1 l10).2
      refine ⟨wnone rfl, op_call enter_Str ?_⟩
      have hargs : (#[Operand.tmp 25]).map a.eval = #[lv] := by
        simp only [List.map_toArray, List.map_cons, List.map_nil, Act.eval]
        rw [e1]
      rw [hargs]
      refine (hcall w hbW).mono ?_
      rintro e w' ⟨rfl, hb'⟩
      exact ⟨_, rfl, _, rfl, by simp [phi5], hq.called hE l9 l10 hb'⟩
    · have l10 := dn 10 9 (by decide) rfl hLj
      have e' : a.tmps.getD 27 undef = .agg #[.string nm, .string st] := (hp 8 rfl).2.2.2.2.2.2.2.2.2.1 rfl
      exact ⟨wnone rfl, op_bsC e' ⟨_, rfl, by simp [phi5], hq.made hE l10⟩⟩
    · have l9 := (hp 9 rfl).1
      have e1 : a.tmps.getD 20 undef = v0 := (hp 1 rfl).2.2.1 rfl
      obtain ⟨v', w', hr, hQ'⟩ := hq.put hn hE l9 hLj 26
      exact ⟨wnone rfl, op_app e1 rfl hr ⟨_, rfl, by simp [phi5], hQ'⟩⟩
  · intro a w hn' hk hp hq
    have e1 : a.eval (.tmp 30) = .pointer (some ⟨ob, 0, none⟩) := (hp 11 (by rw [hl]; decide) (by decide)).2.2.2.2.2.2.2.2.2 rfl
    have hrb : w.heap[ob]? = some (.cells #[v0, kv] 28) := (hq.2.2.1 ob hob hOo).trans hO
    obtain ⟨ho', hown⟩ := hq.2.2.2.2.2 rfl
    obtain ⟨av, cv, ev, _⟩ := own_cells ho'
    have ev' : a.tmps.getD 29 undef = Value.slice av (n + 1) cv := ev
    rw [ev] at ho' hown
    have hne : (Value.slice av (n + 1) cv).ownBlock ≠ some ob := fun e => by
      rcases hown ob e with h | h
      · exact hOo h
      · omega
    have hpt : PutAt ob w (w.setCell ⟨ob, 0, none⟩ (.slice av (n + 1) cv)) := (PutAt.refl ob w).set 0 _
    refine op_store (y := .tmp 29) e1 ev' (st_C hrb) ⟨rfl, .slice av (n + 1) cv, hpt.below hq.1 hEo, fun k hk h1 h2 => (hpt.block k h1).trans (hq.2.2.1 k hk h2), set_block hrb _, hne, own_sameK ho' fun g hg => hpt.block g (fun e => hne (e ▸ hg)), hown, by rw [hpt.size]; exact hq.2.1⟩
  · rintro a w hdf hn' hk ⟨v', q1, q2, q3, q4, q5, q6, q7⟩
    exact hend a w v' hdf hn' hk q1 q2 q3 q4 q5 q6 q7
end Go.Proofs.YthgdmppmjnmiiaaGreatDoor

/- Package farkas: tell, whole. -/
namespace Go.Proofs.YthgdmppmjnmiiaaGreatDoor
open Go Go.RowKit Go.Maps
open _root_.Go.Proofs.YthgdmppmjnmiiaaGreatDoor.Nm (IsI pw)
def bytesOf (x : List UInt8) : ByteArray := ⟨x.toArray⟩
def coefOf (f : ByteArray → Int) (x : List UInt8) : ByteArray × ByteArray := (bytesOf x, bytesOf (Lib.itoa (f (bytesOf x))))
def coefsOf (f : ByteArray → Int) (ss : List (List UInt8)) : List (ByteArray × ByteArray) := (ss.mergeSort (fun x y => decide (x ≤ y))).map (coefOf f)
def cCells (cs : List (ByteArray × ByteArray)) : List Value := cs.flatMap fun c => [.string c.1, .string c.2]
theorem cCells_snoc (cs : List (ByteArray × ByteArray)) (c : ByteArray × ByteArray) : cCells (cs ++ [c]) = cCells cs ++ [.string c.1, .string c.2] := by simp [cCells]
theorem cCells_get : ∀ {cs : List (ByteArray × ByteArray)} {j : Nat} {c : ByteArray × ByteArray}, cs[j]? = some c → (cCells cs)[j * 2]? = some (.string c.1) ∧ (cCells cs)[j * 2 + 1]? = some (.string c.2)
  | [], j, c, h => by simp at h
  | d :: cs, 0, c, h => by
    simp at h
    subst h
    simp [cCells]
  | d :: cs, j + 1, c, h => by
    have := cCells_get (cs := cs) (j := j) (c := c) (by simpa using h)
    rw [show (j + 1) * 2 = j * 2 + 2 by omega]
    exact this
def TlPost (D : DataW Value) (f : ByteArray → Int) (k : Int) (w : World) (e : Ending) (w' : World) : Prop := ∃ r ss, e = .returned r ∧ Below w.heap.size w w' ∧ ss.Perm (strKeys D) ∧ IsL w' w'.heap.size r (coefsOf f ss) (bytesOf (Lib.itoa k))
theorem keys_max {w : World} {D : DataW Value} {mb n : Nat} (hom : w.ownsMap Tryz.prog 9 R0 mb n D) {x : List UInt8} (hx : x ∈ strKeys D) : x.length ≤ maxLen := by
  obtain ⟨es, rfl, hk⟩ := hom.keysOf
  obtain ⟨p, hp, rfl⟩ := List.mem_map.1 hx
  obtain ⟨v, hv⟩ := hk p hp
  obtain ⟨y, _, e, hl⟩ := Maps.keyOf_str Tryz.underlying9 hv
  rw [e]
  exact hl
def setAll (x : Nat → Value) : List Nat → Array Value → Array Value
  | [], t => t
  | k :: ks, t => setAll x ks (t.setIfInBounds k (x k))
theorem setAll_size (x : Nat → Value) : ∀ (ks : List Nat) (t : Array Value), (setAll x ks t).size = t.size
  | [], _ => rfl
  | k :: ks, t => by
    show (setAll x ks (t.setIfInBounds k (x k))).size = t.size
    rw [setAll_size x ks, Array.size_setIfInBounds]
theorem setAll_off (x : Nat → Value) {i : Nat} : ∀ (ks : List Nat) (t : Array Value), i ∉ ks → (setAll x ks t)[i]? = t[i]?
  | [], _, _ => rfl
  | k :: ks, t, h => by
    show (setAll x ks (t.setIfInBounds k (x k)))[i]? = t[i]?
    rw [setAll_off x ks _ (fun e => h (List.mem_cons_of_mem _ e)), Array.getElem?_setIfInBounds, if_neg fun e => h (by rw [e]; exact List.mem_cons_self)]
theorem setAll_on (x : Nat → Value) {i : Nat} : ∀ (ks : List Nat) (t : Array Value), i ∈ ks → i < t.size → (setAll x ks t)[i]? = some (x i)
  | k :: ks, t, h, hi => by
    show (setAll x ks (t.setIfInBounds k (x k)))[i]? = some (x i)
    by_cases hm : i ∈ ks
    · exact setAll_on x ks _ hm (by rw [Array.size_setIfInBounds]; exact hi)
    · obtain rfl : i = k := (List.mem_cons.1 h).resolve_right hm
      rw [setAll_off x ks _ hm, Array.getElem?_setIfInBounds, if_pos rfl, if_pos hi]
/-- A frame that is another one but for some slots. -/
theorem act_set {N : Nat} {kept : List Nat} (ks : List Nat) {a a0 : Act} (hc : ((List.range N).all fun i => kept.contains i || ks.contains i) = true) (hd : a.defers = a0.defers) (hn : a.tmps.size = N) (hN : a0.tmps.size = N) (hk : ∀ k, k ∈ kept → a.tmps[k]? = a0.tmps[k]?) : ∃ x : Nat → Value, a = ⟨setAll x ks a0.tmps, a0.defers⟩ ∧ ∀ i, x i = a.tmps.getD i undef := by
  refine ⟨fun i => a.tmps.getD i undef, ?_, fun _ => rfl⟩
  obtain ⟨tm, df⟩ := a
  simp only at hd hn hk ⊢
  rw [hd]
  congr 1
  refine Array.ext_getElem? fun i => ?_
  by_cases h : i < N
  · by_cases hm : i ∈ ks
    · rw [setAll_on _ ks _ hm (by omega)]
      simp [Array.getD_eq_getD_getElem?, hn, h]
    · rw [setAll_off _ ks _ hm]
      refine hk i ?_
      have := List.all_eq_true.1 hc i (List.mem_range.2 h)
      simpa [hm] using this
  · rw [Array.getElem?_eq_none (by omega), Array.getElem?_eq_none (by rw [setAll_size]; omega)]
/-- While a sum is told: i names are told. -/
structure TI (w W3 : World) (ob i : Nat) (K : ByteArray) (cs : List (ByteArray × ByteArray)) (V : World) : Prop where
  bel : Below w.heap.size w V
  size : W3.heap.size ≤ V.heap.size
  same : ∀ k, k < W3.heap.size → k ≠ ob → V.heap[k]? = W3.heap[k]?
  out : ∃ v0, V.heap[ob]? = some (.cells #[v0, .string K] 28) ∧ V.ownsRow w.heap.size 39 2 v0 i (cCells (cs.take i)) ∧ ∀ g, v0.ownBlock = some g → W3.heap.size ≤ g
set_option maxRecDepth 100000 in
set_option maxHeartbeats 4000000 in
theorem tell_any {w : World} {D : DataW Value} {mb n : Nat} {i0 : Int} {a0 : Option Addr} {l0 c0 : Nat} {f : ByteArray → Int} {k : Int} (hom : w.ownsMap Tryz.prog 9 R0 mb n D) (hmf : MF w D f) (hI : IsB w w.heap.size (.agg #[.int .i64 i0, .slice a0 l0 c0]) k) (hn : n ≤ 1000000) (hT : Nm.Tab w) (hk : (k.natAbs : Int) < pw 4000) (hf : ∀ s, ((f s).natAbs : Int) < pw 4000) : Calls Tryz.prog 16 #[.agg #[.map (some mb), .int .i64 i0, .slice a0 l0 c0]] w (TlPost D f k w) := by
  obtain ⟨w1, e1, hb1, hs1, hc1, hh1⟩ := box_new w #[.map (some mb), .int .i64 i0, .slice a0 l0 c0] 51
  obtain ⟨w2, e2, hb2, hs2, hc2, hh2⟩ := box_new w1 #[.slice none 0 0, .string ⟨#[]⟩] 28
  rw [hs1] at hh2
  have hb02 : Below w.heap.size w w2 := hb1.trans (hb2.mono (by omega))
  have hsb2 := (hb2.block w.heap.size (by omega)).trans hh1
  have HStr := hide (Nm.str_any _ k w2 (Nm.Tab.below hT hb02) (hI.more hb02 hb02.size).1 hk)
  have x0 : w2.cell? ⟨w.heap.size, 0, none⟩ = some (.map (some mb)) := (blk hsb2).2.1 0 _ rfl
  have x1 : w2.cell? ⟨w.heap.size, 1, none⟩ = some (.int .i64 i0) := (blk hsb2).2.1 1 _ rfl
  have x2 : w2.cell? ⟨w.heap.size, 2, none⟩ = some (.slice a0 l0 c0) := (blk hsb2).2.1 2 _ rfl
  have HE := hide (And.intro e1 e2)
  have HB := hide (And.intro hb02 (And.intro hsb2 (And.intro hh2 (And.intro hs2 hs1))))
  have HC := hide (And.intro hom (And.intro hmf (And.intro hn (And.intro hT (And.intro hk hf)))))
  rw [← e2, ← e1] at x0 x1 x2
  clear hom hmf hI hn hT hk hf e1 hb1 hs1 hc1 hh1 e2 hb2 hs2 hc2 hh2 hb02 hsb2
  obtain ⟨K, hK⟩ : ∃ K, bytesOf (Lib.itoa k) = K := ⟨_, rfl⟩
  have HKK := hide hK
  rw [show (⟨(Lib.itoa k).toArray⟩ : ByteArray) = K from hK] at HStr
  clear hK
  go_enter Tryz.func16, Tryz.ntmps16
  go_wp2_with fail
  rw [(unhide HE).1, (unhide HE).2]
  rw [(unhide HE).1, (unhide HE).2] at x0 x1 x2
  refine (unhide HStr).mono ?_
  rintro e w3 ⟨rfl, hb3⟩
  obtain ⟨hb02, hsb2, hrb2, hs2, hs1⟩ := unhide HB
  obtain ⟨hom, hmf, hn, hT, hk, hf⟩ := unhide HC
  obtain ⟨w4, e4, hb4, hs4, hc4, hh4⟩ := box_new w3 #[.slice none 0 0, .string K] 28
  have hs23 := hb3.size
  have hb24 : Below w2.heap.size w2 w4 := hb3.trans (hb4.mono hb3.size)
  have hb04 : Below w.heap.size w w4 := hb02.trans (hb24.mono (by omega))
  have hsb4 := (hb24.block w.heap.size (by omega)).trans hsb2
  have hrb4 := (hb24.block (w.heap.size + 1) (by omega)).trans hrb2
  have hom4 : w4.ownsMap Tryz.prog 9 R0 mb n D := by
    obtain ⟨es, cl, hm, F, hs, hD⟩ := hom
    exact ⟨es, cl, (hb04.block mb (Array.getElem?_eq_some_iff.1 hm).1).trans hm, F, hs, hD⟩
  have hszD := hom4.size_le
  have y0 : w4.cell? ⟨w.heap.size, 0, none⟩ = some (.map (some mb)) := (blk hsb4).2.1 0 _ rfl
  have HKeys := hide (callsIn_wide.1 (Tryz.maps_Keys_32 (some mb) w4))
  have HSort := hide (callsIn_wide.1 (Tryz.slices_Sorted_keys_31_32 mb n D R0 w4 hom4 (by unfold maxLen; omega) (by omega)))
  have HE4 := hide e4
  have H4 := hide (And.intro hb04 (And.intro hsb4 (And.intro hrb4 (And.intro hh4 (And.intro hs4 (And.intro hs23 (And.intro hs2 (And.intro hs1 hom4))))))))
  rw [← e4] at y0
  clear hb02 hsb2 hrb2 hs2 hs1 hom hmf hn hT hk hf e4 hb4 hs4 hc4 hh4 hs23 hb24 hb04 hsb4 hrb4 hom4 hszD hb3 x0 x1 x2 HStr HE HB
  go_wp2_with fail
  rw [unhide HE4]
  refine (unhide HKeys).mono ?_
  rintro e w5 ⟨rfl, rfl⟩
  clear y0
  go_wp2_with fail
  refine (unhide HSort).mono ?_
  rintro e W3 ⟨v, ss, rfl, hperm, hrow, hnil, hb6⟩
  obtain ⟨hb04, hsb4, hrb4, hh4, hs4, hs23, hs2, hs1, hom4⟩ := unhide H4
  obtain ⟨hom, hmf, hn, hT, hk, hf⟩ := unhide HC
  have hb45 : Below w4.heap.size w4 (w4.alloc (.cells #[.map (some mb)] 46)) := (Below.refl _ w4).alloc (Nat.le_refl _) _
  have hb46 : Below w4.heap.size w4 W3 := hb45.trans (hb6.mono hb45.size)
  have hb06 : Below w.heap.size w W3 := hb04.trans (hb46.mono hb04.size)
  obtain ⟨ob, hob⟩ : ∃ ob, w3.heap.size = ob := ⟨_, rfl⟩
  rw [hob] at hh4 hs4 ⊢
  have hlow : w.heap.size + 2 ≤ ob := by omega
  have hO6 := (hb46.block ob (by omega)).trans hh4
  have hS6 := (hb46.block w.heap.size (by omega)).trans hsb4
  have hR6 := (hb46.block (w.heap.size + 1) (by omega)).trans hrb4
  have hob6 : ob < W3.heap.size := (Array.getElem?_eq_some_iff.1 hO6).1
  have hlenP : ss.length = Maps.size D := by
    rw [hperm.length_eq]
    obtain ⟨es, e⟩ := hom.isMap
    subst e
    simp [strKeys, Maps.size]
  have hszD := hom.size_le
  obtain ⟨m, hm⟩ : ∃ m, ss.length = m := ⟨_, rfl⟩
  have hsl : (ss.mergeSort (fun x y => decide (x ≤ y))).length = m := by rw [List.length_mergeSort]; exact hm
  rw [hm] at hrow
  obtain ⟨av, cv, rfl, hcv, hcell⟩ := own_cells hrow
  have hmm : m ≤ 1000000 := by omega
  have hinv : TI w W3 ob 0 K (coefsOf f ss) W3 := ⟨hb06, Nat.le_refl _, fun _ _ _ => rfl, .slice none 0 0, hO6, by simpa [cCells] using World.ownsRow_nil W3 w.heap.size 39 2, fun g hg => by simp [Value.ownBlock] at hg⟩
  have HINV := hide hinv
  have HF := hide (And.intro hperm (And.intro hcell (And.intro hb06 (And.intro hlow (And.intro hO6 (And.intro hS6 (And.intro hR6 (And.intro hob6 (And.intro hsl (And.intro hb46 hs4))))))))))
  clear hperm hrow hnil hb6 hb04 hsb4 hrb4 hh4 hs4 hs23 hs2 hs1 hom4 hom hmf hn hT hk hf hb45 hb46 hb06 hob hlow hO6 hS6 hR6 hob6 hlenP hszD hm hsl hcell hcv hinv HKeys HSort HE4 H4
  go_wp2_with fail
  go_loopw [15] (fun iv wr => ∃ i : Nat, i ≤ m ∧ iv = .int .i64 i ∧ TI w W3 ob i K (coefsOf f ss) wr) (fun iv _ => m - (intOf iv).toNat)
  case atStart => exact ⟨0, Nat.zero_le _, rfl, unhide HINV⟩
  case round =>
    obtain ⟨i, hi0, rfl, hI⟩ := hrel
    clear HINV
    by_cases hi : i < m
    · obtain ⟨hperm, hcell, hb06, hlow, hO6, hS6, hR6, hob6, hsl, hb46⟩ := unhide HF
      obtain ⟨hom, hmf, hn, hT, hk, hf⟩ := unhide HC
      obtain ⟨kb, rfl, hkb1, hkb2, hkc⟩ := hcell (by omega)
      obtain ⟨x, hx⟩ : ∃ x, (ss.mergeSort (fun x y => decide (x ≤ y)))[i]? = some x := ⟨_, List.getElem?_eq_getElem (by omega)⟩
      have hxs : x ∈ strKeys D := hperm.mem_iff.1 ((List.mergeSort_perm ss _).mem_iff.1 (List.mem_of_getElem? hx))
      have hxl : (bytesOf x).size ≤ maxLen := by
        have := keys_max hom hxs
        show x.toArray.size ≤ maxLen
        simpa using this
      have hs4 := (unhide HF).2.2.2.2.2.2.2.2.2.2
      have hkob : kb ≠ ob := by
        have : w4.heap.size < (w4.alloc (.cells #[.map (some mb)] 46)).heap.size := by simp
        omega
      obtain ⟨h1, h2, h3, v0, h4, h5, h6⟩ := id hI
      have q0 : wr.cell? ⟨kb, i, none⟩ = some (.string (bytesOf x)) := (World.cell?_of_block (w := W3) (a := ⟨kb, i, none⟩) (h3 kb hkb2 hkob)).trans (hkc i _ (by rw [List.getElem?_map, hx]; rfl))
      obtain ⟨lv, hlv1, hlv2, hlv3⟩ := hmf (bytesOf x) hxl
      have hmbw : mb < w.heap.size := hom.lt
      have hsW : w.heap.size ≤ W3.heap.size := hb06.size
      have hlk : ∀ V : World, V.heap[mb]? = wr.heap[mb]? → (Instr.lookup 46 (.map (some mb)) (.string (bytesOf x)) false).run Tryz.prog V = .ok lv V := fun V hV => by
        have hoV : V.ownsMap Tryz.prog 9 R0 mb n D := by
          obtain ⟨es, cl, hm, F, hs, hD⟩ := hom
          exact ⟨es, cl, hV.trans ((h3 mb (by omega) (by omega)).trans ((hb06.block mb hmbw).trans hm)), F, hs, hD⟩
        obtain ⟨u, ps, hr, hu⟩ := hoV.lookup str_keyed Tryz.underlying46 (zero_I V) (zd := .held zI) (zp := []) rfl (key_str hxl)
        have : u = lv := by
          unfold R0 at hu
          rw [hlv1] at hu
          simp at hu
          exact hu.1
        rw [this] at hr
        exact hr
      have hlvW : IsB wr wr.heap.size lv (f (bytesOf x)) := (hlv2.more hb06 hb06.size).keep fun b hb ⟨o, y, hy⟩ => by
        have hne : b ≠ ob := by
          rintro rfl
          rw [cell_arr hO6] at hy
          match o with
          | 0 => simp at hy
          | 1 => simp at hy
          | o + 2 => simp at hy
        exact ⟨h3 b hb hne, by omega, by omega⟩
      have hTr : Nm.Tab wr := Nm.Tab.below hT h1
      have hcall : ∀ V, Below wr.heap.size wr V → Calls Tryz.prog 30 #[lv] V (VPost (.string (bytesOf (Lib.itoa (f (bytesOf x))))) V) := fun V hV => Nm.str_any _ _ V (Nm.Tab.below hTr hV) (hlvW.more hV hV.size).1 (hf _)
      have hS : wr.cell? ⟨w.heap.size, 0, none⟩ = some (.map (some mb)) := (World.cell?_of_block (w := W3) (a := ⟨w.heap.size, 0, none⟩) (h3 w.heap.size (by omega) (by omega))).trans ((blk hS6).2.1 0 _ rfl)
      have HR := hide (And.intro h1 (And.intro h2 (And.intro h3 (And.intro h4 (And.intro h5 (And.intro h6 (And.intro hlk (And.intro hcall (And.intro hS (And.intro hmbw (And.intro hsW (And.intro hlow (And.intro hob6 (And.intro hx hsl))))))))))))))
      have g1 : (i : Int) < (m : Int) := by omega
      have g0 : (0 : Int) ≤ (i : Int) := by omega
      have g2 : (m : Int) ≤ 1000000 := by omega
      clear hperm hcell hb06 hlow hO6 hS6 hR6 hob6 hsl hb46 hom hmf hn hT hk hf hkb1 hkb2 hkc hx hxs hxl hs4 hkob h1 h2 h3 h4 h5 h6 hlv1 hlv2 hlv3 hmbw hsW hlk hlvW hTr hcall hS hI
      go_wp2_with fail
      obtain ⟨h1, h2, h3, h4, h5, h6, hlk, hcall, hS, hmbw, hsW, hlow, hob6, hx, hsl⟩ := unhide HR
      have hno : ∀ k, k < W3.heap.size → v0.ownBlock ≠ some k := fun k hk e => by have := h6 k e; omega
      refine tell_r5 (w0 := wr) (E0 := w.heap.size) (n := i) (ob := ob) (sb := w.heap.size) (mb := mb) (v0 := v0) (kv := .string K) (lv := lv) (nm := bytesOf x) (st := bytesOf (Lib.itoa (f (bytesOf x)))) rfl rfl rfl rfl h4 (hno ob hob6) hS (by omega) (hno _ (by omega)) hlk (by omega) (hno mb (by omega)) h5 (by omega) (by omega) (by omega) hcall ?_
      intro a V v' hd hsz hkp q1 q2 q3 q4 q5 q6 q7
      obtain ⟨yy, rfl, -⟩ := act_set [19, 20, 21, 22, 23, 24, 25, 26, 27, 28, 29, 30] (by kernel_rfl) hd hsz rfl hkp
      have hnew : TI w W3 ob (i + 1) K (coefsOf f ss) V := ⟨h1.trans (q1.mono (by omega)), by omega, fun k hk hne => (q2 k (by omega) hne (hno k hk)).trans (h3 k hk hne), v', q3, by
        have e : (coefsOf f ss).take (i + 1) = (coefsOf f ss).take i ++ [coefOf f x] := by
          rw [List.take_add_one]
          unfold coefsOf
          rw [List.getElem?_map, hx]
          rfl
        rw [e, cCells_snoc]
        exact q5, fun g hg => by
        rcases q6 g hg with h | h
        · exact h6 g h
        · omega⟩
      have HNew := hide hnew
      clear hnew q1 q2 q3 q4 q5 q6 q7 h1 h2 h3 h4 h5 h6 hlk hcall hS hmbw hsW hlow hob6 hx hsl hno hd hsz hkp HR q0
      simp only [setAll]
      go_wp2
      refine ⟨⟨i + 1, by omega, by simp, unhide HNew⟩, ?_⟩
      simp [intOf]
      omega
    · have gi : decide ((i : Int) < (m : Int)) = false := by simp; omega
      have g1 : ¬ ((i : Int) < (m : Int)) := by omega
      obtain rfl : i = m := by omega
      obtain ⟨h1, h2, h3, v0, h4, h5, h6⟩ := id hI
      obtain ⟨hperm, hcell, hb06, hlow, hO6, hS6, hR6, hob6, hsl, hb46, hs4⟩ := unhide HF
      have hsW : w.heap.size ≤ W3.heap.size := hb06.size
      have hR : wr.heap[w.heap.size + 1]? = some (.cells #[.slice none 0 0, .string ⟨#[]⟩] 28) := (h3 _ (by omega) (by omega)).trans hR6
      obtain ⟨va, vc, ev, hvc, hvcell⟩ := own_cells h5
      subst ev
      have o0 : wr.cell? ⟨ob, 0, none⟩ = some (.slice va i vc) := (blk h4).2.1 0 _ rfl
      have o1 : wr.cell? ⟨ob, 1, none⟩ = some (.string K) := (blk h4).2.1 1 _ rfl
      have r0 : wr.cell? ⟨w.heap.size + 1, 0, none⟩ = some (.slice none 0 0) := (blk hR).2.1 0 _ rfl
      have r1 : wr.cell? ⟨w.heap.size + 1, 1, none⟩ = some (.string ⟨#[]⟩) := (blk hR).2.1 1 _ rfl
      have rf0 := (blk hR).2.2 0
      have rf1 := (blk hR).2.2 1
      have HR := hide (And.intro h1 (And.intro h6 (And.intro hR (And.intro hvc (And.intro hvcell (And.intro hperm (And.intro hsl (And.intro hsW (And.intro hob6 hlow)))))))))
      clear h1 h2 h3 h4 h5 h6 hR hvc hvcell hperm hcell hb06 hlow hO6 hS6 hR6 hob6 hsl hb46 hs4 hsW hI hi hi0
      go_wp2
      obtain ⟨h1, h6, hR, hvc, hvcell, hperm, hsl, hsW, hob6, hlow⟩ := unhide HR
      have hp := put2 wr (w.heap.size + 1) (.slice va i vc) (.string K)
      refine bodyPost_ret (res_row (cs := [.slice va i vc, .string K]) rfl rfl (range_block (fill2 hR)) rfl rfl rfl) rfl ?_
      refine ⟨_, ss, rfl, hp.below h1 (by omega), hperm, va, i, vc, by rw [unhide HKK], by simp [coefsOf, hsl], hvc, by omega, fun h0 => ?_⟩
      obtain ⟨g, rfl, hg1, hg2, hg3⟩ := hvcell h0
      have hg6 := h6 g rfl
      refine ⟨g, 0, rfl, by rw [hp.size]; exact hg2, fun j hj c hc t u hu => ?_⟩
      rw [World.cell?_of_block (w := wr) (hp.block g (by omega)), Nat.zero_add]
      have hc' : ((coefsOf f ss).take i)[j]? = some c := by rw [List.getElem?_take, if_pos hj]; exact hc
      obtain ⟨k1, k2⟩ := cCells_get hc'
      match t with
      | 0 => exact hg3 (j * 2) u (by rw [k1]; simpa using hu)
      | 1 => exact hg3 (j * 2 + 1) u (by rw [k2]; simpa using hu)
      | t + 2 => simp at hu
end Go.Proofs.YthgdmppmjnmiiaaGreatDoor

/- Package farkas: Sum. -/
namespace Go.Proofs.YthgdmppmjnmiiaaGreatDoor
open Go Go.RowKit Go.Maps
open _root_.Go.Proofs.YthgdmppmjnmiiaaGreatDoor.Nm (IsI pw)
/-- So many noughts. -/
def tenTo (d : Nat) : Nat := 10 ^ d
theorem tenTo_add (a b : Nat) : tenTo a * tenTo b = tenTo (a + b) := (Nat.pow_add 10 a b).symm
theorem numT_bound {d : Nat} {s : ByteArray} {z : Int} (hd : d ≤ 1900) (h : numT d s = some z) : z.natAbs < tenTo d := by
  unfold numT at h
  split at h
  · rename_i hr
    obtain ⟨hR, hl⟩ := (rightB_iff (by omega)).1 hr
    have h1 := Nm.dec_lt hR.dg
    have h0 := Nm.dec_nonneg hR.dg
    have h2 := Nm.pow_mono10 hl
    have h3 : (z.natAbs : Int) = Nm.dec (Lib.trimPrefix s.data.toList [45]) := by
      injection h with h
      rw [← h]
      split <;> omega
    have h4 : ((tenTo d : Nat) : Int) = (10 : Int) ^ d := by unfold tenTo; push_cast; rfl
    omega
  · cases h
theorem pow_pw {d k : Nat} (h : d ≤ 9 * k) : ((tenTo d : Nat) : Int) ≤ pw k := by
  have h2 := Nm.pow_mono10 h
  rw [← Nm.pw_eq] at h2
  have h4 : ((tenTo d : Nat) : Int) = (10 : Int) ^ d := by unfold tenTo; push_cast; rfl
  omega
theorem allO_mem {α β : Type} {g : α → Option β} : ∀ {l : List α} {rs : List β}, allO g l = some rs → ∀ r ∈ rs, ∃ x ∈ l, g x = some r
  | [], rs, h, r, hr => by simp [allO] at h; subst h; simp at hr
  | a :: l, rs, h, r, hr => by
    simp only [allO] at h
    cases ha : g a with
    | none => rw [ha] at h; cases h
    | some p =>
      cases hl : allO g l with
      | none => rw [ha, hl] at h; cases h
      | some ps =>
        rw [ha, hl] at h
        simp at h
        subst h
        rcases List.mem_cons.1 hr with rfl | hr
        · exact ⟨a, by simp, ha⟩
        · obtain ⟨x, hx, e⟩ := allO_mem hl r hr
          exact ⟨x, by simp [hx], e⟩
theorem allO_len {α β : Type} {g : α → Option β} : ∀ {l : List α} {rs : List β}, allO g l = some rs → rs.length = l.length
  | [], rs, h => by simp [allO] at h; subst h; rfl
  | a :: l, rs, h => by
    simp only [allO] at h
    cases ha : g a with
    | none => rw [ha] at h; cases h
    | some p =>
      cases hl : allO g l with
      | none => rw [ha, hl] at h; cases h
      | some ps =>
        rw [ha, hl] at h
        simp at h
        subst h
        simp [allO_len hl]
theorem readC_mem {C : List (ByteArray × ByteArray)} {ps : List (ByteArray × Int)} (h : readC C = some ps) : ps.length = C.length ∧ ∀ p ∈ ps, p.2.natAbs < tenTo 400 ∧ p.1.size ≤ 200 ∧ p.1.size ≠ 0 := by
  induction C generalizing ps with
  | nil => simp [readC] at h; subst h; simp
  | cons c C ih =>
    simp only [readC] at h
    cases hp : readP c with
    | none => rw [hp] at h; cases h
    | some p =>
      cases hl : readC C with
      | none => rw [hp, hl] at h; cases h
      | some qs =>
        rw [hp, hl] at h
        simp at h
        subst h
        obtain ⟨k1, k2⟩ := ih hl
        refine ⟨by simp [k1], fun q hq => ?_⟩
        rcases List.mem_cons.1 hq with rfl | hq
        · unfold readP at hp
          split at hp
          · cases hp
          · rename_i hn
            cases hz : numT 400 c.2 with
            | none => rw [hz] at hp; cases hp
            | some z =>
              rw [hz] at hp
              simp at hp
              subst hp
              refine ⟨numT_bound (by omega) hz, ?_, ?_⟩
              · show c.1.size ≤ 200
                omega
              · show c.1.size ≠ 0
                omega
        · exact k2 q hq
theorem readR_mem {C : List (ByteArray × ByteArray)} {K : ByteArray} {r : List (ByteArray × Int) × Int} (h : readR C K = some r) : r.1.length = C.length ∧ r.2.natAbs < tenTo 400 ∧ ∀ p ∈ r.1, p.2.natAbs < tenTo 400 ∧ p.1.size ≤ 200 ∧ p.1.size ≠ 0 := by
  unfold readR at h
  cases hk : numT 400 K with
  | none => rw [hk] at h; cases h
  | some k =>
    cases hc : readC C with
    | none => rw [hk, hc] at h; cases h
    | some ps =>
      rw [hk, hc] at h
      simp at h
      subst h
      obtain ⟨k1, k2⟩ := readC_mem hc
      exact ⟨k1, numT_bound (by omega) hk, k2⟩
def XX : Nat := tenTo 2000
theorem big_X : ((2000000 * XX : Nat) : Int) < pw 3000 := by
  have h1 : 2000000 * XX ≤ tenTo 7 * tenTo 2000 := Nat.mul_le_mul (by decide) (Nat.le_refl _)
  rw [tenTo_add] at h1
  have h2 := pow_pw (d := 7 + 2000) (k := 2999) (by omega)
  have h3 : pw 2999 < pw 3000 := by
    have : pw 3000 = 1000000000 * pw 2999 := rfl
    have := Nm.pw_pos 2999
    omega
  omega
theorem prod_X {a b : Nat} (ha : a < tenTo 400) (hb : b < tenTo 1600) : a * b ≤ XX := by
  have := Nat.mul_le_mul (Nat.le_of_lt ha) (Nat.le_of_lt hb)
  rw [tenTo_add] at this
  exact this
theorem rows_ok {ls : List (List (ByteArray × ByteArray) × ByteArray)} {rs : List (List (ByteArray × Int) × Int)} (h : readL ls = some rs) (hC : ∀ l ∈ ls, l.1.length ≤ 1000) : ∀ r ∈ rs, r.1.length ≤ 1000 ∧ (r.2.natAbs : Int) < pw 3000 ∧ (∀ p ∈ r.1, (p.2.natAbs : Int) < pw 3000 ∧ p.1.size ≤ 200) ∧ ∀ s z, numT 1600 s = some z → r.2.natAbs * z.natAbs ≤ XX ∧ (∀ p ∈ r.1, p.2.natAbs * z.natAbs ≤ XX) := fun r hr => by
  obtain ⟨l, hl, e⟩ := allO_mem h r hr
  obtain ⟨k1, k2, k3⟩ := readR_mem e
  have hp := pow_pw (d := 400) (k := 3000) (by omega)
  refine ⟨by have := hC l hl; omega, by omega, fun p hp' => ⟨by have := (k3 p hp').1; omega, (k3 p hp').2.1⟩, fun s z hz => ⟨prod_X k2 (numT_bound (by omega) hz), fun p hp' => prod_X (k3 p hp').1 (numT_bound (by omega) hz)⟩⟩
end Go.Proofs.YthgdmppmjnmiiaaGreatDoor

namespace Go.Proofs.YthgdmppmjnmiiaaGreatDoor
open Go Go.RowKit Go.Maps
open _root_.Go.Proofs.YthgdmppmjnmiiaaGreatDoor.Nm (IsI pw)
theorem kl_bytes (x : List UInt8) : kl (bytesOf x) = .string x := by simp [kl, bytesOf]
theorem mem_keys {w : World} {D : DataW Value} {mb n : Nat} {f : ByteArray → Int} (hom : w.ownsMap Tryz.prog 9 R0 mb n D) (hmf : MF w D f) (x : List UInt8) : x ∈ strKeys D ↔ x.length ≤ maxLen ∧ f (bytesOf x) ≠ 0 := by
  constructor
  · intro hx
    have hl := keys_max hom hx
    refine ⟨hl, ?_⟩
    obtain ⟨v, h1, h2, h3⟩ := hmf (bytesOf x) (by show x.toArray.size ≤ maxLen; simpa using hl)
    refine h3.1 ?_
    obtain ⟨es, rfl, hk⟩ := hom.keysOf
    obtain ⟨p, hp, rfl⟩ := List.mem_map.1 hx
    obtain ⟨u, hu⟩ := hk p hp
    obtain ⟨y, _, e, _⟩ := Maps.keyOf_str Tryz.underlying9 hu
    rw [Maps.has_eq, List.any_eq_true]
    refine ⟨p, hp, ?_⟩
    rw [kl_bytes, e]
    exact WideAt.sameKey_self trivial
  · rintro ⟨hl, hne⟩
    obtain ⟨v, h1, h2, h3⟩ := hmf (bytesOf x) (by show x.toArray.size ≤ maxLen; simpa using hl)
    have hh := h3.2 hne
    obtain ⟨es, rfl, hk⟩ := hom.keysOf
    rw [Maps.has_eq, List.any_eq_true] at hh
    obtain ⟨p, hp, hs⟩ := hh
    rw [kl_bytes] at hs
    have e := (WideAt.sameKey_iff (a := p.1) (b := .string x) trivial).1 hs
    exact List.mem_map.2 ⟨p, hp, by rw [e]; rfl⟩
theorem keys_nodup {w : World} {D : DataW Value} {mb n : Nat} (hom : w.ownsMap Tryz.prog 9 R0 mb n D) : (strKeys D).Nodup := by
  obtain ⟨es, e, hp⟩ := hom.tidy str_keyed
  obtain ⟨es', rfl, hk⟩ := hom.keysOf
  injection e with e
  subst e
  show (es'.map fun p => strOf p.1).Nodup
  refine List.pairwise_map.2 (hp.imp_of_mem fun {p q} hp' hq' hne e => hne ?_)
  obtain ⟨a, ha⟩ := hk p hp'
  obtain ⟨b, hb⟩ := hk q hq'
  obtain ⟨x, _, ea, _⟩ := Maps.keyOf_str Tryz.underlying9 ha
  obtain ⟨y, _, eb, _⟩ := Maps.keyOf_str Tryz.underlying9 hb
  rw [ea, eb] at e ⊢
  exact congrArg _ e
def sumAll (ls : List (List (ByteArray × ByteArray) × ByteArray)) (bs : List ByteArray) : Option ((ByteArray → Int) × Int) := match readL ls with
  | some rs => sumO rs bs
  | none => none
def SPost (ls : List (List (ByteArray × ByteArray) × ByteArray)) (bs : List ByteArray) (w : World) (e : Ending) (w' : World) : Prop := ∃ r, e = .returned (.tuple #[r, .bool (sumAll ls bs).isSome]) ∧ Below w.heap.size w w' ∧ (∃ a n c s, r = .agg #[.slice a n c, .string s]) ∧ ∀ q, sumAll ls bs = some q → ∃ ss : List (List UInt8), ss.Nodup ∧ (∀ x, x ∈ ss ↔ x.length ≤ maxLen ∧ q.1 (bytesOf x) ≠ 0) ∧ IsL w' w'.heap.size r (coefsOf q.1 ss) (bytesOf (Lib.itoa q.2))
set_option maxRecDepth 100000 in
set_option maxHeartbeats 4000000 in
theorem Sum_any {w : World} {B : Nat} {aL aB : Option Addr} {n cL nB cB : Nat} {ls : List (List (ByteArray × ByteArray) × ByteArray)} {bs : List ByteArray} (hL : Row B aL n cL 2 (LAt w B ls)) (hnl : n = ls.length) (hS : Row B aB nB cB 1 (BA w bs)) (hnB : nB = bs.length) (hB : B ≤ w.heap.size) (hn : n ≤ 1000) (hC : ∀ l ∈ ls, l.1.length ≤ 1000) (hT : Nm.Tab w) : Calls Tryz.prog 6 #[.slice aL n cL, .slice aB nB cB] w (SPost ls bs w) := by
  obtain ⟨A, eA, hbA, hsA, hcA, hhA⟩ := box_new w #[.slice none 0 0, .string ⟨#[]⟩] 28
  have hLA : Row B aL n cL 2 (LAt A B ls) := hL.mono (Nat.le_refl _) fun b o j hb h l hl => by
    obtain ⟨x, y, h1, h2⟩ := h l hl
    exact ⟨x, y, rangeAt_below h1 (Nat.lt_of_lt_of_le hb hB) hbA, h2.more (hbA.mono hB)⟩
  have HR := hide (readRows_any hLA hnl (Nat.le_trans hB hbA.size) (by omega) (fun l hl => by have := hC l hl; omega))
  have HE := hide eA
  have HB := hide (And.intro hbA (And.intro hsA hhA))
  have HC := hide (And.intro hS (And.intro hnB (And.intro hB (And.intro hn (And.intro hC (And.intro hT hnl))))))
  clear hL hnl hS hnB hB hn hC hT eA hbA hsA hcA hhA hLA
  go_enter Tryz.func6, Tryz.ntmps6
  go_wp2_with fail
  rw [unhide HE]
  refine (unhide HR).mono ?_
  rintro e w2 ⟨aR, nR, cR, rfl, hb2, hrs⟩
  obtain ⟨hbA, hsA, hhA⟩ := unhide HB
  have hh2 := (hb2.block w.heap.size (by omega)).trans hhA
  have hb02 : Below w.heap.size w w2 := hbA.trans (hb2.mono hbA.size)
  have r0 : w2.cell? ⟨w.heap.size, 0, none⟩ = some (.slice none 0 0) := (blk hh2).2.1 0 _ rfl
  have r1 : w2.cell? ⟨w.heap.size, 1, none⟩ = some (.string ⟨#[]⟩) := (blk hh2).2.1 1 _ rfl
  have rf0 := (blk hh2).2.2 0
  have rf1 := (blk hh2).2.2 1
  have H2 := hide (And.intro hh2 (And.intro hb02 hrs))
  clear hbA hsA hhA hh2 hb02 hb2 hrs HR HE HB
  cases hrl : readL ls with
  | none =>
    go_wp2
    obtain ⟨hh2, hb02, _⟩ := unhide H2
    have hnone : sumAll ls bs = none := by unfold sumAll; rw [hrl]
    refine bodyPost_ret (res_row2 (cs := [.slice none 0 0, .string ⟨#[]⟩]) rfl rfl rfl (range_block (fill2 hh2)) rfl rfl rfl) rfl ?_
    exact ⟨_, by rw [hnone]; rfl, (put2 w2 w.heap.size _ _).below hb02 (Nat.le_refl _), ⟨_, _, _, _, rfl⟩, fun q h => by rw [hnone] at h; cases h⟩
  | some rs =>
    obtain ⟨hh2, hb02, hrs⟩ := unhide H2
    obtain ⟨hS, hnB, hB, hn, hC, hT, hnl⟩ := unhide HC
    obtain ⟨k1, k2, k3⟩ := hrs rs hrl
    have hlr : rs.length = ls.length := by
      have := allO_len hrl
      omega
    have hS2 : Row w2.heap.size aB nB cB 1 (BA w2 bs) := hS.mono (Nat.le_trans hB hb02.size) fun b o j hb h s hs => (hb02.cell (p := ⟨b, o, none⟩) (Nat.lt_of_lt_of_le hb hB)).trans (h s hs)
    have HSum := hide (sumOf_any (X := XX) k3 k1 hS2 hnB (Nat.le_refl _) (by omega) (rows_ok hrl hC) (fun s z hz => Int.lt_of_lt_of_le (by have := numT_bound (by omega) hz; omega) (pow_pw (d := 1600) (k := 3000) (by omega))) big_X)
    have HSA : Hid (sumAll ls bs = sumO rs bs) := by show _ = _; unfold sumAll; rw [hrl]
    clear hh2 hb02 hrs hS hnB hB hn hC hT hnl k1 k2 k3 hlr hS2 r0 r1 rf0 rf1
    go_wp2_with fail
    refine (unhide HSum).mono ?_
    rintro e w3 ⟨r, rfl, hb3, ⟨mx, si, sa, sl, sc, rfl⟩, hq⟩
    obtain ⟨hh2, hb02, _⟩ := unhide H2
    obtain ⟨hS, hnB, hB, hn, hC, hT, hnl⟩ := unhide HC
    obtain ⟨w4, e4, hb4, hs4, hc4, hh4⟩ := box_new w3 #[.map mx, .int .i64 si, .slice sa sl sc] 51
    have hb24 : Below w2.heap.size w2 w4 := hb3.trans (hb4.mono hb3.size)
    have hb04 : Below w.heap.size w w4 := hb02.trans (hb24.mono hb02.size)
    have hh4' := (hb24.block w.heap.size (Array.getElem?_eq_some_iff.1 hh2).1).trans hh2
    have r0 : w4.cell? ⟨w.heap.size, 0, none⟩ = some (.slice none 0 0) := (blk hh4').2.1 0 _ rfl
    have r1 : w4.cell? ⟨w.heap.size, 1, none⟩ = some (.string ⟨#[]⟩) := (blk hh4').2.1 1 _ rfl
    have rf0 := (blk hh4').2.2 0
    have rf1 := (blk hh4').2.2 1
    have s0 : w4.cell? ⟨w3.heap.size, 0, none⟩ = some (.map mx) := (blk hh4).2.1 0 _ rfl
    have s1 : w4.cell? ⟨w3.heap.size, 1, none⟩ = some (.int .i64 si) := (blk hh4).2.1 1 _ rfl
    have s2 : w4.cell? ⟨w3.heap.size, 2, none⟩ = some (.slice sa sl sc) := (blk hh4).2.1 2 _ rfl
    have HE4 := hide e4
    have H4 := hide (And.intro hh4' (And.intro hb04 (And.intro hb4 hq)))
    rw [← e4] at r0 r1 rf0 rf1 s0 s1 s2
    clear hh2 hb02 hS hnB hB hn hC hT hnl e4 hb4 hs4 hc4 hh4 hb24 hb04 hh4' hb3 hq HSum H2
    cases hso : sumO rs bs with
    | none =>
      clear s0 s1 s2
      go_wp2
      rw [unhide HE4]
      obtain ⟨hh4, hb04, _, _⟩ := unhide H4
      have hnone : sumAll ls bs = none := (unhide HSA).trans hso
      refine bodyPost_ret (res_row2 (cs := [.slice none 0 0, .string ⟨#[]⟩]) rfl rfl rfl (range_block (fill2 hh4)) rfl rfl rfl) rfl ?_
      exact ⟨_, by rw [hnone]; rfl, (put2 w4 w.heap.size _ _).below hb04 (Nat.le_refl _), ⟨_, _, _, _, rfl⟩, fun q h => by rw [hnone] at h; cases h⟩
    | some q =>
      obtain ⟨hh4, hb04, hb4, hq⟩ := unhide H4
      obtain ⟨hS, hnB, hB, hn, hC, hT, hnl⟩ := unhide HC
      obtain ⟨⟨D, mb, nn, i', a', l', c', ev, hom, hnn, hmf, hI⟩, hfb, hkb⟩ := hq q hso
      obtain ⟨rfl, rfl, rfl, rfl, rfl⟩ : mx = some mb ∧ i' = si ∧ a' = sa ∧ l' = sl ∧ c' = sc := by simp at ev; exact ⟨ev.1, ev.2.1.symm, ev.2.2.1.symm, ev.2.2.2.1.symm, ev.2.2.2.2.symm⟩
      have hom4 : w4.ownsMap Tryz.prog 9 R0 mb nn D := by
        obtain ⟨es, cl, hm, F, hs, hD⟩ := hom
        exact ⟨es, cl, (hb4.block mb (Array.getElem?_eq_some_iff.1 hm).1).trans hm, F, hs, hD⟩
      have hpm : pw 3000 ≤ pw 4000 := Nm.pw_mono (by omega)
      have hbX := big_X
      have HTell := hide (tell_any hom4 (hmf.more hb4) (hI.more hb4 hb4.size) hnn (Nm.Tab.below hT hb04) (by omega) (fun s => by have := hfb s; omega))
      have HKs := hide (And.intro (keys_nodup hom4) (mem_keys hom4 (hmf.more hb4)))
      have HSq := hide hso
      clear hh4 hb04 hb4 hq hS hnB hB hn hC hT hnl ev hom hnn hmf hI hfb hkb hom4 hpm hbX hso r0 r1 rf0 rf1
      go_wp2_with fail
      rw [unhide HE4]
      refine (unhide HTell).mono ?_
      rintro e w5 ⟨r, ss, rfl, hb5, hperm, hL5⟩
      obtain ⟨hh4, hb04, hb4, _⟩ := unhide H4
      obtain ⟨aC, nC, cC, rfl, hnC, hRC⟩ := hL5
      have hh5 := (hb5.block w.heap.size (Array.getElem?_eq_some_iff.1 hh4).1).trans hh4
      have r0 : w5.cell? ⟨w.heap.size, 0, none⟩ = some (.slice none 0 0) := (blk hh5).2.1 0 _ rfl
      have r1 : w5.cell? ⟨w.heap.size, 1, none⟩ = some (.string ⟨#[]⟩) := (blk hh5).2.1 1 _ rfl
      have rf0 := (blk hh5).2.2 0
      have rf1 := (blk hh5).2.2 1
      have H5 := hide (And.intro hh5 (And.intro (hb04.trans (hb5.mono hb04.size)) (And.intro hperm (And.intro hnC hRC))))
      obtain ⟨KK, hKK⟩ : ∃ KK, bytesOf (Lib.itoa q.2) = KK := ⟨_, rfl⟩
      rw [hKK]
      have HKK := hide hKK
      clear hh4 hb04 hb4 hh5 hb5 hperm hnC hRC hKK s0 s1 s2 HTell
      go_wp2
      obtain ⟨hh5, hb05, hperm, hnC, hRC⟩ := unhide H5
      have hall : sumAll ls bs = some q := (unhide HSA).trans (unhide HSq)
      have hp := put2 w5 w.heap.size (.slice aC nC cC) (.string KK)
      refine bodyPost_ret (res_row2 (cs := [.slice aC nC cC, .string KK]) rfl rfl rfl (range_block (fill2 hh5)) rfl rfl rfl) rfl ?_
      refine ⟨_, by rw [hall]; rfl, hp.below hb05 (Nat.le_refl _), ⟨_, _, _, _, rfl⟩, fun q' h => ?_⟩
      rw [hall] at h
      injection h with h
      subst h
      refine ⟨ss, hperm.nodup_iff.2 (unhide HKs).1, fun x => hperm.mem_iff.trans ((unhide HKs).2 x), aC, nC, cC, by rw [unhide HKK], hnC, hRC.mono (by rw [hp.size]; exact Nat.le_refl _) fun b o j hb h c hc t u hu => ?_⟩
      have hne : b ≠ w.heap.size := by
        rintro rfl
        have h0 := h c hc 0 _ rfl
        have h1 := h c hc 1 _ rfl
        rw [cell_arr hh5] at h0 h1
        match o with
        | 0 => simp at h0
        | 1 => simp at h1
        | o + 2 => simp at h0
      rw [World.cell?_of_block (w := w5) (hp.block b hne)]
      exact h c hc t u hu
end Go.Proofs.YthgdmppmjnmiiaaGreatDoor
