/- The walk of NumLaws. -/
import Derived.Test.YtpkpkpjhpkndnaaDoorL3
import Derived.Test.YtpkpkpjhpkndnaaDoorK1
namespace Go.Proofs.YtpkpkpjhpkndnaaDoor
open Go.RowKit

set_option maxRecDepth 100000 in
set_option maxHeartbeats 16000000 in
theorem laws_walk (s t u : ByteArray) (w : World) (hT : Tab w) (hs : s.size ≤ 9223372036854775807) (ht : t.size ≤ 9223372036854775807) (hu : u.size ≤ 9223372036854775807) :
    Calls Tryd.prog 6 #[.string s, .string t, .string u] w fun e w' => e = .returned (.bool true) ∧ Below w.heap.size w w' := by
  have HK := hide (known_yes w hT)
  go_enter Tryd.func6, Tryd.ntmps6
  go_wp2_with fail
  refine (unhide HK).mono ?_
  rintro e w1 ⟨rfl, hb1⟩
  go_wp2_with fail
  have hl3 : ∀ j (hj : j < [s, t, u].length), (w1.alloc (.cells #[.string s, .string t, .string u] 9)).cell? ⟨w1.heap.size, 0 + j, none⟩ = some (.string ([s, t, u][j]'hj)) := fun j hj => by
    rw [World.cell?_alloc_at _ _ _ _ rfl]
    match j, hj with
    | 0, _ => rfl
    | 1, _ => rfl
    | 2, _ => rfl
  refine (light_any w1.heap.size 0 3 3 [s, t, u] _ rfl (by decide) (fun x hx => by simp at hx; rcases hx with rfl | rfl | rfl <;> assumption) hl3).mono ?_
  rintro e w2 ⟨hlight, rfl⟩
  have hb2 : Below w.heap.size w (w1.alloc (.cells #[.string s, .string t, .string u] 9)) := hb1.alloc hb1.size _
  clear hl3 hs ht hu HK
  generalize (w1.alloc (.cells #[.string s, .string t, .string u] 9)) = w2 at *
  rcases hlight.symm with ⟨_, rfl⟩ | ⟨hsz, rfl⟩
  · go_wp2
    go_ret
    exact ⟨rfl, hb2⟩
  have hs : s.size ≤ 300 := hsz s (by simp)
  have ht : t.size ≤ 300 := hsz t (by simp)
  have hu : u.size ≤ 300 := hsz u (by simp)
  clear hsz hb1
  go_wp2_with fail
  refine (ofS_any s w2 hs).mono ?_
  rintro e wA ⟨vA, nA, zA, rfl, hbA, iA, ⟨bA1, bA2, bA3, bA4, rfl⟩, hzA⟩
  obtain ⟨cA1, cA2, cA3, cA4, rfl⟩ := iA.form
  have HZA := hide hzA
  clear hzA
  have hBwA := hb2.trans (hbA.mono hb2.size)
  clear hb2 hbA
  go_wp2_with fail
  have xA := (Bx.new wA cA1 cA2 cA3 cA4).alloc (.cells #[.bool bA1, .slice bA2 bA3 bA4] 31)
  have hgA : Below wA.heap.size wA ((wA.alloc (.cells #[.int .i64 cA1, .slice cA2 cA3 cA4] 26)).alloc (.cells #[.bool bA1, .slice bA2 bA3 bA4] 31)) := ((Below.refl _ _).alloc (Nat.le_refl _) _).alloc (by simp) _
  replace iA := iA.below hgA
  have hBWA := hBwA.trans (hgA.mono hBwA.size)
  clear hBwA hgA
  generalize ((wA.alloc (.cells #[.int .i64 cA1, .slice cA2 cA3 cA4] 26)).alloc (.cells #[.bool bA1, .slice bA2 bA3 bA4] 31)) = WA at *
  generalize wA.heap.size = rA at *
  refine (ofS_any t WA ht).mono ?_
  rintro e wB ⟨vB, nB, zB, rfl, hbB, iB, ⟨bB1, bB2, bB3, bB4, rfl⟩, hzB⟩
  obtain ⟨cB1, cB2, cB3, cB4, rfl⟩ := iB.form
  have HZB := hide hzB
  clear hzB
  replace xA := xA.below hbB
  replace iA := iA.below hbB
  obtain ⟨kA0, kA1, kfA0, kfA1⟩ := xA.facts
  have lA := xA.lt
  have hBwB := hBWA.trans (hbB.mono hBWA.size)
  clear hBWA hbB
  go_wp2_with fail
  have xB := (Bx.new wB cB1 cB2 cB3 cB4).alloc (.cells #[.bool bB1, .slice bB2 bB3 bB4] 31)
  have hgB : Below wB.heap.size wB ((wB.alloc (.cells #[.int .i64 cB1, .slice cB2 cB3 cB4] 26)).alloc (.cells #[.bool bB1, .slice bB2 bB3 bB4] 31)) := ((Below.refl _ _).alloc (Nat.le_refl _) _).alloc (by simp) _
  replace xA := xA.below hgB
  replace iA := iA.below hgB
  replace iB := iB.below hgB
  have hBWB := hBwB.trans (hgB.mono hBwB.size)
  clear hBwB hgB
  generalize ((wB.alloc (.cells #[.int .i64 cB1, .slice cB2 cB3 cB4] 26)).alloc (.cells #[.bool bB1, .slice bB2 bB3 bB4] 31)) = WB at *
  generalize wB.heap.size = rB at *
  refine (ofS_any u WB hu).mono ?_
  rintro e wC ⟨vC, nC, zC, rfl, hbC, iC, ⟨bC1, bC2, bC3, bC4, rfl⟩, hzC⟩
  obtain ⟨cC1, cC2, cC3, cC4, rfl⟩ := iC.form
  have HZC := hide hzC
  clear hzC
  replace xA := xA.below hbC
  replace iA := iA.below hbC
  replace xB := xB.below hbC
  replace iB := iB.below hbC
  clear kA0 kA1 kfA0 kfA1 lA
  obtain ⟨kA0, kA1, kfA0, kfA1⟩ := xA.facts
  have lA := xA.lt
  obtain ⟨kB0, kB1, kfB0, kfB1⟩ := xB.facts
  have lB := xB.lt
  have hBwC := hBWB.trans (hbC.mono hBWB.size)
  clear hBWB hbC
  go_wp2_with fail
  have xC := (Bx.new wC cC1 cC2 cC3 cC4).alloc (.cells #[.bool bC1, .slice bC2 bC3 bC4] 31)
  have hgC : Below wC.heap.size wC ((wC.alloc (.cells #[.int .i64 cC1, .slice cC2 cC3 cC4] 26)).alloc (.cells #[.bool bC1, .slice bC2 bC3 bC4] 31)) := ((Below.refl _ _).alloc (Nat.le_refl _) _).alloc (by simp) _
  replace xA := xA.below hgC
  replace iA := iA.below hgC
  replace xB := xB.below hgC
  replace iB := iB.below hgC
  replace iC := iC.below hgC
  have hBWC := hBwC.trans (hgC.mono hBwC.size)
  clear hBwC hgC
  generalize ((wC.alloc (.cells #[.int .i64 cC1, .slice cC2 cC3 cC4] 26)).alloc (.cells #[.bool bC1, .slice bC2 bC3 bC4] 31)) = WC at *
  generalize wC.heap.size = rC at *
  clear kA0 kA1 kfA0 kfA1 lA
  obtain ⟨kA0, kA1, kfA0, kfA1⟩ := xA.facts
  have lA := xA.lt
  clear kB0 kB1 kfB0 kfB1 lB
  obtain ⟨kB0, kB1, kfB0, kfB1⟩ := xB.facts
  have lB := xB.lt
  obtain ⟨kC0, kC1, kfC0, kfC1⟩ := xC.facts
  have lC := xC.lt
  have bA := hide (big_pw (unhide HZA))
  have bB := hide (big_pw (unhide HZB))
  have bC := hide (big_pw (unhide HZC))
  have bG := hide (gcd_pw (unhide bA) (unhide bB))
  refine (gcd_any quoLong_any _ _ zA zB _ iA iB (unhide bA) (unhide bB)).mono ?_
  rintro e wg ⟨rg, rfl, hbg, iG⟩
  obtain ⟨cG1, cG2, cG3, cG4, rfl⟩ := iG.form
  replace xA := xA.below hbg
  replace iA := iA.below hbg
  replace xB := xB.below hbg
  replace iB := iB.below hbg
  replace xC := xC.below hbg
  replace iC := iC.below hbg
  clear kA0 kA1 kfA0 kfA1 lA
  obtain ⟨kA0, kA1, kfA0, kfA1⟩ := xA.facts
  have lA := xA.lt
  clear kB0 kB1 kfB0 kfB1 lB
  obtain ⟨kB0, kB1, kfB0, kfB1⟩ := xB.facts
  have lB := xB.lt
  clear kC0 kC1 kfC0 kfC1 lC
  obtain ⟨kC0, kC1, kfC0, kfC1⟩ := xC.facts
  have lC := xC.lt
  have hBwg := hBWC.trans (hbg.mono hBWC.size)
  clear hBWC hbg
  go_wp2_with fail
  have hgWG : Below wg.heap.size wg (wg.alloc (.cells #[.int .i64 cG1, .slice cG2 cG3 cG4] 26)) := (Below.refl _ _).alloc (Nat.le_refl _) _
  have xG := Bx.new wg cG1 cG2 cG3 cG4
  replace xA := xA.below hgWG
  replace iA := iA.below hgWG
  replace xB := xB.below hgWG
  replace iB := iB.below hgWG
  replace xC := xC.below hgWG
  replace iC := iC.below hgWG
  replace iG := iG.below hgWG
  have hBWG := hBwg.trans (hgWG.mono hBwg.size)
  clear hBwg hgWG
  generalize (wg.alloc (.cells #[.int .i64 cG1, .slice cG2 cG3 cG4] 26)) = WG at *
  generalize wg.heap.size = rG at *
  refine (quo_any quoLong_any _ _ zA (Int.gcd zA zB : Int) _ iA iG (unhide bA) (unhide bG)).mono ?_
  rintro e wx ⟨rqX, rrX, rfl, hbX, iP, iX⟩
  obtain ⟨cP1, cP2, cP3, cP4, rfl⟩ := iP.form
  obtain ⟨cX1, cX2, cX3, cX4, rfl⟩ := iX.form
  replace xA := xA.below hbX
  replace iA := iA.below hbX
  replace xB := xB.below hbX
  replace iB := iB.below hbX
  replace xC := xC.below hbX
  replace iC := iC.below hbX
  replace xG := xG.below hbX
  replace iG := iG.below hbX
  clear kA0 kA1 kfA0 kfA1 lA
  obtain ⟨kA0, kA1, kfA0, kfA1⟩ := xA.facts
  have lA := xA.lt
  clear kB0 kB1 kfB0 kfB1 lB
  obtain ⟨kB0, kB1, kfB0, kfB1⟩ := xB.facts
  have lB := xB.lt
  clear kC0 kC1 kfC0 kfC1 lC
  obtain ⟨kC0, kC1, kfC0, kfC1⟩ := xC.facts
  have lC := xC.lt
  obtain ⟨kG0, kG1, kfG0, kfG1⟩ := xG.facts
  have lG := xG.lt
  have hBwx := hBWG.trans (hbX.mono hBWG.size)
  clear hBWG hbX
  go_wp2_with fail
  have hgWX : Below wx.heap.size wx ((wx.alloc (.cells #[.int .i64 cP1, .slice cP2 cP3 cP4] 26)).alloc (.cells #[.int .i64 cX1, .slice cX2 cX3 cX4] 26)) := ((Below.refl _ _).alloc (Nat.le_refl _) _).alloc (by simp) _
  have xX := Bx.new (wx.alloc (.cells #[.int .i64 cP1, .slice cP2 cP3 cP4] 26)) cX1 cX2 cX3 cX4
  rw [World.size_alloc] at xX
  replace xA := xA.below hgWX
  replace iA := iA.below hgWX
  replace xB := xB.below hgWX
  replace iB := iB.below hgWX
  replace xC := xC.below hgWX
  replace iC := iC.below hgWX
  replace xG := xG.below hgWX
  replace iG := iG.below hgWX
  replace iX := iX.below hgWX
  have hBWX := hBwx.trans (hgWX.mono hBwx.size)
  clear hBwx hgWX
  generalize ((wx.alloc (.cells #[.int .i64 cP1, .slice cP2 cP3 cP4] 26)).alloc (.cells #[.int .i64 cX1, .slice cX2 cX3 cX4] 26)) = WX at *
  generalize hrX : wx.heap.size + 1 = rX at *
  clear hrX
  refine (quo_any quoLong_any _ _ zB (Int.gcd zA zB : Int) _ iB iG (unhide bB) (unhide bG)).mono ?_
  rintro e wy ⟨rqY, rrY, rfl, hbY, iO, iY⟩
  obtain ⟨cO1, cO2, cO3, cO4, rfl⟩ := iO.form
  obtain ⟨cY1, cY2, cY3, cY4, rfl⟩ := iY.form
  replace xA := xA.below hbY
  replace iA := iA.below hbY
  replace xB := xB.below hbY
  replace iB := iB.below hbY
  replace xC := xC.below hbY
  replace iC := iC.below hbY
  replace xG := xG.below hbY
  replace iG := iG.below hbY
  replace xX := xX.below hbY
  replace iX := iX.below hbY
  clear kA0 kA1 kfA0 kfA1 lA
  obtain ⟨kA0, kA1, kfA0, kfA1⟩ := xA.facts
  have lA := xA.lt
  clear kB0 kB1 kfB0 kfB1 lB
  obtain ⟨kB0, kB1, kfB0, kfB1⟩ := xB.facts
  have lB := xB.lt
  clear kC0 kC1 kfC0 kfC1 lC
  obtain ⟨kC0, kC1, kfC0, kfC1⟩ := xC.facts
  have lC := xC.lt
  clear kG0 kG1 kfG0 kfG1 lG
  obtain ⟨kG0, kG1, kfG0, kfG1⟩ := xG.facts
  have lG := xG.lt
  obtain ⟨kX0, kX1, kfX0, kfX1⟩ := xX.facts
  have lX := xX.lt
  have hBwy := hBWX.trans (hbY.mono hBWX.size)
  clear hBWX hbY
  go_wp2_with fail
  have hgWY : Below wy.heap.size wy ((wy.alloc (.cells #[.int .i64 cO1, .slice cO2 cO3 cO4] 26)).alloc (.cells #[.int .i64 cY1, .slice cY2 cY3 cY4] 26)) := ((Below.refl _ _).alloc (Nat.le_refl _) _).alloc (by simp) _
  have xY := Bx.new (wy.alloc (.cells #[.int .i64 cO1, .slice cO2 cO3 cO4] 26)) cY1 cY2 cY3 cY4
  rw [World.size_alloc] at xY
  replace xA := xA.below hgWY
  replace iA := iA.below hgWY
  replace xB := xB.below hgWY
  replace iB := iB.below hgWY
  replace xC := xC.below hgWY
  replace iC := iC.below hgWY
  replace xG := xG.below hgWY
  replace iG := iG.below hgWY
  replace xX := xX.below hgWY
  replace iX := iX.below hgWY
  replace iY := iY.below hgWY
  have hBWY := hBwy.trans (hgWY.mono hBwy.size)
  clear hBwy hgWY
  generalize ((wy.alloc (.cells #[.int .i64 cO1, .slice cO2 cO3 cO4] 26)).alloc (.cells #[.int .i64 cY1, .slice cY2 cY3 cY4] 26)) = WY at *
  generalize hrY : wy.heap.size + 1 = rY at *
  clear hrY
  clear kA0 kA1 kfA0 kfA1 lA
  obtain ⟨kA0, kA1, kfA0, kfA1⟩ := xA.facts
  have lA := xA.lt
  clear kB0 kB1 kfB0 kfB1 lB
  obtain ⟨kB0, kB1, kfB0, kfB1⟩ := xB.facts
  have lB := xB.lt
  clear kC0 kC1 kfC0 kfC1 lC
  obtain ⟨kC0, kC1, kfC0, kfC1⟩ := xC.facts
  have lC := xC.lt
  clear kG0 kG1 kfG0 kfG1 lG
  obtain ⟨kG0, kG1, kfG0, kfG1⟩ := xG.facts
  have lG := xG.lt
  clear kX0 kX1 kfX0 kfX1 lX
  obtain ⟨kX0, kX1, kfX0, kfX1⟩ := xX.facts
  have lX := xX.lt
  obtain ⟨kY0, kY1, kfY0, kfY1⟩ := xY.facts
  have lY := xY.lt
  refine laws_last (zA := zA) (zB := zB) (zC := zC) ⟨unhide HZA, unhide HZB, unhide HZC, gcd_pw (unhide HZA) (unhide HZB), mod_pw (unhide HZA) (gcd_pw (unhide HZA) (unhide HZB)), mod_pw (unhide HZB) (gcd_pw (unhide HZA) (unhide HZB)), ⟨rA, rfl, _, xA, iA⟩, ⟨rB, rfl, _, xB, iB⟩, ⟨rC, rfl, _, xC, iC⟩, ⟨rG, rfl, _, xG, iG⟩, ⟨rX, rfl, _, xX, iX⟩, ⟨rY, rfl, _, xY, iY⟩⟩ rfl ?_
  intro a w' hb hd h6
  have HB := hBWY.trans (hb.mono hBWY.size)
  clear hb
  go_wp2
  exact bodyPost_ret (results_tmp rfl _ _ _) hd ⟨by rw [h6], HB⟩

end Go.Proofs.YtpkpkpjhpkndnaaDoor
