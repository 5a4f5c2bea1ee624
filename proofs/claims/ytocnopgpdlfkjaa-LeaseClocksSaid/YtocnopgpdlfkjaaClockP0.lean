/- Contract of the statements' own Shows. -/
import Derived.Test.YtocnopgpdlfkjaaClockC0
import Derived.Test.YtocnopgpdlfkjaaClockR0
import Derived.Test.YtocnopgpdlfkjaaOwn
namespace Go.Proofs.Ytocnopgpdlfkjaa.Clk
open Go.RowKit
set_option linter.unusedVariables false

def btw (a b n : Int) : Int := if b ≤ a then a else a + n % (b - a + 1)
set_option maxHeartbeats 400000 in
theorem between_any (a b n : Int) (w : World) (h0 : 0 ≤ n) (h1 : n < 18446744073709551616) (ha : 0 ≤ a) (ha' : a ≤ 9000000000000) (hb : 0 ≤ b) (hb' : b ≤ 9000000000000) :
    Calls Try.prog 51 #[.int .i64 a, .int .i64 b, .int .u64 n] w fun e w' => e = .returned (.int .i64 (btw a b n)) ∧ w = w' := by
  by_cases h : b ≤ a
  · go_enter Try.func51, Try.ntmps51
    go_wp2
    go_ret
    exact ⟨ret_int (by rw [btw, if_pos h]), rfl⟩
  · have m1 := Int.emod_nonneg n (show b - a + 1 ≠ 0 by omega)
    have m2 := Int.emod_lt_of_pos n (show 0 < b - a + 1 by omega)
    have H := Lib.hid h
    go_enter Try.func51, Try.ntmps51
    go_wp2
    go_ret
    exact ⟨ret_int (by rw [btw, if_neg (by have := H.out; omega)]), rfl⟩

theorem lohi (a : Int) (h0 : 0 ≤ a) (h1 : a ≤ 2199023255552) : 0 ≤ lo (tt a) ∧ lo (tt a) ≤ a ∧ a ≤ hi (tt a) ∧ a - lo (tt a) ≤ a / 1000 + 1 ∧ hi (tt a) - a ≤ a / 1000 + 1 ∧ hi (tt a) ≤ 2300000000000 := by
  unfold lo hi tt; omega
theorem wait_enough (n s a b : Int) (h0 : 0 ≤ n) (h1 : n ≤ 1099511627776) (s0 : 0 ≤ s) (s1 : s ≤ 2199023255552) (ha : a ≤ hi s) (hb : lo s ≤ b) (hw : wt n ≤ a) : n ≤ b := by
  have k : sh (wt n) ≤ s := by
    have w := wt_bd n h0 h1
    unfold hi at ha; unfold sh; split <;> omega
  have k2 : n ≤ lo (sh (wt n)) := of_decide_eq_true ((wt_least n h0 h1).2.2.2 (by have := wt_bd n h0 h1; omega))
  unfold lo at k2 hb; omega


theorem info_int : (Try.prog.info? 3).map (fun i => (i.zero, i.size, i.bytes)) = some (some (.int .i64 0), 1, 8) := by kernel_rfl

/-- small times -/
def SmallT (xs : List Int) : Prop := ∀ j, 0 ≤ at0 xs j ∧ at0 xs j ≤ 2000000
/-- what was shown -/
def ShownB (zs : List Int) : Prop := ∀ j, j < zs.length → 0 ≤ at0 zs j ∧ at0 zs j ≤ 4398046511104 + 2000000 * (j : Int)

theorem lo_small (a : Int) (h : a ≤ 2000000) : 0 ≤ lo (tt a) ∧ lo (tt a) ≤ 2000000 ∧ 0 ≤ hi (tt a) ∧ hi (tt a) ≤ 2010000 := by unfold lo hi tt; omega

/-- what the inner loop holds -/
def ShowsIn (w : World) (b off c' k : Nat) (zs : List Int) (f t j : Value) (wr2 : World) : Prop :=
  ∃ (l : Nat) (x y : Int), f = .int .i64 x ∧ t = .int .i64 y ∧ j = .int .i64 l ∧ l ≤ k ∧ 0 ≤ x ∧ x ≤ 4398046511104 + 2000000 * (k : Int) ∧ 0 ≤ y ∧ y ≤ 4398046511104 ∧ wr2.ownsRow w.heap.size 3 1 (.slice (some ⟨b, off, none⟩) k c') k (zs.map (.int .i64)) ∧ Hid (∀ j, j < k → wr2.cell? ⟨b, off + j, none⟩ = some (.int .i64 (at0 zs j))) ∧ Ext w wr2

theorem shown_snoc {zs : List Int} {k : Nat} {z : Int} (hl : zs.length = k) (h : ShownB zs) (h0 : 0 ≤ z) (h1 : z ≤ 4398046511104 + 2000000 * (k : Int)) : ShownB (zs ++ [z]) := by
  intro j hj
  simp at hj
  by_cases e : j < zs.length
  · rw [at0_append_old _ _ _ e]; exact h j e
  · obtain rfl : j = zs.length := by omega
    rw [at0_append_last]; omega

theorem btw_bd2 (a b n : Int) (h0 : 0 ≤ n) : a ≤ btw a b n ∧ (btw a b n ≤ b ∨ btw a b n = a) := by
  unfold btw
  split
  · omega
  · have m1 := Int.emod_nonneg n (show b - a + 1 ≠ 0 by omega)
    have m2 := Int.emod_lt_of_pos n (show 0 < b - a + 1 by omega)
    omega

set_option maxHeartbeats 4000000 in
theorem shows_any (p q : Option Addr) (n m c d : Nat) (xs ys : List Int) (w : World) (hp : RowI .i64 w p n xs) (hq : RowI .u16 w q m ys) (hwf : ∀ x ∈ ys, (Lit.int .u16 x).wf = true) (hn : n ≤ 21) (hsm : SmallT xs) :
    Calls Try.prog 28 #[.slice p n c, .slice q m d] w fun e w' => ∃ zs a c', e = .returned (.slice a n c') ∧ RowI .i64 w' a n zs ∧ ShownB zs ∧ Ext w w' := by
  obtain ⟨i0, hi0, hz0, hz1, hz2⟩ := info_parts info_int
  have HP := Lib.hid hp
  have HQ := Lib.hid hq
  have hm := hq.2.1
  have HS := Lib.hid hsm
  have HW := Lib.hid hwf
  clear hp hq hsm hwf
  go_enter Try.func28, Try.ntmps28
  go_wp2
  go_loopw [5, 6, 7, 8, 9, 10] (fun v i _ _ _ _ wr => ∃ (k : Nat) (zs : List Int), i = .int .i64 k ∧ k ≤ n ∧ wr.ownsRow w.heap.size 3 1 v k (zs.map (.int .i64)) ∧ Hid (zs.length = k) ∧ Hid (ShownB zs) ∧ Ext w wr) (fun _ i _ _ _ _ _ => n - (intOf i).toNat)
  case atStart => exact ⟨0, [], rfl, Nat.zero_le _, World.ownsRow_made w #[] 0 (Nat.le_refl _) (by decide) rfl, Lib.hid rfl, Lib.hid (fun j hj => by simp at hj), Ext.alloc _ _⟩
  case round =>
    obtain ⟨k, zs, rfl, hk, hown, HL, HB, hx⟩ := hrel
    by_cases hlt : k < n
    · by_cases hk0 : k = 0
      · obtain rfl := hk0
        go_wp2_with (at_builtin; refine wpList_append_lies _ rfl (.tmp 20) (.tmp 21) 30 rfl w.heap.size 3 i0 (.int .i64 0) 1 8 Try.underlying30 hi0 hz0 hz1 hz2 rfl (by decide) _ _ _ rfl (hown.alloc _) ⟨wr.heap.size, 0, none⟩ 1 1 [.int .i64 0] rfl rfl (World.news_of_block (cs := #[.int .i64 0]) (heap_alloc_new _ _)) (by intro u hu; simp at hu; subst hu; rfl) (by decide) (by unfold maxLen; omega) (by omega) (by have := hx.size; simp; omega) (wr.heap.size + 1) (by simp) ?_; intro gg cap w1 hown1 hgrow hat hlt1)
        have X : Ext w w1 := below_grown (Ext.trans hx (Ext.alloc _ _)) (Nat.le_refl _) hgrow (hown.alloc _)
        have zl : zs = [] := List.eq_nil_of_length_eq_zero HL.out
        have HZ := Lib.hid zl
        clear zl hgrow hat hlt1 hown
        go_wp2
        go_roundw
        case rel => exact ⟨1, [0], by go_num, by omega, by have := hown1; rw [HZ.out] at this; exact this, Lib.hid rfl, Lib.hid (fun j hj => by
          obtain rfl : j = 0 := by simpa using hj
          simp [at0]), X⟩
        case measure => simp [intOf]; omega
      · obtain ⟨a, c', rfl, hrow⟩ := rowI_of_own hown (by omega)
        obtain ⟨b, off, rfl, hcz⟩ := hrow.2.2 (by omega)
        obtain ⟨b2, off2, rfl, hcx⟩ := (HP.out).2.2 (by omega)
        have HCZ := Lib.hid hcz
        have HCX := Lib.hid hcx
        have hkk : (((k : Int)) == 0) = false := by simpa using hk0
        clear hcz hrow hcx
        go_wp2
        go_loopw [7, 8, 9] (fun f t j wr2 => ShowsIn w b off c' k zs f t j wr2) (fun _ _ j _ => k - (intOf j).toNat)
        case atStart => exact ⟨0, 0, _, rfl, rfl, rfl, Nat.zero_le _, by omega, by omega, by omega, by omega, hown, HCZ, hx⟩
        case round =>
          obtain ⟨l, x, y, rfl, rfl, rfl, hl, x0, x1, y0, y1, hown2, HCZ2, hx2⟩ := hrel
          by_cases hlk : l < k
          · have hln : l < n := by omega
            have cz := HCZ2.out l hlk
            have cxk := hx2.cell (HCX.out k hlt)
            have cxl := hx2.cell (HCX.out l (by omega))
            have sk := HS.out k
            have sl := HS.out l
            obtain ⟨sk0, sk1⟩ := sk
            obtain ⟨sl0, sl1⟩ := sl
            obtain ⟨g1, g2, g3, g4⟩ := lo_small (at0 xs k - at0 xs l) (by omega)
            obtain ⟨z0, z1⟩ := HB.out l (by rw [HL.out]; exact hlk)
            clear hown hx HCZ
            by_cases c1 : x < at0 zs l + lo (tt (at0 xs k - at0 xs l))
            all_goals
              go_wp2
              go_quiet ((go_at_call 49; exact quietA (least0_any _ _)))
              go_wp2
              go_quiet ((go_at_call 50; exact quietB (most0_any _ _)))
              by_cases c2 : at0 zs l + hi (tt (at0 xs k - at0 xs l)) < y
              all_goals
                go_wp2
                go_roundw
                case rel => exact ⟨l + 1, _, _, rfl, rfl, by go_num, by omega, by omega, by omega, by omega, by omega, own_drewN hown2 _, HCZ2, Ext.drewN hx2 _⟩
                case measure => simp [intOf]; omega
          · clear hown hx HCZ
            obtain rfl : l = k := by omega
            by_cases hm2 : l < m
            · obtain ⟨b3, off3, rfl, hcy⟩ := (HQ.out).2.2 (by omega)
              have cy := hx2.cell (hcy l hm2)
              clear hcy
              have yw : 0 ≤ at0 ys l ∧ at0 ys l < 65536 := bd_u16 (HW.out _ (by
                unfold at0
                rw [List.getD_eq_getElem?_getD, List.getElem?_eq_getElem (by have := (HQ.out).1; omega)]
                exact List.getElem_mem _))
              obtain ⟨yw0, yw1⟩ := yw
              have Z := btw_bd2 x y (at0 ys l) yw0
              go_wp2_with (first | (go_at_call 51; refine (between_any _ _ _ _ (by omega) (by omega) (by omega) (by omega) (by omega) (by omega)).mono ?_; rintro e w' ⟨rfl, rfl⟩) | (at_builtin; refine wpList_append_lies _ rfl (.tmp 71) (.tmp 76) 30 rfl w.heap.size 3 i0 (.int .i64 0) 1 8 Try.underlying30 hi0 hz0 hz1 hz2 rfl (by decide) _ _ _ rfl (hown2.alloc _) ⟨wr.heap.size, 0, none⟩ 1 1 [.int .i64 (btw x y (at0 ys l))] rfl rfl (World.news_of_block (cs := #[.int .i64 (btw x y (at0 ys l))]) (heap_alloc_new _ _)) (by intro u hu; simp at hu; subst hu; rfl) (by decide) (by unfold maxLen; omega) (by omega) (by have := hx2.size; simp; omega) (wr.heap.size + 1) (by simp) ?_; intro gg cap w1 hown1 hgrow hat hlt1))
              have X : Ext w w1 := below_grown (Ext.trans hx2 (Ext.alloc _ _)) (Nat.le_refl _) hgrow (hown2.alloc _)
              clear hgrow hat hlt1 hown2
              go_wp2
              go_roundw
              case rel => exact ⟨l + 1, zs ++ [btw x y (at0 ys l)], by go_num, by omega, by have := hown1; simpa using this, Lib.hid (by simp; exact HL.out), Lib.hid (shown_snoc HL.out HB.out (by omega) (by omega)), X⟩
              case measure => simp [intOf]; omega
            · have Z := btw_bd2 x y 0 (by omega)
              go_wp2_with (first | (go_at_call 51; refine (between_any _ _ _ _ (by omega) (by omega) (by omega) (by omega) (by omega) (by omega)).mono ?_; rintro e w' ⟨rfl, rfl⟩) | (at_builtin; refine wpList_append_lies _ rfl (.tmp 71) (.tmp 76) 30 rfl w.heap.size 3 i0 (.int .i64 0) 1 8 Try.underlying30 hi0 hz0 hz1 hz2 rfl (by decide) _ _ _ rfl (hown2.alloc _) ⟨wr.heap.size, 0, none⟩ 1 1 [.int .i64 (btw x y 0)] rfl rfl (World.news_of_block (cs := #[.int .i64 (btw x y 0)]) (heap_alloc_new _ _)) (by intro u hu; simp at hu; subst hu; rfl) (by decide) (by unfold maxLen; omega) (by omega) (by have := hx2.size; simp; omega) (wr.heap.size + 1) (by simp) ?_; intro gg cap w1 hown1 hgrow hat hlt1))
              have X : Ext w w1 := below_grown (Ext.trans hx2 (Ext.alloc _ _)) (Nat.le_refl _) hgrow (hown2.alloc _)
              clear hgrow hat hlt1 hown2
              go_wp2
              go_roundw
              case rel => exact ⟨l + 1, zs ++ [btw x y 0], by go_num, by omega, by have := hown1; simpa using this, Lib.hid (by simp; exact HL.out), Lib.hid (shown_snoc HL.out HB.out (by omega) (by omega)), X⟩
              case measure => simp [intOf]; omega
    · go_wp2
      go_ret
      obtain rfl : k = n := by omega
      obtain ⟨a, c', rfl, hrow⟩ := rowI_of_own hown (by omega)
      exact ⟨zs, a, c', rfl, hrow, HB.out, hx⟩
end Go.Proofs.Ytocnopgpdlfkjaa.Clk
