/- Messages: the walk of WireOrder. -/
import Derived.Test.YtifbmkcfgpfefaaWiO
import Derived.Test.YtifbmkcfgpfefaaGrow
namespace Go.Proofs.Ytifbmkcfgpfefaa.Wi
open Go.RowKit Go.Proofs.Ytifbmkcfgpfefaa
set_option linter.unusedVariables false

theorem send_len {l : List Mg} {x : Mg} {f : Int} : l.length ≤ (sendS l x f).length ∧ (200 ≤ l.length → (sendS l x f).length = l.length) ∧ ((sendS l x f).length ≤ 200 ∨ (sendS l x f).length ≤ l.length) := by
  unfold sendS
  split
  · simp
  · split
    · simp; omega
    · split
      · simp; omega
      · split
        · simp; omega
        · simp
theorem send_take {l : List Mg} {x : Mg} {f : Int} (h : f ≠ 4 ∨ l.length = 0 ∨ 200 ≤ l.length) : (sendS l x f).take l.length = l := by
  unfold sendS
  split
  · simp
  · split
    · simp
    · split
      · simp
      · split
        · have h0 : l = [] := List.eq_nil_of_length_eq_zero (by omega)
          subst h0; rfl
        · simp
theorem send_late {l : List Mg} {x : Mg} {k : Nat} (h : l.length = k + 1) (h2 : k + 1 < 200) : (sendS l x 4).length = k + 2 ∧ (sendS l x 4).take k = l.take k ∧ (sendS l x 4)[k]? = some x ∧ (sendS l x 4)[k + 1]? = l[k]? := by
  have e : sendS l x 4 = l.take k ++ x :: l.drop k := by
    unfold sendS
    rw [if_neg (by omega), if_neg (by decide), if_neg (by decide), if_pos rfl, h]; rfl
  have hk : (l.take k).length = k := by simp; omega
  rw [e]
  refine ⟨by simp; omega, ?_, ?_, ?_⟩
  · rw [List.take_append_of_le_length (by omega), List.take_of_length_le (by omega)]
  · rw [List.getElem?_append_right (by omega), hk]; simp
  · rw [List.getElem?_append_right (by omega), hk]; simp
theorem sl_take {w : World} {p : Option Addr} {n c k : Nat} {l : List Mg} (h : LMg.Sl w (.slice p n c) l) (hk : k ≤ n) : LMg.Sl w (.slice p k c) (l.take k) := by
  obtain ⟨h1, h2, h3, h4⟩ := sl_parts h
  refine Lay.Sl.mk ?_ (by omega) h3 h4
  have := h1.cut h2 h4 0 k (by omega) hk
  by_cases h0 : k = 0
  · subst h0; exact Lay.Row.nil _ _ _
  · obtain ⟨b, off, rfl⟩ := h4 (by omega)
    have e : cutP (some ⟨b, off, none⟩) c 0 LMg.size = some ⟨b, off, none⟩ := by
      unfold cutP
      rw [if_neg (by omega), Option.map_some, addN]; simp
    rwa [e] at this
set_option maxRecDepth 100000 in
set_option maxHeartbeats 16000000 in
theorem order_walk {cs : List Value} {x : Mg} {p : Option Addr} {n c : Nat} {l : List Mg} {z : Int} {w : World} (hl : LMg.Sl w (.slice p n c) l) (hd : LMg.R w cs x) (hz : (Lit.int .u8 z).wf = true) : Calls Try.prog 5 #[.slice p n c, .agg cs.toArray, .int .u8 z] w fun e w' => e = .returned (.bool true) ∧ Ext w w' := by
  obtain ⟨p1, n1, c1, q1, m1, d1, rfl, hx⟩ := mg_cells hd
  have HM := Lib.hid hx
  have HL := Lib.hid hl
  have hln : l.length = n := (sl_parts hl).1.1
  have HLN := Lib.hid hln
  have HXA : Hid (Ext w (w.alloc (.cells #[.int .i64 x.a, .int .i64 x.b, .int .i64 x.k, .slice p1 n1 c1, .slice q1 m1 d1] 26))) := Lib.hid (Ext.alloc _ _)
  clear hl hd hx
  have HZ := Lib.hid hz
  clear hz
  go_enter Try.func5, Try.ntmps5
  go_wp2_with fail
  refine (head_v _).mono ?_
  rintro e w2 ⟨rfl, hx2⟩
  have HX2 := Lib.hid hx2
  have HW2 := Lib.hid (Ext.trans HXA.out hx2)
  have HL2 := Lib.hid (HL.out.ext HW2.out)
  have HM2 := Lib.hid (HM.out.ext HW2.out)
  clear hx2
  obtain ⟨a0, a1, a2, a3, a4⟩ := box5 HX2.out
  go_wp2_with fail
  refine (great_any p n c l w2 (sl_row HL2.out)).mono ?_
  rintro e w3 ⟨⟨g, rfl, hg⟩, hw3⟩
  obtain rfl : w2 = w3 := hw3.symm
  cases g
  · have HS : Hid (Small l) := Lib.hid (hg.1 rfl)
    clear hg
    have hn220 : n ≤ 220 := by rw [← HLN.out]; exact HS.out.1
    go_wp2_with fail
    refine (great_any _ 1 1 [x] _ (mg_one _ (HM2.out.ext (Ext.alloc _ _)) (Ext.refl _))).mono ?_
    rintro e w4 ⟨⟨g2, rfl, hg2⟩, hw4⟩
    have HX4 : Hid (Ext w2 w4) := Lib.hid (by rw [hw4]; exact Ext.alloc _ _)
    clear hw4
    have HW4 := Lib.hid (Ext.trans HW2.out HX4.out)
    have HB4 := Lib.hid (Ext.trans HX2.out HX4.out)
    have HL4 := Lib.hid (HL.out.ext HW4.out)
    have HM4 := Lib.hid (HM.out.ext HW4.out)
    clear a0 a1 a2 a3 a4
    obtain ⟨a0, a1, a2, a3, a4⟩ := box5 HB4.out
    cases g2
    · clear hg2
      have hz' : 0 ≤ z ∧ z ≤ 255 := by have := HZ.out; simp [Lit.wf, IntKind.min, IntKind.max, IntKind.signed, IntKind.bits] at this; omega
      have hwz : IntKind.i64.wrap z = z := IntWalk.i64_in _ (by omega)
      have htm : Int.tmod z 6 = z % 6 := Int.tmod_eq_emod_of_nonneg (by omega)
      have hwm : IntKind.i64.wrap (z % 6) = z % 6 := IntWalk.i64_in _ (by omega)
      go_wp2_with fail
      clear hz' hwz htm hwm
      obtain ⟨F, hF⟩ : ∃ F, z % 6 = F := ⟨_, rfl⟩
      rw [hF]
      clear hF
      refine (send_v p n c l x p1 n1 c1 q1 m1 d1 F w4 HL4.out HM4.out (by omega)).mono ?_
      rintro e w5 ⟨⟨v5, rfl, hs5⟩, hx5⟩
      obtain ⟨p5, n5, c5, rfl, hn5⟩ := sl_form hs5
      have HS5 := Lib.hid hs5
      have HX5 := Lib.hid hx5
      have HW5 := Lib.hid (Ext.trans HW4.out hx5)
      have HB5 := Lib.hid (Ext.trans HB4.out hx5)
      have HL5 := Lib.hid (HL.out.ext HW5.out)
      have HM5 := Lib.hid (HM.out.ext HW5.out)
      obtain ⟨e1, e2, e3⟩ := send_len (l := l) (x := x) (f := F)
      rw [← hn5, hln] at e1 e2 e3
      have HN5 := Lib.hid hn5
      clear hs5 hx5 a0 a1 a2 a3 a4
      obtain ⟨a0, a1, a2, a3, a4⟩ := box5 HB5.out
      have g1 : ¬ (n5 : Int) < (n : Int) := by omega
      have hcap := (sl_parts HS5.out).2.1
      have hcap2 := (sl_parts HS5.out).2.2.1
      clear hn5
      by_cases h200 : 200 ≤ n
      · obtain rfl : n = n5 := by omega
        have g3 : (200 : Int) ≤ (n : Int) := by omega
        have g4 : ¬ (n : Int) < (n : Int) := by omega
        have g5 : ¬ (n : Int) < 200 := by omega
        by_cases h4 : F = 4
        · have f4 : (F == 4) = true := by simp [h4]
          by_cases g6 : (200 : Int) < (n : Int)
          · have htk := send_take (l := l) (x := x) (f := F) (by rw [hln]; omega)
            rw [hln] at htk
            have HTK := Lib.hid htk
            clear htk
            have c0 : (0 : Int) ≤ (n : Int) := by omega
            have c1' : (n : Int) ≤ (c5 : Int) := by omega
            have c2' : n ≤ c5 := by omega
            clear e1 e2 e3
            go_wp2_with fail
            clear c0 c1' c2'
            refine (rsame_t (l := (sendS l x F).take n) (k := l) (sl_take (k := n) HS5.out (by omega)) HL5.out HTK.out).mono ?_
            rintro e w6 ⟨rfl, hx6⟩
            have HW6 := Lib.hid (Ext.trans HW5.out hx6)
            clear hx6
            go_wp2
            go_ret
            exact ⟨rfl, HW6.out⟩
          · have htk := send_take (l := l) (x := x) (f := F) (by rw [hln]; omega)
            rw [hln] at htk
            have HTK := Lib.hid htk
            clear htk
            have c0 : (0 : Int) ≤ (n : Int) := by omega
            have c1' : (n : Int) ≤ (c5 : Int) := by omega
            have c2' : n ≤ c5 := by omega
            clear e1 e2 e3
            go_wp2_with fail
            clear c0 c1' c2'
            refine (rsame_t (l := (sendS l x F).take n) (k := l) (sl_take (k := n) HS5.out (by omega)) HL5.out HTK.out).mono ?_
            rintro e w6 ⟨rfl, hx6⟩
            have HW6 := Lib.hid (Ext.trans HW5.out hx6)
            clear hx6
            go_wp2
            go_ret
            exact ⟨rfl, HW6.out⟩
        · have f4 : (F == 4) = false := by simp [h4]
          by_cases g6 : (200 : Int) < (n : Int)
          · have htk := send_take (l := l) (x := x) (f := F) (by rw [hln]; omega)
            rw [hln] at htk
            have HTK := Lib.hid htk
            clear htk
            have c0 : (0 : Int) ≤ (n : Int) := by omega
            have c1' : (n : Int) ≤ (c5 : Int) := by omega
            have c2' : n ≤ c5 := by omega
            clear e1 e2 e3
            go_wp2_with fail
            clear c0 c1' c2'
            refine (rsame_t (l := (sendS l x F).take n) (k := l) (sl_take (k := n) HS5.out (by omega)) HL5.out HTK.out).mono ?_
            rintro e w6 ⟨rfl, hx6⟩
            have HW6 := Lib.hid (Ext.trans HW5.out hx6)
            clear hx6
            go_wp2
            go_ret
            exact ⟨rfl, HW6.out⟩
          · have htk := send_take (l := l) (x := x) (f := F) (by rw [hln]; omega)
            rw [hln] at htk
            have HTK := Lib.hid htk
            clear htk
            have c0 : (0 : Int) ≤ (n : Int) := by omega
            have c1' : (n : Int) ≤ (c5 : Int) := by omega
            have c2' : n ≤ c5 := by omega
            clear e1 e2 e3
            go_wp2_with fail
            clear c0 c1' c2'
            refine (rsame_t (l := (sendS l x F).take n) (k := l) (sl_take (k := n) HS5.out (by omega)) HL5.out HTK.out).mono ?_
            rintro e w6 ⟨rfl, hx6⟩
            have HW6 := Lib.hid (Ext.trans HW5.out hx6)
            clear hx6
            go_wp2
            go_ret
            exact ⟨rfl, HW6.out⟩
      · have g3 : ¬ (200 : Int) ≤ (n : Int) := by omega
        have g5 : (n : Int) < 200 := by omega
        have g6 : ¬ (200 : Int) < (n : Int) := by omega
        have g9 : ¬ (200 : Int) < (n5 : Int) := by omega
        by_cases h4 : F = 4
        · have f4 : (F == 4) = true := by simp [h4]
          by_cases h0 : n = 0
          · subst h0
            have g7 : ¬ (200 : Int) < (n5 : Int) := by omega
            have g8 : ¬ (n5 : Int) < 0 := by omega
            have htk := send_take (l := l) (x := x) (f := F) (by rw [hln]; omega)
            rw [hln] at htk
            have HTK := Lib.hid htk
            clear htk
            have c0 : (0 : Int) ≤ (0 : Int) := by omega
            have c1' : (0 : Int) ≤ (c5 : Int) := by omega
            have c2' : 0 ≤ c5 := by omega
            clear e1 e2 e3
            go_wp2_with fail
            clear c0 c1' c2'
            refine (rsame_t (l := (sendS l x F).take 0) (k := l) (sl_take (k := 0) HS5.out (by omega)) HL5.out HTK.out).mono ?_
            rintro e w6 ⟨rfl, hx6⟩
            have HW6 := Lib.hid (Ext.trans HW5.out hx6)
            clear hx6
            go_wp2
            go_ret
            exact ⟨rfl, HW6.out⟩
          · have z0 : ¬ (n : Int) = 0 := by omega
            have z1 : ((n : Int) == 0) = false := by simp; omega
            obtain ⟨k, rfl⟩ : ∃ k, n = k + 1 := ⟨n - 1, by omega⟩
            subst h4
            obtain ⟨s1, s2, s3, s4⟩ := send_late (x := x) hln (by omega)
            have hn52 : n5 = k + 2 := by rw [HN5.out]; exact s1
            subst hn52
            clear s1 e1 e2 e3
            obtain ⟨r1, r2, r3, r4⟩ := sl_parts HS5.out
            obtain ⟨q1', q2, q3, q4⟩ := sl_parts HL5.out
            obtain ⟨y, gy⟩ : ∃ y, l[k]? = some y := ⟨_, List.getElem?_eq_getElem (by omega)⟩
            obtain ⟨b6, o6, p6, n6, c6, d6, m6, e6, hp6, u0, u1, u2, u3, u4, ty6⟩ := mg_at r1 s3
            obtain ⟨b7, o7, p7, n7, c7, d7, m7, e7, hp7, v0, v1, v2, v3, v4, ty7⟩ := mg_at r1 (s4.trans gy)
            obtain ⟨b8, o8, p8, n8, c8, d8, m8, e8, hp8, x0, x1, x2, x3, x4, ty8⟩ := mg_at q1' gy
            obtain rfl : b6 = b7 := by rw [hp6] at hp7; simp only [Option.some.injEq, Addr.mk.injEq] at hp7; exact hp7.1
            obtain rfl : o6 = o7 := by rw [hp6] at hp7; simp only [Option.some.injEq, Addr.mk.injEq] at hp7; exact hp7.2.1
            clear hp7
            subst hp6 hp8
            have HC1 : Hid (∀ g : Gr w5, Calls Try.prog 13 #[.slice (some ⟨b6, o6, none⟩) k c5, .slice (some ⟨b8, o8, none⟩) k c] g.w fun e w' => e = .returned (.bool true) ∧ Ext g.w w') := Lib.hid fun g => rsame_t (sl_take (HS5.out.ext g.h) (by omega)) (sl_take (HL5.out.ext g.h) (by omega)) s2
            have HC2 : Hid (∀ g : Gr w5, Calls Try.prog 16 #[.agg #[.int .i64 x.a, .int .i64 x.b, .int .i64 x.k, .slice p6 n6 c6, .slice d6 m6 e6], .agg #[.int .i64 x.a, .int .i64 x.b, .int .i64 x.k, .slice p1 n1 c1, .slice q1 m1 d1]] g.w fun e w' => e = .returned (.bool true) ∧ Ext g.w w') := Lib.hid fun g => rsame1_t (ty6.ext g.h) (HM5.out.ext g.h) rfl
            have HC3 : Hid (∀ g : Gr w5, Calls Try.prog 16 #[.agg #[.int .i64 y.a, .int .i64 y.b, .int .i64 y.k, .slice p7 n7 c7, .slice d7 m7 e7], .agg #[.int .i64 y.a, .int .i64 y.b, .int .i64 y.k, .slice p8 n8 c8, .slice d8 m8 e8]] g.w fun e w' => e = .returned (.bool true) ∧ Ext g.w w') := Lib.hid fun g => rsame1_t (ty7.ext g.h) (ty8.ext g.h) rfl
            have A0 : ∀ g : Gr w5, g.w.cell? _ = some _ := fun g => g.cell a0
            have A1 : ∀ g : Gr w5, g.w.cell? _ = some _ := fun g => g.cell a1
            have A2 : ∀ g : Gr w5, g.w.cell? _ = some _ := fun g => g.cell a2
            have A3 : ∀ g : Gr w5, g.w.cell? _ = some _ := fun g => g.cell a3
            have A4 : ∀ g : Gr w5, g.w.cell? _ = some _ := fun g => g.cell a4
            have U0 : ∀ g : Gr w5, g.w.cell? _ = some _ := fun g => g.cell u0
            have U1 : ∀ g : Gr w5, g.w.cell? _ = some _ := fun g => g.cell u1
            have U2 : ∀ g : Gr w5, g.w.cell? _ = some _ := fun g => g.cell u2
            have U3 : ∀ g : Gr w5, g.w.cell? _ = some _ := fun g => g.cell u3
            have U4 : ∀ g : Gr w5, g.w.cell? _ = some _ := fun g => g.cell u4
            have V0 : ∀ g : Gr w5, g.w.cell? _ = some _ := fun g => g.cell v0
            have V1 : ∀ g : Gr w5, g.w.cell? _ = some _ := fun g => g.cell v1
            have V2 : ∀ g : Gr w5, g.w.cell? _ = some _ := fun g => g.cell v2
            have V3 : ∀ g : Gr w5, g.w.cell? _ = some _ := fun g => g.cell v3
            have V4 : ∀ g : Gr w5, g.w.cell? _ = some _ := fun g => g.cell v4
            have X0 : ∀ g : Gr w5, g.w.cell? _ = some _ := fun g => g.cell x0
            have X1 : ∀ g : Gr w5, g.w.cell? _ = some _ := fun g => g.cell x1
            have X2 : ∀ g : Gr w5, g.w.cell? _ = some _ := fun g => g.cell x2
            have X3 : ∀ g : Gr w5, g.w.cell? _ = some _ := fun g => g.cell x3
            have X4 : ∀ g : Gr w5, g.w.cell? _ = some _ := fun g => g.cell x4
            have j0 : (0 : Int) ≤ (k : Int) := by omega
            have j1 : (k : Int) ≤ (c5 : Int) := by omega
            have j2 : (k : Int) ≤ (c : Int) := by omega
            have j3 : k ≤ c5 := by omega
            have j4 : k ≤ c := by omega
            have j5 : (k : Int) < ((k + 2 : Nat) : Int) := by omega
            have j6 : (k : Int) + 1 < ((k + 2 : Nat) : Int) := by omega
            have j7 : (k : Int) < ((k + 1 : Nat) : Int) := by omega
            have j8 : IntKind.i64.wrap ((k : Int) + 1 - 1) = (k : Int) := (by rw [IntKind.wrap_i64]; omega)
            have j9 : IntKind.i64.wrap (k : Int) = (k : Int) := IntWalk.i64_in _ (by omega)
            have j10 : IntKind.i64.wrap ((k : Int) + 1 + 1) = (k : Int) + 2 := (by rw [IntKind.wrap_i64]; omega)
            have j11 : (0 : Int) ≤ (k : Int) + 1 := by omega
            have j12 : ¬ (k : Int) + 1 = 0 := by omega
            clear a0 a1 a2 a3 a4 u0 u1 u2 u3 u4 v0 v1 v2 v3 v4 x0 x1 x2 x3 x4 r1 r2 r3 r4 q1' q2 q3 q4 gy s2 s3 s4 ty6 ty7 ty8
            go_wp2
            refine wp_region_grown (Ext.refl w5) (by kernel_rfl) (by kernel_rfl) ?_
            repeat (go_big_quiet_step (first | (go_at_call 13; with_reducible exact Gr.of (HC1.out _)) | (go_at_call 16; with_reducible exact Gr.of (HC2.out _)) | (go_at_call 16; with_reducible exact Gr.of (HC3.out _))))
            refine wpQuiet_nil ?_
            intro gw
            have HW6 := Lib.hid (Ext.trans HW5.out gw.h)
            go_wp2
            go_ret
            exact ⟨rfl, HW6.out⟩
        · have f4 : (F == 4) = false := by simp [h4]
          have htk := send_take (l := l) (x := x) (f := F) (by rw [hln]; omega)
          rw [hln] at htk
          have HTK := Lib.hid htk
          clear htk
          have c0 : (0 : Int) ≤ (n : Int) := by omega
          have c1' : (n : Int) ≤ (c5 : Int) := by omega
          have c2' : n ≤ c5 := by omega
          clear e1 e2 e3
          go_wp2_with fail
          clear c0 c1' c2'
          refine (rsame_t (l := (sendS l x F).take n) (k := l) (sl_take (k := n) HS5.out (by omega)) HL5.out HTK.out).mono ?_
          rintro e w6 ⟨rfl, hx6⟩
          have HW6 := Lib.hid (Ext.trans HW5.out hx6)
          clear hx6
          go_wp2
          go_ret
          exact ⟨rfl, HW6.out⟩
    · clear hg2
      go_wp2
      go_ret
      exact ⟨rfl, HW4.out⟩
  · clear hg
    go_wp2
    go_ret
    exact ⟨rfl, HW2.out⟩
end Go.Proofs.Ytifbmkcfgpfefaa.Wi
