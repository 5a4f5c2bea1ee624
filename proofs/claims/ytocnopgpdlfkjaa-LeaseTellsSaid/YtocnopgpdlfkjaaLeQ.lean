/- Leases: over, back, right (the reference). -/
import Derived.Test.YtocnopgpdlfkjaaLeN
import Derived.Deep.RegionHeld3
namespace Go.Proofs.Ytocnopgpdlfkjaa.Ls
open Go.RowKit Go.Proofs.Ytocnopgpdlfkjaa Go.Sort
set_option linter.unusedVariables false

set_option maxRecDepth 100000 in
set_option maxHeartbeats 4000000 in
theorem rover_v (u : Value) (l : List Le) (now : Int) (w : World) (hu : LLe.Sl w u l) (hn : l.length ≤ 100000) : Calls Try.prog 18 #[u, .int .i64 now] w (RetLe (l.filter (fun x => decide (now < x.u))) w) := by
  obtain ⟨i0, hi0, hzi0, hzi1, hzi2⟩ := info_parts info_le
  obtain ⟨p, n, cc, rfl, hr, _, _, _⟩ := hu
  have HP := Lib.hid hr
  have hn63 := hr.2.1
  have HN : Hid (n ≤ 100000) := Lib.hid (by rw [← hr.1]; exact hn)
  clear hr hn
  go_enter Try.func18, Try.ntmps18
  go_wp2
  go_loopw [5, 6] (fun v ix wr => KeepR w (fun x => decide (now < x.u)) l n v ix wr) (fun _ ix _ => n - (intOf ix).toNat)
  case atStart => exact ⟨0, by omega, rfl, plain_le.own_lit w #[] _ w.heap.size 0 [] (Nat.le_refl _) rfl rfl (by decide), Ext.alloc _ _⟩
  case round =>
    obtain ⟨k, hk, rfl, hown, hx⟩ := hrel
    have HO := Lib.hid hown
    clear hown
    by_cases hlt : k < n
    · obtain ⟨x, gx⟩ := get_of l k (by rw [HP.out.1]; exact hlt)
      obtain ⟨b, off, rfl, hw, c0, c1, c2, c3, c4, c5, c6⟩ := le_at (HP.out.ext hx) gx
      have GX := Lib.hid gx
      have HW := Lib.hid hw
      have HX := Lib.hid hx
      have hlt' : (k : Int) < (n : Int) := by omega
      have hlt0 : (0 : Int) ≤ (k : Int) := by omega
      have HLE : Hid (((l.take k).filter (fun x => decide (now < x.u))).length + 1 ≤ 1000000) := Lib.hid (by
        have h1 := List.length_filter_le (fun x => decide (now < x.u)) (l.take k)
        have h2 := HN.out
        simp only [List.length_take] at h1
        omega)
      clear gx hw hx
      by_cases h : now < x.u
      · have hd : decide (now < x.u) = true := decide_eq_true h
        have H := Lib.hid h
        clear h
        have HTF : Hid ((l.take (k + 1)).filter (fun x => decide (now < x.u)) = (l.take k).filter (fun x => decide (now < x.u)) ++ [x]) := Lib.hid (by rw [List.take_add_one, GX.out, List.filter_append]; simp [H.out])
        go_wp2_with (at_builtin; refine Lay.wpList_append (E := LLe) rfl (.tmp 21) (.tmp 26) 22 rfl w.heap.size 26 i0 (.agg #[.int .i64 0, .int .i64 0, .int .i64 0, .int .i64 0, .int .i64 0, .int .i64 0, .int .i64 0]) 56 Try.underlying22 hi0 hzi0 hzi1 hzi2 rfl _ ((l.take k).filter (fun x => decide (now < x.u))) rfl (HO.out.ext (Ext.alloc _ _)) (some ⟨wr.heap.size, 0, none⟩) 1 1 ([x]) rfl (fun _ => ⟨_, _, rfl⟩) (Nat.le_refl _) (plain_le.lit (Ext.refl _) (Lay.All.single ⟨rfl, HW.out⟩) rfl rfl (by decide)) (by have := HLE.out; unfold maxLen; omega) (by have := HLE.out; omega) (Ext.trans HX.out (Ext.alloc _ _)).size ?_; intro v2 w3 hown2 hg2; have X3 := HO.out.below HX.out (Nat.le_refl _) (grown_of (Ext.alloc _ _) hg2); rw [← HTF.out] at hown2; have HO3 := Lib.hid hown2; clear hown2 hg2)
        go_roundw
        case rel => exact ⟨k + 1, by omega, by go_num, HO3.out, X3⟩
        case measure => simp [intOf]; omega
      · have hd : decide (now < x.u) = false := decide_eq_false h
        have H := Lib.hid h
        clear h
        have HTF : Hid ((l.take (k + 1)).filter (fun x => decide (now < x.u)) = (l.take k).filter (fun x => decide (now < x.u))) := Lib.hid (by rw [List.take_add_one, GX.out, List.filter_append]; simp [H.out])
        go_wp2
        go_roundw
        case rel => exact ⟨k + 1, by omega, by go_num, by rw [HTF.out]; exact HO.out, HX.out⟩
        case measure => simp [intOf]; omega
    · obtain rfl : k = n := by omega
      have e0 : l.take k = l := List.take_of_length_le (by rw [HP.out.1]; omega)
      rw [e0] at HO
      clear e0
      go_wp2
      go_ret
      exact ⟨⟨_, rfl, HO.out⟩, hx⟩

set_option maxRecDepth 100000 in
set_option maxHeartbeats 4000000 in
theorem rback_v (u : Value) (l : List Le) (c i : Int) (w : World) (hu : LLe.Sl w u l) (hn : l.length ≤ 100000) : Calls Try.prog 20 #[u, .int .i64 c, .int .i64 i] w (RetLe (l.filter (fun x => !decide (x.c = c ∧ x.i = i))) w) := by
  obtain ⟨i0, hi0, hzi0, hzi1, hzi2⟩ := info_parts info_le
  obtain ⟨p, n, cc, rfl, hr, _, _, _⟩ := hu
  have HP := Lib.hid hr
  have hn63 := hr.2.1
  have HN : Hid (n ≤ 100000) := Lib.hid (by rw [← hr.1]; exact hn)
  clear hr hn
  go_enter Try.func20, Try.ntmps20
  go_wp2
  go_loopw [7, 8] (fun v ix wr => KeepR w (fun x => !decide (x.c = c ∧ x.i = i)) l n v ix wr) (fun _ ix _ => n - (intOf ix).toNat)
  case atStart => exact ⟨0, by omega, rfl, plain_le.own_lit w #[] _ w.heap.size 0 [] (Nat.le_refl _) rfl rfl (by decide), Ext.alloc _ _⟩
  case round =>
    obtain ⟨k, hk, rfl, hown, hx⟩ := hrel
    have HO := Lib.hid hown
    clear hown
    by_cases hlt : k < n
    · obtain ⟨x, gx⟩ := get_of l k (by rw [HP.out.1]; exact hlt)
      obtain ⟨b, off, rfl, hw, c0, c1, c2, c3, c4, c5, c6⟩ := le_at (HP.out.ext hx) gx
      have GX := Lib.hid gx
      have HW := Lib.hid hw
      have HX := Lib.hid hx
      have hlt' : (k : Int) < (n : Int) := by omega
      have hlt0 : (0 : Int) ≤ (k : Int) := by omega
      have HLE : Hid (((l.take k).filter (fun x => !decide (x.c = c ∧ x.i = i))).length + 1 ≤ 1000000) := Lib.hid (by
        have h1 := List.length_filter_le (fun x => !decide (x.c = c ∧ x.i = i)) (l.take k)
        have h2 := HN.out
        simp only [List.length_take] at h1
        omega)
      clear gx hw hx
      by_cases h : x.c = c
      · have hd : (x.c != c) = false := by simp [h]
        have H := Lib.hid h
        clear h
        by_cases h : x.i = i
        · have hd2 : (x.i != i) = false := by simp [h]
          have H2 := Lib.hid h
          clear h
          have HTF : Hid ((l.take (k + 1)).filter (fun x => !decide (x.c = c ∧ x.i = i)) = (l.take k).filter (fun x => !decide (x.c = c ∧ x.i = i))) := Lib.hid (by rw [List.take_add_one, GX.out, List.filter_append]; simp [H.out, H2.out])
          go_wp2
          go_roundw
          case rel => exact ⟨k + 1, by omega, by go_num, by rw [HTF.out]; exact HO.out, HX.out⟩
          case measure => simp [intOf]; omega
        · have hd2 : (x.i != i) = true := by simp [h]
          have H2 := Lib.hid h
          clear h
          have HTF : Hid ((l.take (k + 1)).filter (fun x => !decide (x.c = c ∧ x.i = i)) = (l.take k).filter (fun x => !decide (x.c = c ∧ x.i = i)) ++ [x]) := Lib.hid (by rw [List.take_add_one, GX.out, List.filter_append]; simp [H.out, H2.out])
          go_wp2_with (at_builtin; refine Lay.wpList_append (E := LLe) rfl (.tmp 32) (.tmp 37) 22 rfl w.heap.size 26 i0 (.agg #[.int .i64 0, .int .i64 0, .int .i64 0, .int .i64 0, .int .i64 0, .int .i64 0, .int .i64 0]) 56 Try.underlying22 hi0 hzi0 hzi1 hzi2 rfl _ ((l.take k).filter (fun x => !decide (x.c = c ∧ x.i = i))) rfl (HO.out.ext (Ext.alloc _ _)) (some ⟨wr.heap.size, 0, none⟩) 1 1 ([x]) rfl (fun _ => ⟨_, _, rfl⟩) (Nat.le_refl _) (plain_le.lit (Ext.refl _) (Lay.All.single ⟨rfl, HW.out⟩) rfl rfl (by decide)) (by have := HLE.out; unfold maxLen; omega) (by have := HLE.out; omega) (Ext.trans HX.out (Ext.alloc _ _)).size ?_; intro v2 w3 hown2 hg2; have X3 := HO.out.below HX.out (Nat.le_refl _) (grown_of (Ext.alloc _ _) hg2); rw [← HTF.out] at hown2; have HO3 := Lib.hid hown2; clear hown2 hg2)
          go_roundw
          case rel => exact ⟨k + 1, by omega, by go_num, HO3.out, X3⟩
          case measure => simp [intOf]; omega
      · have hd : (x.c != c) = true := by simp [h]
        have H := Lib.hid h
        clear h
        have HTF : Hid ((l.take (k + 1)).filter (fun x => !decide (x.c = c ∧ x.i = i)) = (l.take k).filter (fun x => !decide (x.c = c ∧ x.i = i)) ++ [x]) := Lib.hid (by rw [List.take_add_one, GX.out, List.filter_append]; simp [H.out])
        go_wp2_with (at_builtin; refine Lay.wpList_append (E := LLe) rfl (.tmp 32) (.tmp 37) 22 rfl w.heap.size 26 i0 (.agg #[.int .i64 0, .int .i64 0, .int .i64 0, .int .i64 0, .int .i64 0, .int .i64 0, .int .i64 0]) 56 Try.underlying22 hi0 hzi0 hzi1 hzi2 rfl _ ((l.take k).filter (fun x => !decide (x.c = c ∧ x.i = i))) rfl (HO.out.ext (Ext.alloc _ _)) (some ⟨wr.heap.size, 0, none⟩) 1 1 ([x]) rfl (fun _ => ⟨_, _, rfl⟩) (Nat.le_refl _) (plain_le.lit (Ext.refl _) (Lay.All.single ⟨rfl, HW.out⟩) rfl rfl (by decide)) (by have := HLE.out; unfold maxLen; omega) (by have := HLE.out; omega) (Ext.trans HX.out (Ext.alloc _ _)).size ?_; intro v2 w3 hown2 hg2; have X3 := HO.out.below HX.out (Nat.le_refl _) (grown_of (Ext.alloc _ _) hg2); rw [← HTF.out] at hown2; have HO3 := Lib.hid hown2; clear hown2 hg2)
        go_roundw
        case rel => exact ⟨k + 1, by omega, by go_num, HO3.out, X3⟩
        case measure => simp [intOf]; omega
    · obtain rfl : k = n := by omega
      have e0 : l.take k = l := List.take_of_length_le (by rw [HP.out.1]; omega)
      rw [e0] at HO
      clear e0
      go_wp2
      go_ret
      exact ⟨⟨_, rfl, HO.out⟩, hx⟩

theorem over_ref (l : List Le) (now : Int) : l.filter (fun x => decide (now < x.u)) = overL l now := rfl
theorem back_ref (l : List Le) (c i : Int) : l.filter (fun x => !decide (x.c = c ∧ x.i = i)) = backL l c i := rfl
theorem right_ref {l : List Le} : rightB l = true ↔ l.length ≤ 64 ∧ ∀ (i : Nat) (x : Le), l[i]? = some x → oneB x = true ∧ ∀ (j : Nat) (y : Le), j < i → l[j]? = some y → clashB x y = false := by
  unfold rightB
  rw [decide_eq_true_iff]
  constructor
  · rintro ⟨h1, h2⟩
    refine ⟨h1, fun i x hi => ?_⟩
    have hx := List.mem_of_getElem? hi
    refine ⟨(h2 x hx).1, fun j y _ hj => ?_⟩
    exact (h2 y (List.mem_of_getElem? hj)).2 x hx
  · rintro ⟨h1, h2⟩
    refine ⟨h1, fun x hx => ?_⟩
    obtain ⟨i, hi, rfl⟩ := List.mem_iff_getElem.1 hx
    have hi' := List.getElem?_eq_getElem hi
    refine ⟨(h2 i _ hi').1, fun y hy => ?_⟩
    obtain ⟨j, hj, rfl⟩ := List.mem_iff_getElem.1 hy
    have hj' := List.getElem?_eq_getElem hj
    rcases Nat.lt_trichotomy i j with h | h | h
    · exact (h2 j _ hj').2 i _ h hi'
    · subst h; exact clash_self _
    · rw [clash_symm]; exact (h2 i _ hi').2 j _ h hj'
def RR1 (w : World) (l : List Le) (n : Nat) (i : Value) (wr : World) : Prop := ∃ k : Nat, i = .int .i64 k ∧ k ≤ n ∧ Hid (∀ (i : Nat) (x : Le), i < k → l[i]? = some x → oneB x = true ∧ ∀ (j : Nat) (y : Le), j < i → l[j]? = some y → clashB x y = false) ∧ Ext w wr
def RR2 (w : World) (l : List Le) (x : Le) (k : Nat) (i : Value) (wr : World) : Prop := ∃ j : Nat, i = .int .i64 j ∧ j ≤ k ∧ Hid (∀ (t : Nat) (y : Le), t < j → l[t]? = some y → clashB x y = false) ∧ Ext w wr

set_option maxRecDepth 100000 in
set_option maxHeartbeats 4000000 in
theorem rright_v (u : Value) (l : List Le) (w : World) (hu : LLe.Sl w u l) : Calls Try.prog 11 #[u] w fun e w' => e = .returned (.bool (rightB l)) ∧ Ext w w' := by
  obtain ⟨p, n, cc, rfl, hr, _, _, _⟩ := hu
  have HP := Lib.hid hr
  have hn63 := hr.2.1
  clear hr
  go_enter Try.func11, Try.ntmps11
  go_wp2
  go_loopw [3] (fun i wr => RR1 w l n i wr) (fun i _ => n - (intOf i).toNat)
  case atStart => exact ⟨0, rfl, by omega, Lib.hid (by intro i x h; omega), Ext.refl _⟩
  case round =>
    obtain ⟨k, rfl, hk, HE, hx⟩ := hrel
    by_cases hlt : k < n
    · obtain ⟨x, gx⟩ := get_of l k (by rw [HP.out.1]; exact hlt)
      obtain ⟨b, off, rfl, _, c0, c1, c2, c3, c4, c5, c6⟩ := le_at (HP.out.ext hx) gx
      have GX := Lib.hid gx
      have HX := Lib.hid hx
      have hlt' : (k : Int) < (n : Int) := by omega
      have hlt0 : (0 : Int) ≤ (k : Int) := by omega
      obtain ⟨o, ho⟩ : ∃ o, oneB x = o := ⟨_, rfl⟩
      have HO := Lib.hid ho
      clear gx hx ho
      go_wp2_with fail
      refine (rone_any x _).mono ?_
      rintro e w2 ⟨rfl, hx⟩
      rw [HO.out]
      have HX2 := Lib.hid (Ext.trans HX.out hx)
      clear hx c0 c1 c2 c3 c4 c5 c6
      cases o
      · go_wp2
        go_ret
        exact ⟨ret_bool (right_no (List.mem_of_getElem? GX.out) (.inl HO.out)).symm, HX2.out⟩
      · go_wp2
        go_loopw [4] (fun i wr => RR2 w l x k i wr) (fun i _ => k - (intOf i).toNat)
        case atStart => exact ⟨0, rfl, by omega, Lib.hid (by intro i x h; omega), HX2.out⟩
        case round =>
          obtain ⟨j, rfl, hj, HD, hx⟩ := hrel
          by_cases hjk : j < k
          · obtain ⟨y, gy⟩ := get_of l j (by rw [HP.out.1]; omega)
            obtain ⟨b', off', e0, _, c0, c1, c2, c3, c4, c5, c6⟩ := le_at (HP.out.ext hx) GX.out
            cases e0
            obtain ⟨b', off', e0, _, k0, k1, k2, k3, k4, k5, k6⟩ := le_at (HP.out.ext hx) gy
            cases e0
            have hj1 : (j : Int) < (k : Int) := by omega
            have hj0 : (0 : Int) ≤ (j : Int) := by omega
            have hjn : (j : Int) < (n : Int) := by omega
            have GY := Lib.hid gy
            have HX3 := Lib.hid hx
            obtain ⟨r, hr⟩ : ∃ r, clashRB x y = r := ⟨_, rfl⟩
            have HR := Lib.hid hr
            have HSS : Hid (∀ w', Ext wr w' → (w'.cell? ⟨b, off + k * 7, none⟩ = some (.int .i64 x.c) ∧ w'.cell? ⟨b, off + k * 7 + 1, none⟩ = some (.int .i64 x.i) ∧ w'.cell? ⟨b, off + k * 7 + 2, none⟩ = some (.int .i64 x.k) ∧ w'.cell? ⟨b, off + k * 7 + 3, none⟩ = some (.int .i64 x.f) ∧ w'.cell? ⟨b, off + k * 7 + 4, none⟩ = some (.int .i64 x.t) ∧ w'.cell? ⟨b, off + k * 7 + 5, none⟩ = some (.int .i64 x.u) ∧ w'.cell? ⟨b, off + k * 7 + 6, none⟩ = some (.int .i64 x.e)) ∧ w'.cell? ⟨b, off + j * 7, none⟩ = some (.int .i64 y.c) ∧ w'.cell? ⟨b, off + j * 7 + 1, none⟩ = some (.int .i64 y.i) ∧ w'.cell? ⟨b, off + j * 7 + 2, none⟩ = some (.int .i64 y.k) ∧ w'.cell? ⟨b, off + j * 7 + 3, none⟩ = some (.int .i64 y.f) ∧ w'.cell? ⟨b, off + j * 7 + 4, none⟩ = some (.int .i64 y.t) ∧ w'.cell? ⟨b, off + j * 7 + 5, none⟩ = some (.int .i64 y.u) ∧ w'.cell? ⟨b, off + j * 7 + 6, none⟩ = some (.int .i64 y.e)) := Lib.hid (fun w' h => ⟨⟨h.cell c0, h.cell c1, h.cell c2, h.cell c3, h.cell c4, h.cell c5, h.cell c6⟩, h.cell k0, h.cell k1, h.cell k2, h.cell k3, h.cell k4, h.cell k5, h.cell k6⟩)
            clear gy hx hr c0 c1 c2 c3 c4 c5 c6 k0 k1 k2 k3 k4 k5 k6
            go_wp2
            have hxx : Ext wr wr.drew := Ext.drew (Ext.refl _)
            go_region_held3 (fun w' => (w'.cell? ⟨b, off + k * 7, none⟩ = some (.int .i64 x.c) ∧ w'.cell? ⟨b, off + k * 7 + 1, none⟩ = some (.int .i64 x.i) ∧ w'.cell? ⟨b, off + k * 7 + 2, none⟩ = some (.int .i64 x.k) ∧ w'.cell? ⟨b, off + k * 7 + 3, none⟩ = some (.int .i64 x.f) ∧ w'.cell? ⟨b, off + k * 7 + 4, none⟩ = some (.int .i64 x.t) ∧ w'.cell? ⟨b, off + k * 7 + 5, none⟩ = some (.int .i64 x.u) ∧ w'.cell? ⟨b, off + k * 7 + 6, none⟩ = some (.int .i64 x.e)) ∧ w'.cell? ⟨b, off + j * 7, none⟩ = some (.int .i64 y.c) ∧ w'.cell? ⟨b, off + j * 7 + 1, none⟩ = some (.int .i64 y.i) ∧ w'.cell? ⟨b, off + j * 7 + 2, none⟩ = some (.int .i64 y.k) ∧ w'.cell? ⟨b, off + j * 7 + 3, none⟩ = some (.int .i64 y.f) ∧ w'.cell? ⟨b, off + j * 7 + 4, none⟩ = some (.int .i64 y.t) ∧ w'.cell? ⟨b, off + j * 7 + 5, none⟩ = some (.int .i64 y.u) ∧ w'.cell? ⟨b, off + j * 7 + 6, none⟩ = some (.int .i64 y.e)) ((refine HSS.out _ ?_; first | (with_reducible exact hxx))) ((go_at_call 25; refine (rclash_any x y _).mono ?_; rintro e w7 ⟨rfl, hx7⟩; rw [HR.out]; replace hxx := Ext.trans hxx hx7; clear hx7))
            have HX7 := Lib.hid (Ext.trans HX3.out hxx)
            clear hxx
            cases r
            · go_wp2
              go_roundw
              case rel => exact ⟨j + 1, by go_num, by omega, Lib.hid (by
                intro t z ht hz
                by_cases e : t = j
                · subst e
                  rw [GY.out] at hz
                  injection hz with hz
                  subst hz
                  cases hc : clashB x y with
                  | false => rfl
                  | true =>
                    exfalso
                    have hcc := of_decide_eq_true hc
                    have h1 := of_decide_eq_true HO.out
                    have h2 := HE.out t y hjk GY.out
                    have h3 := HR.out
                    rw [clashR_of HO.out h2.1, hc] at h3
                    cases h3
                · exact HD.out t z (by omega) hz), HX7.out⟩
              case measure => simp [intOf]; omega
            · go_wp2
              go_ret
              refine ⟨ret_bool ?_, HX7.out⟩
              symm
              refine Bool.eq_false_iff.2 fun h => ?_
              have h1 := ((right_ref.1 h).2 k x GX.out).2 j y hjk GY.out
              have h2 := HE.out j y hjk GY.out
              have h3 := HR.out
              rw [clashR_of HO.out h2.1, h1] at h3
              cases h3
          · obtain rfl : j = k := by omega
            go_wp2
            go_roundw
            case rel => exact ⟨j + 1, by go_num, by omega, Lib.hid (by
              intro t z ht hz
              by_cases e : t = j
              · subst e
                rw [GX.out] at hz
                injection hz with hz
                subst hz
                exact ⟨HO.out, HD.out⟩
              · exact HE.out t z (by omega) hz), hx⟩
            case measure => simp [intOf]; omega
    · obtain rfl : k = n := by omega
      have HR : Hid (rightB l = decide (k ≤ 64)) := Lib.hid (by
        rw [Bool.eq_iff_iff, right_ref, decide_eq_true_iff]
        constructor
        · rintro ⟨h1, _⟩; rw [HP.out.1] at h1; exact h1
        · intro h
          refine ⟨by rw [HP.out.1]; exact h, fun i x hi => HE.out i x ?_ hi⟩
          have := (List.getElem?_eq_some_iff.1 hi).1
          rw [HP.out.1] at this
          exact this)
      by_cases h64 : k ≤ 64
      · have d1 : decide ((k : Int) ≤ 64) = true := decide_eq_true (by omega)
        have d2 : decide (k ≤ 64) = true := decide_eq_true h64
        have H64 := Lib.hid d2
        go_wp2
        go_ret
        exact ⟨ret_bool (by rw [HR.out, H64.out]), hx⟩
      · have d1 : decide ((k : Int) ≤ 64) = false := decide_eq_false (by omega)
        have d2 : decide (k ≤ 64) = false := decide_eq_false h64
        have H64 := Lib.hid d2
        go_wp2
        go_ret
        exact ⟨ret_bool (by rw [HR.out, H64.out]), hx⟩
end Go.Proofs.Ytocnopgpdlfkjaa.Ls
