/- Votes: the document's Log and Same. -/
import Derived.Test.YtmcenioblbcehaaVoteC
namespace Go.Proofs.Ytmcenioblbcehaa.Lg
open Go.RowKit Go.Proofs.Ytmcenioblbcehaa
set_option linter.unusedVariables false

theorem list_get_eq {α : Type} {xs ys : List α} (h : xs.length = ys.length) (h2 : ∀ j, j < xs.length → xs[j]? = ys[j]?) : xs = ys := by
  apply List.ext_getElem? 
  intro j
  by_cases hj : j < xs.length
  · exact h2 j hj
  · rw [List.getElem?_eq_none (by omega), List.getElem?_eq_none (by omega)]
def SameR {α : Type} (w : World) (l k : List α) (n : Nat) (i : Value) (wr : World) : Prop :=
  ∃ j : Nat, i = .int .i64 j ∧ j ≤ n ∧ Hid (∀ s, s < j → l[s]? = k[s]?) ∧ Ext w wr

set_option maxRecDepth 100000 in
set_option maxHeartbeats 4000000 in
theorem rlog_any (p q : Option Addr) (n c m d : Nat) (l k : List Ent) (w : World) (hl : LEnt.Row w p n l) (hk : LEnt.Row w q m k) :
    Calls Try.prog 24 #[.slice p n c, .slice q m d] w fun e w' => e = .returned (.bool (decide (l = k))) ∧ Ext w w' := by
  have HP := Lib.hid hl
  have HQ := Lib.hid hk
  have hn := hl.2.1
  by_cases hnm : n = m
  · subst hnm
    have hb : ((n : Int) != (n : Int)) = false := by simp
    clear hl hk
    go_enter Try.func24, Try.ntmps24
    go_wp2
    go_loopw [5, 6] (fun i _ wr => SameR w l k n i wr) (fun i _ _ => n - (intOf i).toNat)
    case atStart => exact ⟨0, rfl, by omega, Lib.hid (by intro j hj; omega), Ext.refl _⟩
    case round =>
      obtain ⟨j, rfl, hj, HE, hx⟩ := hrel
      by_cases hlt : j < n
      · have hlt' : (j : Int) < (n : Int) := by omega
        have hlt0 : (0 : Int) ≤ (j : Int) := by omega
        have gx := ent_get (l := l) (j := j) (by rw [HP.out.1]; exact hlt)
        have gy := ent_get (l := k) (j := j) (by rw [HQ.out.1]; exact hlt)
        generalize l.getD j (0, []) = x at gx
        generalize k.getD j (0, []) = y at gy
        obtain ⟨b, off, p1, n1, c1, rfl, x0, x1, _, rx, _⟩ := ent_at (HP.out.ext hx) gx
        obtain ⟨b2, off2, q1, m1, d1, rfl, y0, y1, _, ry, _⟩ := ent_at (HQ.out.ext hx) gy
        have HX := Lib.hid rx.ints.1
        have HY := Lib.hid ry.ints.1
        have hn1 := rx.2.1
        have GX := Lib.hid gx
        have GY := Lib.hid gy
        have HNE : Hid (x ≠ y → ¬ l = k) := Lib.hid (fun hne h => hne (by have h1 := GX.out; have h2 := GY.out; rw [h, h2] at h1; simpa using h1.symm))
        clear rx ry gx gy
        by_cases ht : x.1 = y.1
        · have t1 : (x.1 != y.1) = false := by simp [ht]
          have HT := Lib.hid ht
          clear ht
          by_cases hlen : n1 = m1
          · subst hlen
            have t2 : ((n1 : Int) != (n1 : Int)) = false := by simp
            go_wp2
            go_quiet (fail)
            replace hx := Ext.drewN hx nq
            have HCS : Hid (∀ w', Ext (wr.drewN nq) w' → w'.cell? ⟨b, off + j * 2 + 1, none⟩ = some (.slice p1 n1 c1) ∧ w'.cell? ⟨b2, off2 + j * 2 + 1, none⟩ = some (.slice q1 n1 d1)) := Lib.hid fun w' h => ⟨h.cell x1, h.cell y1⟩
            replace HX := Lib.hid (HX.out.ext (Ext.drewN (Ext.refl wr) nq))
            replace HY := Lib.hid (HY.out.ext (Ext.drewN (Ext.refl wr) nq))
            clear x0 x1 y0 y1
            generalize wr.drewN nq = wx at hx HCS HX HY ⊢
            go_wp2
            go_loopw [6] (fun i wq => IntsR wx x.2 y.2 n1 i wq) (fun i _ => n1 - (intOf i).toNat)
            case atStart => exact ⟨0, rfl, by omega, Lib.hid (by intro s hs; omega), Ext.refl _⟩
            case round =>
              obtain ⟨s, rfl, hs, HS, hxx⟩ := hrel
              obtain ⟨z0, z1⟩ := HCS.out _ hxx
              by_cases hsl : s < n1
              · have hsl' : (s : Int) < (n1 : Int) := by omega
                have hs0 : (0 : Int) ≤ (s : Int) := by omega
                obtain ⟨b3, off3, rfl, hc⟩ := HX.out.2.2 (by omega)
                obtain ⟨b4, off4, rfl, hc2⟩ := HY.out.2.2 (by omega)
                have cx := hxx.cell (hc s hsl)
                have cy := hxx.cell (hc2 s hsl)
                clear hc hc2
                by_cases he : at0 x.2 s = at0 y.2 s
                · have hb : (at0 x.2 s != at0 y.2 s) = false := by simp [he]
                  have HE1 := Lib.hid he
                  clear he
                  go_wp2
                  go_quiet (fail)
                  go_wp2
                  go_roundw
                  case rel => exact ⟨s + 1, by go_num, by omega, Lib.hid (fun j hj => by
                    by_cases e : j = s
                    · subst e; exact HE1.out
                    · exact HS.out j (by omega)), Ext.drewN hxx _⟩
                  case measure => simp [intOf]; omega
                · have hb : (at0 x.2 s != at0 y.2 s) = true := by simp [he]
                  have HE1 := Lib.hid he
                  clear he
                  go_wp2
                  go_quiet (fail)
                  go_wp2
                  go_ret
                  exact ⟨ret_bool (decide_eq_false (HNE.out (fun h => HE1.out (by rw [h])))).symm, Ext.drewN (Ext.trans hx hxx) _⟩
              · obtain rfl : s = n1 := by omega
                have HXY : Hid (x = y) := Lib.hid (Prod.ext HT.out (ints_eq (by rw [HX.out.1, HY.out.1]) (fun j hj => HS.out j (by rw [HX.out.1] at hj; exact hj))))
                replace hx := Ext.trans hx hxx
                go_wp2
                go_roundw
                case rel => exact ⟨j + 1, by go_num, by omega, Lib.hid (fun s hs => by
                  by_cases e : s = j
                  · subst e; rw [GX.out, GY.out, HXY.out]
                  · exact HE.out s (by omega)), hx⟩
                case measure => simp [intOf]; omega
          · have t2 : ((n1 : Int) != (m1 : Int)) = true := by simp; omega
            have HLE : Hid (¬ l = k) := Lib.hid (HNE.out (fun h => hlen (by rw [← HX.out.1, ← HY.out.1, h])))
            clear hlen
            go_wp2
            go_quiet (fail)
            go_wp2
            go_ret
            exact ⟨ret_bool (decide_eq_false HLE.out).symm, Ext.drewN hx _⟩
        · have t1 : (x.1 != y.1) = true := by simp [ht]
          have HT : Hid (¬ l = k) := Lib.hid (HNE.out (fun h => ht (by rw [h])))
          clear ht
          go_wp2
          go_quiet (fail)
          go_wp2
          go_ret
          exact ⟨ret_bool (decide_eq_false HT.out).symm, Ext.drewN hx _⟩
      · obtain rfl : j = n := by omega
        go_wp2
        go_ret
        exact ⟨ret_bool (decide_eq_true (list_get_eq (by rw [HP.out.1, HQ.out.1]) (fun s hs => HE.out s (by rw [HP.out.1] at hs; exact hs)))).symm, hx⟩
  · have hb : ((n : Int) != (m : Int)) = true := by simp; omega
    have hf : decide (l = k) = false := decide_eq_false (fun e => hnm (by rw [← hl.1, ← hk.1, e]))
    rw [hf]
    clear hl hk hf
    go_enter Try.func24, Try.ntmps24
    go_wp2
    go_ret
    exact ⟨rfl, Ext.refl _⟩
end Go.Proofs.Ytmcenioblbcehaa.Lg
