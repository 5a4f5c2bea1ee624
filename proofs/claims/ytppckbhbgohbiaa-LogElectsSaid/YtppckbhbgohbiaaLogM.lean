/- Logs: which logs meet, which rise. -/
import Derived.Test.YtppckbhbgohbiaaLogP
import Derived.Deep.RegionHeld3
namespace Go.Proofs.Ytppckbhbgohbiaa.Lg
open Go.RowKit Go.Proofs.Ytppckbhbgohbiaa
set_option linter.unusedVariables false

/-- where both have an entry of one term, all is alike up to there -/
def MeetP (l k : List Ent) : Prop := ∀ (i : Nat) (x y : Ent), l[i]? = some x → k[i]? = some y → x.1 = y.1 → ∀ s, s ≤ i → l[s]? = k[s]?
def MeetTo (l k : List Ent) (j : Nat) : Prop := ∀ (i : Nat) (x y : Ent), i < j → l[i]? = some x → k[i]? = some y → x.1 = y.1 → ∀ s, s ≤ i → l[s]? = k[s]?
def MeetR (w : World) (l k : List Ent) (n m : Nat) (a i : Value) (wr : World) : Prop :=
  ∃ (j : Nat) (A : Bool), i = .int .i64 j ∧ a = .bool A ∧ j ≤ n ∧ j ≤ m ∧ Hid ((A = true ↔ ∀ s, s < j → l[s]? = k[s]?) ∧ MeetTo l k j) ∧ Ext w wr

set_option maxRecDepth 100000 in
set_option maxHeartbeats 4000000 in
theorem meet_any (p q : Option Addr) (n c m d : Nat) (l k : List Ent) (w : World) (hl : LEnt.Row w p n l) (hk : LEnt.Row w q m k) :
    Calls Try.prog 23 #[.slice p n c, .slice q m d] w fun e w' => Tells (MeetP l k) w e w' := by
  have HP := Lib.hid hl
  have HQ := Lib.hid hk
  have hn := hl.2.1
  have hm := hk.2.1
  clear hl hk
  go_enter Try.func23, Try.ntmps23
  go_wp2
  go_loopw [5, 6] (fun a i wr => MeetR w l k n m a i wr) (fun _ i _ => n - (intOf i).toNat)
  case atStart => exact ⟨0, true, rfl, rfl, by omega, by omega, Lib.hid ⟨⟨fun _ s hs => by omega, fun _ => rfl⟩, fun i x y hi => by omega⟩, Ext.refl _⟩
  case round =>
    obtain ⟨j, A, rfl, rfl, hj, hj2, HE, hx⟩ := hrel
    by_cases h1 : j < n
    · have g1 : decide ((j : Int) < (n : Int)) = true := decide_eq_true (by omega)
      have g1n : decide (j < n) = true := decide_eq_true (by omega)
      by_cases h2 : j < m
      · have g2 : decide ((j : Int) < (m : Int)) = true := decide_eq_true (by omega)
        have g2n : decide (j < m) = true := decide_eq_true (by omega)
        have k0 : (0 : Int) ≤ (j : Int) := by omega
        have k1 : (j : Int) < (n : Int) := by omega
        have k2 : (j : Int) < (m : Int) := by omega
        have gx := ent_get (l := l) (j := j) (by rw [HP.out.1]; exact h1)
        have gy := ent_get (l := k) (j := j) (by rw [HQ.out.1]; exact h2)
        generalize l.getD j (0, []) = x at gx
        generalize k.getD j (0, []) = y at gy
        obtain ⟨b, off, p1, n1, c1, rfl, x0, x1, _, rx, _⟩ := ent_at (HP.out.ext hx) gx
        obtain ⟨b2, off2, q1, m1, d1, rfl, y0, y1, _, ry, _⟩ := ent_at (HQ.out.ext hx) gy
        have HX := Lib.hid rx
        have HY := Lib.hid ry
        have GX := Lib.hid gx
        have GY := Lib.hid gy
        have HS : Hid (∀ w', Ext wr w' → w'.cell? ⟨b, off + j * 2, none⟩ = some (.int .i64 x.1) ∧ w'.cell? ⟨b, off + j * 2 + 1, none⟩ = some (.slice p1 n1 c1) ∧ w'.cell? ⟨b2, off2 + j * 2, none⟩ = some (.int .i64 y.1) ∧ w'.cell? ⟨b2, off2 + j * 2 + 1, none⟩ = some (.slice q1 m1 d1)) := Lib.hid fun w' h => ⟨h.cell x0, h.cell x1, h.cell y0, h.cell y1⟩
        clear rx ry gx gy
        -- what the round makes of it
        obtain ⟨B, hB⟩ : ∃ B : Bool, B = (A && decide (x = y)) := ⟨_, rfl⟩
        have HB := Lib.hid hB
        have HE2 : Hid (B = true ↔ ∀ s, s < j + 1 → l[s]? = k[s]?) := Lib.hid (by
          rw [HB.out, Bool.and_eq_true, HE.out.1, decide_eq_true_iff]
          constructor
          · rintro ⟨h, e⟩ s hs
            by_cases c : s = j
            · subst c; rw [GX.out, GY.out, e]
            · exact h s (by omega)
          · intro h
            refine ⟨fun s hs => h s (by omega), ?_⟩
            have := h j (by omega)
            rw [GX.out, GY.out] at this
            simpa using this)
        clear hB
        have hend : ∀ (T : Bool), Hid (T = (x.1 == y.1)) → (T = false ∨ B = true) → MeetTo l k (j + 1) := fun T hT h i u v hi hu hv huv s hs => by
          by_cases c : i = j
          · subst c
            rw [GX.out] at hu
            rw [GY.out] at hv
            simp only [Option.some.injEq] at hu hv
            subst hu hv
            rcases h with h | h
            · have := hT.out; rw [h] at this; simp [huv] at this
            · exact HE2.out.1 h s (by omega)
          · exact HE.out.2 i u v (by omega) hu hv huv s hs
        have HEND := Lib.hid hend
        clear hend
        obtain ⟨T, hT⟩ : ∃ T : Bool, (x.1 == y.1) = T := ⟨_, rfl⟩
        have HT : Hid (T = (x.1 == y.1)) := Lib.hid hT.symm
        cases A
        · have hBf : B = false := by have := HB.out; simpa using this
          subst hBf
          cases T
          · go_wp2
            go_quiet (fail)
            go_wp2
            go_quiet (fail)
            go_wp2
            go_roundw
            case rel => exact ⟨j + 1, false, by go_num, rfl, by omega, by omega, Lib.hid ⟨HE2.out, HEND.out _ HT (.inl rfl)⟩, Ext.drewN hx _⟩
            case measure => simp [intOf]; omega
          · go_wp2
            go_quiet (fail)
            go_wp2
            go_quiet (fail)
            go_wp2
            go_ret
            refine Tells.no (fun h => ?_) (Ext.drewN (Ext.drewN hx _) _)
            have h3 := h j x y GX.out GY.out (by have := HT.out; simpa using this.symm)
            have := HE2.out.2 (fun s hs => h3 s (by omega))
            cases this
        · have hBf : B = decide (x = y) := by have := HB.out; simpa using this
          have HBf := Lib.hid hBf
          have hxx : Ext wr wr.drew := Ext.drew (Ext.refl _)
          clear hBf
          go_wp2
          go_region_held3 (fun w' => w'.cell? ⟨b, off + j * 2, none⟩ = some (.int .i64 x.1) ∧ w'.cell? ⟨b, off + j * 2 + 1, none⟩ = some (.slice p1 n1 c1) ∧ w'.cell? ⟨b2, off2 + j * 2, none⟩ = some (.int .i64 y.1) ∧ w'.cell? ⟨b2, off2 + j * 2 + 1, none⟩ = some (.slice q1 m1 d1)) (exact HS.out _ hxx) ((go_at_call 28; refine (ralike_any x y _ _ _ _ _ _ _ (HX.out.ext hxx) (HY.out.ext hxx)).mono ?_; rintro e w2 ⟨rfl, hx2⟩; rw [← HBf.out]; replace hxx := Ext.trans hxx hx2; clear hx2))
          have z0 := (HS.out _ hxx).1
          have z1 := (HS.out _ hxx).2.2.1
          replace hx := Ext.trans hx hxx
          clear hxx HS x0 x1 y0 y1
          cases B
          · cases T
            · go_wp2
              go_quiet (fail)
              go_wp2
              go_roundw
              case rel => exact ⟨j + 1, false, by go_num, rfl, by omega, by omega, Lib.hid ⟨HE2.out, HEND.out _ HT (.inl rfl)⟩, Ext.drewN hx _⟩
              case measure => simp [intOf]; omega
            · go_wp2
              go_quiet (fail)
              go_wp2
              go_ret
              refine Tells.no (fun h => ?_) (Ext.drewN hx _)
              have h3 := h j x y GX.out GY.out (by have := HT.out; simpa using this.symm)
              have := HE2.out.2 (fun s hs => h3 s (by omega))
              cases this
          · cases T
            all_goals
              go_wp2
              go_quiet (fail)
              go_wp2
              go_roundw
              case rel => exact ⟨j + 1, true, by go_num, rfl, by omega, by omega, Lib.hid ⟨by simpa using HE2.out, HEND.out _ HT (by simp)⟩, Ext.drewN hx _⟩
              case measure => simp [intOf]; omega
      · have g2 : decide ((j : Int) < (m : Int)) = false := decide_eq_false (by omega)
        have g2n : decide (j < m) = false := decide_eq_false (by omega)
        go_wp2
        go_ret
        refine Tells.yes (fun i x y hi hk => ?_) hx
        have := (List.getElem?_eq_some_iff.1 hk).1
        rw [HQ.out.1] at this
        exact HE.out.2 i x y (by omega) hi hk
    · have g1 : decide ((j : Int) < (n : Int)) = false := decide_eq_false (by omega)
      have g1n : decide (j < n) = false := decide_eq_false (by omega)
      go_wp2
      go_ret
      refine Tells.yes (fun i x y hi hk => ?_) hx
      have := (List.getElem?_eq_some_iff.1 hi).1
      rw [HP.out.1] at this
      exact HE.out.2 i x y (by omega) hi hk

/-- terms never fall, from 1 on -/
def RisesP (l : List Ent) : Prop := ∀ (i : Nat) (x : Ent), l[i]? = some x → 1 ≤ x.1 ∧ ∀ y : Ent, 0 < i → l[i - 1]? = some y → y.1 ≤ x.1
def RisesTo (l : List Ent) (j : Nat) : Prop := ∀ (i : Nat) (x : Ent), i < j → l[i]? = some x → 1 ≤ x.1 ∧ ∀ y : Ent, 0 < i → l[i - 1]? = some y → y.1 ≤ x.1
def RisesR (w : World) (l : List Ent) (n : Nat) (i : Value) (wr : World) : Prop := ∃ j : Nat, i = .int .i64 j ∧ j ≤ n ∧ Hid (RisesTo l j) ∧ Ext w wr

set_option maxRecDepth 100000 in
set_option maxHeartbeats 2000000 in
theorem rises_any (p : Option Addr) (n c : Nat) (l : List Ent) (w : World) (hl : LEnt.Row w p n l) :
    Calls Try.prog 24 #[.slice p n c] w fun e w' => Tells (RisesP l) w e w' := by
  have HP := Lib.hid hl
  have hn := hl.2.1
  clear hl
  go_enter Try.func24, Try.ntmps24
  go_wp2
  go_loopw [3] (fun i wr => RisesR w l n i wr) (fun i _ => n - (intOf i).toNat)
  case atStart => exact ⟨0, rfl, by omega, Lib.hid (fun i x hi => by omega), Ext.refl _⟩
  case round =>
    obtain ⟨j, rfl, hj, HE, hx⟩ := hrel
    by_cases h1 : j < n
    · have k0 : (0 : Int) ≤ (j : Int) := by omega
      have k1 : (j : Int) < (n : Int) := by omega
      have gx := ent_get (l := l) (j := j) (by rw [HP.out.1]; exact h1)
      generalize l.getD j (0, []) = x at gx
      obtain ⟨b, off, _, _, _, rfl, x0, _⟩ := ent_at (HP.out.ext hx) gx
      have GX := Lib.hid gx
      clear gx
      by_cases h2 : x.1 < 1
      · have g2 : decide (x.1 < 1) = true := decide_eq_true h2
        have H2 := Lib.hid h2
        clear h2
        go_wp2
        go_quiet (fail)
        go_wp2
        go_ret
        exact Tells.no (fun h => by have := (h j x GX.out).1; have := H2.out; omega) (Ext.drewN hx _)
      · have g2 : decide (x.1 < 1) = false := decide_eq_false h2
        have H2 := Lib.hid h2
        clear h2
        by_cases h0 : j = 0
        · subst h0
          have g3 : decide ((0 : Int) < (0 : Int)) = false := decide_eq_false (by omega)
          rw [show (((0 : Nat) : Int)) = 0 by rfl] at k0 k1 ⊢
          have x0' : wr.cell? ⟨b, off, none⟩ = some (.int .i64 x.1) := by simpa using x0
          go_wp2
          go_quiet (fail)
          go_wp2
          go_roundw
          case rel => exact ⟨1, by go_num, by omega, Lib.hid (fun i u hi hu => by
            obtain rfl : i = 0 := by omega
            rw [GX.out] at hu
            simp only [Option.some.injEq] at hu
            subst hu
            exact ⟨by have := H2.out; omega, fun y h => by omega⟩), Ext.drewN hx _⟩
          case measure => simp [intOf]; omega
        · obtain ⟨s, rfl⟩ : ∃ s, j = s + 1 := ⟨j - 1, by omega⟩
          have g3 : decide ((0 : Int) < ((s + 1 : Nat) : Int)) = true := decide_eq_true (by omega)
          have g3b : decide ((0 : Int) < (s : Int) + 1) = true := decide_eq_true (by omega)
          have gy := ent_get (l := l) (j := s) (by rw [HP.out.1]; omega)
          generalize l.getD s (0, []) = y at gy
          obtain ⟨b', off', _, _, _, hpp, y0, _⟩ := ent_at (HP.out.ext hx) gy
          simp only [Option.some.injEq, Addr.mk.injEq, and_true] at hpp
          obtain ⟨rfl, rfl⟩ := hpp
          have GY := Lib.hid gy
          have e0 : ((s + 1 : Nat) : Int) = (s : Int) + 1 := by omega
          rw [e0] at k0 k1 ⊢
          clear gy h0 e0
          have hwr : IntKind.i64.wrap ((s : Int) + 1 - 1) = (s : Int) := by rw [IntWalk.i64_in _ (by omega)]; omega
          by_cases h4 : x.1 < y.1
          · have g4 : decide (x.1 < y.1) = true := decide_eq_true h4
            have H4 := Lib.hid h4
            clear h4
            go_wp2
            go_quiet (fail)
            go_wp2
            go_ret
            exact Tells.no (fun h => by have := (h (s + 1) x GX.out).2 y (by omega) GY.out; have := H4.out; omega) (Ext.drewN hx _)
          · have g4 : decide (x.1 < y.1) = false := decide_eq_false h4
            have H4 := Lib.hid h4
            clear h4
            go_wp2
            go_quiet (fail)
            go_wp2
            go_roundw
            case rel => exact ⟨s + 2, by go_num, by omega, Lib.hid (fun i u hi hu => by
              by_cases c : i = s + 1
              · subst c
                rw [GX.out] at hu
                simp only [Option.some.injEq] at hu
                subst hu
                refine ⟨by have := H2.out; omega, fun v _ hv => ?_⟩
                rw [show s + 1 - 1 = s by omega, GY.out] at hv
                simp only [Option.some.injEq] at hv
                subst hv
                have := H4.out; omega
              · exact HE.out i u (by omega) hu), Ext.drewN hx _⟩
            case measure => simp [intOf]; omega
    · have k1 : ¬ ((j : Int) < (n : Int)) := by omega
      go_wp2
      go_ret
      refine Tells.yes (fun i x hi => ?_) hx
      have := (List.getElem?_eq_some_iff.1 hi).1
      rw [HP.out.1] at this
      exact HE.out i x (by omega) hi

/-! ### what follows -/
theorem RisesP.mono {l : List Ent} (h : RisesP l) : ∀ (j i : Nat) (x y : Ent), i ≤ j → l[i]? = some x → l[j]? = some y → x.1 ≤ y.1
  | 0, i, x, y, hi, hx, hy => by
    obtain rfl : i = 0 := by omega
    rw [hx] at hy
    simp only [Option.some.injEq] at hy
    subst hy; omega
  | j + 1, i, x, y, hi, hx, hy => by
    by_cases c : i = j + 1
    · subst c
      rw [hx] at hy
      simp only [Option.some.injEq] at hy
      subst hy; omega
    · have hj : j < l.length := by have := (List.getElem?_eq_some_iff.1 hy).1; omega
      have h1 := RisesP.mono h j i x l[j] (by omega) hx (List.getElem?_eq_getElem hj)
      have h2 := (h (j + 1) y hy).2 l[j] (by omega) (by rw [Nat.add_sub_cancel]; exact List.getElem?_eq_getElem hj)
      omega
theorem termOf_get {l : List Ent} {i : Nat} {x : Ent} (h : l[i]? = some x) : termOf l ((i : Int) + 1) = x.1 := by
  rw [termOf_succ, List.getD_eq_getElem?_getD, h]; rfl
theorem take_eq_of {l k : List Ent} {p : Nat} (h : ∀ s, s < p → l[s]? = k[s]?) : l.take p = k.take p := by
  apply List.ext_getElem?
  intro i
  rw [List.getElem?_take, List.getElem?_take]
  by_cases c : i < p
  · rw [if_pos c, if_pos c, h i c]
  · rw [if_neg c, if_neg c]
/-- logs that meet, and have one term at one place, are alike up to there -/
theorem MeetP.upto {l k : List Ent} (h : MeetP l k) {p : Nat} (hl : p ≤ l.length) (hk : p ≤ k.length) (ht : termOf l p = termOf k p) : ∀ s, s < p → l[s]? = k[s]? := by
  intro s hs
  obtain ⟨i, rfl⟩ : ∃ i, p = i + 1 := ⟨p - 1, by omega⟩
  have e1 : l[i]? = some l[i] := List.getElem?_eq_getElem (by omega)
  have e2 : k[i]? = some k[i] := List.getElem?_eq_getElem (by omega)
  rw [show ((i + 1 : Nat) : Int) = (i : Int) + 1 by omega, termOf_get e1, termOf_get e2] at ht
  exact h i _ _ e1 e2 ht s (by omega)
/-- what is put of a leader's log -/
theorem meets_put {l k : List Ent} (h : MeetP l k) {p q : Nat} (hpq : p ≤ q) (hq : q ≤ k.length) (hf : fitsB l p (termOf k p) = true) :
    MeetP (putL l p ((k.drop p).take (q - p))) k ∧ q ≤ (putL l p ((k.drop p).take (q - p))).length ∧ (putL l p ((k.drop p).take (q - p))).take q = k.take q := by
  have hf' := of_decide_eq_true hf
  have hpl : p ≤ l.length := by omega
  have hup := take_eq_of (h.upto hpl (by omega) hf'.2.2)
  have hml : ((k.drop p).take (q - p)).length = q - p := by simp; omega
  have hlong := putL_long l ((k.drop p).take (q - p)) p hpl
  have htk := putL_take l ((k.drop p).take (q - p)) p hpl
  have hsub := putL_sub l ((k.drop p).take (q - p)) p hpl
  have hsame := putL_same l ((k.drop p).take (q - p)) p hpl
  rw [hml] at hlong hsub hsame
  have hq2 : (putL l p ((k.drop p).take (q - p))).take q = k.take q := by
    generalize putL l p ((k.drop p).take (q - p)) = A at htk hsub
    have e1 : A.take (p + (q - p)) = A.take p ++ (A.drop p).take (q - p) := List.take_add
    have e2 : k.take (p + (q - p)) = k.take p ++ (k.drop p).take (q - p) := List.take_add
    rw [htk, hsub, hup] at e1
    rw [show p + (q - p) = q by omega] at e1 e2
    rw [e1, e2]
  refine ⟨?_, by omega, hq2⟩
  by_cases c : (putL l p ((k.drop p).take (q - p))).length = p + (q - p)
  · intro i x y hi hk hxy s hs
    have hi' := (List.getElem?_eq_some_iff.1 hi).1
    have := congrArg (·[s]?) hq2
    simp only [List.getElem?_take] at this
    rwa [if_pos (by omega), if_pos (by omega)] at this
  · rw [hsame c]; exact h
theorem reach_two (p : Nat) (x : Int) (h : (p : Int) < x) (hp : 0 < p) : reach [(p : Int), p, 0] x = 0 := by
  have h1 : ¬ x ≤ (p : Int) := by omega
  have h2 : ¬ x ≤ 0 := by omega
  simp [reach, h1, h2]
theorem reach_two' (p : Nat) (hp : 0 < p) : reach [(p : Int), p, 0] p = 2 := by
  simp [reach]
  exact hp
theorem commit_two (l : List Ent) (p : Nat) (hp : 0 < p) (x : Ent) (hx : l[p - 1]? = some x) : commitL l x.1 [(p : Int), p, 0] ((p : Int) - 1) = p := by
  have hl := (List.getElem?_eq_some_iff.1 hx).1
  have key : ∀ n, p ≤ n → topC l x.1 [(p : Int), p, 0] ((p : Int) - 1) n = p := by
    intro n hn
    induction n with
    | zero => omega
    | succ n ih =>
      unfold topC
      by_cases c : p = n + 1
      · rw [if_pos]
        · omega
        · refine ⟨by omega, ?_, ?_⟩
          · have e : n = p - 1 := by omega
            rw [e, List.getD_eq_getElem?_getD, hx]; rfl
          · rw [show (n : Int) + 1 = (p : Int) by omega, reach_two' p hp]; simp
      · rw [if_neg, ih (by omega)]
        rintro ⟨_, _, h⟩
        rw [reach_two p _ (by omega) hp] at h
        simp at h
  exact key _ (by omega)
theorem elects {L l v : List Ent} (hL : RisesP L) (hl : RisesP l) (hv : RisesP v) (ml : MeetP l L) (mv : MeetP v L) {p : Nat} (hp : 0 < p) {x : Ent} (hx : L[p - 1]? = some x) (hlast : x.1 = termOf L L.length) (hlen : l.length ≤ L.length)
    (has : fitsB v p x.1 = true) (lacks : fitsB l p x.1 = false) (ht : termOf l l.length ≤ x.1) : newerB v (termOf l l.length) l.length = false := by
  have h1 := of_decide_eq_true has
  have hpL : p ≤ L.length := by have := (List.getElem?_eq_some_iff.1 hx).1; omega
  have hvp : v[p - 1]? = some v[p - 1] := List.getElem?_eq_getElem (by omega)
  have hvl : v[v.length - 1]? = some v[v.length - 1] := List.getElem?_eq_getElem (by omega)
  have e1 : termOf v p = (v[p - 1]).1 := by rw [show (p : Int) = ((p - 1 : Nat) : Int) + 1 by omega, termOf_get hvp]
  have e2 : termOf v v.length = (v[v.length - 1]).1 := by rw [show (v.length : Int) = ((v.length - 1 : Nat) : Int) + 1 by omega, termOf_get hvl]
  have h2 := hv.mono _ _ _ _ (by omega) hvp hvl
  refine decide_eq_false ?_
  rintro (h | ⟨h3, h4⟩)
  · omega
  · have hlp : p ≤ l.length := by omega
    have hll : l[l.length - 1]? = some l[l.length - 1] := List.getElem?_eq_getElem (by omega)
    have hLl : L[l.length - 1]? = some L[l.length - 1] := List.getElem?_eq_getElem (by omega)
    have hLL : L[L.length - 1]? = some L[L.length - 1] := List.getElem?_eq_getElem (by omega)
    have e3 : termOf l l.length = (l[l.length - 1]).1 := by rw [show (l.length : Int) = ((l.length - 1 : Nat) : Int) + 1 by omega, termOf_get hll]
    have e4 : termOf L L.length = (L[L.length - 1]).1 := by rw [show (L.length : Int) = ((L.length - 1 : Nat) : Int) + 1 by omega, termOf_get hLL]
    have m1 := hL.mono _ _ _ _ (by omega) hx hLl
    have m2 := hL.mono _ _ _ _ (by omega) hLl hLL
    have m3 := ml _ _ _ hll hLl (by omega) (p - 1) (by omega)
    rw [hx] at m3
    refine absurd lacks ?_
    have : fitsB l p x.1 = true := decide_eq_true ⟨by omega, by omega, by rw [show (p : Int) = ((p - 1 : Nat) : Int) + 1 by omega, termOf_get m3]⟩
    rw [this]; simp
end Go.Proofs.Ytppckbhbgohbiaa.Lg
