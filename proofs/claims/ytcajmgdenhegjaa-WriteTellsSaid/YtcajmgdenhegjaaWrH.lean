/- Written bytes: the reference's Laid. -/
import Derived.Test.YtcajmgdenhegjaaWrG
namespace Go.Proofs.Ytcajmgdenhegjaa.Wr
open Go.RowKit Go.Proofs.Ytcajmgdenhegjaa
set_option linter.unusedVariables false

def RLaidR (w0 : World) (F d : List Int) (k n : Nat) (o i : Value) (wr : World) : Prop :=
  ∃ j : Nat, i = .int .i64 j ∧ j ≤ n ∧ (Lay.int .u8).Own wr w0.heap.size 5 o (byB F k d j) ∧ Ext w0 wr
def RPadR (w0 : World) (G : List Int) (N : Nat) (o : Value) (wr : World) : Prop :=
  ∃ m : Nat, m ≤ N + 1 ∧ (Lay.int .u8).Own wr w0.heap.size 5 o (padL G m) ∧ Ext w0 wr
def slLen : Value → Nat
  | .slice _ n _ => n
  | _ => 0
theorem own_open {w : World} {base : Nat} {e : TypeId} {o : Value} {l : List Int} (h : (Lay.int .u8).Own w base e o l) : ∃ p c, o = .slice p l.length c ∧ (Lay.int .u8).Row w p l.length l := by
  obtain ⟨p, n, c, rfl, hr, _⟩ := h.sl
  obtain rfl := hr.1
  exact ⟨p, c, rfl, hr⟩
set_option maxRecDepth 100000 in
set_option maxHeartbeats 4000000 in
theorem rlaid_v (u : Value) (F d : List Int) (k : Nat) (p : Option Addr) (n c : Nat) (w : World) (hu : (Lay.int .u8).Sl w u F) (hd : (Lay.int .u8).Row w p n d) (hF : F.length ≤ 100000) (hk : 0 < n → k ≤ 100000) (hn : n ≤ 100000) :
    Calls Try.prog 32 #[u, .int .i64 k, .slice p n c] w fun e w' => (∃ v, e = .returned v ∧ (Lay.int .u8).Own w' w.heap.size 5 v (rlaidL F k d)) ∧ Ext w w' := by
  obtain ⟨i0, hi0, hzi0, hzi1, hzi2⟩ := info_parts info_u8
  obtain ⟨q, m, b, rfl, hl, hnc, hcm, hpl⟩ := hu
  have HP := Lib.hid hl
  have HPL := Lib.hid hpl
  have HM : Hid (m ≤ 100000) := Lib.hid (by rw [← hl.1]; exact hF)
  have HF := Lib.hid hF
  have HK := Lib.hid hk
  have HN := Lib.hid hn
  have HD := Lib.hid hd
  clear hpl hF hk hn hd hl
  go_enter Try.func32, Try.ntmps32
  go_wp2_with (at_builtin; refine Lay.wpList_append (E := (Lay.int .u8)) rfl (.tmp 9) (.tmp 10) 23 rfl w.heap.size 5 i0 (.int .u8 0) 1 Try.underlying23 hi0 hzi0 hzi1 hzi2 rfl _ ([]) rfl (plain_u8.own_lit w #[] _ w.heap.size 0 [] (Nat.le_refl _) rfl rfl (by decide)) q m b F rfl HPL.out (by omega) (HP.out.keep (Ext.alloc _ _) (by intro k hk; cases hk; exact Nat.le_refl _)) (by have := HM.out; unfold maxLen; simp; omega) (by have := HM.out; simp; omega) (by simp) ?_; intro v2 w3 hown2 hg2)
  have X3 := Lib.hid ((plain_u8.own_lit w #[] 5 w.heap.size 0 [] (Nat.le_refl _) rfl rfl (by decide)).below (Ext.alloc _ _) (Nat.le_refl _) hg2)
  have HO := Lib.hid hown2
  clear hown2 hg2
  go_wp2
  go_loopw [7, 8] (fun o i wr => RLaidR w F d k n o i wr) (fun o i _ => n - (intOf i).toNat)
  case atStart => exact ⟨0, rfl, by omega, by have := HO.out; simpa [byB_zero] using this, X3.out⟩
  case round =>
    obtain ⟨j, rfl, hj, ho, hx⟩ := hrel
    by_cases hlt : j < n
    · have hlt' : (j : Int) < (n : Int) := by omega
      have hlt0 : (0 : Int) ≤ (j : Int) := by omega
      have HO2 := Lib.hid ho
      have HX := Lib.hid hx
      obtain ⟨G, hG⟩ : ∃ G, byB F k d j = G := ⟨_, rfl⟩
      have HGG := Lib.hid hG
      clear ho hx hG
      go_wp2
      go_loopw [7] (fun o wr2 => RPadR w G (k + j) o wr2) (fun o _ => k + j + 1 - slLen o)
      case atStart => exact ⟨0, by omega, by have := HO2.out; rw [HGG.out] at this; simpa [padL_same] using this, HX.out⟩
      case round =>
        obtain ⟨m2, hm2, ho, hx2⟩ := hrel
        obtain ⟨p7, c7, rfl, hr7⟩ := own_open ho
        have ho0 := ho
        have HX3 := Lib.hid hx2
        have HB := Lib.hid (byB_length F k d j (by have := HD.out.1; omega))
        have HPLEN := Lib.hid (padL_length G m2)
        obtain ⟨L, hL⟩ : ∃ L, (padL G m2).length = L := ⟨_, rfl⟩
        have HL := Lib.hid hL
        have hLb : L ≤ 300001 := by
          have h1 := HB.out
          have h2 := HPLEN.out
          have := HF.out
          have := HK.out (by omega)
          have := HN.out
          rw [HGG.out] at h1
          rw [hL] at h2
          split at h1 <;> omega
        have HLB := Lib.hid hLb
        have ho1 : (Lay.int .u8).Own wr w.heap.size 5 (.slice p7 L c7) (padL G m2) := by rw [← hL]; exact ho0
        have HO3 := Lib.hid ho1
        have hkk := HK.out (by omega)
        have hnn := HN.out
        rw [hL] at hr7 ⊢
        clear ho ho0 ho1 hx2 hL
        by_cases hle : L ≤ k + j
        · have hle' : (L : Int) ≤ (k : Int) + (j : Int) := by omega
          clear hr7
          go_wp2_with (at_builtin; refine Lay.wpList_append (E := (Lay.int .u8)) rfl (.tmp 24) (.tmp 25) 23 rfl w.heap.size 5 i0 (.int .u8 0) 1 Try.underlying23 hi0 hzi0 hzi1 hzi2 rfl (.slice p7 L c7) (padL G m2) rfl (HO3.out.ext (Ext.alloc _ _)) (some ⟨wr.heap.size, 0, none⟩) 1 1 ([0]) rfl (fun _ => ⟨_, _, rfl⟩) (Nat.le_refl _) (plain_u8.lit (Ext.refl _) (Lay.All.single ⟨rfl, by decide⟩) (by simp) rfl (by decide)) (by have h1 := HLB.out; have h2 := HL.out; unfold maxLen; simp; omega) (by have h1 := HLB.out; have h2 := HL.out; simp; omega) (by have := HX3.out.size; simp; omega) ?_; intro v2 w3 hown2 hg2)
          have X4 := Lib.hid (HO3.out.below HX3.out (Nat.le_refl _) (Lay.grown_trans (Lay.grown_ext (Ext.alloc _ _) _) hg2))
          obtain ⟨p8, c8, hv2, _⟩ := own_open hown2
          rw [List.length_append, HL.out] at hv2
          subst hv2
          have HO4 := Lib.hid hown2
          clear hown2 hg2
          go_wp2
          go_roundw
          case rel => exact ⟨L + 1, by omega, by have h1 := HO4.out; rw [pad_snoc, HL.out] at h1; exact h1, X4.out⟩
          case measure => simp [slLen]; omega
        · have hle' : ¬ (L : Int) ≤ (k : Int) + (j : Int) := by omega
          have hEQ : padL G m2 = padL G (k + j + 1) := pad_done hm2 (by rw [HL.out]; omega)
          have HEQ := Lib.hid hEQ
          obtain ⟨g, rfl⟩ : ∃ g, p7 = some ⟨g, 0, none⟩ := by
            rcases HO3.out.form with e | ⟨g, c9, e, _⟩
            · injection e with e1 e2 e3; omega
            · injection e with e1 e2 e3; exact ⟨g, e1⟩
          obtain ⟨y, hy⟩ : ∃ y, d[j]? = some y := ⟨_, List.getElem?_eq_getElem (by rw [HD.out.1]; exact hlt)⟩
          obtain ⟨b2, off2, y2, cs, rfl, hy2, ⟨rfl, hwy⟩, hc2⟩ := HD.out.get (j := j) hlt
          obtain rfl : y = y2 := by simpa [hy] using hy2
          have cd := HX3.out.cell (hc2 0 _ rfl)
          have HY := Lib.hid hy
          have HWY := Lib.hid hwy
          obtain ⟨x, hx0⟩ : ∃ x, (padL G m2)[k + j]? = some x := ⟨_, List.getElem?_eq_getElem (by rw [HL.out]; omega)⟩
          have hrow := hr7
          obtain ⟨b3, off3, x2, cs, hb3, hx3, ⟨rfl, _⟩, hc3⟩ := hrow.get (j := k + j) (by omega)
          obtain ⟨rfl, rfl⟩ : b3 = g ∧ off3 = 0 := by injection hb3 with hb3; injection hb3 with h1 h2; exact ⟨h1.symm, h2.symm⟩
          have co : wr.cell? ⟨b3, k + j, none⟩ = some (.int .u8 x2) := by have := hc3 0 _ rfl; simpa [Lay.int] using this
          have cd' : wr.cell? ⟨b2, off2 + j, none⟩ = some (.int .u8 y) := by simpa [Lay.int] using cd
          have hfz : wr.frozen? ⟨b3, k + j, none⟩ = false := HO3.out.frozenAt HL.out (k + j)
          have HST := Lib.hid (plain_u8.stored HO3.out HL.out (l' := (padL G m2).set (k + j) y) (by rw [List.length_set]; exact HL.out) (k + j) (.int .u8 y) fun vs hv => u8_set HWY.out hv)
          have HXS := Lib.hid (HO3.out.ext_set HX3.out (Nat.le_refl _) (k + j) (.int .u8 y))
          have HBS : Hid (byB F k d (j + 1) = (padL G m2).set (k + j) y) := Lib.hid (by rw [byB_step F k d j (by rw [HD.out.1]; exact hlt), HGG.out, HEQ.out, List.getD_eq_getElem?_getD, HY.out]; rfl)
          have hlo : (0 : Int) ≤ (k : Int) + (j : Int) := by omega
          have hhi : (k : Int) + (j : Int) < (L : Int) := by omega
          clear hEQ hy hy2 hwy hc2 cd hx0 hrow hb3 hx3 hc3 hr7
          go_wp2
          go_roundw
          case rel => exact ⟨j + 1, by go_num, by omega, by rw [HBS.out]; exact HST.out.1, HXS.out⟩
          case measure => simp [intOf]; omega
    · obtain rfl : j = n := by omega
      have HO2 := Lib.hid ho
      clear ho
      go_wp2
      go_ret
      exact ⟨⟨_, rfl, by have := HO2.out; unfold rlaidL; rw [HD.out.1]; exact this⟩, hx⟩

/-- what the reference's Lay tells -/
def RetLay (w0 w : World) (F : List Int) (a : Int) (d : List Int) (e : Ending) : Prop :=
  ∃ v c, e = .returned (.tuple #[v, .int .i64 c]) ∧
    (a < 0 → c = 1 ∧ v = .slice none 0 0) ∧ (0 ≤ a → d ≠ [] → 4096 < a + (d.length : Int) → c = 2 ∧ v = .slice none 0 0) ∧
    (0 ≤ a → (d ≠ [] → a + (d.length : Int) ≤ 4096) → c = 0 ∧ (Lay.int .u8).Own w w0.heap.size 5 v (rlaidL F a.toNat d))
set_option maxHeartbeats 1000000 in
theorem rlay_v (u : Value) (F d : List Int) (a : Int) (p : Option Addr) (n c : Nat) (w : World) (hu : (Lay.int .u8).Sl w u F) (hd : (Lay.int .u8).Row w p n d) (hF : F.length ≤ 100000) (hn : n ≤ 100000) :
    Calls Try.prog 12 #[u, .int .i64 a, .slice p n c] w fun e w' => RetLay w w' F a d e ∧ Ext w w' := by
  have HU := Lib.hid hu
  have HD := Lib.hid hd
  have hl : d ≠ [] ↔ 0 < n := by rw [← hd.1]; exact List.length_pos_iff.symm
  have hdl := hd.1
  have HL := Lib.hid hl
  have HDL := Lib.hid hdl
  have HF := Lib.hid hF
  clear hu hd hl hdl hF
  by_cases h0 : a < 0
  · have H0 := Lib.hid h0
    go_enter Try.func12, Try.ntmps12
    go_wp2
    go_ret2
    exact ⟨⟨_, _, rfl, fun _ => ⟨rfl, rfl⟩, fun h => by have := H0.out; omega, fun h => by have := H0.out; omega⟩, Ext.refl _⟩
  · obtain ⟨k, rfl⟩ : ∃ k : Nat, a = (k : Int) := ⟨a.toNat, by omega⟩
    have hlaid := fun (hk : 0 < n → k ≤ 100000) (w' : World) (hx : Ext w w') => rlaid_v u F d k p n c w' (by exact HU.out.ext hx) (HD.out.ext hx) HF.out hk hn
    by_cases hz : 0 < n
    · have hz' : (0 : Int) < (n : Int) := by omega
      by_cases hk : 4096 < k
      · have hk' : (4096 : Int) < (k : Int) := by omega
        have HK := Lib.hid hk
        clear hlaid
        go_enter Try.func12, Try.ntmps12
        go_wp2
        go_ret2
        exact ⟨⟨_, _, rfl, fun h => by omega, fun _ _ _ => ⟨rfl, rfl⟩, fun _ h => by have := h (HL.out.2 hz); rw [HDL.out] at this; omega⟩, Ext.refl _⟩
      · have hk' : ¬ (4096 : Int) < (k : Int) := by omega
        by_cases hs : 4096 < k + n
        · have hs' : (4096 : Int) < (k : Int) + (n : Int) := by omega
          clear hlaid
          go_enter Try.func12, Try.ntmps12
          go_wp2
          go_ret2
          exact ⟨⟨_, _, rfl, fun h => by omega, fun _ _ _ => ⟨rfl, rfl⟩, fun _ h => by have := h (HL.out.2 hz); rw [HDL.out] at this; omega⟩, Ext.refl _⟩
        · have hs' : ¬ (4096 : Int) < (k : Int) + (n : Int) := by omega
          have HC := Lib.hid (hlaid (fun _ => by omega))
          clear hlaid
          go_enter Try.func12, Try.ntmps12
          go_wp2_with fail
          refine (HC.out _ (Ext.refl _)).mono ?_
          rintro e w2 ⟨⟨v, rfl, ho⟩, hx2⟩
          have HO := Lib.hid ho
          clear ho
          go_wp2
          go_ret2
          exact ⟨⟨_, _, rfl, fun h => by omega, fun _ _ h => by rw [HDL.out] at h; omega, fun _ _ => ⟨rfl, HO.out⟩⟩, hx2⟩
    · have hz' : ¬ (0 : Int) < (n : Int) := by omega
      have HC := Lib.hid (hlaid (fun h => absurd h hz))
      clear hlaid
      go_enter Try.func12, Try.ntmps12
      go_wp2_with fail
      refine (HC.out _ (Ext.refl _)).mono ?_
      rintro e w2 ⟨⟨v, rfl, ho⟩, hx2⟩
      have HO := Lib.hid ho
      clear ho
      go_wp2
      go_ret2
      exact ⟨⟨_, _, rfl, fun h => by omega, fun _ h => absurd (HL.out.1 h) hz, fun _ _ => ⟨rfl, HO.out⟩⟩, hx2⟩
end Go.Proofs.Ytcajmgdenhegjaa.Wr
