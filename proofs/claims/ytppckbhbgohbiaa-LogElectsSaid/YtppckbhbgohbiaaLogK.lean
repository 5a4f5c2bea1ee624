/- Logs: the walks of LogTells and LogNewer. -/
import Derived.Test.YtppckbhbgohbiaaLogJ
namespace Go.Proofs.Ytppckbhbgohbiaa.Lg
open Go.RowKit Go.Proofs.Ytppckbhbgohbiaa
set_option linter.unusedVariables false

theorem fitsB_nat {l : List Ent} {a t : Int} (h : fitsB l a t = true) : ∃ k : Nat, a = k := by
  unfold fitsB at h
  have := of_decide_eq_true h
  exact ⟨a.toNat, by omega⟩
theorem putL_length (l more : List Ent) (a : Nat) : (putL l a more).length ≤ l.length + more.length := by
  unfold putL
  have := agree_le (l.drop a) more
  split
  · omega
  · simp; omega
def PutS (w : World) (r : List Ent) (e : Ending) (w' : World) : Prop := (∃ z k s, e = .returned (.tuple #[.slice z k s, .bool true]) ∧ LEnt.Row w' z k r ∧ k ≤ s ∧ s ≤ 9223372036854775807 ∧ Pl z s ∧ k ≤ 500) ∧ Ext w w'
theorem PutP.small {w w' : World} {r : List Ent} {e : Ending} (h : PutP w r e w') (hr : r.length ≤ 500) : PutS w r e w' := by
  obtain ⟨z, k, s, rfl, h, hx⟩ := h
  rw [decide_eq_true hr]
  rw [if_pos hr] at h
  exact ⟨⟨z, k, s, rfl, h.1, h.2.1, h.2.2.1, h.2.2.2, by rw [← h.1.1]; exact hr⟩, hx⟩
theorem put_s {p q : Option Addr} {n c m d : Nat} {l more : List Ent} {w : World} (hl : LEnt.Row w p n l) (hm : LEnt.Row w q m more) (hnc : n ≤ c) (hmd : m ≤ d) (hc : c ≤ 9223372036854775807) (hd : d ≤ 9223372036854775807) (hp : Pl p c) (hq : Pl q d)
    (hn : n ≤ 200) (hm1 : m ≤ 200) (a : Nat) (t : Int) (hf : fitsB l a t = true) :
    Calls Try.prog 12 #[.slice p n c, .int .i64 a, .int .i64 t, .slice q m d] w fun e w' => PutS w (putL l a more) e w' :=
  (put_fits p q n c m d l more w hl hm hnc hmd hc hd hp hq (by omega) (by omega) a t hf).mono fun e w' h => PutP.small h (by have := putL_length l more a; rw [hl.1, hm.1] at this; omega)
theorem rput_s {p q : Option Addr} {n c m d : Nat} {l more : List Ent} {w : World} (hl : LEnt.Row w p n l) (hm : LEnt.Row w q m more) (hnc : n ≤ c) (hmd : m ≤ d) (hc : c ≤ 9223372036854775807) (hd : d ≤ 9223372036854775807) (hp : Pl p c) (hq : Pl q d)
    (hn : n ≤ 200) (hm1 : m ≤ 200) (a : Nat) (t : Int) (hf : fitsB l a t = true) :
    Calls Try.prog 13 #[.slice p n c, .int .i64 a, .int .i64 t, .slice q m d] w fun e w' => PutS w (putL l a more) e w' :=
  (rput_fits p q n c m d l more w hl hm hnc hmd hc hd hp hq (by omega) (by omega) a t hf).mono fun e w' h => PutP.small h (by have := putL_length l more a; rw [hl.1, hm.1] at this; omega)

set_option maxRecDepth 100000 in
set_option maxHeartbeats 4000000 in
theorem tells_walk {p1 p2 p3 : Option Addr} {n1 n2 n3 c1 c2 c3 : Nat} {l more : List Ent} {ms : List Int} {w : World} (h1 : LEnt.Row w p1 n1 l) (k1 : n1 ≤ c1) (m1 : c1 ≤ 9223372036854775807) (g1 : Pl p1 c1) (h2 : LEnt.Row w p2 n2 more) (k2 : n2 ≤ c2) (m2 : c2 ≤ 9223372036854775807) (g2 : Pl p2 c2)
    (h3 : (Lay.int .i64).Row w p3 n3 ms) (a t was : Int) :
    Calls Try.prog 3 #[.slice p1 n1 c1, .int .i64 a, .int .i64 t, .slice p2 n2 c2, .slice p3 n3 c3, .int .i64 was] w fun e w' => e = .returned (.bool true) ∧ Ext w w' := by
  have H1 := Lib.hid h1
  have H2 := Lib.hid h2
  have H3 := Lib.hid h3.ints.1
  have G1 := Lib.hid g1
  have G2 := Lib.hid g2
  have hx : Ext w w := Ext.refl _
  have hn3 := h3.2.1
  clear h1 h2 h3 g1 g2
  go_enter Try.func3, Try.ntmps3
  go_wp2_with fail
  refine (head_any _).mono ?_
  rintro e w1 ⟨rfl, hx1⟩
  replace hx := Ext.trans hx hx1
  clear hx1
  go_wp2_with fail
  refine (small_any _ _ _ _ _ (H1.out.ext hx)).mono ?_
  rintro e w1 ⟨B, rfl, hb, hx1⟩
  replace hx := Ext.trans hx hx1
  clear hx1
  cases B
  · clear hb
    go_wp2
    go_ret
    exact ⟨rfl, hx⟩
  have hs1 : n1 ≤ 60 := by have := (hb.1 rfl).1; rw [H1.out.1] at this; exact this
  clear hb
  go_wp2_with fail
  refine (small_any _ _ _ _ _ (H2.out.ext hx)).mono ?_
  rintro e w1 ⟨B, rfl, hb, hx1⟩
  replace hx := Ext.trans hx hx1
  clear hx1
  cases B
  · clear hb
    go_wp2
    go_ret
    exact ⟨rfl, hx⟩
  have hs2 : n2 ≤ 60 := by have := (hb.1 rfl).1; rw [H2.out.1] at this; exact this
  clear hb
  by_cases hs3 : n3 ≤ 60
  · have hs3' : decide ((60 : Int) < (n3 : Int)) = false := decide_eq_false (by omega)
    by_cases hf : fitsB l a t = true
    · obtain ⟨a, rfl⟩ := fitsB_nat hf
      have HF := Lib.hid hf
      clear hf
      go_wp2_with fail
      refine (put_s (H1.out.ext hx) (H2.out.ext hx) k1 k2 m1 m2 G1.out G2.out (by omega) (by omega) a t HF.out).mono ?_
      rintro e w1 ⟨⟨zA, nA, sA, rfl, hA, kA, mA, gA, bA⟩, hx1⟩
      replace hx := Ext.trans hx hx1
      clear hx1
      have HA := Lib.hid hA
      clear hA gA
      go_wp2_with fail
      refine (rput_s (H1.out.ext hx) (H2.out.ext hx) k1 k2 m1 m2 G1.out G2.out (by omega) (by omega) a t HF.out).mono ?_
      rintro e w1 ⟨⟨zC, nC, sC, rfl, hC, kC, mC, gC, bC⟩, hx1⟩
      replace HA := Lib.hid (HA.out.ext hx1)
      replace hx := Ext.trans hx hx1
      clear hx1
      have HC := Lib.hid hC
      clear hC gC
      have HFF := HF
      go_wp2_with fail
      refine (fits_any _ _ _ _ _ (H1.out.ext hx) _ _).mono ?_
      rintro e w' ⟨rfl, rfl⟩
      rw [HF.out]
      go_wp2_with fail
      refine (rfits_any _ _ _ _ _ (H1.out.ext hx) _ _).mono ?_
      rintro e w' ⟨rfl, rfl⟩
      rw [HF.out]
      go_wp2_with fail
      refine (rsame_any _ _ _ _ _ _ _ _ _ HA.out HC.out).mono ?_
      rintro e w1 ⟨rfl, hx1⟩
      rw [decide_eq_true rfl]
      replace HA := Lib.hid (HA.out.ext hx1)
      replace HC := Lib.hid (HC.out.ext hx1)
      replace hx := Ext.trans hx hx1
      clear hx1
      go_wp2_with fail
      refine (newer_any _ _ _ _ _ (H1.out.ext hx) _ _).mono ?_
      rintro e w' ⟨rfl, rfl⟩
      go_wp2_with fail
      refine (rnewer_any _ _ _ _ _ (H1.out.ext hx) _ _).mono ?_
      rintro e w' ⟨rfl, rfl⟩
      generalize newerB l t _ = NB
      have hNB : (NB == NB) = true := by simp
      go_wp2_with fail
      refine (commit_any _ _ _ _ _ _ _ _ _ (H1.out.ext hx) (H3.out.ext hx) (by omega) _ _).mono ?_
      rintro e w1 ⟨rfl, hx1⟩
      replace HA := Lib.hid (HA.out.ext hx1)
      replace HC := Lib.hid (HC.out.ext hx1)
      replace hx := Ext.trans hx hx1
      clear hx1
      go_wp2_with fail
      refine (rcommit_any _ _ _ _ _ _ _ _ _ (H1.out.ext hx) (H3.out.ext hx) (by omega) (by omega) _ _).mono ?_
      rintro e w1 ⟨rfl, hx1⟩
      replace HA := Lib.hid (HA.out.ext hx1)
      replace HC := Lib.hid (HC.out.ext hx1)
      replace hx := Ext.trans hx hx1
      clear hx1
      generalize commitL l t ms was = CM
      have hCM : (CM == CM) = true := by simp
      go_wp2_with fail
      refine (same_any _ _ _ _ _ _ _ _ _ (H1.out.ext hx) (H2.out.ext hx)).mono ?_
      rintro e w1 ⟨rfl, hx1⟩
      replace HA := Lib.hid (HA.out.ext hx1)
      replace HC := Lib.hid (HC.out.ext hx1)
      replace hx := Ext.trans hx hx1
      clear hx1
      go_wp2_with fail
      refine (rsame_any _ _ _ _ _ _ _ _ _ (H1.out.ext hx) (H2.out.ext hx)).mono ?_
      rintro e w1 ⟨rfl, hx1⟩
      replace HA := Lib.hid (HA.out.ext hx1)
      replace HC := Lib.hid (HC.out.ext hx1)
      replace hx := Ext.trans hx hx1
      clear hx1
      generalize decide (l = more) = SM
      have hSM : (SM == SM) = true := by simp
      go_wp2
      go_ret
      exact ⟨rfl, hx⟩
    · have hf0 : fitsB l a t = false := by simpa using hf
      have HF := Lib.hid hf0
      clear hf hf0
      go_wp2_with fail
      refine (put_not _ _ _ _ _ _ (H1.out.ext hx) _ _ HF.out).mono ?_
      rintro e w' ⟨rfl, rfl⟩
      go_wp2_with fail
      refine (rput_not _ _ _ _ _ _ (H1.out.ext hx) _ _ HF.out).mono ?_
      rintro e w' ⟨rfl, rfl⟩
      go_wp2_with fail
      refine (fits_any _ _ _ _ _ (H1.out.ext hx) _ _).mono ?_
      rintro e w' ⟨rfl, rfl⟩
      rw [HF.out]
      go_wp2_with fail
      refine (rfits_any _ _ _ _ _ (H1.out.ext hx) _ _).mono ?_
      rintro e w' ⟨rfl, rfl⟩
      rw [HF.out]
      go_wp2_with fail
      refine (rsame_any _ _ _ _ _ _ _ _ _ (Lay.Row.nil LEnt _ _) (Lay.Row.nil LEnt _ _)).mono ?_
      rintro e w1 ⟨rfl, hx1⟩
      rw [decide_eq_true rfl]
      replace hx := Ext.trans hx hx1
      clear hx1
      go_wp2_with fail
      refine (newer_any _ _ _ _ _ (H1.out.ext hx) _ _).mono ?_
      rintro e w' ⟨rfl, rfl⟩
      go_wp2_with fail
      refine (rnewer_any _ _ _ _ _ (H1.out.ext hx) _ _).mono ?_
      rintro e w' ⟨rfl, rfl⟩
      generalize newerB l t _ = NB
      have hNB : (NB == NB) = true := by simp
      go_wp2_with fail
      refine (commit_any _ _ _ _ _ _ _ _ _ (H1.out.ext hx) (H3.out.ext hx) (by omega) _ _).mono ?_
      rintro e w1 ⟨rfl, hx1⟩
      replace hx := Ext.trans hx hx1
      clear hx1
      go_wp2_with fail
      refine (rcommit_any _ _ _ _ _ _ _ _ _ (H1.out.ext hx) (H3.out.ext hx) (by omega) (by omega) _ _).mono ?_
      rintro e w1 ⟨rfl, hx1⟩
      replace hx := Ext.trans hx hx1
      clear hx1
      generalize commitL l t ms was = CM
      have hCM : (CM == CM) = true := by simp
      go_wp2_with fail
      refine (same_any _ _ _ _ _ _ _ _ _ (H1.out.ext hx) (H2.out.ext hx)).mono ?_
      rintro e w1 ⟨rfl, hx1⟩
      replace hx := Ext.trans hx hx1
      clear hx1
      go_wp2_with fail
      refine (rsame_any _ _ _ _ _ _ _ _ _ (H1.out.ext hx) (H2.out.ext hx)).mono ?_
      rintro e w1 ⟨rfl, hx1⟩
      replace hx := Ext.trans hx hx1
      clear hx1
      generalize decide (l = more) = SM
      have hSM : (SM == SM) = true := by simp
      go_wp2
      go_ret
      exact ⟨rfl, hx⟩
  · have hs3' : decide ((60 : Int) < (n3 : Int)) = true := decide_eq_true (by omega)
    go_wp2
    go_ret
    exact ⟨rfl, hx⟩
end Go.Proofs.Ytppckbhbgohbiaa.Lg
