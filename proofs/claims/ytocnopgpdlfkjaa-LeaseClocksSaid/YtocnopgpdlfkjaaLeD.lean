/- Leases: whose they are. -/
import Derived.Test.YtocnopgpdlfkjaaLeC
import Derived.Test.YtocnopgpdlfkjaaSortI
import Derived.Test.YtocnopgpdlfkjaaLayInts
namespace Go.Proofs.Ytocnopgpdlfkjaa.Ls
open Go.RowKit Go.Proofs.Ytocnopgpdlfkjaa Go.Sort
set_option linter.unusedVariables false

theorem info_int : (Try.prog.info? 3).map (fun i => (i.zero, i.size, i.bytes)) = some (some (.int .i64 0), (Lay.int .i64).size, 8) := by kernel_rfl
def cls (l : List Le) : List Int := l.map (·.c)
theorem cls_snoc (l : List Le) (j : Nat) (x : Le) (h : l[j]? = some x) : cls (l.take (j + 1)) = cls (l.take j) ++ [x.c] := by
  unfold cls; rw [List.take_add_one, h]; simp
def ClR (w : World) (l : List Le) (n : Nat) (v i : Value) (wr : World) : Prop := ∃ j : Nat, j ≤ n ∧ i = .int .i64 j ∧ (Lay.int .i64).Own wr w.heap.size 3 v (cls (l.take j)) ∧ Ext w wr
def RetCl (zs : List Int) (w : World) (e : Ending) (w' : World) : Prop := (∃ v L, e = .returned v ∧ (Lay.int .i64).Sl w' v L ∧ Hid (Rising zs L)) ∧ Ext w w'

set_option maxRecDepth 100000 in
set_option maxHeartbeats 4000000 in
theorem clients_v (u : Value) (l : List Le) (w : World) (hu : LLe.Sl w u l) (hn : l.length ≤ 100000) (h0 : 0 < l.length) : Calls Try.prog 33 #[u] w (RetCl (cls l) w) := by
  obtain ⟨i0, hi0, hzi0, hzi1, hzi2⟩ := info_parts info_int
  obtain ⟨p, n, c, rfl, hr, _, _, _⟩ := hu
  have HP := Lib.hid hr
  have hn63 := hr.2.1
  have HN : Hid (n ≤ 100000) := Lib.hid (by rw [← hr.1]; exact hn)
  have H0 := Lib.hid h0
  clear hr hn h0
  go_enter Try.func33, Try.ntmps33
  go_wp2
  go_loopw [3, 8] (fun v i wr => ClR w l n v i wr) (fun _ i _ => n - (intOf i).toNat)
  case atStart => exact ⟨0, by omega, rfl, Lay.Own.nil _ _ _ _, Ext.refl _⟩
  case round =>
    obtain ⟨j, hj, rfl, hown, hx⟩ := hrel
    have HO := Lib.hid hown
    clear hown
    by_cases hlt : j < n
    · obtain ⟨x, gx⟩ := get_of l j (by rw [HP.out.1]; exact hlt)
      obtain ⟨b, off, rfl, hw, c0, c1, c2, c3, c4, c5, c6⟩ := le_at (HP.out.ext hx) gx
      have HS := Lib.hid (cls_snoc l j x gx)
      have HW := Lib.hid hw
      have hlt' : (j : Int) < (n : Int) := by omega
      have hlt0 : (0 : Int) ≤ (j : Int) := by omega
      have HLEN : Hid ((cls (l.take j)).length ≤ 100000) := Lib.hid (by have := HN.out; unfold cls; simp; omega)
      have HM63 : Hid ((cls (l.take j)).length + 1 ≤ maxLen) := Lib.hid (by have := HLEN.out; unfold maxLen; omega)
      have HMB : Hid (((cls (l.take j)).length + 1) * 8 ≤ 140737488355328) := Lib.hid (by have := HLEN.out; omega)
      clear gx hw
      go_wp2_with (at_builtin; refine Lay.wpList_append (E := Lay.int .i64) rfl (.tmp 12) (.tmp 15) 30 rfl w.heap.size 3 i0 (.int .i64 0) 8 Try.underlying30 hi0 hzi0 hzi1 hzi2 rfl _ (cls (l.take j)) rfl (HO.out.ext (Ext.trans (Ext.alloc _ _) (Ext.alloc _ _))) (some ⟨wr.heap.size + 1, 0, none⟩) 1 1 ([x.c]) rfl (fun _ => ⟨_, _, rfl⟩) (Nat.le_refl _) ((Lay.plainR_int _).plain.lit (Ext.refl _) (Lay.All.single ⟨rfl, HW.out.1⟩) (by simp) rfl (by decide)) HM63.out HMB.out (Nat.le_trans hx.size (show wr.heap.size ≤ _ from by simp; omega)) ?_; intro v2 w2 hown2 hg2; have X3 := HO.out.below hx (Nat.le_refl _) (grown_of (Ext.trans (Ext.alloc _ _) (Ext.alloc _ _)) hg2); rw [← HS.out] at hown2; have HO3 := Lib.hid hown2; clear hown2 hg2)
      go_roundw
      case rel => exact ⟨j + 1, by omega, by go_num, HO3.out, X3⟩
      case measure => simp [intOf]; omega
    · obtain rfl : j = n := by omega
      have e0 : l.take j = l := List.take_of_length_le (by rw [HP.out.1]; omega)
      rw [e0] at HO
      clear e0
      obtain ⟨L, hL⟩ : ∃ L, cls l = L := ⟨_, rfl⟩
      rw [hL] at HO
      have HLC := Lib.hid hL
      have HLL : Hid (0 < L.length ∧ L.length ≤ 100000) := Lib.hid (by rw [← hL]; unfold cls; rw [List.length_map]; exact ⟨H0.out, by rw [HP.out.1]; exact HN.out⟩)
      clear hL
      obtain ⟨g, cp, rfl, hg⟩ := HO.out.full HLL.out.1
      have HG := Lib.hid hg
      have HXX := Lib.hid hx
      have HH : Hid (Holds (Value.int .i64) wr g 0 L.toArray) := Lib.hid (own_holdsI HO.out)
      have HCP : Hid (L.length ≤ cp ∧ cp ≤ 9223372036854775807) := Lib.hid (by
        obtain ⟨p1, c1, e1, _, a1, a2, _⟩ := HO.out.opened
        simp only [Value.slice.injEq, true_and] at e1
        obtain ⟨_, rfl⟩ := e1
        exact ⟨a1, a2⟩)
      have HWF : Hid (∀ x ∈ L, (Lit.int .i64 x).wf = true) := Lib.hid (by
        obtain ⟨p1, c1, e1, hr1, _⟩ := HO.out.opened
        exact hr1.wf)
      have hcon := AnyM.slices_Sort_int Try.sortInt g 0 cp L wr HH.out (HO.out.lt g rfl).2 (by have := HLL.out.2; omega)
      change Calls Try.prog 54 _ _ _ at hcon
      have HC := Lib.hid hcon
      have HLT := Lib.hid (HO.out.lt g rfl).2
      clear hcon hg HO hx
      go_wp2_with fail
      refine HC.out.mono ?_
      rintro e w2 ⟨rfl, m, os, hw2⟩
      obtain ⟨d, hd⟩ : ∃ d, (L.mergeSort fun x y => decide (x ≤ y)).toArray = d := ⟨_, rfl⟩
      have HR : Hid (Rising L (Lib.compactUpTo d d.size)) := Lib.hid (by rw [← hd]; exact rising_compact L)
      have HDS : Hid (d.size = L.length) := Lib.hid (by rw [← hd]; simp)
      have HDW : Hid (∀ x ∈ d.toList, (Lit.int .i64 x).wf = true) := Lib.hid (by
        rw [← hd]
        intro x hx
        exact HWF.out x ((List.mergeSort_perm L _).mem_iff.1 hx))
      rw [hd] at hw2
      have HH2 : Hid (Holds (Value.int .i64) w2 g 0 d) := Lib.hid (by
        rw [hw2]
        exact holds_grow _ _ _ _ _ _ (by rw [size_putRow]; exact HLT.out) (holds_putRow _ _ _ _ _ _ (holds_ahead _ _ _ _ _ _ HH.out) (by rw [HDS.out]; simp)))
      have HX2 : Hid (Ext w w2) := Lib.hid (by rw [hw2]; exact ext_putRow HXX.out HG.out)
      have hcon := AnyE.slices_Compact Try.compactInt (Value.int .i64) (fun _ => rfl) (EqlAt.intD _ _ _) (NeqAt.intD _ _ _) 0 (fun w => rfl) g 0 cp d w2 HH2.out (by rw [HDS.out]; have := HLL.out.2; omega) (by rw [HDS.out]; exact HCP.out.1)
      change Calls Try.prog 55 _ _ _ at hcon
      rw [HDS.out] at hcon
      have HC2 := Lib.hid hcon
      clear hcon hw2 HC HH hd
      go_wp2_with fail
      refine HC2.out.mono ?_
      rintro e w3 ⟨rfl, q, hw3⟩
      obtain ⟨K, hK⟩ : ∃ K, Lib.compactUpTo d d.size = K := ⟨_, rfl⟩
      rw [← HDS.out, hK] at hw3
      have HR2 : Hid (Rising L K) := Lib.hid (by rw [← hK]; exact HR.out)
      have HKL : Hid (K.length ≤ d.size) := Lib.hid (by rw [HDS.out]; exact HR2.out.2.2)
      have HX3 : Hid (Ext w w3) := Lib.hid (by rw [hw3, ← grow_empty (putRow _ _ _ _ _)]; exact ext_putRow HX2.out HG.out)
      have HH3 : Hid (Holds (Value.int .i64) w3 g 0 (K ++ List.replicate (d.size - K.length) 0).toArray) := Lib.hid (by
        rw [hw3]
        exact holds_putRow _ _ _ _ _ _ (holds_ahead _ _ _ _ _ _ HH2.out) (by have := HKL.out; simp; omega))
      have HRW : Hid ((Lay.int .i64).Row w3 (some ⟨g, 0, none⟩) K.length K) := Lib.hid (by
        have hall : ∀ x ∈ (K ++ List.replicate (d.size - K.length) (0 : Int)).toArray.toList, (Lit.int .i64 x).wf = true := by
          intro x hx
          rcases List.mem_append.1 (show x ∈ K ++ List.replicate (d.size - K.length) (0 : Int) from hx) with h | h
          · exact HWF.out x ((HR2.out.2.1 x).1 h)
          · rw [(List.mem_replicate.1 h).2]; decide
        have h1 := holds_row HH3.out K.length (by simp) (by have := HKL.out; have := HDS.out; have := HLL.out; omega) hall
        simpa using h1)
      rw [← HDS.out, hK]
      obtain ⟨kn, hkn⟩ : ∃ kn, K.length = kn := ⟨_, rfl⟩
      have HKN := Lib.hid hkn
      rw [hkn]
      clear hw3 hK HH3 HC2 hkn
      go_wp2
      go_ret
      exact ⟨⟨_, _, rfl, ⟨_, _, _, rfl, (by rw [← HKN.out]; exact HRW.out), (by have := HKN.out; have := HKL.out; have := HDS.out; have := HCP.out; omega), HCP.out.2, fun _ => ⟨_, _, rfl⟩⟩, Lib.hid (by rw [HLC.out]; exact HR2.out)⟩, HX3.out⟩
end Go.Proofs.Ytocnopgpdlfkjaa.Ls
