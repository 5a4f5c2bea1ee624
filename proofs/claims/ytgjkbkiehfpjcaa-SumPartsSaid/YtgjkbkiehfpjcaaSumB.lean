/- Contracts of block, many, Blocks, Check, and of the document's answer's functions. -/
import Derived.Test.YtgjkbkiehfpjcaaSumA
import Derived.Laws.MakeOwn
namespace Go.Proofs.Ytgjkbkiehfpjcaa.Sm
open Go.RowKit Go.Proofs.Ytgjkbkiehfpjcaa Go.Proofs.Ytgjkbkiehfpjcaa.Crc
set_option linter.unusedVariables false

theorem i64_xor_nat (a b : Nat) (ha : a < 4294967296) (hb : b < 4294967296) : bits .xor .i64 (a : Int) (b : Int) = ((a ^^^ b : Nat) : Int) := by
  have hx : a ^^^ b < 2 ^ 32 := Nat.xor_lt_two_pow (by omega) (by omega)
  simp only [bits, BitVec.ofInt_natCast, BitVec.toNat_xor, BitVec.toNat_ofNat]
  have h1 : a % 2 ^ IntKind.i64.bits = a := Nat.mod_eq_of_lt (by simp [IntKind.bits]; omega)
  have h2 : b % 2 ^ IntKind.i64.bits = b := Nat.mod_eq_of_lt (by simp [IntKind.bits]; omega)
  rw [h1, h2, IntKind.wrap_i64]
  omega

theorem info_int : (Try.prog.info? 3).map (fun i => (i.zero, i.size, i.bytes)) = some (some (.int .i64 0), 1, 8) := by kernel_rfl

set_option maxHeartbeats 400000 in
theorem many_any (p : Option Addr) (n c m : Nat) (w : World) (hn : n ≤ 1000000000) (hm : m = (n + 15) / 16) :
    Calls Try.prog 19 #[.slice p n c] w fun e w' => e = .returned (.int .i64 m) ∧ w = w' := by
  have HM := Lib.hid hm
  clear hm
  go_enter Try.func19, Try.ntmps19
  go_wp2
  go_ret
  exact ⟨ret_int (by have := HM.out; omega), rfl⟩

set_option maxHeartbeats 400000 in
theorem block_any (b off n c i : Nat) (w : World) (hn : n ≤ 1000000000) (hc : n ≤ c) (hi : 16 * i < n) :
    Calls Try.prog 20 #[.slice (some ⟨b, off, none⟩) n c, .int .i64 i] w fun e w' => e = .returned (.slice (some ⟨b, off + 16 * i, none⟩) (min 16 (n - 16 * i)) (c - 16 * i)) ∧ w = w' := by
  by_cases h : 16 * (i + 1) ≤ n
  · have h1 : ((i : Int) + 1) * 16 ≤ (n : Int) := by omega
    go_enter Try.func20, Try.ntmps20
    go_wp2
    go_ret
    exact ⟨ret_slice rfl (by omega) (by omega) (by omega), rfl⟩
  · go_enter Try.func20, Try.ntmps20
    go_wp2
    go_ret
    exact ⟨ret_slice rfl (by omega) (by omega) (by omega), rfl⟩

/-- a block of bytes, and its sum -/
def blk (l : List Nat) (i : Nat) : List Nat := (l.drop (16 * i)).take (min 16 (l.length - 16 * i))
def bsum (l : List Nat) (i : Nat) : Nat := sum (blk l i)
/-- the sums of all blocks -/
def bsums (l : List Nat) : List Int := (List.range ((l.length + 15) / 16)).map fun i => (bsum l i : Int)

def BlocksR (w : World) (l : List Nat) (m : Nat) (i : Value) (wr : World) : Prop :=
  ∃ k : Nat, i = .int .i64 k ∧ k ≤ m ∧ wr.ownsRow w.heap.size 3 1 (.slice (some ⟨w.heap.size, 0, none⟩) m m) m (fillK m k (fun i => .int .i64 (bsum l i)) (.int .i64 0)) ∧ Ext w wr

set_option maxRecDepth 100000 in
set_option maxHeartbeats 4000000 in
theorem blocks_any (p : Option Addr) (n c : Nat) (l : List Nat) (w : World) (hp : RowB w p n l) (hn : n ≤ 1000000) (hc : n ≤ c) :
    Calls Try.prog 13 #[.slice p n c] w fun e w' => ∃ g m, e = .returned (.slice (some ⟨g, 0, none⟩) m m) ∧ w'.ownsRow w.heap.size 3 1 (.slice (some ⟨g, 0, none⟩) m m) m ((bsums l).map (.int .i64)) ∧ Ext w w' := by
  obtain ⟨i0, hi0, hz0, hz1, hz2⟩ := info_parts info_int
  have HP := Lib.hid hp
  clear hp
  obtain ⟨m, hm⟩ : ∃ m, m = (n + 15) / 16 := ⟨_, rfl⟩
  have HM := Lib.hid hm
  have hm1 : m ≤ 1000000 := by omega
  clear hm
  have hmk := fun w => run_make (P := Try.prog) w 23 3 i0 (.int .i64 0) Try.underlying23 hi0 hz0 .i64 .i64 m m (by omega) (by omega) (by rw [hz2]; omega) (by omega)
  rw [hz1] at hmk
  have HMK := Lib.hid hmk
  clear hmk
  go_enter Try.func13, Try.ntmps13
  go_wp2_with fail
  refine (many_any _ _ _ m _ (by omega) HM.out).mono ?_
  rintro e w' ⟨rfl, rfl⟩
  have hmk := HMK.out
  go_wp2
  clear hmk HMK
  go_loopw [4, 10] (fun _ i wr => BlocksR w l m i wr) (fun _ i _ => m - (intOf i).toNat)
  case atStart =>
    refine ⟨0, rfl, by omega, ?_, Ext.alloc _ _⟩
    have h := World.ownsRow_lit (base := w.heap.size) (e := 3) (size := 1) w (madeCells #[.int .i64 0] m) m (Nat.le_refl _) (by unfold maxLen; omega) (by rw [size_madeCells]; omega)
    rw [toList_madeCells_one, ← fillK_zero m (fun i => .int .i64 (bsum l i))] at h
    exact h
  case round =>
    obtain ⟨k, rfl, hk, hown, hx⟩ := hrel
    have HO := Lib.hid hown
    clear hown
    by_cases hlt : k < m
    · have hkn : 16 * k < n := by have := HM.out; omega
      obtain ⟨b, off, rfl, _⟩ := HP.out.cells (by omega)
      have hlt' : (k : Int) < (m : Int) := by omega
      have hl := HP.out.length
      have hsub := (HP.out.ext hx).sub (16 * k) (min 16 (n - 16 * k)) (by omega)
      have HS := Lib.hid hsub
      clear hsub hl
      go_wp2_with fail
      refine (block_any b off n c k _ (by omega) hc hkn).mono ?_
      rintro e w' ⟨rfl, rfl⟩
      go_wp2_with fail
      refine (of_any _ _ _ _ _ HS.out).mono ?_
      rintro e w2 ⟨rfl, hx2⟩
      have hown2 := own_ext HO.out hx2
      have hx3 := Ext.trans hx hx2
      have cg := (hown2.cellAt k (by omega)).trans (fillK_get _ _ _ _ k hlt)
      have fg := hown2.frozenAt k
      have hst := (hown2.stored k (.int .i64 (bsum l k))).1
      rw [fillK_set m k (fun i => .int .i64 (bsum l i)) (.int .i64 0) hlt] at hst
      have hbs : sum (List.take (min 16 (n - 16 * k)) (List.drop (16 * k) l)) = bsum l k := by unfold bsum blk; rw [HP.out.length]
      have HST := Lib.hid hst
      clear hst hown2
      rw [hbs]
      clear hbs
      go_wp2
      go_roundw
      case rel => exact ⟨k + 1, by go_num, by omega, HST.out, hx3.setCell (Nat.le_refl _) _⟩
      case measure => simp [intOf]; omega
    · obtain rfl : k = m := by omega
      go_wp2
      go_ret
      refine ⟨w.heap.size, k, rfl, ?_, hx⟩
      have h := HO.out
      rw [fillK_all] at h
      unfold bsums
      rw [HP.out.length, ← HM.out, List.map_map]
      exact h
end Go.Proofs.Ytgjkbkiehfpjcaa.Sm
