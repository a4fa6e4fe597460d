/- LexKnown answers true, at whatever memory in which ErrRange holds an error. -/
import Derived.Test.YtfjeijjllgocdaaDoorKnown
import Derived.Test.YtfjeijjllgocdaaDoorIsName
import Derived.Test.YtfjeijjllgocdaaDoorWalksD
import Derived.OwnWalk
namespace Go.Proofs.YtfjeijjllgocdaaDoor
open Go.RowKit

theorem toks_good_at (s : ByteArray) (ts : List Lx.Tk) (n : Nat) (h : Lx.toks s.data.toList = .good ts) (hn : ts.length = n) (h0 : 0 < n) (hs : s.size ≤ 1000000) (w : World) (hE : Er w) :
    Calls Tryd.prog 9 #[.string s] w fun e w' => ∃ g cap, e = .returned (.tuple #[.slice (some ⟨g, 0, none⟩) n cap, .complex .f64 0 0, .int .i64 0]) ∧ g < w'.heap.size ∧ Row s ts g w' ∧ Kept w w' := by
  refine (tokens_any s w (by omega) hE _ h).mono ?_
  rintro e w' ⟨v, p, q, rfl, ht⟩
  obtain ⟨g, cap, rfl, rfl, rfl, _, h2⟩ := told_good ht (by intro e; rw [e] at hn; simp at hn; omega)
  rw [hn]
  exact ⟨g, cap, rfl, h2⟩

theorem toks_bad_at (s : ByteArray) (q x y : Nat) (h : Lx.toks s.data.toList = .bad q) (hx : lineW s q = x) (hy : colW s q = y) (hs : s.size ≤ 1000000) (w : World) (hE : Er w) :
    Calls Tryd.prog 9 #[.string s] w fun e w' => e = .returned (.tuple #[.slice none 0 0, .complex .f64 x y, .int .i64 2]) ∧ Kept w w' := by
  refine (tokens_any s w (by omega) hE _ h).mono ?_
  rintro e w' ⟨v, p, q, rfl, rfl, rfl, rfl, hk⟩
  rw [hx, hy]
  exact ⟨rfl, hk⟩

def longText : ByteArray := ⟨(List.replicate 6001 (32 : UInt8)).toArray⟩
theorem long_list : longText.data.toList = List.replicate 6001 32 := rfl
theorem long_size : longText.size = 6001 := by show (List.replicate 6001 (32 : UInt8)).toArray.size = 6001; rw [List.size_toArray, List.length_replicate]
theorem long_toks : Lx.toks longText.data.toList = .bad 6000 := by
  unfold Lx.toks
  rw [if_pos (by rw [long_list, List.length_replicate]; omega)]
theorem long_place : lineW longText 6000 = 4607182418800017408 ∧ colW longText 6000 = 4663320183979376640 := by
  have h : Sp.spot (longText.data.toList.take 6000) = (1, 6001) := by
    rw [spot_flat]
    · rw [long_list, List.length_take, List.length_replicate]; rfl
    · intro c hc
      rw [long_list] at hc
      have := List.eq_of_mem_replicate (List.mem_of_mem_take hc)
      rw [this]; decide
  unfold lineW colW
  rw [h]
  exact ⟨one_rung.symm, by decide +kernel⟩

def sA : ByteArray := ⟨#[103, 111, 123, 10, 9, 120, 57, 61, 40, 51, 41, 37, 50, 10, 125, 61, 61, 61]⟩
def tA : List Lx.Tk := match Lx.toks sA.data.toList with | .good ts => ts | .bad _ => []
theorem tA_toks : Lx.toks sA.data.toList = .good tA := by decide +kernel
theorem tA_len : tA.length = 13 := by decide +kernel
theorem tA_at : tA[10]?.map (·.text) = some [61, 61] ∧ tA[11]?.map (·.text) = some [61] ∧ tA[2]?.map (·.at') = some 5 := by decide +kernel
theorem sA_place : lineW sA 5 = 4611686018427387904 ∧ colW sA 5 = 4611686018427387904 := by decide +kernel
def sB : ByteArray := ⟨#[57, 50, 50, 51, 51, 55, 50, 48, 51, 54, 56, 53, 52, 55, 55, 53, 56, 48, 55, 120, 32, 48]⟩
def tB : List Lx.Tk := match Lx.toks sB.data.toList with | .good ts => ts | .bad _ => []
theorem tB_toks : Lx.toks sB.data.toList = .good tB := by decide +kernel
theorem tB_len : tB.length = 4 := by decide +kernel
theorem tB_at : tB[0]?.map (·.n) = some 9223372036854775807 ∧ tB[1]?.map (·.text) = some [120] := by decide +kernel
def sC : ByteArray := ⟨#[97, 98, 99, 100, 101, 102, 103, 104, 105, 106, 107, 108, 35]⟩
def tC : List Lx.Tk := match Lx.toks sC.data.toList with | .good ts => ts | .bad _ => []
theorem tC_toks : Lx.toks sC.data.toList = .good tC := by decide +kernel
theorem tC_len : tC.length = 2 := by decide +kernel
def sD : ByteArray := ⟨#[]⟩
def tD : List Lx.Tk := match Lx.toks sD.data.toList with | .good ts => ts | .bad _ => []
theorem tD_toks : Lx.toks sD.data.toList = .good tD := by decide +kernel
theorem tD_len : tD.length = 1 := by decide +kernel

def sE : ByteArray := ⟨#[32, 10, 32, 126]⟩
theorem sE_bad : Lx.toks sE.data.toList = .bad 3 ∧ lineW sE 3 = 4611686018427387904 ∧ colW sE 3 = 4611686018427387904 := by decide +kernel
def sF : ByteArray := ⟨#[97, 32, 57, 50, 50, 51, 51, 55, 50, 48, 51, 54, 56, 53, 52, 55, 55, 53, 56, 48, 56]⟩
theorem sF_bad : Lx.toks sF.data.toList = .bad 2 ∧ lineW sF 2 = 4607182418800017408 ∧ colW sF 2 = 4613937818241073152 := by decide +kernel
def sG : ByteArray := ⟨#[48, 32, 48, 49]⟩
theorem sG_bad : Lx.toks sG.data.toList = .bad 2 ∧ lineW sG 2 = 4607182418800017408 ∧ colW sG 2 = 4613937818241073152 := by decide +kernel
def sH : ByteArray := ⟨#[97, 98, 99, 100, 101, 102, 103, 104, 105, 106, 107, 108, 109]⟩
theorem sH_bad : Lx.toks sH.data.toList = .bad 0 ∧ lineW sH 0 = 4607182418800017408 ∧ colW sH 0 = 4607182418800017408 := by decide +kernel
def sI : ByteArray := ⟨#[120, 89]⟩
theorem sI_bad : Lx.toks sI.data.toList = .bad 1 ∧ lineW sI 1 = 4607182418800017408 ∧ colW sI 1 = 4611686018427387904 := by decide +kernel

end Go.Proofs.YtfjeijjllgocdaaDoor
