/- ExprKnown: what its closed texts are read as and printed as. -/
import Derived.Test.YtbjdnniklcmcbaaDoorLk
namespace Go.Proofs.YtbjdnniklcmcbaaDoor
namespace Px
theorem kn_text (x : Ex) (s : List UInt8) (h : Wf x) (hd : D x 1 ≤ 8) (ht : T x 1 = s) (hl : s.length ≤ 6000) : print x = s := by
  rw [(written h hd (by rw [ht]; exact hl)).2.1, ht]
def kx0 : Ex := binE 5 (binE 5 (numE 1) (binE 5 (numE 2) (numE 3))) (nameE [120])
theorem kr0 : rd [49, 32, 45, 32, 40, 50, 32, 45, 32, 51, 41, 32, 45, 32, 120] = (some kx0, 9, 10) := by kernel_rfl
theorem kw0 : Wf kx0 := .bin 5 _ _ (by decide) (by decide) (.bin 5 _ _ (by decide) (by decide) (.num 1 (by decide)) (.bin 5 _ _ (by decide) (by decide) (.num 2 (by decide)) (.num 3 (by decide)))) (.name _ (by decide))
theorem kp0 : print kx0 = [49, 32, 45, 32, 40, 50, 32, 45, 32, 51, 41, 32, 45, 32, 120] := kn_text _ _ kw0 (by decide +kernel) (by kernel_rfl) (by decide)
def kx1 : Ex := binE 10 (binE 9 (numE 1) (numE 2)) (binE 10 (nameE [121]) (numE 0))
theorem kr1 : rd [40, 49, 32, 60, 32, 50, 41, 32, 61, 61, 32, 40, 121, 32, 61, 61, 32, 48, 41] = (some kx1, 11, 12) := by kernel_rfl
theorem kw1 : Wf kx1 := .bin 10 _ _ (by decide) (by decide) (.bin 9 _ _ (by decide) (by decide) (.num 1 (by decide)) (.num 2 (by decide))) (.bin 10 _ _ (by decide) (by decide) (.name _ (by decide)) (.num 0 (by decide)))
theorem kp1 : print kx1 = [40, 49, 32, 60, 32, 50, 41, 32, 61, 61, 32, 40, 121, 32, 61, 61, 32, 48, 41] := kn_text _ _ kw1 (by decide +kernel) (by kernel_rfl) (by decide)
def kx2 : Ex := binE 7 (binE 6 (nameE [97]) (binE 8 (binE 7 (nameE [98]) (nameE [99])) (nameE [100]))) (nameE [101])
theorem kr2 : rd [97, 32, 42, 32, 40, 98, 32, 47, 32, 99, 32, 37, 32, 100, 41, 32, 47, 32, 101] = (some kx2, 11, 12) := by kernel_rfl
theorem kw2 : Wf kx2 := .bin 7 _ _ (by decide) (by decide) (.bin 6 _ _ (by decide) (by decide) (.name _ (by decide)) (.bin 8 _ _ (by decide) (by decide) (.bin 7 _ _ (by decide) (by decide) (.name _ (by decide)) (.name _ (by decide))) (.name _ (by decide)))) (.name _ (by decide))
theorem kp2 : print kx2 = [97, 32, 42, 32, 40, 98, 32, 47, 32, 99, 32, 37, 32, 100, 41, 32, 47, 32, 101] := kn_text _ _ kw2 (by decide +kernel) (by kernel_rfl) (by decide)
def kx3 : Ex := binE 6 (minusE (minusE (nameE [120]))) (minusE (binE 4 (numE 1) (numE 2)))
theorem kr3 : rd [45, 45, 120, 32, 42, 32, 45, 40, 49, 32, 43, 32, 50, 41] = (some kx3, 10, 11) := by kernel_rfl
theorem kw3 : Wf kx3 := .bin 6 _ _ (by decide) (by decide) (.minus _ (.minus _ (.name _ (by decide)))) (.minus _ (.bin 4 _ _ (by decide) (by decide) (.num 1 (by decide)) (.num 2 (by decide))))
theorem kp3 : print kx3 = [45, 45, 120, 32, 42, 32, 45, 40, 49, 32, 43, 32, 50, 41] := kn_text _ _ kw3 (by decide +kernel) (by kernel_rfl) (by decide)
def kx4 : Ex := binE 4 (minusE (binE 9 (minusE (numE 1)) (numE 2))) (numE 0)
theorem kr4 : rd [45, 40, 45, 49, 32, 60, 32, 50, 41, 32, 43, 32, 48] = (some kx4, 9, 10) := by kernel_rfl
theorem kw4 : Wf kx4 := .bin 4 _ _ (by decide) (by decide) (.minus _ (.bin 9 _ _ (by decide) (by decide) (.minus _ (.num 1 (by decide))) (.num 2 (by decide)))) (.num 0 (by decide))
theorem kp4 : print kx4 = [45, 40, 45, 49, 32, 60, 32, 50, 41, 32, 43, 32, 48] := kn_text _ _ kw4 (by decide +kernel) (by kernel_rfl) (by decide)
def kx5 : Ex := nameE [120]
theorem kr5 : rd [120] = (some kx5, 1, 2) := by kernel_rfl
theorem kw5 : Wf kx5 := .name _ (by decide)
theorem kp5 : print kx5 = [120] := kn_text _ _ kw5 (by decide +kernel) (by kernel_rfl) (by decide)
def kx6 : Ex := binE 9 (binE 5 (numE 1) (binE 6 (numE 2) (binE 4 (numE 3) (numE 4)))) (binE 8 (numE 5) (numE 6))
theorem kr6 : rd [49, 32, 45, 32, 50, 32, 42, 32, 40, 51, 32, 43, 32, 52, 41, 32, 60, 32, 53, 32, 37, 32, 54] = (some kx6, 13, 14) := by kernel_rfl
theorem kw6 : Wf kx6 := .bin 9 _ _ (by decide) (by decide) (.bin 5 _ _ (by decide) (by decide) (.num 1 (by decide)) (.bin 6 _ _ (by decide) (by decide) (.num 2 (by decide)) (.bin 4 _ _ (by decide) (by decide) (.num 3 (by decide)) (.num 4 (by decide))))) (.bin 8 _ _ (by decide) (by decide) (.num 5 (by decide)) (.num 6 (by decide)))
theorem kp6 : print kx6 = [49, 32, 45, 32, 50, 32, 42, 32, 40, 51, 32, 43, 32, 52, 41, 32, 60, 32, 53, 32, 37, 32, 54] := kn_text _ _ kw6 (by decide +kernel) (by kernel_rfl) (by decide)
def kx7 : Ex := binE 6 (binE 10 (nameE [97]) (nameE [98])) (nameE [99])
theorem kr7 : rd [40, 97, 32, 61, 61, 32, 98, 41, 32, 42, 32, 99] = (some kx7, 7, 8) := by kernel_rfl
theorem kw7 : Wf kx7 := .bin 6 _ _ (by decide) (by decide) (.bin 10 _ _ (by decide) (by decide) (.name _ (by decide)) (.name _ (by decide))) (.name _ (by decide))
theorem kp7 : print kx7 = [40, 97, 32, 61, 61, 32, 98, 41, 32, 42, 32, 99] := kn_text _ _ kw7 (by decide +kernel) (by kernel_rfl) (by decide)
def kz0 : Option Ex := none
theorem kq0 : rd [120, 32, 43, 32, 41] = (kz0, 2, 4) := by kernel_rfl
def kz1 : Option Ex := some (nameE [120])
theorem kq1 : rd [120, 32, 121] = (kz1, 1, 3) := by kernel_rfl
def kz2 : Option Ex := some (binE 9 (numE 1) (numE 2))
theorem kq2 : rd [49, 32, 60, 32, 50, 32, 60, 32, 51] = (kz2, 3, 6) := by kernel_rfl
def kz3 : Option Ex := none
theorem kq3 : rd [40, 32, 120] = (kz3, 2, 3) := by kernel_rfl
def kz4 : Option Ex := none
theorem kq4 : rd [103, 111] = (kz4, 0, 2) := by kernel_rfl
def kz5 : Option Ex := some (nameE [120])
theorem kq5 : rd [40, 40, 40, 40, 40, 40, 40, 40, 120, 41, 41, 41, 41, 41, 41, 41, 41] = (kz5, 17, 18) := by kernel_rfl
def kz6 : Option Ex := none
theorem kq6 : rd [40, 40, 40, 40, 40, 40, 40, 40, 40, 120, 41, 41, 41, 41, 41, 41, 41, 41, 41] = (kz6, 8, 20) := by kernel_rfl
def kz7 : Option Ex := none
theorem kq7 : rd [45, 45, 45, 45, 45, 45, 45, 45, 32, 45, 120] = (kz7, 8, 11) := by kernel_rfl
def kz8 : Option Ex := none
theorem kq8 : rd [] = (kz8, 0, 1) := by kernel_rfl
theorem kn0 : print ex0 = [] := by kernel_rfl
theorem kn1 : print (.mk 1 (-1) e0 []) = [] := by kernel_rfl
theorem kn2 : print (.mk 2 0 ⟨#[103, 111]⟩ []) = [] := by kernel_rfl
theorem kn3 : print (.mk 2 0 ⟨#[120, 32, 121]⟩ []) = [] := by kernel_rfl
theorem kn4 : print (.mk 1 0 ⟨#[120]⟩ []) = [] := by kernel_rfl
theorem kn5 : print (.mk 3 0 e0 []) = [] := by kernel_rfl
end Px
#print axioms Px.kn5
end Go.Proofs.YtbjdnniklcmcbaaDoor
