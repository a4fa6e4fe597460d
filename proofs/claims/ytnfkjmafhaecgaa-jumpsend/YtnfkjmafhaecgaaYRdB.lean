/- RdB -/
import Derived.Test.YtnfkjmafhaecgaaYRdA

namespace Go.Proofs.Ytnfkjmafhaecgaa
open Go.RowKit
attribute [local go_sem] run_store_complex
/-- The world behind the answer's own new cell. -/
abbrev zw (w : World) : World := w.alloc (.cells #[.int .i64 0, .int .i64 0, .string ⟨#[]⟩, .slice none 0 0] 44)
theorem zw_kept (w : World) : Kept w (zw w) := (Kept.refl _).al _
theorem zw_size (w : World) : (zw w).heap.size = w.heap.size + 1 := by simp
theorem zw_bx (w : World) : Bx (zw w) w.heap.size 0 0 ⟨#[]⟩ (.slice none 0 0) := Bx.new ..
theorem up_tree {w w1 : World} {x : Ex} {v : Value} (h : ExsIn w1 (zw w).heap.size w1.heap.size x.of v) : ExsD w1 (fun k => w.heap.size < k ∧ k < w1.heap.size) x.of v :=
  h.mono fun k hk => ⟨by have := hk.1; rw [zw_size] at this; omega, hk.2⟩
theorem heap_at {W : World} {k : Nat} (h : W.heap.size = k) (o : Obj) : (W.alloc o).heap[k]? = some o := by subst h; exact heap_alloc_new _ _
theorem tree_up {B : Nat} {cs : List Value} {wr W : World} {l : List Ex} {v : Value} (hK : Kept (wr.setCells B 0 cs) W) (hT : ExsD wr (fun k => B < k ∧ k < wr.heap.size) l v) : ExsD W (fun k => B < k ∧ k < W.heap.size) l v := by
  have hs := hK.size
  rw [size_setCells] at hs
  refine (hT.stays fun k hk => (hK.block k (by rw [size_setCells]; exact hk.2)).trans (heap_setCells _ _ _ _ k (by have := hk.1; omega))).mono fun k hk => ⟨hk.1, by have := hk.2; omega⟩
end Go.Proofs.Ytnfkjmafhaecgaa
namespace Go.Proofs.Ytnfkjmafhaecgaa
open Go.RowKit
attribute [local go_sem] run_store_complex
end Go.Proofs.Ytnfkjmafhaecgaa
namespace Go.Proofs.Ytnfkjmafhaecgaa
open Go.RowKit
attribute [local go_sem] run_store_complex
theorem results_cell_tmp2 {fn : Func} {p u v : Tmp} {ty : TypeId} (h : fn.results = #[.cell p ty, .tmp u, .tmp v]) (tmps : Array Value) (P : Program) (w : World) :
    (results fn tmps).run P w =
      ((asAddr (tmps.getD p undef)).run P w).andThen fun a w₁ => ((loadVar ty a).run P w₁).andThen fun x w₂ => .ok (.tuple #[x, tmps.getD u undef, tmps.getD v undef]) w₂ := by
  simp only [results, h]
  simp [Sem.run_bind, Result.andThen]
end Go.Proofs.Ytnfkjmafhaecgaa
