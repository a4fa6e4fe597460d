/- Maps whose keys are new each time: what a store of a new key, the length, and a step of a range do, for maps of places and maps of texts. -/
import Derived.Test.YthkooeohhgpkcaaDoorWalksI
import Derived.Maps.RangeRun
namespace Go.Proofs.YthkooeohhgpkcaaDoor
open Go.RowKit
open Go.ChangeMaps (setBlock)

theorem run_setObj_map {P : Program} {w : World} {r : Nat} {es : Array MapEntry} {c : Nat} (hr : w.heap[r]? = some (.map es c)) (o' : Obj) : (setObj r o').run P w = .ok () (setBlock w r o') := by
  simp [setObj, Sem.run, hr, setBlock]

theorem run_equal_complex (w : World) (a b c d : Nat) : (Op.equal 24 (.complex .f64 a b) (.complex .f64 c d)).run Tryd.prog w = .ok (same a b c d) w := by
  have hu : Tryd.prog.underlying 24 = some (.complex .f64) := by kernel_rfl
  simp only [Op.equal, Op.maxDepth]
  rw [show (10000 : Nat) = 9999 + 1 from rfl, Op.equalIn]
  simp [run_underlying hu, Op.floatEq, same, FloatKind.format]

theorem ask_none (w : World) (a b : Nat) : ∀ (es : List MapEntry) (i : Nat), (∀ e ∈ es, ∃ x y, e.key = .complex .f64 x y ∧ same a b x y = false) → (Instr.findAsking 24 (.complex .f64 a b) es i).run Tryd.prog w = .ok none w
  | [], i, _ => by simp [Instr.findAsking]
  | e :: es, i, h => by
    obtain ⟨x, y, hk, hs⟩ := h e (by simp)
    have ih := ask_none w a b es (i + 1) (fun z hz => h z (by simp [hz]))
    simp only [Instr.findAsking, hk]
    simp [run_equal_complex, hs, ih]

theorem find_none (w : World) (a b : Nat) (es : List MapEntry) (h : ∀ e ∈ es, ∃ x y, e.key = .complex .f64 x y ∧ same a b x y = false) : (Instr.findKey 24 (.complex .f64 a b) es).run Tryd.prog w = .ok none w := by
  have hu : Tryd.prog.underlying 24 = some (.complex .f64) := by kernel_rfl
  cases es with
  | nil => simp [Instr.findKey, run_underlying hu, Instr.findNow]
  | cons e es =>
    obtain ⟨x, y, hk, hs⟩ := h e (by simp)
    have := ask_none w a b (e :: es) 0 h
    simp [Instr.findKey, run_underlying hu, Instr.findNow, Instr.sameNow, hk, this]

theorem put_place (w : World) (r : Nat) (es : Array MapEntry) (clock a b : Nat) (v : Value) (hb : w.heap[r]? = some (.map es clock)) (h : ∀ e ∈ es.toList, ∃ x y, e.key = .complex .f64 x y ∧ same a b x y = false) :
    (Instr.mapUpdate 38 (.map (some r)) (.complex .f64 a b) v).run Tryd.prog w = .ok () (setBlock w r (.map (es.push { key := .complex .f64 a b, val := v, born := clock }) (clock + 1))) := by
  have hu : Tryd.prog.underlying 38 = some (.map 24 3) := by kernel_rfl
  have hk : (Instr.checkKey false 10000 24 (.complex .f64 a b)).run Tryd.prog w = .ok () w := by kernel_rfl
  have hf := find_none w a b es.toList h
  have hg : (getObj r).run Tryd.prog w = .ok (.map es clock) w := by simp [getObj, Sem.run, hb]
  simp only [Instr.mapUpdate, Sem.run_bind, run_underlying hu, Result.andThen, hg, hk, hf, run_setObj_map hb]

theorem put_text (w : World) (r : Nat) (es : Array MapEntry) (clock : Nat) (t : ByteArray) (v : Value) (hb : w.heap[r]? = some (.map es clock)) (h : ∀ e ∈ es.toList, ∃ x, e.key = .string x ∧ (t == x) = false) :
    (Instr.mapUpdate 39 (.map (some r)) (.string t) v).run Tryd.prog w = .ok () (setBlock w r (.map (es.push { key := .string t, val := v, born := clock }) (clock + 1))) := by
  have hu : Tryd.prog.underlying 39 = some (.map 9 4) := by kernel_rfl
  have hs : Tryd.prog.underlying 9 = some .string := by kernel_rfl
  have hk : (Instr.checkKey false 10000 9 (.string t)).run Tryd.prog w = .ok () w := by kernel_rfl
  have hn : ∀ (l : List MapEntry) (i : Nat), (∀ e ∈ l, ∃ x, e.key = .string x ∧ (t == x) = false) → Instr.findNow .string (.string t) l i = some none := by
    intro l
    induction l with
    | nil => intro i _; rfl
    | cons e l ih =>
      intro i hl
      obtain ⟨x, hx, hne⟩ := hl e (by simp)
      simp only [Instr.findNow, hx, Instr.sameNow, hne]
      exact ih (i + 1) (fun z hz => hl z (by simp [hz]))
  have hf : (Instr.findKey 9 (.string t) es.toList).run Tryd.prog w = .ok none w := by
    simp [Instr.findKey, run_underlying hs, hn es.toList 0 h]
  have hg : (getObj r).run Tryd.prog w = .ok (.map es clock) w := by simp [getObj, Sem.run, hb]
  simp only [Instr.mapUpdate, Sem.run_bind, run_underlying hu, Result.andThen, hg, hk, hf, run_setObj_map hb]

theorem len_map (w : World) (t ty k e : TypeId) (r : Nat) (es : Array MapEntry) (clock : Nat) (hu : Tryd.prog.underlying t = some (.map k e)) (hb : w.heap[r]? = some (.map es clock)) :
    (Builtin.len_ #[t] ty #[.map (some r)]).run Tryd.prog w = .ok (.int .i64 (es.size : Int)) w := by
  have hg : (getObj r).run Tryd.prog w = .ok (.map es clock) w := by simp [getObj, Sem.run, hb]
  simp [Builtin.len_, run_underlying hu, hg, goInt]

theorem range_map (w : World) (r : Nat) (es : Array MapEntry) (clock : Nat) (hb : w.heap[r]? = some (.map es clock)) :
    (Instr.range 38 (.map (some r))).run Tryd.prog w = .ok (.pointer (some ⟨w.heap.size, 0, none⟩)) (w.alloc (.mapIter (some r) clock #[] clock)) := by
  have hu : Tryd.prog.underlying 38 = some (.map 24 3) := by kernel_rfl
  have hg : (getObj r).run Tryd.prog w = .ok (.map es clock) w := by simp [getObj, Sem.run, hb]
  simp [Instr.range, run_underlying hu, hg]

end Go.Proofs.YthkooeohhgpkcaaDoor
