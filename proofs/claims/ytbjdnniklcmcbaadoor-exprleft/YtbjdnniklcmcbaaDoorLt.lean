/- What the statements' own 'text' makes of raw numbers, and what it is made of. -/
import Derived.Test.YtbjdnniklcmcbaaDoorLk
import Derived.WalkKit
import Derived.Laws.Tables
import Derived.Deep.WholeRow
import Derived.Test.YtbjdnniklcmcbaaDoorHd
namespace Go.Proofs.YtbjdnniklcmcbaaDoor

theorem wpList_store_new {P : Program} {ops : Array Oper} {rest : List Oper} {op : Oper} {a : Act} {w : World} {Q : Exit → Act → World → Prop} (hgd : op.guard = none) (ty : TypeId) (x y : Operand) (ho : op.op = .store ty x y)
    (c c' : Array Value) (hx : a.eval x = .pointer (some ⟨w.heap.size, 0, none⟩)) (hy : a.eval y = .agg c') (hi : (P.info? ty).map (·.size) = some c'.size) (hs : c.size = c'.size) (h1 : c'.all (·.oneCell') = true)
    (h : wpList P ops Q rest (a.put op.dst undef) (w.alloc (.cells c' ty))) : wpList P ops Q (op :: rest) a (w.alloc (.cells c ty)) :=
  wpList_plain hgd fun _ hK => by
    unfold Oper.wp execOp
    simp only [ho, hx, hy, run_storeAt_new w ty c c' hi hs h1, Sem.run_bind, Result.andThen_ok]
    exact hK _ _ h

theorem wpList_build_to {P : Program} {ops : Array Oper} {rest : List Oper} {o : Oper} {a : Act} {w : World} {Q : Exit → Act → World → Prop} (hg : o.guard = none) (t : TypeId) (parts : Array (Nat × Operand)) (ho : o.op = .build t parts)
    (cells : Array Value) (hf : P.built t (parts.map fun (i, x) => (i, a.eval x)).toList = some cells)
    (h : wpList P ops Q rest (a.put o.dst (.agg cells)) w) : wpList P ops Q (o :: rest) a w :=
  wpList_build hg t parts ho (by rw [hf]; rfl) (by rw [hf]; exact h)

end Go.Proofs.YtbjdnniklcmcbaaDoor

namespace Go.Proofs.YtbjdnniklcmcbaaDoor
open Go.RowKit

def parts : Array ByteArray := #[⟨#[120]⟩, ⟨#[121]⟩, ⟨#[97]⟩, ⟨#[55]⟩, ⟨#[48]⟩, ⟨#[49, 50]⟩, ⟨#[43]⟩, ⟨#[45]⟩, ⟨#[42]⟩, ⟨#[47]⟩, ⟨#[37]⟩, ⟨#[60]⟩, ⟨#[61, 61]⟩, ⟨#[40]⟩, ⟨#[41]⟩, ⟨#[120]⟩, ⟨#[51]⟩, ⟨#[45]⟩, ⟨#[40]⟩, ⟨#[41]⟩, ⟨#[103, 111]⟩, ⟨#[61]⟩, ⟨#[123]⟩, ⟨#[57]⟩]
/-- What a number adds. -/
def piece (n : Int) : ByteArray := parts.getD (n % 24).toNat ⟨#[]⟩ ++ ⟨#[32]⟩
/-- The text of numbers. -/
def txt (l : List Int) : ByteArray := l.foldl (fun s n => s ++ piece n) ⟨#[]⟩
theorem txt_snoc (l : List Int) (n : Int) : txt (l ++ [n]) = txt l ++ piece n := by simp [txt]
theorem mod_lt24 (n : Int) : (n % 24).toNat < 24 := by
  have h1 := Int.emod_nonneg n (by omega : (24 : Int) ≠ 0)
  have h2 := Int.emod_lt_of_pos n (by omega : (0 : Int) < 24)
  omega
theorem piece_size (n : Int) : (piece n).size ≤ 3 := by
  have h : ∀ i : Nat, i < 24 → (parts.getD i ⟨#[]⟩).size ≤ 2 := by decide
  have := h _ (mod_lt24 n)
  unfold piece
  rw [ByteArray.size_append]
  have : (⟨#[32]⟩ : ByteArray).size = 1 := rfl
  omega
theorem txt_size (l : List Int) : (txt l).size ≤ 3 * l.length := by
  suffices h : ∀ n (l : List Int), l.length = n → (txt l).size ≤ 3 * l.length from h _ l rfl
  intro n
  induction n with
  | zero => intro l hl; have : l = [] := List.length_eq_zero_iff.1 hl; subst this; exact Nat.le_refl _
  | succ n ih =>
    intro l hl
    have hne : l ≠ [] := by intro e; rw [e] at hl; simp at hl
    obtain ⟨m, c, rfl⟩ : ∃ m c, l = m ++ [c] := ⟨l.dropLast, l.getLast hne, (List.dropLast_concat_getLast hne).symm⟩
    have := ih m (by simp at hl; omega)
    have h2 := piece_size c
    rw [txt_snoc, ByteArray.size_append, List.length_append]
    simp only [List.length_singleton]
    omega

/-! ### Its tokens -/
def pieceB (n : Int) : List UInt8 := (piece n).data.toList
theorem txt_bytes (l : List Int) : (txt l).data.toList = l.flatMap pieceB := by
  suffices h : ∀ (l : List Int) (s : ByteArray), (l.foldl (fun s n => s ++ piece n) s).data.toList = s.data.toList ++ l.flatMap pieceB by
    have := h l ⟨#[]⟩
    simpa [txt] using this
  intro l
  induction l with
  | nil => intro s; simp
  | cons a l ih => intro s; rw [List.foldl_cons, ih]; simp [pieceB]
/-- The token of a part. -/
def partTok : List Lx.Core := [(1, [120], 0), (1, [121], 0), (1, [97], 0), (2, [55], 7), (2, [48], 0), (2, [49, 50], 12), (3, [43], 0), (3, [45], 0), (3, [42], 0), (3, [47], 0), (3, [37], 0), (3, [60], 0), (3, [61, 61], 0), (3, [40], 0), (3, [41], 0), (1, [120], 0), (2, [51], 3), (3, [45], 0), (3, [40], 0), (3, [41], 0), (1, [103, 111], 0), (3, [61], 0), (3, [123], 0), (2, [57], 9)]
def tokOf (n : Int) : Lx.Core := partTok.getD (n % 24).toNat (4, [], 0)
theorem part_one : ∀ i : Nat, i < 24 → ∀ r, Lx.cr ((parts.getD i ⟨#[]⟩ ++ ⟨#[32]⟩).data.toList ++ r) = (Lx.cr r).map fun ts => partTok.getD i (4, [], 0) :: ts := by
  have step : ∀ (p : List UInt8) (t : Lx.Core) (c : UInt8) (d : List UInt8), p = c :: d → Lx.blank c = false → c ≠ 35 → (∀ r, Lx.one (c :: (d ++ 32 :: r)) = some (t.1, 1 + d.length, t.2.2)) → t.2.1 = p → ∀ r, Lx.cr ((p ++ [32]) ++ r) = (Lx.cr r).map fun ts => t :: ts := by
    intro p t c d hp hb h35 ho ht r
    subst hp
    have e0 : ((c :: d) ++ [32]) ++ r = c :: (d ++ 32 :: r) := by simp
    rw [e0, Lx.cr_one c _ hb h35 (ho r)]
    have e1 : (c :: (d ++ 32 :: r)).drop (1 + d.length) = 32 :: r := by rw [Nat.add_comm, List.drop_succ_cons, List.drop_left]
    have e2 : (c :: (d ++ 32 :: r)).take (1 + d.length) = c :: d := by rw [Nat.add_comm, List.take_succ_cons, List.take_left]
    rw [e1, e2, Lx.cr_blank 32 r (by decide)]
    obtain ⟨a, b, n⟩ := t
    simp only at ht
    subst ht
    rfl
  intro i hi r
  match i, hi with
  | 0, _ => exact step [120] (1, [120], 0) 120 [] rfl (by decide) (by decide) (fun r => by rw [Lx.one_cons, if_pos (by decide)]; simp [show Lx.goes 32 = false by decide]) rfl r
  | 1, _ => exact step [121] (1, [121], 0) 121 [] rfl (by decide) (by decide) (fun r => by rw [Lx.one_cons, if_pos (by decide)]; simp [show Lx.goes 32 = false by decide]) rfl r
  | 2, _ => exact step [97] (1, [97], 0) 97 [] rfl (by decide) (by decide) (fun r => by rw [Lx.one_cons, if_pos (by decide)]; simp [show Lx.goes 32 = false by decide]) rfl r
  | 3, _ => exact step [55] (2, [55], 7) 55 [] rfl (by decide) (by decide) (fun r => by rw [Lx.one_cons, if_neg (by decide), if_pos (by decide)]; simp only [List.nil_append, List.takeWhile_cons, show Lx.digit 32 = false by decide]; rfl) rfl r
  | 4, _ => exact step [48] (2, [48], 0) 48 [] rfl (by decide) (by decide) (fun r => by rw [Lx.one_cons, if_neg (by decide), if_pos (by decide)]; simp only [List.nil_append, List.takeWhile_cons, show Lx.digit 32 = false by decide]; rfl) rfl r
  | 5, _ => exact step [49, 50] (2, [49, 50], 12) 49 [50] rfl (by decide) (by decide) (fun r => by rw [Lx.one_cons, if_neg (by decide), if_pos (by decide)]; simp only [List.cons_append, List.nil_append, List.takeWhile_cons, show Lx.digit 32 = false by decide, show Lx.digit 50 = true by decide]; rfl) rfl r
  | 6, _ => exact step [43] (3, [43], 0) 43 [] rfl (by decide) (by decide) (fun r => by rw [Lx.one_cons, if_neg (by decide), if_neg (by decide), if_neg (by simp), if_pos (by decide)]; rfl) rfl r
  | 7, _ => exact step [45] (3, [45], 0) 45 [] rfl (by decide) (by decide) (fun r => by rw [Lx.one_cons, if_neg (by decide), if_neg (by decide), if_neg (by simp), if_pos (by decide)]; rfl) rfl r
  | 8, _ => exact step [42] (3, [42], 0) 42 [] rfl (by decide) (by decide) (fun r => by rw [Lx.one_cons, if_neg (by decide), if_neg (by decide), if_neg (by simp), if_pos (by decide)]; rfl) rfl r
  | 9, _ => exact step [47] (3, [47], 0) 47 [] rfl (by decide) (by decide) (fun r => by rw [Lx.one_cons, if_neg (by decide), if_neg (by decide), if_neg (by simp), if_pos (by decide)]; rfl) rfl r
  | 10, _ => exact step [37] (3, [37], 0) 37 [] rfl (by decide) (by decide) (fun r => by rw [Lx.one_cons, if_neg (by decide), if_neg (by decide), if_neg (by simp), if_pos (by decide)]; rfl) rfl r
  | 11, _ => exact step [60] (3, [60], 0) 60 [] rfl (by decide) (by decide) (fun r => by rw [Lx.one_cons, if_neg (by decide), if_neg (by decide), if_neg (by simp), if_pos (by decide)]; rfl) rfl r
  | 12, _ => exact step [61, 61] (3, [61, 61], 0) 61 [61] rfl (by decide) (by decide) (fun r => by rw [Lx.one_cons, if_neg (by decide), if_neg (by decide), if_pos ⟨rfl, rfl⟩]; rfl) rfl r
  | 13, _ => exact step [40] (3, [40], 0) 40 [] rfl (by decide) (by decide) (fun r => by rw [Lx.one_cons, if_neg (by decide), if_neg (by decide), if_neg (by simp), if_pos (by decide)]; rfl) rfl r
  | 14, _ => exact step [41] (3, [41], 0) 41 [] rfl (by decide) (by decide) (fun r => by rw [Lx.one_cons, if_neg (by decide), if_neg (by decide), if_neg (by simp), if_pos (by decide)]; rfl) rfl r
  | 15, _ => exact step [120] (1, [120], 0) 120 [] rfl (by decide) (by decide) (fun r => by rw [Lx.one_cons, if_pos (by decide)]; simp [show Lx.goes 32 = false by decide]) rfl r
  | 16, _ => exact step [51] (2, [51], 3) 51 [] rfl (by decide) (by decide) (fun r => by rw [Lx.one_cons, if_neg (by decide), if_pos (by decide)]; simp only [List.nil_append, List.takeWhile_cons, show Lx.digit 32 = false by decide]; rfl) rfl r
  | 17, _ => exact step [45] (3, [45], 0) 45 [] rfl (by decide) (by decide) (fun r => by rw [Lx.one_cons, if_neg (by decide), if_neg (by decide), if_neg (by simp), if_pos (by decide)]; rfl) rfl r
  | 18, _ => exact step [40] (3, [40], 0) 40 [] rfl (by decide) (by decide) (fun r => by rw [Lx.one_cons, if_neg (by decide), if_neg (by decide), if_neg (by simp), if_pos (by decide)]; rfl) rfl r
  | 19, _ => exact step [41] (3, [41], 0) 41 [] rfl (by decide) (by decide) (fun r => by rw [Lx.one_cons, if_neg (by decide), if_neg (by decide), if_neg (by simp), if_pos (by decide)]; rfl) rfl r
  | 20, _ => exact step [103, 111] (1, [103, 111], 0) 103 [111] rfl (by decide) (by decide) (fun r => by rw [Lx.one_cons, if_pos (by decide)]; simp [show Lx.goes 32 = false by decide, show Lx.goes 111 = true by decide]) rfl r
  | 21, _ => exact step [61] (3, [61], 0) 61 [] rfl (by decide) (by decide) (fun r => by rw [Lx.one_cons, if_neg (by decide), if_neg (by decide), if_neg (by simp), if_pos (by decide)]; rfl) rfl r
  | 22, _ => exact step [123] (3, [123], 0) 123 [] rfl (by decide) (by decide) (fun r => by rw [Lx.one_cons, if_neg (by decide), if_neg (by decide), if_neg (by simp), if_pos (by decide)]; rfl) rfl r
  | 23, _ => exact step [57] (2, [57], 9) 57 [] rfl (by decide) (by decide) (fun r => by rw [Lx.one_cons, if_neg (by decide), if_pos (by decide)]; simp only [List.nil_append, List.takeWhile_cons, show Lx.digit 32 = false by decide]; rfl) rfl r
  | j + 24, h => exact absurd h (by omega)
theorem cr_txt (l : List Int) : Lx.cr (l.flatMap pieceB) = some (l.map tokOf ++ [(4, [], 0)]) := by
  induction l with
  | nil => rfl
  | cons a l ih =>
    rw [List.flatMap_cons, show pieceB a = (parts.getD (a % 24).toNat ⟨#[]⟩ ++ ⟨#[32]⟩).data.toList from rfl, part_one _ (mod_lt24 a), ih]
    rfl
theorem part_cost : ∀ i : Nat, i < 24 → (partTok.getD i (4, [], 0)).2.1.length + 1 = (parts.getD i ⟨#[]⟩ ++ ⟨#[32]⟩).data.toList.length := by decide +kernel
theorem cost_txt (l : List Int) : Px.cost (l.map tokOf ++ [(4, [], 0)]) = (l.flatMap pieceB).length + 1 := by
  induction l with
  | nil => rfl
  | cons a l ih =>
    rw [List.map_cons, List.cons_append, Px.cost_cons, ih, List.flatMap_cons, List.length_append]
    have := part_cost _ (mod_lt24 a)
    show (partTok.getD (a % 24).toNat (4, [], 0)).2.1.length + 1 + _ = (parts.getD (a % 24).toNat ⟨#[]⟩ ++ ⟨#[32]⟩).data.toList.length + _ + 1
    omega
/-- WHAT WAS READ OF SUCH A TEXT CAN BE WRITTEN. -/
theorem read_txt {l : List Int} {ts : List Lx.Tk} (h : Lx.toks (txt l).data.toList = .good ts) {x : Ex} {m : List Lx.Core} (hr : Px.read (ts.map Lx.Tk.core) = (some x, m)) : Px.Wf x ∧ Px.D x 1 ≤ 8 ∧ (Px.T x 1).length ≤ 6000 ∧ x.size ≤ 6001 := by
  obtain ⟨h1, h2, h3, h4⟩ := Px.read_good h hr
  refine ⟨h1, h2, ?_, h4⟩
  obtain ⟨g1, g2⟩ := Px.toks_cr h
  rw [txt_bytes, cr_txt] at g2
  have e : ts.map Lx.Tk.core = l.map tokOf ++ [(4, [], 0)] := (Option.some.inj g2).symm
  rw [e, cost_txt] at h3
  rw [txt_bytes] at g1
  omega

def partCells : Array Value := parts.map Value.string
theorem parts_built (a : Act) : Tryd.prog.built 51 ((#[(0, Operand.const (.string ⟨#[120]⟩)), (1, Operand.const (.string ⟨#[121]⟩)), (2, Operand.const (.string ⟨#[97]⟩)), (3, Operand.const (.string ⟨#[55]⟩)), (4, Operand.const (.string ⟨#[48]⟩)), (5, Operand.const (.string ⟨#[49, 50]⟩)), (6, Operand.const (.string ⟨#[43]⟩)), (7, Operand.const (.string ⟨#[45]⟩)), (8, Operand.const (.string ⟨#[42]⟩)), (9, Operand.const (.string ⟨#[47]⟩)), (10, Operand.const (.string ⟨#[37]⟩)), (11, Operand.const (.string ⟨#[60]⟩)), (12, Operand.const (.string ⟨#[61, 61]⟩)), (13, Operand.const (.string ⟨#[40]⟩)), (14, Operand.const (.string ⟨#[41]⟩)), (15, Operand.const (.string ⟨#[120]⟩)), (16, Operand.const (.string ⟨#[51]⟩)), (17, Operand.const (.string ⟨#[45]⟩)), (18, Operand.const (.string ⟨#[40]⟩)), (19, Operand.const (.string ⟨#[41]⟩)), (20, Operand.const (.string ⟨#[103, 111]⟩)), (21, Operand.const (.string ⟨#[61]⟩)), (22, Operand.const (.string ⟨#[123]⟩)), (23, Operand.const (.string ⟨#[57]⟩))] : Array (Nat × Operand)).map fun (i, x) => (i, a.eval x)).toList = some partCells := by kernel_rfl
theorem parts_info : (Tryd.prog.info? 51).map (·.size) = some partCells.size := by kernel_rfl
theorem parts_one : partCells.all (·.oneCell') = true := by kernel_rfl
theorem parts_size : (24 : Nat) = partCells.size := by kernel_rfl
theorem part_cell (w : World) (m : Nat) (hm : m < 24) : (w.alloc (.cells partCells 51)).cell? ⟨w.heap.size, m, none⟩ = some (.string (parts.getD m ⟨#[]⟩)) := by
  have h : partCells[m]? = some (.string (parts.getD m ⟨#[]⟩)) := by
    have hs : m < parts.size := by rw [show parts.size = 24 by rfl]; exact hm
    simp [partCells, hs, Array.getD]
  rw [cell_of_row _ _ m partCells 51 (0, 0) (heap_alloc_last w _)]
  exact h
theorem txt_take (l : List Int) (k : Nat) (h : k < l.length) : txt (l.take (k + 1)) = txt (l.take k) ++ piece l[k] := by
  rw [List.take_succ_eq_append_getElem h, txt_snoc]

set_option maxRecDepth 100000 in
set_option maxHeartbeats 1000000 in
theorem text_any (l : List Int) (v : Value) (w : World) (h : IntsR w w.heap.size l v) (hl : l.length ≤ 17592186044416) :
    Calls Tryd.prog 11 #[v] w fun e w' => e = .returned (.string (txt l)) ∧ Kept w w' := by
  obtain ⟨a, cap, rfl, hc1, hc2, hcell, hrng⟩ := h.out
  have HC : Hid (∀ i (_ : i < l.length), ∃ b o, a = some ⟨b, o, none⟩ ∧ b < w.heap.size ∧ w.cell? ⟨b, o + i, none⟩ = some (.int .i64 l[i])) := hcell
  have HR : Hid (∀ x ∈ l, -9223372036854775808 ≤ x ∧ x ≤ 9223372036854775807) := hrng
  obtain ⟨n, hn⟩ : ∃ n, l.length = n := ⟨_, rfl⟩
  have HN : Hid (l.length = n) := hn
  rw [hn] at hl hc1 ⊢
  clear h hcell hrng hn
  go_enter Tryd.func11, Tryd.ntmps11
  go_wp2_with (first | (refine wpList_build_to (by rfl) _ _ (by rfl) partCells (parts_built _) ?_) | (refine wpList_store_new (by rfl) _ _ _ (by rfl) _ partCells (by rfl) (by rfl) parts_info parts_size parts_one ?_))
  go_loop [4, 10] (fun s i => ∃ k : Nat, k ≤ n ∧ i = .int .i64 k ∧ s = .string (txt (l.take k))) (fun _ i => n - (intOf i).toNat)
  case atStart => exact ⟨0, Nat.zero_le _, rfl, rfl⟩
  case round =>
    obtain ⟨k, hk, rfl, rfl⟩ := hrel
    by_cases hlt : k < n
    · have hkl : k < l.length := by rw [HN.out]; exact hlt
      obtain ⟨b, o, rfl, hb, hcl⟩ := HC.out k hkl
      have hcell : (w.alloc (.cells partCells 51)).cell? ⟨b, o + k, none⟩ = some (.int .i64 l[k]) := ((Kept.refl w).al _).cellS hcl
      have hT : Hid (txt (l.take (k + 1)) = txt (l.take k) ++ piece l[k]) := txt_take l k hkl
      have hsz : (txt (l.take k)).size ≤ 3 * k := by
        have := txt_size (l.take k)
        rw [List.length_take] at this
        omega
      obtain ⟨r1, r2⟩ := HR.out l[k] (List.getElem_mem hkl)
      have hps := piece_size l[k]
      generalize txt (l.take k) = T at *
      generalize l[k] = x at *
      have m0 := Int.emod_nonneg x (by omega : (24 : Int) ≠ 0)
      have m1 := Int.emod_lt_of_pos x (by omega : (0 : Int) < 24)
      obtain ⟨m, hm⟩ := Int.eq_ofNat_of_zero_le m0
      have P1 : Hid (∀ w, Calls Tryd.prog 14 #[.int .i64 x, .int .i64 24] w fun e w' => e = .returned (.int .i64 (m : Int)) ∧ w' = w) := by
        intro w; have := pick_any x 24 w (by omega) (by omega); rwa [hm] at this
      have hm24 : m < 24 := by omega
      have e : piece x = parts.getD m ⟨#[]⟩ ++ ⟨#[32]⟩ := by unfold piece; rw [hm]; rfl
      rw [e] at hT hps
      rw [ByteArray.size_append] at hps
      have hpc := part_cell w m hm24
      have hmi : (m : Int) < 24 := by omega
      generalize parts.getD m ⟨#[]⟩ = S at *
      have hs2 : S.size ≤ 3 := by omega
      clear m0 m1 hm e hcl
      go_wp2_with (go_at_call 14; refine (P1.out _).mono ?_; rintro e w' ⟨rfl, rfl⟩)
      go_round
      case rel => exact ⟨k + 1, by omega, by go_num, by rw [hT.out, ByteArray.append_assoc]⟩
      case measure => simp [intOf]; omega
    · obtain rfl : k = n := by omega
      have hE : Hid (txt (l.take k) = txt l) := by
        show _ = _
        rw [List.take_of_length_le (by rw [HN.out]; exact Nat.le_refl _)]
      go_wp2
      go_ret
      exact ⟨by rw [← hE.out]; rfl, (Kept.refl w).al _⟩
#print axioms text_any
end Go.Proofs.YtbjdnniklcmcbaaDoor
