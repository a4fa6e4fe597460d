/- What the statements' own 'text' answers, at whatever memory. -/
import Derived.Test.YtfjeijjllgocdaaDoorText
import Derived.Test.YtfjeijjllgocdaaDoorBig
namespace Go.Proofs.YtfjeijjllgocdaaDoor
open Go.RowKit

def partCells : Array Value := parts.map Value.string

theorem parts_built (a : Act) : Tryd.prog.built 49 ((#[(0, Operand.const (.string ⟨#[120]⟩)), (1, Operand.const (.string ⟨#[121]⟩)), (2, Operand.const (.string ⟨#[103, 111]⟩)), (3, Operand.const (.string ⟨#[32]⟩)), (4, Operand.const (.string ⟨#[10]⟩)), (5, Operand.const (.string ⟨#[123]⟩)), (6, Operand.const (.string ⟨#[125]⟩)), (7, Operand.const (.string ⟨#[61]⟩)), (8, Operand.const (.string ⟨#[61, 61]⟩)), (9, Operand.const (.string ⟨#[40]⟩)), (10, Operand.const (.string ⟨#[41]⟩)), (11, Operand.const (.string ⟨#[43]⟩)), (12, Operand.const (.string ⟨#[45]⟩)), (13, Operand.const (.string ⟨#[42]⟩)), (14, Operand.const (.string ⟨#[47]⟩)), (15, Operand.const (.string ⟨#[37]⟩)), (16, Operand.const (.string ⟨#[60]⟩)), (17, Operand.const (.string ⟨#[55]⟩)), (18, Operand.const (.string ⟨#[48]⟩)), (19, Operand.const (.string ⟨#[49, 50]⟩)), (20, Operand.const (.string ⟨#[114, 101, 112, 101, 97, 116]⟩)), (21, Operand.const (.string ⟨#[35, 32, 110, 111, 116, 101, 32, 61, 32, 123, 10]⟩)), (22, Operand.const (.string ⟨#[9]⟩)), (23, Operand.const (.string ⟨#[103, 111, 116, 111]⟩)), (24, Operand.const (.string ⟨#[108, 97, 98, 101, 108]⟩)), (25, Operand.const (.string ⟨#[122, 57]⟩)), (26, Operand.const (.string ⟨#[108, 111, 99, 107]⟩)), (27, Operand.const (.string ⟨#[57]⟩)), (28, Operand.const (.string ⟨#[97]⟩)), (29, Operand.const (.string ⟨#[112, 114, 105, 110, 116]⟩))] : Array (Nat × Operand)).map fun (i, x) => (i, a.eval x)).toList = some partCells := by kernel_rfl
theorem parts_info : (Tryd.prog.info? 49).map (·.size) = some partCells.size := by kernel_rfl
theorem parts_one : partCells.all (·.oneCell') = true := by kernel_rfl
theorem parts_size : (30 : Nat) = partCells.size := by kernel_rfl

theorem part_cell (w : World) (m : Nat) (hm : m < 30) : (w.alloc (.cells partCells 49)).cell? ⟨w.heap.size, m, none⟩ = some (.string (parts.getD m ⟨#[]⟩)) := by
  have h : partCells[m]? = some (.string (parts.getD m ⟨#[]⟩)) := by
    have hs : m < parts.size := by rw [show parts.size = 30 by rfl]; exact hm
    simp [partCells, hs, Array.getD]
  rw [cell_of_row _ _ m partCells 49 (0, 0) (heap_alloc_last w _)]
  exact h

theorem txt_take (raw : ByteArray) (l : List Int) (k : Nat) (h : k < l.length) : txt raw (l.take (k + 1)) = txt raw (l.take k) ++ piece raw l[k] := by
  rw [List.take_succ_eq_append_getElem h, txt_snoc]

set_option maxRecDepth 100000 in
set_option maxHeartbeats 1000000 in
theorem text_some (raw : ByteArray) (a : Addr) (n cap : Nat) (l : List Int) (w : World) (hn : l.length = n) (hn2 : n ≤ 17592186044416) (hraw : raw.size ≤ 281474976710656) (hc : ∀ j (h : j < l.length), w.cell? (a.add j) = some (.int .i64 l[j])) (hr : ∀ x ∈ l, -9223372036854775808 ≤ x ∧ x ≤ 9223372036854775807) :
    Calls Tryd.prog 13 #[.slice (some a) n cap, .string raw] w fun e w' => e = .returned (.string (txt raw l)) ∧ Kept w w' := by
  have HC : Hid (∀ j (h : j < l.length), w.cell? (a.add j) = some (.int .i64 l[j])) := hc
  have HN : Hid (l.length = n) := hn
  have HR : Hid (∀ x ∈ l, -9223372036854775808 ≤ x ∧ x ≤ 9223372036854775807) := hr
  clear hc hn hr
  go_enter Tryd.func13, Tryd.ntmps13
  go_wp2_with (first | (refine wpList_build_to (by rfl) _ _ (by rfl) partCells (parts_built _) ?_) | (refine wpList_store_new (by rfl) _ _ _ (by rfl) _ partCells (by rfl) (by rfl) parts_info parts_size parts_one ?_))
  go_loop [6, 13] (fun s i => ∃ k : Nat, k ≤ n ∧ i = .int .i64 k ∧ s = .string (txt raw (l.take k))) (fun _ i => n - (intOf i).toNat)
  case atStart => exact ⟨0, Nat.zero_le _, rfl, rfl⟩
  case round =>
    obtain ⟨k, hk, rfl, rfl⟩ := hrel
    by_cases hlt : k < n
    · have hkl : k < l.length := by rw [HN.out]; exact hlt
      have hcell : (w.alloc (.cells partCells 49)).cell? (a.add k) = some (.int .i64 l[k]) := by
        have h1 := HC.out k hkl
        have h2 := World.block_lt_of_cell? w _ h1
        rw [← h1]
        exact World.cell?_of_block (Below.heap_alloc w _ _ h2)
      have hT : Hid (txt raw (l.take (k + 1)) = txt raw (l.take k) ++ piece raw l[k]) := txt_take raw l k hkl
      have hsz : (txt raw (l.take k)).size ≤ 11 * k := by
        have := txt_size raw (l.take k)
        rw [List.length_take] at this
        omega
      obtain ⟨r1, r2⟩ := HR.out l[k] (List.getElem_mem hkl)
      have hps := piece_size raw l[k]
      generalize txt raw (l.take k) = T at *
      generalize l[k] = x at *
      have m0 := Int.emod_nonneg x (by omega : (33 : Int) ≠ 0)
      have m1 := Int.emod_lt_of_pos x (by omega : (0 : Int) < 33)
      obtain ⟨m, hm⟩ := Int.eq_ofNat_of_zero_le m0
      have P1 : Hid (∀ w, Calls Tryd.prog 18 #[.int .i64 x, .int .i64 33] w fun e w' => e = .returned (.int .i64 (m : Int)) ∧ w' = w) := by
        intro w; have := pick_any x 33 w (by omega) (by omega); rwa [hm] at this
      by_cases hp : m < 30
      · have e : piece raw x = parts.getD m ⟨#[]⟩ := by
          unfold piece; rw [hm, if_pos (by omega)]; rfl
        rw [e] at hT hps
        have hpc := part_cell w m hp
        have hmi : (m : Int) < 30 := by omega
        generalize parts.getD m ⟨#[]⟩ = S at *
        clear m0 m1 hm e
        go_wp2_with (go_at_call 18; refine (P1.out _).mono ?_; rintro e w' ⟨rfl, rfl⟩)
        go_round
        case rel => exact ⟨k + 1, by omega, by go_num, by rw [hT.out]⟩
        case measure => simp [intOf]; omega
      · have p0 := Int.emod_nonneg (x.tdiv 33) (by omega : (3 : Int) ≠ 0)
        have p1 := Int.emod_lt_of_pos (x.tdiv 33) (by omega : (0 : Int) < 3)
        obtain ⟨p, hpq⟩ := Int.eq_ofNat_of_zero_le p0
        have e : piece raw x = raw.extract 0 (1 + (p : Int)).toNat := by
          unfold piece; rw [hm, if_neg (by omega), hpq]
        rw [e] at hT hps
        have hmi : decide ((m : Int) < 30) = false := decide_eq_false (by omega)
        have P2 : Hid (∀ w, Calls Tryd.prog 18 #[.int .i64 (x.tdiv 33), .int .i64 3] w fun e w' => e = .returned (.int .i64 (p : Int)) ∧ w' = w) := by
          intro w; have := pick_any (x.tdiv 33) 3 w (by omega) (by omega); rwa [hpq] at this
        have P3 : Hid (∀ w, _) := fun w => few_any raw (1 + (p : Int)) w (by omega) (by unfold maxLen; omega)
        have hp3 : (p : Int) < 3 := by omega
        generalize raw.extract 0 (1 + (p : Int)).toNat = S at *
        clear m0 m1 hm e p0 p1 hpq
        go_wp2_with fail
        refine (P1.out _).mono ?_
        rintro e w' ⟨rfl, rfl⟩
        go_wp2_with fail
        refine (P2.out _).mono ?_
        rintro e w' ⟨rfl, rfl⟩
        go_wp2_with fail
        refine (P3.out _).mono ?_
        rintro e w' ⟨rfl, rfl⟩
        go_wp2
        go_round
        case rel => exact ⟨k + 1, by omega, by go_num, by rw [hT.out]⟩
        case measure => simp [intOf]; omega
    · obtain rfl : k = n := by omega
      have hE : Hid (txt raw (l.take k) = txt raw l) := by
        show _ = _
        rw [List.take_of_length_le (by rw [HN.out]; exact Nat.le_refl _)]
      go_wp2
      go_ret
      exact ⟨by rw [← hE.out]; rfl, (Kept.refl w).alloc (Nat.le_refl _) _⟩

set_option maxRecDepth 100000 in
set_option maxHeartbeats 1000000 in
theorem text_nil (raw : ByteArray) (w : World) : Calls Tryd.prog 13 #[.slice none 0 0, .string raw] w fun e w' => e = .returned (.string (txt raw [])) ∧ Kept w w' := by
  go_enter Tryd.func13, Tryd.ntmps13
  go_wp2_with (first | (refine wpList_build_to (by rfl) _ _ (by rfl) partCells (parts_built _) ?_) | (refine wpList_store_new (by rfl) _ _ _ (by rfl) _ partCells (by rfl) (by rfl) parts_info parts_size parts_one ?_))
  go_loop [6, 13] (fun s i => i = .int .i64 0 ∧ s = .string (txt raw [])) (fun _ i => 0 - (intOf i).toNat)
  case atStart => exact ⟨rfl, rfl⟩
  case round =>
    obtain ⟨rfl, rfl⟩ := hrel
    obtain ⟨T, hT⟩ : ∃ T, txt raw [] = T := ⟨_, rfl⟩
    have HT : Hid (txt raw [] = T) := hT
    rw [hT]
    clear hT
    go_wp2
    go_ret
    exact ⟨by rw [HT.out]; rfl, (Kept.refl w).alloc (Nat.le_refl _) _⟩

/-- A slice of numbers in memory. -/
inductive IntsAt (w : World) : Value → List Int → Prop
  | none : IntsAt w (.slice none 0 0) []
  | some {a : Addr} {n cap : Nat} {l : List Int} (hn : l.length = n) (hc : ∀ j (h : j < l.length), w.cell? (a.add j) = Option.some (.int .i64 l[j])) (hr : ∀ x ∈ l, -9223372036854775808 ≤ x ∧ x ≤ 9223372036854775807) (hcap : n ≤ cap) (hcm : cap ≤ maxLen) : IntsAt w (.slice (some a) n cap) l

theorem IntsAt.kept {w w' : World} {v : Value} {l : List Int} (h : IntsAt w v l) (k : Kept w w') : IntsAt w' v l := by
  cases h with
  | none => exact .none
  | some hn hc hr h1 h2 => exact .some hn (fun j hj => (k.cell (World.block_lt_of_cell? w _ (hc j hj))).trans (hc j hj)) hr h1 h2

theorem text_any (raw : ByteArray) (v : Value) (l : List Int) (hn2 : l.length ≤ 17592186044416) (hraw : raw.size ≤ 281474976710656) (w : World) (h : IntsAt w v l) :
    Calls Tryd.prog 13 #[v, .string raw] w fun e w' => e = .returned (.string (txt raw l)) ∧ Kept w w' := by
  cases h with
  | none => exact text_nil raw w
  | some hn hc hr _ _ => exact text_some raw _ _ _ l w hn (by omega) hraw hc hr

end Go.Proofs.YtfjeijjllgocdaaDoor
