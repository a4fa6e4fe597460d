/- What the writers answer: write, writeBare, writeBinary. What writeBinary and writeBare answer; then all writers, whatever the expression. What expr.Print and expr.Right answer. -/
import Derived.Test.YtkobdephobaopaaGreatDoorRdB
import Derived.Test.YtkobdephobaopaaGreatDoorPlA
import Derived.Test.YtkobdephobaopaaGreatDoorShelf2
import Derived.Lib.AppendStr
import Derived.Lib.BufferKept
import Derived.Laws.AppendOwn
import Derived.Test.YtkobdephobaopaaGreatDoorWS
import Derived.Lib.BufferRead
import Derived.Laws.IdiomStrings

namespace Go.Proofs.YtkobdephobaopaaGreatDoor
open Go.RowKit
attribute [local go_sem] run_store_complex

/-- A text of one's own. -/
def Txt (w : World) (B : Nat) (v : Value) (acc : List UInt8) : Prop := w.ownsRow B 5 1 v acc.length (Lib.byteCells acc)
theorem Txt.form {w : World} {B : Nat} {v : Value} {acc : List UInt8} (h : Txt w B v acc) : ∃ a cap, v = .slice a acc.length cap := by
  rcases h.2 with ⟨rfl, h0⟩ | ⟨g, cap, cur, rfl, _⟩
  · exact ⟨none, 0, by rw [h0]⟩
  · exact ⟨_, cap, rfl⟩
theorem Txt.kind {w : World} {B : Nat} {v : Value} {acc : List UInt8} (h : Txt w B v acc) : ∀ g, v.ownBlock = some g → B ≤ g ∧ ∃ c fz, w.heap[g]? = some (.cells c 5 fz) := by
  intro g hg
  rcases h.2 with ⟨rfl, h0⟩ | ⟨g', cap, cur, rfl, hb, hh, _⟩
  · cases hg
  · simp only [Value.ownBlock, Option.some.injEq] at hg
    subst hg
    exact ⟨hb, cur, _, hh⟩
theorem Txt.kept {w w' : World} {B : Nat} {v : Value} {acc : List UInt8} (h : Txt w B v acc) (k : Kept w w') : Txt w' B v acc := by
  obtain ⟨hl, h0 | ⟨g, cap, cur, hv, hb, hh, r⟩⟩ := h
  · exact ⟨hl, .inl h0⟩
  · have hg : g < w.heap.size := (Array.getElem?_eq_some_iff.1 hh).1
    exact ⟨hl, .inr ⟨g, cap, cur, hv, hb, by rw [k.block g hg]; exact hh, r⟩⟩
theorem Txt.nil (w : World) (B : Nat) : Txt w B (.slice none 0 0) [] := World.ownsRow_nil w B 5 1

/-- Below B nothing has turned, nor what is no text. -/
structure Wk (B : Nat) (w w' : World) : Prop where
  bel : Below B w w'
  oth : Lib.OthersKept 5 none w w'
theorem Wk.refl (B : Nat) (w : World) : Wk B w w := ⟨Below.refl _ _, Lib.OthersKept.refl _ _ _⟩
theorem Wk.then {B : Nat} {a b c : World} (h : Wk B a b) (k : Wk B b c) : Wk B a c := ⟨h.bel.trans k.bel, h.oth.trans k.oth⟩
theorem Wk.of {B : Nat} {w w' : World} (k : Kept w w') (hB : B ≤ w.heap.size) : Wk B w w' := ⟨k.mono hB, (Lib.OthersKept.refl _ _ _).below k⟩
theorem Wk.grown {B : Nat} {w w' : World} {v : Value} {acc : List UInt8} (ht : Txt w B v acc) (hB : B ≤ w.heap.size) (hg : w.grownBy w' v.ownBlock) : Wk B w w' :=
  ⟨Below.grown (Below.refl _ _) hg hB fun k hk => (ht.kind k hk).1, (Lib.OthersKept.refl _ _ _).grown hg fun g hg' => (ht.kind g hg').2⟩
/-- The block of a parameter that is boxed. -/
theorem Bx.heap (w : World) (k n : Int) (s : ByteArray) (v : Value) : (w.alloc (.cells #[.int .i64 k, .int .i64 n, .string s, v] 44)).heap[w.heap.size]? = some (.cells #[.int .i64 k, .int .i64 n, .string s, v] 44) := heap_alloc_new _ _
theorem bx_of {w : World} {B : Nat} {k n : Int} {s : ByteArray} {v : Value} (h : w.heap[B]? = some (.cells #[.int .i64 k, .int .i64 n, .string s, v] 44)) : Bx w B k n s v := by
  have c : ∀ j, w.cell? ⟨B, j, none⟩ = #[.int .i64 k, .int .i64 n, .string s, v][j]? := fun j => cell_of_row w B _ _ _ (0, 0) h
  exact ⟨c 0, c 1, c 2, c 3, fun j => frozen_of_row w B j _ _ h⟩
theorem Wk.box {B : Nat} {w w' : World} (h : Wk B w w') {b : Nat} {k n : Int} {s : ByteArray} {v : Value} (hb : w.heap[b]? = some (.cells #[.int .i64 k, .int .i64 n, .string s, v] 44)) : w'.heap[b]? = some (.cells #[.int .i64 k, .int .i64 n, .string s, v] 44) :=
  h.oth b _ hb (by simp) (fun c fz e => by cases e)

abbrev Pow (B : Nat) (w : World) : Prop := Lib.TabBelow Tryz.prog B w "internal/strconv.uint64pow10" .u64 Lib.pow10Tab

/-- What a writer leaves. -/
def Wrote (B : Nat) (w : World) (t : List UInt8) (e : Ending) (w' : World) : Prop := ∃ a cap, e = .returned (.slice a t.length cap) ∧ Txt w' B (.slice a t.length cap) t ∧ Wk B w w'

def PW (x : Ex) : Prop := ∀ (acc : List UInt8) (least B : Nat) (w : World) (v ev : Value), least ≤ 5 → Txt w B v acc → ExsIn w 0 B x.of ev → B ≤ w.heap.size → x.fit → acc.length + 24 * x.size ≤ 1000000000000 → Pow B w →
  Calls Tryz.prog 142 #[v, x.val ev, .int .i64 (least : Int)] w fun e w' => Wrote B w (Px.wr x acc least) e w'
def PWb (x : Ex) : Prop := ∀ (acc : List UInt8) (B : Nat) (w : World) (v ev : Value), Txt w B v acc → ExsIn w 0 B x.of ev → B ≤ w.heap.size → x.fit → acc.length + 24 * x.size ≤ 1000000000002 → Pow B w →
  Calls Tryz.prog 158 #[v, x.val ev] w fun e w' => Wrote B w (Px.wb x acc) e w'

theorem tree_bel {w w' : World} {B : Nat} {l : List Ex} {v : Value} (h : ExsIn w 0 B l v) (b : Below B w w') : ExsIn w' 0 B l v := h.stays fun k hk => b.block k hk.2

theorem byteCells_append (a b : List UInt8) : Lib.byteCells a ++ Lib.byteCells b = Lib.byteCells (a ++ b) := by simp [Lib.byteCells]

theorem u8_info : ∃ i, Tryz.prog.info? 5 = some i ∧ i.zero = some (.int .u8 0) ∧ i.size = 1 ∧ i.bytes = 1 := by
  have h : (Tryz.prog.info? 5).map (fun i => (i.zero, i.size, i.bytes)) = some (some (.int .u8 0), 1, 1) := by kernel_rfl
  cases hi : Tryz.prog.info? 5 with
  | none => rw [hi] at h; simp at h
  | some i =>
    rw [hi] at h
    simp only [Option.map_some, Option.some.injEq, Prod.mk.injEq] at h
    exact ⟨i, rfl, h.1, h.2.1, h.2.2⟩

/-- One byte more. -/
theorem wp_app {w : World} {ops : Array Oper} {rest : List Oper} {o : Oper} {ac : Act} {Q : Exit → Act → World → Prop} (hgd : o.guard = none) (s x : Operand) (ho : o.op = .call { callee := .builtin .append, args := #[s, x], argTypes := #[87, 87] })
    (B : Nat) (v : Value) (acc acc' : List UInt8) (c : UInt8) (hacc : acc ++ [c] = acc') (hs : ac.eval s = v) (ht : Txt w B v acc) (ad : Addr) (hx : ac.eval x = .slice (some ad) 1 1) (hc : w.cell? ad = some (.int .u8 (c.toNat : Int))) (hl : acc.length ≤ 1000000000100) (hB : B ≤ w.heap.size)
    (h : ∀ a' cap w', Txt w' B (.slice a' acc'.length cap) acc' → Wk B w w' → wpList Tryz.prog ops Q rest (ac.put o.dst (.slice a' acc'.length cap)) w') : wpList Tryz.prog ops Q (o :: rest) ac w := by
  obtain ⟨i, h1, h2, h3, h4⟩ := u8_info
  subst hacc
  refine wpList_append_own w hgd s x _ ho B 5 i (.int .u8 0) 1 1 Tryz.underlying87 h1 h2 h3 h4 rfl (by decide) v acc.length (Lib.byteCells acc) hs ht ad 1 1 [.int .u8 (c.toNat : Int)] hx rfl ?_ ?_ ?_ ?_ hB ?_
  · intro j u hu
    match j, hu with
    | 0, hu => cases hu; exact hc
  · intro u hu; simp at hu; subst hu; rfl
  · unfold maxLen; omega
  · omega
  · intro v' w' ho' hg _
    have ht' : Txt w' B v' (acc ++ [c]) := by
      unfold Txt
      rw [← byteCells_append, List.length_append]
      exact ho'
    obtain ⟨a', cap, rfl⟩ := ht'.form
    exact h a' cap w' ht' (Wk.grown ht hB hg)
/-- A text more. -/
theorem wp_apps {w : World} {ops : Array Oper} {rest : List Oper} {o : Oper} {ac : Act} {Q : Exit → Act → World → Prop} (hgd : o.guard = none) (s x : Operand) (ho : o.op = .call { callee := .builtin .append, args := #[s, x], argTypes := #[87, 9] })
    (B : Nat) (v : Value) (acc acc' : List UInt8) (y : ByteArray) (hacc : acc ++ y.data.toList = acc') (hs : ac.eval s = v) (ht : Txt w B v acc) (hx : ac.eval x = .string y) (hl : acc.length + y.size ≤ 1000000000100) (hB : B ≤ w.heap.size)
    (h : ∀ a' cap w', Txt w' B (.slice a' acc'.length cap) acc' → Wk B w w' → wpList Tryz.prog ops Q rest (ac.put o.dst (.slice a' acc'.length cap)) w') : wpList Tryz.prog ops Q (o :: rest) ac w := by
  obtain ⟨i, h1, h2, h3, h4⟩ := u8_info
  subst hacc
  refine Lib.wpList_append_own_string w hgd s x _ _ ho B 5 i Tryz.underlying87 Tryz.underlying9 h1 h2 h3 h4 v acc.length (Lib.byteCells acc) hs ht y hx ?_ ?_ hB ?_
  · unfold maxLen; omega
  · omega
  · intro v' w' ho' hg _
    have hy : y.data.toList.length = y.size := by simp
    have ht' : Txt w' B v' (acc ++ y.data.toList) := by
      unfold Txt
      rw [← byteCells_append, List.length_append, hy]
      exact ho'
    obtain ⟨a', cap, rfl⟩ := ht'.form
    exact h a' cap w' ht' (Wk.grown ht hB hg)

set_option maxRecDepth 100000 in
set_option maxHeartbeats 2000000 in
theorem write_of (x : Ex) (H : PWb x) : PW x := by
  intro acc least B w v ev hle ht hx hB hf hsz hP
  obtain ⟨a, cap, rfl⟩ := ht.form
  obtain ⟨xa, xn, xq, rfl⟩ := hx.form
  have HT : Hid (Txt w B (.slice a acc.length cap) acc) := ht
  have HX : Hid (ExsIn w 0 B x.of (.slice xa xn xq)) := hx
  have HH : Hid (PWb x) := H
  have HF : Hid x.fit := hf
  have HP : Hid (Pow B w) := hP
  have hpos := Ex.size_pos x
  clear ht hx H hf hP
  have RK : Hid (∀ W, Calls Tryz.prog 157 #[.int .i64 x.kind] W fun e w' => e = .returned (.int .i64 (Px.rnk x.kind : Nat)) ∧ w' = W) := fun W => rank_any _ W
  obtain ⟨N, hN⟩ : ∃ N, acc.length = N := ⟨_, rfl⟩
  have HN : Hid (acc.length = N) := hN
  have HTN : Hid (Txt w B (.slice a N cap) acc) := by rw [← hN]; exact HT.out
  by_cases h6 : 6000 < acc.length
  · have g6 : (6000 : Int) < (N : Int) := by omega
    have HE : Hid (Px.wr x acc least = acc) := by show Px.wr x acc least = acc; unfold Px.wr Px.wrap; rw [if_pos h6]
    rw [hN]
    clear h6 hN
    go_enter Tryz.func142, Tryz.ntmps142
    go_wp2_with fail
    go_ret
    rw [HE.out]
    exact ⟨a, cap, by rw [HN.out]; rfl, (HT.out.kept ((Kept.refl _).al _)), Wk.of ((Kept.refl _).al _) hB⟩
  have g6 : ¬ (6000 : Int) < (N : Int) := by omega
  have K0 : Hid (Kept w (w.alloc (.cells #[.int .i64 x.kind, .int .i64 x.n, .string x.name, .slice xa xn xq] 44))) := (Kept.refl _).al _
  by_cases hr : Px.rnk x.kind < least
  · have hr' : ((Px.rnk x.kind : Nat) : Int) < (least : Int) := by omega
    have HE : Hid (Px.wr x acc least = Px.wb x (acc ++ [40]) ++ [41]) := by show Px.wr x acc least = _; unfold Px.wr Px.wrap; rw [if_neg h6, if_pos hr]
    have HLL : Hid ((Px.wb x (acc ++ [40])).length ≤ 1000000000100) := by
      have := Px.wb_len x HF.out (acc ++ [40])
      show _ ≤ _
      simp only [List.length_append, List.length_cons, List.length_nil] at this
      omega
    have HC : Hid (∀ W a1 cap1, Wk B w W → Txt W B (.slice a1 (acc ++ [40]).length cap1) (acc ++ [40]) → Calls Tryz.prog 158 #[.slice a1 (acc ++ [40]).length cap1, x.val (.slice xa xn xq)] W fun e w' => Wrote B W (Px.wb x (acc ++ [40])) e w') :=
      fun W a1 cap1 hW hT => HH.out _ B W _ _ hT (tree_bel HX.out hW.bel) (Nat.le_trans hB hW.bel.size) HF.out (by simp only [List.length_append, List.length_cons, List.length_nil]; omega) (HP.out.on hW.bel)
    obtain ⟨acc1, hacc1⟩ : ∃ acc1, acc ++ [40] = acc1 := ⟨_, rfl⟩
    obtain ⟨acc2, hacc2⟩ : ∃ acc2, Px.wb x acc1 = acc2 := ⟨_, rfl⟩
    rw [hacc1, hacc2] at HE HLL
    rw [hacc1, hacc2] at HC
    have HA1 : Hid (acc ++ [40] = acc1) := hacc1
    obtain ⟨acc3, hacc3⟩ : ∃ acc3, acc2 ++ [41] = acc3 := ⟨_, rfl⟩
    rw [hacc3] at HE
    have HA3 : Hid (acc2 ++ [41] = acc3) := hacc3
    have hNB : N ≤ 1000000000000 := by omega
    rw [hN]
    generalize Px.rnk x.kind = rr at *
    clear h6 hN hr hacc1 hacc2 hacc3
    go_enter Tryz.func142, Tryz.ntmps142
    go_wp2_with fail
    refine (RK.out _).mono ?_
    rintro e w1 ⟨rfl, hw1⟩
    subst hw1
    go_wp2_with (at_builtin; refine wp_app (by rfl) _ _ (by rfl) B (.slice a N cap) acc acc1 40 HA1.out (by rfl) ?c0 ⟨_, 0, none⟩ (by rfl) ?c1 ?c2 ?c3 ?_)
    case c0 => exact (HTN.out.kept K0.out).kept ((Kept.refl _).al _)
    case c1 => simp
    case c2 => rw [HN.out]; omega
    case c3 => simp; omega
    intro a1 cap1 w1 t1 k1
    have HK1 : Hid (Wk B w w1) := (Wk.of (K0.out.al _) hB).then k1
    have HT1 : Hid (Txt w1 B (.slice a1 acc1.length cap1) acc1) := t1
    have HBX : Hid (Bx w1 w.heap.size x.kind x.n x.name (.slice xa xn xq)) := bx_of (k1.box ((((Kept.refl _).al _ : Kept (w.alloc (.cells #[.int .i64 x.kind, .int .i64 x.n, .string x.name, .slice xa xn xq] 44)) _).block _ (by simp)).trans (Bx.heap w ..)))
    obtain ⟨c0, c1, c2, c3, cf⟩ := HBX.out
    have hw1 := HBX.out.lt
    clear t1 k1
    go_wp2_with fail
    refine (HC.out _ _ _ HK1.out HT1.out).mono ?_
    rintro e w2 ⟨a2, cap2, rfl, t2, k2⟩
    have HK2 : Hid (Wk B w w2) := HK1.out.then k2
    have HT2 : Hid (Txt w2 B (.slice a2 acc2.length cap2) acc2) := t2
    have hw2 : B ≤ w2.heap.size := Nat.le_trans hB HK2.out.bel.size
    clear t2 k2
    go_wp2_with (at_builtin; refine wp_app (by rfl) _ _ (by rfl) B (.slice a2 acc2.length cap2) acc2 acc3 41 HA3.out (by rfl) ?d0 ⟨_, 0, none⟩ (by rfl) ?d1 HLL.out ?d3 ?_)
    case d0 => exact HT2.out.kept ((Kept.refl _).al _)
    case d1 => simp
    case d3 => simp; omega
    intro a3 cap3 w3 t3 k3
    have HW : Hid (Txt w3 B (.slice a3 acc3.length cap3) acc3 ∧ Wk B w w3) := ⟨t3, (HK2.out.then (Wk.of ((Kept.refl _).al _) hw2)).then k3⟩
    clear t3 k3
    go_wp2_with fail
    go_ret
    rw [HE.out]
    exact ⟨a3, cap3, rfl, HW.out.1, HW.out.2⟩
  · have hr' : ¬ ((Px.rnk x.kind : Nat) : Int) < (least : Int) := by omega
    have HE : Hid (Px.wr x acc least = Px.wb x acc) := by show Px.wr x acc least = _; unfold Px.wr Px.wrap; rw [if_neg h6, if_neg hr]
    have HC : Hid (∀ W, Wk B w W → Txt W B (.slice a acc.length cap) acc → Calls Tryz.prog 158 #[.slice a acc.length cap, x.val (.slice xa xn xq)] W fun e w' => Wrote B W (Px.wb x acc) e w') :=
      fun W hW hT => HH.out acc B W _ _ hT (tree_bel HX.out hW.bel) (Nat.le_trans hB hW.bel.size) HF.out (by omega) (HP.out.on hW.bel)
    rw [hN]
    rw [hN] at HC
    generalize Px.rnk x.kind = rr at *
    clear h6 hN hr
    go_enter Tryz.func142, Tryz.ntmps142
    go_wp2_with fail
    refine (RK.out _).mono ?_
    rintro e w1 ⟨rfl, hw1⟩
    subst hw1
    go_wp2_with fail
    refine (HC.out _ (Wk.of K0.out hB) (by have := HT.out.kept K0.out; rwa [HN.out] at this)).mono ?_
    rintro e w2 ⟨a2, cap2, rfl, t2, k2⟩
    have HW : Hid (Txt w2 B (.slice a2 (Px.wb x acc).length cap2) (Px.wb x acc) ∧ Wk B w w2) := ⟨t2, (Wk.of K0.out hB).then k2⟩
    clear t2 k2
    go_wp2_with fail
    go_ret
    rw [HE.out]
    exact ⟨a2, cap2, rfl, HW.out.1, HW.out.2⟩
end Go.Proofs.YtkobdephobaopaaGreatDoor

namespace Go.Proofs.YtkobdephobaopaaGreatDoor
open Go.RowKit
attribute [local go_sem] run_store_complex

set_option maxRecDepth 100000 in
set_option maxHeartbeats 2000000 in
theorem binary_of (k n : Int) (s : ByteArray) (y z : Ex) (hk : Px.sgn k ≠ []) (hk1 : k ≠ 1) (hk2 : k ≠ 2) (HY : PW y) (HZ : PW z) (acc : List UInt8) (B : Nat) (w : World) (v ev : Value) (ht : Txt w B v acc) (hx : ExsIn w 0 B [y, z] ev) (hB : B ≤ w.heap.size) (hf : (Ex.mk k n s [y, z]).fit) (hsz : acc.length + 24 * (Ex.mk k n s [y, z]).size ≤ 1000000000002) (hP : Pow B w) :
    Calls Tryz.prog 166 #[v, .agg #[.int .i64 k, .int .i64 n, .string s, ev]] w fun e w' => Wrote B w (Px.wb (.mk k n s [y, z]) acc) e w' := by
  obtain ⟨a, cap, rfl⟩ := ht.form
  obtain ⟨xa, xn, xq, rfl⟩ := hx.form
  have hopen := hx.open
  obtain ⟨xa', xq', he, hl1, hl2, hl3⟩ := hopen
  cases he
  obtain ⟨b, o, ya, yn, yq, rfl, ⟨_, hbB⟩, hfz, y0, y1, y2, y3, yT⟩ := hx.itemD 0 (by simp)
  obtain ⟨b', o', za, zn, zq, he, -, -, z0, z1, z2, z3, zT⟩ := hx.itemD 1 (by simp)
  simp only [Option.some.injEq, Addr.mk.injEq, and_true] at he
  obtain ⟨rfl, rfl⟩ := he
  have hfy := Ex.fits_mem ((Ex.fit_eq _).1 hf).2 y (by simp [Ex.of])
  have hfz' := Ex.fits_mem ((Ex.fit_eq _).1 hf).2 z (by simp [Ex.of])
  have hs1 : (Ex.mk k n s [y, z]).size = 1 + (y.size + z.size) := by rw [Ex.size_eq]; simp [Ex.of, Ex.sizes]
  rw [hs1] at hsz
  obtain ⟨r, hr⟩ : ∃ r, Px.rnk k = r := ⟨_, rfl⟩
  have hr4 : 1 ≤ r ∧ r ≤ 4 := by rw [← hr]; unfold Px.rnk; repeat' split
                                 all_goals decide
  have RK : Hid (∀ W, Calls Tryz.prog 157 #[.int .i64 k] W fun e w' => e = .returned (.int .i64 (r : Nat)) ∧ w' = W) := fun W => by rw [← hr]; exact rank_any _ W
  have SG : Hid (∀ W, Calls Tryz.prog 162 #[.int .i64 k] W fun e w' => e = .returned (.string (Px.ba (Px.sgn k))) ∧ w' = W) := fun W => sign_any _ W
  obtain ⟨acc1, h1⟩ : ∃ t, Px.wr y acc (max r 2) = t := ⟨_, rfl⟩
  obtain ⟨acc2, h2⟩ : ∃ t, acc1 ++ [32] = t := ⟨_, rfl⟩
  obtain ⟨acc3, h3⟩ : ∃ t, acc2 ++ (Px.ba (Px.sgn k)).data.toList = t := ⟨_, rfl⟩
  obtain ⟨acc4, h4⟩ : ∃ t, acc3 ++ [32] = t := ⟨_, rfl⟩
  obtain ⟨acc5, h5⟩ : ∃ t, Px.wr z acc4 (r + 1) = t := ⟨_, rfl⟩
  have HE : Hid (Px.wb (.mk k n s [y, z]) acc = acc5) := by
    show _ = _
    rw [Px.wb_two k n s y z acc hk hk1 hk2, hr, h1, h2]
    have : Px.sgn k = (Px.ba (Px.sgn k)).data.toList := by simp [Px.ba]
    rw [this, h3, h4, h5]
  have b1 := Px.wr_len y hfy acc (max r 2)
  rw [h1] at b1
  have b2 : acc2.length = acc1.length + 1 := by rw [← h2]; simp
  have b3 : acc3.length = acc2.length + (Px.ba (Px.sgn k)).size := by rw [← h3]; simp
  have b3' : (Px.ba (Px.sgn k)).size ≤ 2 := by have := Px.sgn_len k; simpa [Px.ba, ByteArray.size] using this
  have b4 : acc4.length = acc3.length + 1 := by rw [← h4]; simp
  have hpy := Ex.size_pos y
  have hpz := Ex.size_pos z
  have CY : Hid (∀ W, Wk B w W → Txt W B (.slice a acc.length cap) acc → Calls Tryz.prog 142 #[.slice a acc.length cap, .agg #[.int .i64 y.kind, .int .i64 y.n, .string y.name, .slice ya yn yq], .int .i64 ((max r 2 : Nat) : Int)] W fun e w' => Wrote B W acc1 e w') := fun W hW hT => by
    rw [← h1]
    exact HY acc (max r 2) B W _ _ (by omega) hT (tree_bel yT hW.bel) (Nat.le_trans hB hW.bel.size) hfy (by omega) (hP.on hW.bel)
  have CZ : Hid (∀ W a4 cap4, Wk B w W → Txt W B (.slice a4 acc4.length cap4) acc4 → Calls Tryz.prog 142 #[.slice a4 acc4.length cap4, .agg #[.int .i64 z.kind, .int .i64 z.n, .string z.name, .slice za zn zq], .int .i64 ((r + 1 : Nat) : Int)] W fun e w' => Wrote B W acc5 e w') := fun W a4 cap4 hW hT => by
    rw [← h5]
    exact HZ acc4 (r + 1) B W _ _ (by omega) hT (tree_bel zT hW.bel) (Nat.le_trans hB hW.bel.size) hfz' (by omega) (hP.on hW.bel)
  have CC : Hid (∀ W, Wk B w W → (W.cell? ⟨b, o, none⟩ = some (.int .i64 y.kind) ∧ W.cell? ⟨b, o + 1, none⟩ = some (.int .i64 y.n) ∧ W.cell? ⟨b, o + 2, none⟩ = some (.string y.name) ∧ W.cell? ⟨b, o + 3, none⟩ = some (.slice ya yn yq)) ∧
      (W.cell? ⟨b, o + 4, none⟩ = some (.int .i64 z.kind) ∧ W.cell? ⟨b, o + 4 + 1, none⟩ = some (.int .i64 z.n) ∧ W.cell? ⟨b, o + 4 + 2, none⟩ = some (.string z.name) ∧ W.cell? ⟨b, o + 4 + 3, none⟩ = some (.slice za zn zq)) ∧ b < W.heap.size) := fun W hW => by
    have c : ∀ j u, w.cell? ⟨b, j, none⟩ = some u → W.cell? ⟨b, j, none⟩ = some u := fun j u hu => (hW.bel.cell (p := ⟨b, j, none⟩) hbB).trans hu
    exact ⟨⟨c _ _ y0, c _ _ y1, c _ _ y2, c _ _ y3⟩, ⟨c _ _ z0, c _ _ z1, c _ _ z2, c _ _ z3⟩, by have := hW.bel.size; omega⟩
  have HT : Hid (Txt w B (.slice a acc.length cap) acc) := ht
  have H2 : Hid (acc1 ++ [32] = acc2) := h2
  have H3 : Hid (acc2 ++ (Px.ba (Px.sgn k)).data.toList = acc3) := h3
  have H4 : Hid (acc3 ++ [32] = acc4) := h4
  have HL : Hid (acc1.length ≤ 1000000000100 ∧ acc2.length + (Px.ba (Px.sgn k)).size ≤ 1000000000100 ∧ acc3.length ≤ 1000000000100) := ⟨by omega, by omega, by omega⟩
  have K0 : Hid (Kept w (w.alloc (.cells #[.int .i64 k, .int .i64 n, .string s, .slice (some ⟨b, o, none⟩) 2 xq] 44))) := (Kept.refl _).al _
  have HB0 : Hid ((w.alloc (.cells #[.int .i64 k, .int .i64 n, .string s, .slice (some ⟨b, o, none⟩) 2 xq] 44)).heap[w.heap.size]? = some (.cells #[.int .i64 k, .int .i64 n, .string s, .slice (some ⟨b, o, none⟩) 2 xq] 44)) := Bx.heap ..
  obtain ⟨⟨y0, y1, y2, y3⟩, -, hbw⟩ := CC.out w (Wk.refl _ _)
  have hmx : max (r : Int) 2 = ((max r 2 : Nat) : Int) := by omega
  clear ht hx h1 h2 h3 h4 h5 HY HZ yT zT hP hf hfy hfz' hs1 hr b1 b2 b3 b3' b4 z0 z1 z2 z3 hfz hsz hl1 hl2 hl3
  generalize Px.ba (Px.sgn k) = SS at *
  go_enter Tryz.func166, Tryz.ntmps166
  go_wp2_with fail
  refine (RK.out _).mono ?_
  rintro e w1 ⟨rfl, hw1⟩
  subst hw1
  go_wp2_with fail
  refine (CY.out _ (Wk.of K0.out hB) (HT.out.kept K0.out)).mono ?_
  rintro e w1 ⟨a1, cap1, rfl, t1, k1⟩
  have HK1 : Hid (Wk B w w1) := (Wk.of K0.out hB).then k1
  have HT1 : Hid (Txt w1 B (.slice a1 acc1.length cap1) acc1) := t1
  have HB1 : Hid (w1.heap[w.heap.size]? = some (.cells #[.int .i64 k, .int .i64 n, .string s, .slice (some ⟨b, o, none⟩) 2 xq] 44)) := k1.box HB0.out
  have hz1 : B ≤ w1.heap.size := Nat.le_trans hB HK1.out.bel.size
  clear t1 k1 y0 y1 y2 y3
  go_wp2_with (at_builtin; refine wp_app (by rfl) _ _ (by rfl) B (.slice a1 acc1.length cap1) acc1 acc2 32 H2.out (by rfl) ?c0 ⟨_, 0, none⟩ (by rfl) ?c1 HL.out.1 ?c3 ?_)
  case c0 => exact HT1.out.kept ((Kept.refl _).al _)
  case c1 => simp
  case c3 => simp; omega
  intro a2 cap2 w2 t2 k2
  have HK2 : Hid (Wk B w w2) := (HK1.out.then (Wk.of ((Kept.refl _).al _) hz1)).then k2
  have HT2 : Hid (Txt w2 B (.slice a2 acc2.length cap2) acc2) := t2
  have HB2 : Hid (w2.heap[w.heap.size]? = some (.cells #[.int .i64 k, .int .i64 n, .string s, .slice (some ⟨b, o, none⟩) 2 xq] 44)) := k2.box ((((Kept.refl w1).al _).block _ (Array.getElem?_eq_some_iff.1 HB1.out).1).trans HB1.out)
  have hz2 : B ≤ w2.heap.size := Nat.le_trans hB HK2.out.bel.size
  obtain ⟨p0, p1, p2, p3, pf⟩ := bx_of HB2.out
  clear t2 k2
  go_wp2_with fail
  refine (SG.out _).mono ?_
  rintro e w1' ⟨rfl, hw1'⟩
  subst hw1'
  go_wp2_with (at_builtin; refine wp_apps (by rfl) _ _ (by rfl) B (.slice a2 acc2.length cap2) acc2 acc3 SS H3.out (by rfl) HT2.out (by rfl) HL.out.2.1 hz2 ?_)
  intro a3 cap3 w3 t3 k3
  have HK3 : Hid (Wk B w w3) := HK2.out.then k3
  have HT3 : Hid (Txt w3 B (.slice a3 acc3.length cap3) acc3) := t3
  have HB3 : Hid (w3.heap[w.heap.size]? = some (.cells #[.int .i64 k, .int .i64 n, .string s, .slice (some ⟨b, o, none⟩) 2 xq] 44)) := k3.box HB2.out
  have hz3 : B ≤ w3.heap.size := Nat.le_trans hB HK3.out.bel.size
  clear t3 k3 p0 p1 p2 p3 pf
  go_wp2_with (at_builtin; refine wp_app (by rfl) _ _ (by rfl) B (.slice a3 acc3.length cap3) acc3 acc4 32 H4.out (by rfl) ?d0 ⟨_, 0, none⟩ (by rfl) ?d1 HL.out.2.2 ?d3 ?_)
  case d0 => exact HT3.out.kept ((Kept.refl _).al _)
  case d1 => simp
  case d3 => simp; omega
  intro a4 cap4 w4 t4 k4
  have HK4 : Hid (Wk B w w4) := (HK3.out.then (Wk.of ((Kept.refl _).al _) hz3)).then k4
  have HT4 : Hid (Txt w4 B (.slice a4 acc4.length cap4) acc4) := t4
  have HB4 : Hid (w4.heap[w.heap.size]? = some (.cells #[.int .i64 k, .int .i64 n, .string s, .slice (some ⟨b, o, none⟩) 2 xq] 44)) := k4.box ((((Kept.refl w3).al _).block _ (Array.getElem?_eq_some_iff.1 HB3.out).1).trans HB3.out)
  obtain ⟨p0, p1, p2, p3, pf⟩ := bx_of HB4.out
  obtain ⟨-, ⟨z0, z1, z2, z3⟩, hbw4⟩ := CC.out w4 HK4.out
  have hw4 : w.heap.size < w4.heap.size := block_lt_of_cell p0
  clear t4 k4
  go_wp2_with fail
  refine (CZ.out _ _ _ HK4.out HT4.out).mono ?_
  rintro e w5 ⟨a5, cap5, rfl, t5, k5⟩
  have HW : Hid (Txt w5 B (.slice a5 acc5.length cap5) acc5 ∧ Wk B w w5) := ⟨t5, HK4.out.then k5⟩
  clear t5 k5
  go_wp2_with fail
  go_ret
  rw [HE.out]
  exact ⟨a5, cap5, rfl, HW.out.1, HW.out.2⟩

/-- One byte more, at a step of a region that draws its order. -/
theorem step_app {w : World} {ops : Array Oper} {o : Oper} {ac : Act} {K : Act → World → Prop} {Q : Exit → Act → World → Prop} {E : Prop} (hgd : o.guard = none) (s x : Operand) (ho : o.op = .call { callee := .builtin .append, args := #[s, x], argTypes := #[87, 87] })
    (B : Nat) (v : Value) (acc acc' : List UInt8) (c : UInt8) (hacc : acc ++ [c] = acc') (hs : ac.eval s = v) (ht : Txt w B v acc) (ad : Addr) (hx : ac.eval x = .slice (some ad) 1 1) (hc : w.cell? ad = some (.int .u8 (c.toNat : Int))) (hl : acc.length ≤ 1000000000100) (hB : B ≤ w.heap.size)
    (h : ∀ a' cap w', Txt w' B (.slice a' acc'.length cap) acc' → Wk B w w' → K (ac.put o.dst (.slice a' acc'.length cap)) w') : if Region.wanted o (yielded ops ac.tmps) = true then Oper.wp Tryz.prog o ac w K Q else E := by
  have hw : Region.wanted o (yielded ops ac.tmps) = true := by simp [Region.wanted, hgd]
  rw [if_pos hw]
  obtain ⟨i, h1, h2, h3, h4⟩ := u8_info
  subst hacc
  refine wp_append_own w s x _ ho B 5 i (.int .u8 0) 1 1 Tryz.underlying87 h1 h2 h3 h4 rfl (by decide) v acc.length (Lib.byteCells acc) hs ht ad 1 1 [.int .u8 (c.toNat : Int)] hx rfl ?_ ?_ ?_ ?_ hB ?_
  · intro j u hu
    match j, hu with
    | 0, hu => cases hu; exact hc
  · intro u hu; simp at hu; subst hu; rfl
  · unfold maxLen; omega
  · omega
  · intro v' w' ho' hg _
    have ht' : Txt w' B v' (acc ++ [c]) := by
      unfold Txt
      rw [← byteCells_append, List.length_append]
      exact ho'
    obtain ⟨a', cap, rfl⟩ := ht'.form
    exact h a' cap w' ht' (Wk.grown ht hB hg)

set_option maxRecDepth 100000 in
set_option maxHeartbeats 2000000 in
theorem bare_of (x : Ex) (H : ∀ y ∈ x.of, PW y) : PWb x := by
  intro acc B w v ev ht hx hB hf hsz hP
  obtain ⟨k, n, s, l⟩ := x
  have hx : ExsIn w 0 B l ev := hx
  have H : ∀ y ∈ l, PW y := H
  obtain ⟨a, cap, rfl⟩ := ht.form
  have hopen := hx.open
  obtain ⟨xa, xq, rfl, hl1, hl2, hl3⟩ := hopen
  show Calls Tryz.prog 158 #[.slice a acc.length cap, .agg #[.int .i64 k, .int .i64 n, .string s, .slice xa l.length xq]] w _
  obtain ⟨⟨hf0, hf1, hf2⟩, hf3⟩ := (Ex.fit_eq _).1 hf
  have hf0 : -9223372036854775808 ≤ n := hf0
  have hf1 : n ≤ 9223372036854775807 := hf1
  have hf2 : s.size ≤ 12 := hf2
  have hf3 : Ex.fits l := hf3
  have HT : Hid (Txt w B (.slice a acc.length cap) acc) := ht
  have hs1 : (Ex.mk k n s l).size = 1 + Ex.sizes l := by rw [Ex.size_eq]; rfl
  have K0 : Hid (Kept w (w.alloc (.cells #[.int .i64 k, .int .i64 n, .string s, .slice xa l.length xq] 44))) := (Kept.refl _).al _
  have HPW : Hid (Pow B w) := hP
  by_cases c1 : k = 1
  · subst c1
    have HE : Hid (Px.wb (.mk 1 n s l) acc = acc ++ Lib.itoa n) := Px.wb_num ..
    have HC : Hid (∀ W, Wk B w W → Txt W B (.slice a acc.length cap) acc → Calls Tryz.prog 165 #[.slice a acc.length cap, .int .i64 n, .int .i64 10] W fun e w' => Wrote B W (acc ++ Lib.itoa n) e w') := fun W hW hT => by
      refine (Tryz.strconv_AppendInt_10 B acc.length n hf0 hf1 _ _ W hT (Nat.le_trans hB hW.bel.size) (by omega) (HPW.out.on hW.bel)).mono ?_
      rintro e w' ⟨v', rfl, ho, hb, hk⟩
      have ht' : Txt w' B v' (acc ++ Lib.itoa n) := by
        unfold Txt; rw [← byteCells_append, List.length_append]; exact ho
      obtain ⟨a', cap', rfl⟩ := ht'.form
      exact ⟨a', cap', rfl, ht', hb, hk⟩
    clear ht hx H hf hf3 hP hsz hs1
    obtain ⟨acc1, h1⟩ : ∃ t, acc ++ Lib.itoa n = t := ⟨_, rfl⟩
    rw [h1] at HE HC
    clear h1
    go_enter Tryz.func158, Tryz.ntmps158
    go_wp2_with fail
    refine (HC.out _ (Wk.of K0.out hB) (HT.out.kept K0.out)).mono ?_
    rintro e w1 ⟨a1, cap1, rfl, t1, k1⟩
    have HW : Hid (Txt w1 B (.slice a1 acc1.length cap1) acc1 ∧ Wk B w w1) := ⟨t1, (Wk.of K0.out hB).then k1⟩
    clear t1 k1
    go_wp2_with fail
    go_ret
    rw [HE.out]
    exact ⟨a1, cap1, rfl, HW.out.1, HW.out.2⟩
  have g1 : (k == 1) = false := ne_int c1
  by_cases c2 : k = 2
  · subst c2
    have HE : Hid (Px.wb (.mk 2 n s l) acc = acc ++ s.data.toList) := Px.wb_name ..
    have HL : Hid (acc.length + s.size ≤ 1000000000100) := by show _ ≤ _; omega
    clear ht hx H hf hf3 hP hsz hs1
    obtain ⟨acc1, h1⟩ : ∃ t, acc ++ s.data.toList = t := ⟨_, rfl⟩
    rw [h1] at HE
    have H1 : Hid (acc ++ s.data.toList = acc1) := h1
    clear h1
    go_enter Tryz.func158, Tryz.ntmps158
    go_wp2_with (at_builtin; refine wp_apps (by rfl) _ _ (by rfl) B (.slice a acc.length cap) acc acc1 s H1.out (by rfl) ?c0 (by rfl) HL.out ?c3 ?_)
    case c0 => exact HT.out.kept K0.out
    case c3 => simp; omega
    intro a1 cap1 w1 t1 k1
    have HW : Hid (Txt w1 B (.slice a1 acc1.length cap1) acc1 ∧ Wk B w w1) := ⟨t1, (Wk.of K0.out hB).then k1⟩
    clear t1 k1
    go_wp2_with fail
    go_ret
    rw [HE.out]
    exact ⟨a1, cap1, rfl, HW.out.1, HW.out.2⟩
  have g2 : (k == 2) = false := ne_int c2
  have SG : Hid (∀ W, Calls Tryz.prog 162 #[.int .i64 k] W fun e w' => e = .returned (.string (Px.ba (Px.sgn k))) ∧ w' = W) := fun W => sign_any _ W
  by_cases c3 : k = 3 ∧ l.length = 1
  · obtain ⟨rfl, hll⟩ := c3
    obtain ⟨y, rfl⟩ : ∃ y, l = [y] := List.length_eq_one_iff.1 hll
    obtain ⟨b, o, ya, yn, yq, rfl, ⟨_, hbB⟩, hfz, y0, y1, y2, y3, yT⟩ := hx.itemD 0 Nat.zero_lt_one
    have hfy := Ex.fits_mem hf3 y (List.mem_cons_self ..)
    have hs2 : (Ex.mk 3 n s [y]).size = 1 + y.size := by rw [hs1]; simp [Ex.sizes]
    have hpy := Ex.size_pos y
    obtain ⟨acc1, h1⟩ : ∃ t, acc ++ [45] = t := ⟨_, rfl⟩
    obtain ⟨acc2, h2⟩ : ∃ t, Px.wr y acc1 4 = t := ⟨_, rfl⟩
    have b1 : acc1.length = acc.length + 1 := by rw [← h1]; simp
    have HE : Hid (Px.wb (.mk 3 n s [y]) acc = acc2) := by show _ = _; rw [Px.wb_minus, h1, h2]
    have CY : Hid (∀ W a1 cap1, Wk B w W → Txt W B (.slice a1 acc1.length cap1) acc1 → Calls Tryz.prog 142 #[.slice a1 acc1.length cap1, .agg #[.int .i64 y.kind, .int .i64 y.n, .string y.name, .slice ya yn yq], .int .i64 4] W fun e w' => Wrote B W acc2 e w') := fun W a1 cap1 hW hT => by
      rw [← h2]
      exact H y (List.mem_cons_self ..) acc1 4 B W _ _ (by omega) hT (tree_bel yT hW.bel) (Nat.le_trans hB hW.bel.size) hfy (by rw [hs2] at hsz; omega) (HPW.out.on hW.bel)
    obtain ⟨W0, hW0⟩ : ∃ W0, w.alloc (.cells #[.int .i64 3, .int .i64 n, .string s, .slice (some ⟨b, o, none⟩) 1 xq] 44) = W0 := ⟨_, rfl⟩
    have HW0 : Hid (Wk B w W0 ∧ Txt W0 B (.slice a acc.length cap) acc ∧ W0.heap[w.heap.size]? = some (.cells #[.int .i64 3, .int .i64 n, .string s, .slice (some ⟨b, o, none⟩) 1 xq] 44) ∧ B ≤ W0.heap.size) := by
      rw [← hW0]
      exact ⟨Wk.of ((Kept.refl _).al _) hB, ht.kept ((Kept.refl _).al _), Bx.heap .., by simp; omega⟩
    have hB0 : B ≤ W0.heap.size := HW0.out.2.2.2
    have HA1 : Hid (acc ++ [45] = acc1) := h1
    have HLN : Hid (acc.length ≤ 1000000000100) := by show _ ≤ _; omega
    have SS : Hid (∀ w', Wk B W0 w' → Hid (Wk B W0 w') ∧ (w'.cell? ⟨w.heap.size, 3, none⟩ = some (.slice (some ⟨b, o, none⟩) 1 xq) ∧ w'.cell? ⟨b, o, none⟩ = some (.int .i64 y.kind) ∧ w'.cell? ⟨b, o + 1, none⟩ = some (.int .i64 y.n) ∧ w'.cell? ⟨b, o + 2, none⟩ = some (.string y.name) ∧ w'.cell? ⟨b, o + 3, none⟩ = some (.slice ya yn yq))) := fun w' hw' => by
      have hW := HW0.out.1.then hw'
      have c : ∀ j u, w.cell? ⟨b, j, none⟩ = some u → w'.cell? ⟨b, j, none⟩ = some u := fun j u hu => (hW.bel.cell (p := ⟨b, j, none⟩) hbB).trans hu
      exact ⟨hw', (bx_of (hw'.box HW0.out.2.2.1)).c3, c _ _ y0, c _ _ y1, c _ _ y2, c _ _ y3⟩
    have hBX := bx_of HW0.out.2.2.1
    obtain ⟨-, q0, q1, q2, q3, q4⟩ := SS.out W0 (Wk.refl _ _)
    obtain ⟨p0, p1, p2, -, pf⟩ := hBX
    have HW1 : Hid _ := hW0
    have hlt0 : w.heap.size < W0.heap.size := block_lt_of_cell p0
    clear ht hx H hf hf3 hP hsz hs1 hs2 yT hfy h1 h2 b1 y0 y1 y2 y3 hfz HT K0 hl1 hl2 hl3 hW0 SG
    go_enter Tryz.func158, Tryz.ntmps158
    go_wp2_with fail
    rw [show _ = W0 from HW1.out]
    go_region_held3 (fun w' => Hid (Wk B W0 w') ∧ (w'.cell? ⟨w.heap.size, 3, none⟩ = some (.slice (some ⟨b, o, none⟩) 1 xq) ∧ w'.cell? ⟨b, o, none⟩ = some (.int .i64 y.kind) ∧ w'.cell? ⟨b, o + 1, none⟩ = some (.int .i64 y.n) ∧ w'.cell? ⟨b, o + 2, none⟩ = some (.string y.name) ∧ w'.cell? ⟨b, o + 3, none⟩ = some (.slice ya yn yq)))
      ((first | exact SS.out _ (Wk.of (Kept.refl _).dr hB0) | exact SS.out _ (Wk.of ((Kept.refl _).dr.al _) hB0) | exact SS.out _ ((Wk.of ((Kept.refl _).dr.al _) hB0).then k1) | exact SS.out _ (((Wk.of ((Kept.refl _).dr.al _) hB0).then k1).then k2)))
      ((first | (refine step_app (by rfl) _ _ (by rfl) B (.slice a acc.length cap) acc acc1 45 HA1.out (by rfl) (HW0.out.2.1.kept ((Kept.refl _).dr.al _)) ⟨_, 0, none⟩ (by rfl) (by simp) HLN.out (by simp; omega) ?_; intro a1 cap1 w1 t1 k1) | (go_at_call 142; refine (CY.out _ _ _ ((HW0.out.1.then (Wk.of ((Kept.refl _).dr.al _) hB0)).then k1) t1).mono ?_; rintro e w2 ⟨a2, cap2, rfl, t2, k2⟩)))
    have HW : Hid (Txt w2 B (.slice a2 acc2.length cap2) acc2 ∧ Wk B w w2) := ⟨t2, ((HW0.out.1.then (Wk.of ((Kept.refl _).dr.al _) hB0)).then k1).then k2⟩
    clear t2 k2 t1 k1
    go_wp2_with fail
    go_ret
    rw [HE.out]
    exact ⟨a2, cap2, rfl, HW.out.1, HW.out.2⟩
  by_cases c4 : Px.sgn k ≠ [] ∧ l.length = 2
  · obtain ⟨hk, hll⟩ := c4
    obtain ⟨y, z, rfl⟩ : ∃ y z, l = [y, z] := by
      match l, hll with
      | [y, z], _ => exact ⟨y, z, rfl⟩
    have k3 : k ≠ 3 := fun e => by rw [e] at hk; exact hk Px.sgn_three
    have g3 : (k == 3) = false := ne_int k3
    have HC : Hid (∀ W, Wk B w W → Txt W B (.slice a acc.length cap) acc → Calls Tryz.prog 166 #[.slice a acc.length cap, .agg #[.int .i64 k, .int .i64 n, .string s, .slice xa 2 xq]] W fun e w' => Wrote B W (Px.wb (.mk k n s [y, z]) acc) e w') := fun W hW hT =>
      binary_of k n s y z hk c1 c2 (H y (List.mem_cons_self ..)) (H z (List.mem_cons_of_mem _ (List.mem_cons_self ..))) acc B W _ _ hT (tree_bel hx hW.bel) (Nat.le_trans hB hW.bel.size) hf hsz (HPW.out.on hW.bel)
    have K0' : Hid (Kept w (w.alloc (.cells #[.int .i64 k, .int .i64 n, .string s, .slice xa 2 xq] 44))) := (Kept.refl _).al _
    have hne : (Px.ba (Px.sgn k)).toList.isEmpty = false := by
      rw [toList_data]; simp [Px.ba]; exact hk
    generalize Px.ba (Px.sgn k) = SS at *
    generalize Px.wb (.mk k n s [y, z]) acc = acc1 at *
    clear ht hx H hf hf3 hP hsz hs1 hl1 hl2 hl3 hk K0
    go_enter Tryz.func158, Tryz.ntmps158
    go_wp2_with fail
    refine (SG.out _).mono ?_
    rintro e w1 ⟨rfl, hw1⟩
    subst hw1
    go_wp2_with fail
    refine (HC.out _ (Wk.of K0'.out hB) (HT.out.kept K0'.out)).mono ?_
    rintro e w2 ⟨a2, cap2, rfl, t2, k2⟩
    have HW : Hid (Txt w2 B (.slice a2 acc1.length cap2) acc1 ∧ Wk B w w2) := ⟨t2, (Wk.of K0'.out hB).then k2⟩
    clear t2 k2
    go_wp2_with fail
    go_ret
    exact ⟨a2, cap2, rfl, HW.out.1, HW.out.2⟩
  · have HE : Hid (Px.wb (.mk k n s l) acc = acc) := Px.wb_none k n s l acc c1 c2 c3 c4
    by_cases k3 : k = 3
    · subst k3
      have hl1' : ((l.length : Int) == 1) = false := ne_int (by intro e; exact c3 ⟨rfl, by omega⟩)
      have hne : (Px.ba (Px.sgn 3)).toList.isEmpty = true := by rw [toList_data]; decide
      generalize Px.ba (Px.sgn 3) = SS at *
      clear ht hx H hf hf3 hP hsz hs1 hl1 hl2 hl3 c3 c4
      go_enter Tryz.func158, Tryz.ntmps158
      go_wp2_with fail
      refine (SG.out _).mono ?_
      rintro e w1 ⟨rfl, hw1⟩
      subst hw1
      go_wp2_with fail
      go_ret
      rw [HE.out]
      exact ⟨a, cap, rfl, HT.out.kept K0.out, Wk.of K0.out hB⟩
    have g3 : (k == 3) = false := ne_int k3
    by_cases hs : Px.sgn k = []
    · have hne : (Px.ba (Px.sgn k)).toList.isEmpty = true := by rw [toList_data, hs]; decide
      generalize Px.ba (Px.sgn k) = SS at *
      clear ht hx H hf hf3 hP hsz hs1 hl1 hl2 hl3 c3 c4
      go_enter Tryz.func158, Tryz.ntmps158
      go_wp2_with fail
      refine (SG.out _).mono ?_
      rintro e w1 ⟨rfl, hw1⟩
      subst hw1
      go_wp2_with fail
      go_ret
      rw [HE.out]
      exact ⟨a, cap, rfl, HT.out.kept K0.out, Wk.of K0.out hB⟩
    · have hne : (Px.ba (Px.sgn k)).toList.isEmpty = false := by
        rw [toList_data]; simp [Px.ba]; exact hs
      have hl2' : ((l.length : Int) == 2) = false := ne_int (by intro e; exact c4 ⟨hs, by omega⟩)
      generalize Px.ba (Px.sgn k) = SS at *
      clear ht hx H hf hf3 hP hsz hs1 hl1 hl2 hl3 c3 c4
      go_enter Tryz.func158, Tryz.ntmps158
      go_wp2_with fail
      refine (SG.out _).mono ?_
      rintro e w1 ⟨rfl, hw1⟩
      subst hw1
      go_wp2_with fail
      go_ret
      rw [HE.out]
      exact ⟨a, cap, rfl, HT.out.kept K0.out, Wk.of K0.out hB⟩

theorem write_any (x : Ex) : PW x := Ex.ind (fun x H => write_of x (bare_of x H)) x
end Go.Proofs.YtkobdephobaopaaGreatDoor

namespace Go.Proofs.YtkobdephobaopaaGreatDoor
open Go.RowKit
attribute [local go_sem] run_store_complex

theorem Txt.conv {w : World} {B : Nat} {v : Value} {acc : List UInt8} (h : Txt w B v acc) : (convert 87 9 v).run Tryz.prog w = .ok (.string ⟨acc.toArray⟩) w := by
  obtain ⟨hl, ⟨rfl, h0⟩ | ⟨g, cap, cur, rfl, _, hh, _, _, _, ht⟩⟩ := h
  · have e : acc = [] := List.eq_nil_of_length_eq_zero h0
    subst e
    exact Lib.run_convert_nil_bytes w _ _ 5 0 Tryz.underlying87 Tryz.underlying5 Tryz.underlying9
  · rw [Nat.mul_one] at ht
    exact run_convert_bytes_back w _ _ 5 ⟨g, 0, none⟩ cap acc Tryz.underlying87 Tryz.underlying5 Tryz.underlying9 (Lib.bytes_of_row hh ht)

/-- What the program's own variables hold. -/
structure Env (w : World) : Prop where
  er : Er w
  pow : Pow w.heap.size w
theorem Env.kept {w w' : World} (h : Env w) (k : Kept w w') : Env w' := ⟨h.er.kept k, fun W hW => h.pow W (k.trans (hW.mono k.size))⟩

theorem read_fit : True := trivial

set_option maxRecDepth 100000 in
set_option maxHeartbeats 2000000 in
theorem print_any (x : Ex) (w : World) (ev : Value) (hx : ExsIn w 0 w.heap.size x.of ev) (hf : x.fit) (hsz : 24 * x.size ≤ 1000000000000) (hE : Env w) :
    Calls Tryz.prog 125 #[x.val ev] w fun e w' => e = .returned (.string (Px.ba (Px.print x))) ∧ Kept w w' := by
  obtain ⟨xa, xn, xq, rfl⟩ := hx.form
  obtain ⟨W0, hW0⟩ : ∃ W0, w.alloc (.cells #[.int .i64 x.kind, .int .i64 x.n, .string x.name, .slice xa xn xq] 44) = W0 := ⟨_, rfl⟩
  have hk0 : Kept w W0 := by rw [← hW0]; exact (Kept.refl _).al _
  have hs0 : W0.heap.size = w.heap.size + 1 := by rw [← hW0]; simp
  have hx0 : ExsIn W0 0 W0.heap.size x.of (.slice xa xn xq) := hx.up (Nat.le_refl _) hk0
  have HC : Hid (Calls Tryz.prog 142 #[.slice none 0 0, .agg #[.int .i64 x.kind, .int .i64 x.n, .string x.name, .slice xa xn xq], .int .i64 1] W0 fun e w' => Wrote W0.heap.size W0 (Px.wr x [] 1) e w') :=
    write_any x [] 1 W0.heap.size W0 _ _ (by omega) (Txt.nil _ _) hx0 (Nat.le_refl _) hf (by simpa using hsz) (hE.kept hk0).pow
  have hbx : Bx W0 w.heap.size x.kind x.n x.name (.slice xa xn xq) := by rw [← hW0]; exact Bx.new ..
  obtain ⟨p0, p1, p2, p3, pf⟩ := hbx
  have HBX : Hid (Bx W0 w.heap.size x.kind x.n x.name (.slice xa xn xq)) := ⟨p0, p1, p2, p3, pf⟩
  have HW0 : Hid _ := hW0
  have HK0 : Hid (Kept w W0) := hk0
  have HX : Hid (ExsIn w 0 w.heap.size x.of (.slice xa xn xq)) := hx
  have HEE : Hid (Env w) := hE
  have hlw : w.heap.size < W0.heap.size := by omega
  obtain ⟨t, ht⟩ : ∃ t, Px.wr x [] 1 = t := ⟨_, rfl⟩
  rw [ht] at HC
  have HLT : Hid (t.length ≤ 1000000000000) := by have := Px.wr_len x hf [] 1; rw [ht] at this; show _ ≤ _; simp at this; omega
  have HTT : Hid (Px.wr x [] 1 = t) := ht
  clear hk0 hx0 hx hf hsz hE hW0 ht hs0
  go_enter Tryz.func125, Tryz.ntmps125
  go_wp2_with fail
  rw [show _ = W0 from HW0.out]
  refine HC.out.mono ?_
  rintro e w1 ⟨a1, cap1, rfl, t1, k1⟩
  have hcv := t1.conv
  have HK1 : Hid (Kept W0 w1) := k1.bel
  clear t1 k1
  have TOK : Hid (∀ W, Kept w W → Calls Tryz.prog 27 #[.string ⟨t.toArray⟩] W fun e w' => ∃ v p q, e = .returned (.tuple #[v, p, q]) ∧ Told ⟨t.toArray⟩ W (Lx.toks t) v p q w') := fun W hW => tokens_any _ W (by have := HLT.out; simp [ByteArray.size]; omega) (HEE.out.er.kept hW) _ rfl
  go_wp2_with fail
  refine (TOK.out _ (HK0.out.then HK1.out)).mono ?_
  rintro e w2 ⟨v, pp, qq, rfl, htold⟩
  cases hto : Lx.toks t with
  | bad q =>
    rw [hto] at htold
    obtain ⟨rfl, rfl, rfl, hb⟩ := htold
    have HK2 : Hid (Kept w w2) := (HK0.out.then HK1.out).then hb
    have HPR : Hid (Px.print x = []) := Px.print_bad (by rw [HTT.out]; exact hto)
    clear hb hto
    go_wp2_with fail
    go_ret
    rw [HPR.out]
    exact ⟨rfl, HK2.out⟩
  | good ts =>
    rw [hto] at htold
    have hne : ts ≠ [] := Px.toks_ne _ _ hto
    obtain ⟨g, cap, rfl, rfl, rfl, hg0, hg1, hrow, hb⟩ := told_good htold hne
    have HK2 : Hid (Kept w w2) := (HK0.out.then HK1.out).then hb
    have hpos : 0 < ts.length := List.length_pos_iff.2 hne
    have hcnt := Px.toks_count _ _ hto
    have HTO : Hid (Lx.toks (Px.wr x [] 1) = .good ts) := by show _ = _; rw [HTT.out]; exact hto
    obtain ⟨o, m, hrd⟩ : ∃ o m, Px.read (ts.map Lx.Tk.core) = (o, m) := ⟨_, _, rfl⟩
    have HRD : Hid (Px.read (ts.map Lx.Tk.core) = (o, m)) := hrd
    have HROW : Hid (Row ⟨t.toArray⟩ ts g w2) := hrow
    have HG : Hid (g < w2.heap.size) := hg1
    have HB2 : Hid (Bx w2 w.heap.size x.kind x.n x.name (.slice xa xn xq)) := (HBX.out.kept HK1.out).kept hb
    have READ : Hid (Calls Tryz.prog 121 #[.slice (some ⟨g, 0, none⟩) ts.length cap, .int .i64 0] w2 fun e w' => Got w2 ts o m e w') := read_from hrow hg1 hpos hcnt o m (show Px.read (left ts 0) = (o, m) by rw [show left ts 0 = ts.map Lx.Tk.core by simp [left]]; exact hrd)
    clear htold hb hto hne hrd hrow hg0 p0 p1 p2 p3 pf hcv
    go_wp2_with fail
    refine READ.out.mono ?_
    rintro e w3 ⟨y, b, p, ya, yn, yq, rfl, hy, hbb, hp, hT, hK3⟩
    have HK3 : Hid (Kept w w3) := HK2.out.then hK3
    obtain ⟨p0, p1, p2, p3, pf⟩ := HB2.out.kept hK3
    have hw3 : w.heap.size < w3.heap.size := block_lt_of_cell p0
    have HY : Hid (y = oe o ∧ p = ts.length - m.length ∧ ExsIn w3 w2.heap.size w3.heap.size y.of (.slice ya yn yq)) := ⟨hy, hp, hT⟩
    have HROW3 : Hid (Row ⟨t.toArray⟩ ts g w3 ∧ g < w3.heap.size) := ⟨⟨fun j hj => (hK3.cell (p := ⟨g, j, none⟩) HG.out).trans (HROW.out.cells j hj)⟩, Nat.lt_of_lt_of_le HG.out hK3.size⟩
    cases o with
    | none =>
      cases hbb
      have HPR : Hid (Px.print x = []) := Px.print_no HTO.out HRD.out
      clear hK3 hy hp hT
      go_wp2_with fail
      go_ret
      rw [HPR.out]
      exact ⟨rfl, HK3.out.al _⟩
    | some y' =>
      cases hbb
      have hy' : y = y' := hy
      subst hy'
      have hm : m ≠ [] := Px.read_left (l := Px.wr x [] 1) HTO.out HRD.out
      have hsuf : m <:+ left ts 0 := by have := Px.read_suf (ts.map Lx.Tk.core); rw [HRD.out] at this; exact this
      have hml := suf_len hsuf
      have hmp := List.length_pos_iff.2 hm
      have hplt : p < ts.length := by omega
      have hhd : Px.hd m = (ts[p].kind, ts[p].text, ts[p].n) := by
        have := suf_left hsuf
        rw [← hp] at this
        rw [← this]
        exact hd_in ts p hplt
      obtain ⟨c0, -⟩ := HROW3.out.1.at p hplt
      have hg3 := HROW3.out.2
      have hpi : (p : Int) < (ts.length : Int) := by omega
      have SM : Hid (∀ W, Kept w3 W → Calls Tryz.prog 116 #[y.val (.slice ya yn yq), x.val (.slice xa xn xq)] W fun e w' => e = .returned (.bool (y.same x)) ∧ Kept W w') := fun W hW => sameExpr_any y x W _ _ (hT.up (Nat.le_refl _) hW) (HX.out.up (Nat.le_refl _) (HK3.out.then hW))
      have HPR : Hid (Px.print x = if ts[p].kind = 4 ∧ y.same x = true then t else []) := by
        have := Px.print_if HTO.out HRD.out
        rw [hhd, HTT.out] at this
        exact this
      generalize ts[p].kind = kd at *
      clear hK3 hy hp hT hm hsuf hml hmp hplt hhd
      by_cases h4 : kd = 4
      · subst h4
        go_wp2_with fail
        refine (SM.out _ ((Kept.refl _).al _)).mono ?_
        rintro e w4 ⟨rfl, k4⟩
        have HK4 : Hid (Kept w w4) := (HK3.out.al _).then k4
        clear k4
        cases hsm : y.same x with
        | true =>
          have HPT : Hid (Px.print x = t) := by
            have := HPR.out
            rw [if_pos (by simp [hsm])] at this
            exact this
          go_wp2_with fail
          go_ret
          rw [HPT.out]
          exact ⟨rfl, HK4.out⟩
        | false =>
          have HPT : Hid (Px.print x = []) := by
            have := HPR.out
            rw [if_neg (by rw [hsm]; intro c; cases c.2)] at this
            exact this
          go_wp2_with fail
          go_ret
          rw [HPT.out]
          exact ⟨rfl, HK4.out⟩
      · have g4 : ((kd : Int) != 4) = true := by simp; omega
        have HPT : Hid (Px.print x = []) := by
          have := HPR.out
          rw [if_neg (by intro c; exact h4 c.1)] at this
          exact this
        go_wp2_with fail
        go_ret
        rw [HPT.out]
        exact ⟨rfl, HK3.out.al _⟩
end Go.Proofs.YtkobdephobaopaaGreatDoor
