/- What the writers answer: write, writeBare, writeBinary. -/
import Derived.Test.YtbjdnniklcmcbaaDoorRe
import Derived.Test.YtbjdnniklcmcbaaDoorPw
import Derived.Test.YtbjdnniklcmcbaaDoorShelf
import Derived.Lib.AppendStr
import Derived.Lib.BufferKept
import Derived.Laws.AppendOwn
namespace Go.Proofs.YtbjdnniklcmcbaaDoor
open Go.RowKit
attribute [local go_sem] run_store_complex

/-- A text of one's own. -/
def Txt (w : World) (B : Nat) (v : Value) (acc : List UInt8) : Prop := w.ownsRow B 5 1 v acc.length (Lib.byteCells acc)
theorem Txt.form {w : World} {B : Nat} {v : Value} {acc : List UInt8} (h : Txt w B v acc) : ∃ a cap, v = .slice a acc.length cap := by
  rcases h.2 with ⟨rfl, h0⟩ | ⟨g, cap, cur, rfl, _⟩
  · exact ⟨none, 0, by rw [h0]⟩
  · exact ⟨_, cap, rfl⟩
theorem Txt.kind {w : World} {B : Nat} {v : Value} {acc : List UInt8} (h : Txt w B v acc) : ∀ g, v.ownBlock = some g → B ≤ g ∧ ∃ c fz, w.heap[g]? = some (.cells c 5 fz) := by
  intro g hg
  rcases h.2 with ⟨rfl, h0⟩ | ⟨g', cap, cur, rfl, hb, hh, _⟩
  · cases hg
  · simp only [Value.ownBlock, Option.some.injEq] at hg
    subst hg
    exact ⟨hb, cur, _, hh⟩
theorem Txt.kept {w w' : World} {B : Nat} {v : Value} {acc : List UInt8} (h : Txt w B v acc) (k : Kept w w') : Txt w' B v acc := by
  obtain ⟨hl, h0 | ⟨g, cap, cur, hv, hb, hh, r⟩⟩ := h
  · exact ⟨hl, .inl h0⟩
  · have hg : g < w.heap.size := (Array.getElem?_eq_some_iff.1 hh).1
    exact ⟨hl, .inr ⟨g, cap, cur, hv, hb, by rw [k.block g hg]; exact hh, r⟩⟩
theorem Txt.nil (w : World) (B : Nat) : Txt w B (.slice none 0 0) [] := World.ownsRow_nil w B 5 1

/-- Below B nothing has turned, nor what is no text. -/
structure Wk (B : Nat) (w w' : World) : Prop where
  bel : Below B w w'
  oth : Lib.OthersKept 5 none w w'
theorem Wk.refl (B : Nat) (w : World) : Wk B w w := ⟨Below.refl _ _, Lib.OthersKept.refl _ _ _⟩
theorem Wk.then {B : Nat} {a b c : World} (h : Wk B a b) (k : Wk B b c) : Wk B a c := ⟨h.bel.trans k.bel, h.oth.trans k.oth⟩
theorem Wk.of {B : Nat} {w w' : World} (k : Kept w w') (hB : B ≤ w.heap.size) : Wk B w w' := ⟨k.mono hB, (Lib.OthersKept.refl _ _ _).below k⟩
theorem Wk.grown {B : Nat} {w w' : World} {v : Value} {acc : List UInt8} (ht : Txt w B v acc) (hB : B ≤ w.heap.size) (hg : w.grownBy w' v.ownBlock) : Wk B w w' :=
  ⟨Below.grown (Below.refl _ _) hg hB fun k hk => (ht.kind k hk).1, (Lib.OthersKept.refl _ _ _).grown hg fun g hg' => (ht.kind g hg').2⟩
/-- The block of a parameter that is boxed. -/
theorem Bx.heap (w : World) (k n : Int) (s : ByteArray) (v : Value) : (w.alloc (.cells #[.int .i64 k, .int .i64 n, .string s, v] 25)).heap[w.heap.size]? = some (.cells #[.int .i64 k, .int .i64 n, .string s, v] 25) := heap_alloc_new _ _
theorem bx_of {w : World} {B : Nat} {k n : Int} {s : ByteArray} {v : Value} (h : w.heap[B]? = some (.cells #[.int .i64 k, .int .i64 n, .string s, v] 25)) : Bx w B k n s v := by
  have c : ∀ j, w.cell? ⟨B, j, none⟩ = #[.int .i64 k, .int .i64 n, .string s, v][j]? := fun j => cell_of_row w B _ _ _ (0, 0) h
  exact ⟨c 0, c 1, c 2, c 3, fun j => frozen_of_row w B j _ _ h⟩
theorem Wk.box {B : Nat} {w w' : World} (h : Wk B w w') {b : Nat} {k n : Int} {s : ByteArray} {v : Value} (hb : w.heap[b]? = some (.cells #[.int .i64 k, .int .i64 n, .string s, v] 25)) : w'.heap[b]? = some (.cells #[.int .i64 k, .int .i64 n, .string s, v] 25) :=
  h.oth b _ hb (by simp) (fun c fz e => by cases e)

abbrev Pow (B : Nat) (w : World) : Prop := Lib.TabBelow Tryd.prog B w "internal/strconv.uint64pow10" .u64 Lib.pow10Tab

/-- What a writer leaves. -/
def Wrote (B : Nat) (w : World) (t : List UInt8) (e : Ending) (w' : World) : Prop := ∃ a cap, e = .returned (.slice a t.length cap) ∧ Txt w' B (.slice a t.length cap) t ∧ Wk B w w'

def PW (x : Ex) : Prop := ∀ (acc : List UInt8) (least B : Nat) (w : World) (v ev : Value), least ≤ 5 → Txt w B v acc → ExsIn w 0 B x.of ev → B ≤ w.heap.size → x.fit → acc.length + 24 * x.size ≤ 1000000000000 → Pow B w →
  Calls Tryd.prog 17 #[v, x.val ev, .int .i64 (least : Int)] w fun e w' => Wrote B w (Px.wr x acc least) e w'
def PB (x : Ex) : Prop := ∀ (acc : List UInt8) (B : Nat) (w : World) (v ev : Value), Txt w B v acc → ExsIn w 0 B x.of ev → B ≤ w.heap.size → x.fit → acc.length + 24 * x.size ≤ 1000000000002 → Pow B w →
  Calls Tryd.prog 24 #[v, x.val ev] w fun e w' => Wrote B w (Px.wb x acc) e w'

theorem tree_bel {w w' : World} {B : Nat} {l : List Ex} {v : Value} (h : ExsIn w 0 B l v) (b : Below B w w') : ExsIn w' 0 B l v := h.stays fun k hk => b.block k hk.2

theorem byteCells_append (a b : List UInt8) : Lib.byteCells a ++ Lib.byteCells b = Lib.byteCells (a ++ b) := by simp [Lib.byteCells]

theorem u8_info : ∃ i, Tryd.prog.info? 5 = some i ∧ i.zero = some (.int .u8 0) ∧ i.size = 1 ∧ i.bytes = 1 := by
  have h : (Tryd.prog.info? 5).map (fun i => (i.zero, i.size, i.bytes)) = some (some (.int .u8 0), 1, 1) := by kernel_rfl
  cases hi : Tryd.prog.info? 5 with
  | none => rw [hi] at h; simp at h
  | some i =>
    rw [hi] at h
    simp only [Option.map_some, Option.some.injEq, Prod.mk.injEq] at h
    exact ⟨i, rfl, h.1, h.2.1, h.2.2⟩

/-- One byte more. -/
theorem wp_app {w : World} {ops : Array Oper} {rest : List Oper} {o : Oper} {ac : Act} {Q : Exit → Act → World → Prop} (hgd : o.guard = none) (s x : Operand) (ho : o.op = .call { callee := .builtin .append, args := #[s, x], argTypes := #[47, 47] })
    (B : Nat) (v : Value) (acc acc' : List UInt8) (c : UInt8) (hacc : acc ++ [c] = acc') (hs : ac.eval s = v) (ht : Txt w B v acc) (ad : Addr) (hx : ac.eval x = .slice (some ad) 1 1) (hc : w.cell? ad = some (.int .u8 (c.toNat : Int))) (hl : acc.length ≤ 1000000000100) (hB : B ≤ w.heap.size)
    (h : ∀ a' cap w', Txt w' B (.slice a' acc'.length cap) acc' → Wk B w w' → wpList Tryd.prog ops Q rest (ac.put o.dst (.slice a' acc'.length cap)) w') : wpList Tryd.prog ops Q (o :: rest) ac w := by
  obtain ⟨i, h1, h2, h3, h4⟩ := u8_info
  subst hacc
  refine wpList_append_own w hgd s x _ ho B 5 i (.int .u8 0) 1 1 Tryd.underlying47 h1 h2 h3 h4 rfl (by decide) v acc.length (Lib.byteCells acc) hs ht ad 1 1 [.int .u8 (c.toNat : Int)] hx rfl ?_ ?_ ?_ ?_ hB ?_
  · intro j u hu
    match j, hu with
    | 0, hu => cases hu; exact hc
  · intro u hu; simp at hu; subst hu; rfl
  · unfold maxLen; omega
  · omega
  · intro v' w' ho' hg _
    have ht' : Txt w' B v' (acc ++ [c]) := by
      unfold Txt
      rw [← byteCells_append, List.length_append]
      exact ho'
    obtain ⟨a', cap, rfl⟩ := ht'.form
    exact h a' cap w' ht' (Wk.grown ht hB hg)
/-- A text more. -/
theorem wp_apps {w : World} {ops : Array Oper} {rest : List Oper} {o : Oper} {ac : Act} {Q : Exit → Act → World → Prop} (hgd : o.guard = none) (s x : Operand) (ho : o.op = .call { callee := .builtin .append, args := #[s, x], argTypes := #[47, 9] })
    (B : Nat) (v : Value) (acc acc' : List UInt8) (y : ByteArray) (hacc : acc ++ y.data.toList = acc') (hs : ac.eval s = v) (ht : Txt w B v acc) (hx : ac.eval x = .string y) (hl : acc.length + y.size ≤ 1000000000100) (hB : B ≤ w.heap.size)
    (h : ∀ a' cap w', Txt w' B (.slice a' acc'.length cap) acc' → Wk B w w' → wpList Tryd.prog ops Q rest (ac.put o.dst (.slice a' acc'.length cap)) w') : wpList Tryd.prog ops Q (o :: rest) ac w := by
  obtain ⟨i, h1, h2, h3, h4⟩ := u8_info
  subst hacc
  refine Lib.wpList_append_own_string w hgd s x _ _ ho B 5 i Tryd.underlying47 Tryd.underlying9 h1 h2 h3 h4 v acc.length (Lib.byteCells acc) hs ht y hx ?_ ?_ hB ?_
  · unfold maxLen; omega
  · omega
  · intro v' w' ho' hg _
    have hy : y.data.toList.length = y.size := by simp
    have ht' : Txt w' B v' (acc ++ y.data.toList) := by
      unfold Txt
      rw [← byteCells_append, List.length_append, hy]
      exact ho'
    obtain ⟨a', cap, rfl⟩ := ht'.form
    exact h a' cap w' ht' (Wk.grown ht hB hg)

set_option maxRecDepth 100000 in
set_option maxHeartbeats 2000000 in
theorem write_of (x : Ex) (H : PB x) : PW x := by
  intro acc least B w v ev hle ht hx hB hf hsz hP
  obtain ⟨a, cap, rfl⟩ := ht.form
  obtain ⟨xa, xn, xq, rfl⟩ := hx.form
  have HT : Hid (Txt w B (.slice a acc.length cap) acc) := ht
  have HX : Hid (ExsIn w 0 B x.of (.slice xa xn xq)) := hx
  have HH : Hid (PB x) := H
  have HF : Hid x.fit := hf
  have HP : Hid (Pow B w) := hP
  have hpos := Ex.size_pos x
  clear ht hx H hf hP
  have RK : Hid (∀ W, Calls Tryd.prog 23 #[.int .i64 x.kind] W fun e w' => e = .returned (.int .i64 (Px.rnk x.kind : Nat)) ∧ w' = W) := fun W => rank_any _ W
  obtain ⟨N, hN⟩ : ∃ N, acc.length = N := ⟨_, rfl⟩
  have HN : Hid (acc.length = N) := hN
  have HTN : Hid (Txt w B (.slice a N cap) acc) := by rw [← hN]; exact HT.out
  by_cases h6 : 6000 < acc.length
  · have g6 : (6000 : Int) < (N : Int) := by omega
    have HE : Hid (Px.wr x acc least = acc) := by show Px.wr x acc least = acc; unfold Px.wr Px.wrap; rw [if_pos h6]
    rw [hN]
    clear h6 hN
    go_enter Tryd.func17, Tryd.ntmps17
    go_wp2_with fail
    go_ret
    rw [HE.out]
    exact ⟨a, cap, by rw [HN.out]; rfl, (HT.out.kept ((Kept.refl _).al _)), Wk.of ((Kept.refl _).al _) hB⟩
  have g6 : ¬ (6000 : Int) < (N : Int) := by omega
  have K0 : Hid (Kept w (w.alloc (.cells #[.int .i64 x.kind, .int .i64 x.n, .string x.name, .slice xa xn xq] 25))) := (Kept.refl _).al _
  by_cases hr : Px.rnk x.kind < least
  · have hr' : ((Px.rnk x.kind : Nat) : Int) < (least : Int) := by omega
    have HE : Hid (Px.wr x acc least = Px.wb x (acc ++ [40]) ++ [41]) := by show Px.wr x acc least = _; unfold Px.wr Px.wrap; rw [if_neg h6, if_pos hr]
    have HLL : Hid ((Px.wb x (acc ++ [40])).length ≤ 1000000000100) := by
      have := Px.wb_len x HF.out (acc ++ [40])
      show _ ≤ _
      simp only [List.length_append, List.length_cons, List.length_nil] at this
      omega
    have HC : Hid (∀ W a1 cap1, Wk B w W → Txt W B (.slice a1 (acc ++ [40]).length cap1) (acc ++ [40]) → Calls Tryd.prog 24 #[.slice a1 (acc ++ [40]).length cap1, x.val (.slice xa xn xq)] W fun e w' => Wrote B W (Px.wb x (acc ++ [40])) e w') :=
      fun W a1 cap1 hW hT => HH.out _ B W _ _ hT (tree_bel HX.out hW.bel) (Nat.le_trans hB hW.bel.size) HF.out (by simp only [List.length_append, List.length_cons, List.length_nil]; omega) (HP.out.on hW.bel)
    obtain ⟨acc1, hacc1⟩ : ∃ acc1, acc ++ [40] = acc1 := ⟨_, rfl⟩
    obtain ⟨acc2, hacc2⟩ : ∃ acc2, Px.wb x acc1 = acc2 := ⟨_, rfl⟩
    rw [hacc1, hacc2] at HE HLL
    rw [hacc1, hacc2] at HC
    have HA1 : Hid (acc ++ [40] = acc1) := hacc1
    obtain ⟨acc3, hacc3⟩ : ∃ acc3, acc2 ++ [41] = acc3 := ⟨_, rfl⟩
    rw [hacc3] at HE
    have HA3 : Hid (acc2 ++ [41] = acc3) := hacc3
    have hNB : N ≤ 1000000000000 := by omega
    rw [hN]
    generalize Px.rnk x.kind = rr at *
    clear h6 hN hr hacc1 hacc2 hacc3
    go_enter Tryd.func17, Tryd.ntmps17
    go_wp2_with fail
    refine (RK.out _).mono ?_
    rintro e w1 ⟨rfl, hw1⟩
    subst hw1
    go_wp2_with (at_builtin; refine wp_app (by rfl) _ _ (by rfl) B (.slice a N cap) acc acc1 40 HA1.out (by rfl) ?c0 ⟨_, 0, none⟩ (by rfl) ?c1 ?c2 ?c3 ?_)
    case c0 => exact (HTN.out.kept K0.out).kept ((Kept.refl _).al _)
    case c1 => simp
    case c2 => rw [HN.out]; omega
    case c3 => simp; omega
    intro a1 cap1 w1 t1 k1
    have HK1 : Hid (Wk B w w1) := (Wk.of (K0.out.al _) hB).then k1
    have HT1 : Hid (Txt w1 B (.slice a1 acc1.length cap1) acc1) := t1
    have HBX : Hid (Bx w1 w.heap.size x.kind x.n x.name (.slice xa xn xq)) := bx_of (k1.box ((((Kept.refl _).al _ : Kept (w.alloc (.cells #[.int .i64 x.kind, .int .i64 x.n, .string x.name, .slice xa xn xq] 25)) _).block _ (by simp)).trans (Bx.heap w ..)))
    obtain ⟨c0, c1, c2, c3, cf⟩ := HBX.out
    have hw1 := HBX.out.lt
    clear t1 k1
    go_wp2_with fail
    refine (HC.out _ _ _ HK1.out HT1.out).mono ?_
    rintro e w2 ⟨a2, cap2, rfl, t2, k2⟩
    have HK2 : Hid (Wk B w w2) := HK1.out.then k2
    have HT2 : Hid (Txt w2 B (.slice a2 acc2.length cap2) acc2) := t2
    have hw2 : B ≤ w2.heap.size := Nat.le_trans hB HK2.out.bel.size
    clear t2 k2
    go_wp2_with (at_builtin; refine wp_app (by rfl) _ _ (by rfl) B (.slice a2 acc2.length cap2) acc2 acc3 41 HA3.out (by rfl) ?d0 ⟨_, 0, none⟩ (by rfl) ?d1 HLL.out ?d3 ?_)
    case d0 => exact HT2.out.kept ((Kept.refl _).al _)
    case d1 => simp
    case d3 => simp; omega
    intro a3 cap3 w3 t3 k3
    have HW : Hid (Txt w3 B (.slice a3 acc3.length cap3) acc3 ∧ Wk B w w3) := ⟨t3, (HK2.out.then (Wk.of ((Kept.refl _).al _) hw2)).then k3⟩
    clear t3 k3
    go_wp2_with fail
    go_ret
    rw [HE.out]
    exact ⟨a3, cap3, rfl, HW.out.1, HW.out.2⟩
  · have hr' : ¬ ((Px.rnk x.kind : Nat) : Int) < (least : Int) := by omega
    have HE : Hid (Px.wr x acc least = Px.wb x acc) := by show Px.wr x acc least = _; unfold Px.wr Px.wrap; rw [if_neg h6, if_neg hr]
    have HC : Hid (∀ W, Wk B w W → Txt W B (.slice a acc.length cap) acc → Calls Tryd.prog 24 #[.slice a acc.length cap, x.val (.slice xa xn xq)] W fun e w' => Wrote B W (Px.wb x acc) e w') :=
      fun W hW hT => HH.out acc B W _ _ hT (tree_bel HX.out hW.bel) (Nat.le_trans hB hW.bel.size) HF.out (by omega) (HP.out.on hW.bel)
    rw [hN]
    rw [hN] at HC
    generalize Px.rnk x.kind = rr at *
    clear h6 hN hr
    go_enter Tryd.func17, Tryd.ntmps17
    go_wp2_with fail
    refine (RK.out _).mono ?_
    rintro e w1 ⟨rfl, hw1⟩
    subst hw1
    go_wp2_with fail
    refine (HC.out _ (Wk.of K0.out hB) (by have := HT.out.kept K0.out; rwa [HN.out] at this)).mono ?_
    rintro e w2 ⟨a2, cap2, rfl, t2, k2⟩
    have HW : Hid (Txt w2 B (.slice a2 (Px.wb x acc).length cap2) (Px.wb x acc) ∧ Wk B w w2) := ⟨t2, (Wk.of K0.out hB).then k2⟩
    clear t2 k2
    go_wp2_with fail
    go_ret
    rw [HE.out]
    exact ⟨a2, cap2, rfl, HW.out.1, HW.out.2⟩
end Go.Proofs.YtbjdnniklcmcbaaDoor
