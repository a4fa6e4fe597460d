/- Sq -/
import Derived.Test.YtnfkjmafhaecgaaYSl
import Derived.Test.YtnfkjmafhaecgaaYSp
import Derived.Test.YtnfkjmafhaecgaaYSs
import Derived.Test.YtnfkjmafhaecgaaYSr
import Derived.Test.YtnfkjmafhaecgaaYSn5
import Derived.Test.YtnfkjmafhaecgaaYSi
import Derived.Test.YtnfkjmafhaecgaaYSo

namespace Go.Proofs.Ytnfkjmafhaecgaa
open Go.RowKit
theorem rstmt_any (deep : Int) (hd0 : 0 ≤ deep) (hd8 : deep ≤ 8) (blk : Pp.Pl → Pp.R (List St)) (HB : QB (deep + 1) blk) {R g cap : Nat} {s : ByteArray} {ts : List Lx.Tk} {a bad : Nat} {w : World} (h : Rq w R g cap ts a false bad) (hal : Pp.Alive (left ts a)) (hok : TkOk s ts) (o : Option St) (m : List Lx.Core) (hp : Pp.stmt (plOf s ts) (blk (plOf s ts)) (left ts a) = (o, m)) :
    Calls Try.prog 62 #[.pointer (some ⟨R, 0, none⟩), .string s, .int .i64 deep] w fun e w' => RedS R g cap ts bad w o m e w' := by
  by_cases h1 : (Px.hd (left ts a)).1 = 1
  · by_cases k_lock : (Px.hd (left ts a)).2.1 = [108, 111, 99, 107]
    · exact rstmt_lock deep blk h hal hok o m k_lock hp
    by_cases k_unlock : (Px.hd (left ts a)).2.1 = [117, 110, 108, 111, 99, 107]
    · exact rstmt_unlock deep blk h hal hok o m k_unlock hp
    by_cases k_goto : (Px.hd (left ts a)).2.1 = [103, 111, 116, 111]
    · exact rstmt_goto deep blk h hal hok o m k_goto hp
    by_cases k_label : (Px.hd (left ts a)).2.1 = [108, 97, 98, 101, 108]
    · exact rstmt_label deep blk h hal hok o m k_label hp
    by_cases k_send : (Px.hd (left ts a)).2.1 = [115, 101, 110, 100]
    · exact rstmt_send deep blk h hal hok o m k_send hp
    by_cases k_recv : (Px.hd (left ts a)).2.1 = [114, 101, 99, 118]
    · exact rstmt_recv deep blk h hal hok o m k_recv hp
    by_cases k_print : (Px.hd (left ts a)).2.1 = [112, 114, 105, 110, 116]
    · exact rstmt_print deep blk h hal hok o m k_print hp
    by_cases k_if : (Px.hd (left ts a)).2.1 = [105, 102]
    · exact rstmt_if deep hd0 hd8 blk HB h hal hok o m k_if hp
    by_cases k_repeat : (Px.hd (left ts a)).2.1 = [114, 101, 112, 101, 97, 116]
    · exact rstmt_repeat deep hd0 hd8 blk HB h hal hok o m k_repeat hp
    have hsk : Pp.sk (Px.hd (left ts a)).2.1 = 1 := by simp [Pp.sk, k_lock, k_unlock, k_goto, k_label, k_send, k_recv, k_print, k_if, k_repeat]
    exact rstmt_name deep blk h hal hok o m h1 hsk hp
  · exact rstmt_off deep blk h hal hok o m h1 hp
end Go.Proofs.Ytnfkjmafhaecgaa
