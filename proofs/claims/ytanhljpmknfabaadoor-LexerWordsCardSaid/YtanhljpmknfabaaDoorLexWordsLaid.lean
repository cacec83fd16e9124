/- The tables and the library's own number, in a world of the row's shape. -/
import Derived.Test.YtanhljpmknfabaaDoorLexWords
import Derived.Test.YtanhljpmknfabaaDoorLexLaid
namespace Go.Proofs.YtanhljpmknfabaaDoor.LexWordsLaid
open Go Go.RowKit

theorem tab_laid {W : World} (h : laidMetH Tryd.prog LexLaid.laid W) (hs : W.ShapedOpen Tryd.prog) : LexFull.TabM W :=
  ⟨LexLaid.tab_laid h, laysM145.s1_3 W hs⟩

theorem words_law (w : World) (ht : LexFull.TabM w) (s : ByteArray) (ws : s.size ≤ maxLen) :
    Calls Tryd.prog 5 #[.string s] w fun e w' => e = .returned (.bool true) ∧ Below w.heap.size w w' := LexWords.words_law w ht s ws

end Go.Proofs.YtanhljpmknfabaaDoor.LexWordsLaid
