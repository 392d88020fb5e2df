/-
  THE KIT's WORDS THAT A TABLE's WALKS USE, UNDER ONE NAME. No theorem of its own.
-/
import Derived.Test.YtnlmplllfgfgoaaRows
import Derived.Test.YtnlmplllfgfgoaaPfxK
import Derived.Test.YtnlmplllfgfgoaaTriA
import Derived.Test.YtnlmplllfgfgoaaTriN
import Derived.WalkSpells
import Derived.WalkSmall
import Derived.IntWalk
import Derived.Laws.StructEq
import Derived.Deep.LoopGhost
import Derived.Deep.DeepCutAuto
import Derived.Deep.RegionHeld3
import Derived.Deep.RegionLaw
import Derived.BigRegion
import Derived.RegionTactic
