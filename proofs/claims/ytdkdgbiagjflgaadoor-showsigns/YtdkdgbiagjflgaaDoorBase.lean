/- What every text of mine imports. -/
import Derived.Test.YtdkdgbiagjflgaaDoorRows
import Derived.WalkKit
import Derived.WalkSpells
import Derived.WalkLawsBesides
import Derived.Lib.OthersKept
import Derived.Lib.Hide
