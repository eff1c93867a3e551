/- What the texts on spell build on, in a seat that has the texts on sha and mac. -/
import Derived.Test.YtpliokkmiijieabDoorFar
import Derived.Test.YtpliokkmiijieabDoorStr
import Derived.Test.YtpliokkmiijieabDoorLaid
import Derived.Lib.Bytes
import Derived.Lib.LazyBuf
