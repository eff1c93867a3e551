/- What the texts on spell build on, in a seat that has the texts on sha and mac. -/
import Derived.Test.YtpliokkmiijieaaDoorFar
import Derived.Test.YtpliokkmiijieaaDoorStr
import Derived.Test.YtpliokkmiijieaaDoorLaid
import Derived.Lib.Bytes
import Derived.Lib.LazyBuf
