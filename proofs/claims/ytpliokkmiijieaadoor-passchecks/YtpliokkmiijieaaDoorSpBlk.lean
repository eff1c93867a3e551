/- A block known whole: the texts on sha have it. -/
import Derived.Test.YtpliokkmiijieaaDoorSpBits
