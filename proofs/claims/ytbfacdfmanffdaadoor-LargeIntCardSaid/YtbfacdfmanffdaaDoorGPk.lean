/- What the package's functions answer: the contracts together. -/
import Derived.Test.YtbfacdfmanffdaaDoorJAd
import Derived.Test.YtbfacdfmanffdaaDoorJMu
import Derived.Test.YtbfacdfmanffdaaDoorJTx
import Derived.Test.YtbfacdfmanffdaaDoorGLay
