/- What the package's functions answer: the contracts together. -/
import Derived.Test.YtbfacdfmanffdaaGreatDoorJAd
import Derived.Test.YtbfacdfmanffdaaGreatDoorJMu
import Derived.Test.YtbfacdfmanffdaaGreatDoorJTx
import Derived.Test.YtbfacdfmanffdaaGreatDoorGLay
