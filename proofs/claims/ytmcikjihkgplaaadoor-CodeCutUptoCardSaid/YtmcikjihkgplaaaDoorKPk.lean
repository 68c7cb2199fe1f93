/- What the package's functions answer: the four contracts together. -/
import Derived.Test.YtmcikjihkgplaaaDoorPf
import Derived.Test.YtmcikjihkgplaaaDoorPl
