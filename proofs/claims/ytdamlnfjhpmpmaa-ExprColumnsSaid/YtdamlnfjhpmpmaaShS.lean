/- The shelf. -/
import Derived.Test.YtdamlnfjhpmpmaaShelf
