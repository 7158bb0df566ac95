/- The rows' condition, with the law of lines. -/
import Derived.Test.YtmdenbgambjlcaaDoorGfRow
import Derived.Test.YtmdenbgambjlcaaDoorGfLaw2
