/- member: awake. -/
import Derived.Test.YtomgbnbkfkjifaaMemAw
namespace Go.Proofs.Ytomgbnbkfkjifaa
open Go.RowKit
set_option linter.unusedVariables false
set_option linter.unusedSimpArgs false

end Go.Proofs.Ytomgbnbkfkjifaa

