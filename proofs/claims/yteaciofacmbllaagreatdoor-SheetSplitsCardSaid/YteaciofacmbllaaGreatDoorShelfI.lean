/- The contracts of strconv.Itoa stand in the shelf. -/
import Derived.Test.YteaciofacmbllaaGreatDoorShelf0
