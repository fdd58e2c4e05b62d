/-
  The shelf lies in one text here.
-/
import Derived.Test.YtoffjpgobhcipaaDoorShelf
