/-
  Lists of truths in blocks of their own, beside sets.
-/
import Derived.Test.YtfkmldopfhdbkaaMg06
import Derived.Test.YtfkmldopfhdbkaaMg03
