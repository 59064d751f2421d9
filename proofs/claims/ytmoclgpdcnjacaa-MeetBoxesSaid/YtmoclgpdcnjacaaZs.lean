/- The texts of numbers. -/
import Derived.Test.YtmoclgpdcnjacaaP3
