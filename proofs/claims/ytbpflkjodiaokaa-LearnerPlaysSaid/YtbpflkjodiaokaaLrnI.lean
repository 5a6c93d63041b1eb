/- Package learner as the statements meet it: a learner by its pointer, blocks X that it never touches: LrS, New, Next, Top (Lrn1), Get, From (Lrn2), Gaps (Lrn3, Lrn4), Learn (Lrn5). -/
import Derived.Test.YtbpflkjodiaokaaRef14c
import Derived.Test.YtbpflkjodiaokaaLrn4
import Derived.Test.YtbpflkjodiaokaaLrn5
