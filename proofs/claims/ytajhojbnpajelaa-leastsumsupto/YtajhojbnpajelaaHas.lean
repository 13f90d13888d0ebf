/- (This seat has no rect.Has: nothing but what it leans on.) -/
import Derived.Test.YtajhojbnpajelaaOne
