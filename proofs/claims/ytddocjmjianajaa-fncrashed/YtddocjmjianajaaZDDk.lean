import Derived.Test.YtddocjmjianajaaZDHold
import Derived.Test.YtddocjmjianajaaZDDkB

