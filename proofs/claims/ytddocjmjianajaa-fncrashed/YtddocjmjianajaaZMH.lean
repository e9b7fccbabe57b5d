import Derived.Test.YtddocjmjianajaaProg
namespace Go.Proofs.Ytddocjmjianajaa
end Go.Proofs.Ytddocjmjianajaa

namespace Go.Proofs.Ytddocjmjianajaa
end Go.Proofs.Ytddocjmjianajaa
