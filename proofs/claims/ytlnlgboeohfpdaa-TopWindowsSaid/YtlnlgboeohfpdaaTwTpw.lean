/- What TopWindows needs of layer 8. -/
import Derived.Test.YtlnlgboeohfpdaaTwWvk
import Derived.Test.YtlnlgboeohfpdaaTwWdp
import Derived.Test.YtlnlgboeohfpdaaTwWdz
namespace Go.Proofs.Ytlnlgboeohfpdaa.Tw
open Go.Proofs.Ytlnlgboeohfpdaa
end Go.Proofs.Ytlnlgboeohfpdaa.Tw
