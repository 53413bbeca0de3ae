/-
  What the program's step does, whatever stands in its table. Conditions: the state is one that there is, few bytes were written.
-/
import Derived.Test.YtlnpadekgakghaaDoorMosDoC
import Derived.Test.YtlnpadekgakghaaDoorMosDoD
import Derived.Test.YtlnpadekgakghaaDoorMosDoE
namespace Go.Proofs.YtlnpadekgakghaaDoor
open Go.RowKit
namespace Ms
open Al (byte of_byte)
set_option linter.unusedVariables false

theorem sdo_any (w : World) (B t q g : Nat) (v : Value) (S : S14) (n : Nat) (d m cy ad : Int) (cr : Bool) (hd : isD d) (H : StAt w B t q g v S ⟨d, m, cy, ad, cr⟩) (hO : Ok n S) (hn : n + 5 < 1000000000) (had : u16 ad) (hcy : 0 ≤ cy ∧ cy < 200) (hB : B ≤ w.heap.size) :
    Calls Tryd.prog 23 #[.pointer (some ⟨t, 0, none⟩)] w (SDone w B t q g v (exS d m ad S) ⟨d, m, cy + exN d cr S, ad, cr⟩ (.tuple #[])) := by
  rcases hd with rfl | rfl | rfl | rfl | rfl | rfl | rfl | rfl | rfl | rfl | rfl | rfl | rfl | rfl | rfl | rfl | rfl | rfl | rfl | rfl | rfl | rfl | rfl | rfl | rfl | rfl | rfl | rfl | rfl | rfl | rfl | rfl | rfl | rfl | rfl | rfl | rfl | rfl | rfl | rfl | rfl | rfl | rfl | rfl | rfl | rfl | rfl | rfl | rfl | rfl | rfl | rfl | rfl | rfl | rfl | rfl
  · exact sdo0 w B t q g v S n m cy ad cr H hO hn had hcy hB
  · exact sdo256 w B t q g v S n m cy ad cr H hO hn had hcy hB
  · exact sdo512 w B t q g v S n m cy ad cr H hO hn had hcy hB
  · exact sdo768 w B t q g v S n m cy ad cr H hO hn had hcy hB
  · exact sdo1024 w B t q g v S n m cy ad cr H hO hn had hcy hB
  · exact sdo1280 w B t q g v S n m cy ad cr H hO hn had hcy hB
  · exact sdo1536 w B t q g v S n m cy ad cr H hO hn had hcy hB
  · exact sdo1792 w B t q g v S n m cy ad cr H hO hn had hcy hB
  · exact sdo2048 w B t q g v S n m cy ad cr H hO hn had hcy hB
  · exact sdo2304 w B t q g v S n m cy ad cr H hO hn had hcy hB
  · exact sdo2560 w B t q g v S n m cy ad cr H hO hn had hcy hB
  · exact sdo2816 w B t q g v S n m cy ad cr H hO hn had hcy hB
  · exact sdo3072 w B t q g v S n m cy ad cr H hO hn had hcy hB
  · exact sdo3328 w B t q g v S n m cy ad cr H hO hn had hcy hB
  · exact sdo3584 w B t q g v S n m cy ad cr H hO hn had hcy hB
  · exact sdo3840 w B t q g v S n m cy ad cr H hO hn had hcy hB
  · exact sdo4096 w B t q g v S n m cy ad cr H hO hn had hcy hB
  · exact sdo4352 w B t q g v S n m cy ad cr H hO hn had hcy hB
  · exact sdo4608 w B t q g v S n m cy ad cr H hO hn had hcy hB
  · exact sdo4864 w B t q g v S n m cy ad cr H hO hn had hcy hB
  · exact sdo5120 w B t q g v S n m cy ad cr H hO hn had hcy hB
  · exact sdo5376 w B t q g v S n m cy ad cr H hO hn had hcy hB
  · exact sdo5632 w B t q g v S n m cy ad cr H hO hn had hcy hB
  · exact sdo5888 w B t q g v S n m cy ad cr H hO hn had hcy hB
  · exact sdo6144 w B t q g v S n m cy ad cr H hO hn had hcy hB
  · exact sdo6400 w B t q g v S n m cy ad cr H hO hn had hcy hB
  · exact sdo6656 w B t q g v S n m cy ad cr H hO hn had hcy hB
  · exact sdo6912 w B t q g v S n m cy ad cr H hO hn had hcy hB
  · exact sdo7168 w B t q g v S n m cy ad cr H hO hn had hcy hB
  · exact sdo7424 w B t q g v S n m cy ad cr H hO hn had hcy hB
  · exact sdo7680 w B t q g v S n m cy ad cr H hO hn had hcy hB
  · exact sdo7936 w B t q g v S n m cy ad cr H hO hn had hcy hB
  · exact sdo8192 w B t q g v S n m cy ad cr H hO hn had hcy hB
  · exact sdo8448 w B t q g v S n m cy ad cr H hO hn had hcy hB
  · exact sdo8704 w B t q g v S n m cy ad cr H hO hn had hcy hB
  · exact sdo8960 w B t q g v S n m cy ad cr H hO hn had hcy hB
  · exact sdo9216 w B t q g v S n m cy ad cr H hO hn had hcy hB
  · exact sdo9472 w B t q g v S n m cy ad cr H hO hn had hcy hB
  · exact sdo9728 w B t q g v S n m cy ad cr H hO hn had hcy hB
  · exact sdo9984 w B t q g v S n m cy ad cr H hO hn had hcy hB
  · exact sdo10240 w B t q g v S n m cy ad cr H hO hn had hcy hB
  · exact sdo10496 w B t q g v S n m cy ad cr H hO hn had hcy hB
  · exact sdo10752 w B t q g v S n m cy ad cr H hO hn had hcy hB
  · exact sdo11008 w B t q g v S n m cy ad cr H hO hn had hcy hB
  · exact sdo11264 w B t q g v S n m cy ad cr H hO hn had hcy hB
  · exact sdo11520 w B t q g v S n m cy ad cr H hO hn had hcy hB
  · exact sdo11776 w B t q g v S n m cy ad cr H hO hn had hcy hB
  · exact sdo12032 w B t q g v S n m cy ad cr H hO hn had hcy hB
  · exact sdo12288 w B t q g v S n m cy ad cr H hO hn had hcy hB
  · exact sdo12544 w B t q g v S n m cy ad cr H hO hn had hcy hB
  · exact sdo12800 w B t q g v S n m cy ad cr H hO hn had hcy hB
  · exact sdo13056 w B t q g v S n m cy ad cr H hO hn had hcy hB
  · exact sdo13312 w B t q g v S n m cy ad cr H hO hn had hcy hB
  · exact sdo13568 w B t q g v S n m cy ad cr H hO hn had hcy hB
  · exact sdo13824 w B t q g v S n m cy ad cr H hO hn had hcy hB
  · exact sdo14080 w B t q g v S n m cy ad cr H hO hn had hcy hB

end Ms
end Go.Proofs.YtlnpadekgakghaaDoor
