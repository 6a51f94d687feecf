/- What the library says of slices.SortFunc over stamps. -/
import Derived.Test.YtfennglfmngeiaaW11
import Derived.Test.YtfennglfmngeiaaShelf
import Derived.Shelf.SlSortCmp.NoneTotal
namespace Go.Proofs.Ytfennglfmngeiaa.St
open Go Go.RowKit Go.Sort Go.Shelf
theorem sortsQ : SortsQ := fun blk off cap d w hH hblk hsz => by
  have eg : ∀ args w, (callFunc 13 args).run Try.prog w = .ok (.enter 13 args) w := enters_of Try.func13 (by kernel_rfl) rfl
  have hcon := AnyQ.slices_SortFunc_total Try.sortQ 4 Try.isAgg39 Try.sizeOf39 encQ (fun _ => rfl) one_cells ordQ swoQ 13 #[] blk off cap d w eg (fun _ _ _ _ x y => order_calls x y _) hH hblk hsz antiQ
  exact hcon
end Go.Proofs.Ytfennglfmngeiaa.St
