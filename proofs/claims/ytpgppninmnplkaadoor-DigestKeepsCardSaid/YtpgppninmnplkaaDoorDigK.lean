/- The two tables of package digest out of the listed variables. -/
import Derived.Test.YtpgppninmnplkaaDoorDigZ
import Derived.Lib.LaidTab
import Derived.LaidSub
import Derived.MakeChecks
namespace Go.Proofs.YtpgppninmnplkaaDoor
open Go.ChangeShapes Go.WideShapes Go.ChangeAt Go.RowKit

def tabI : List Int := [1779033703, 3144134277, 1013904242, 2773480762, 1359893119, 2600822924, 528734635, 1541459225]
def tabK : List Int := [1116352408, 1899447441, 3049323471, 3921009573, 961987163, 1508970993, 2453635748, 2870763221, 3624381080, 310598401, 607225278, 1426881987, 1925078388, 2162078206, 2614888103, 3248222580, 3835390401, 4022224774, 264347078, 604807628, 770255983, 1249150122, 1555081692, 1996064986, 2554220882, 2821834349, 2952996808, 3210313671, 3336571891, 3584528711, 113926993, 338241895, 666307205, 773529912, 1294757372, 1396182291, 1695183700, 1986661051, 2177026350, 2456956037, 2730485921, 2820302411, 3259730800, 3345764771, 3516065817, 3600352804, 4094571909, 275423344, 430227734, 506948616, 659060556, 883997877, 958139571, 1322822218, 1537002063, 1747873779, 1955562222, 2024104815, 2227730452, 2361852424, 2428436474, 2756734187, 3204031479, 3329325298]
theorem tabI_eq : initS.cells.toList = tabI.map (Value.int .u32) := by kernel_rfl
theorem tabK_eq : kkV.toList = tabK.map (Value.int .u32) := by kernel_rfl
theorem rowAt_of_tab {W : World} {name : String} {g : Nat} {zs : List Int} {cs : Array Value} (h : Lib.TabIs Tryd.prog W name .u32 zs) (hg : Tryd.prog.globalNamed name = some g) (he : cs.toList = zs.map (Value.int .u32)) : RowAt W g cs := fun j v hj => by
  rw [he, List.getElem?_map] at hj
  obtain ⟨z, hz, rfl⟩ := Option.map_eq_some_iff.1 hj
  obtain ⟨hlt, rfl⟩ := List.getElem?_eq_some_iff.1 hz
  rw [h.cell hg j hlt, List.getD_eq_getElem?_getD, List.getElem?_eq_getElem hlt]; rfl
theorem dtabs_of_laid {W : World} {l : List (String × DataW Unit)} (h : laidMetH Tryd.prog l W)
    (e1 : l.filter (fun x => x.1 == "canary/digest.initial") = [("canary/digest.initial", Lib.tabData .u32 tabI)])
    (e2 : l.filter (fun x => x.1 == "canary/digest.rounds") = [("canary/digest.rounds", Lib.tabData .u32 tabK)]) : DTabs W := by
  have h1 := h.filter (fun x => x.1 == "canary/digest.initial")
  have h2 := h.filter (fun x => x.1 == "canary/digest.rounds")
  rw [e1] at h1
  rw [e2] at h2
  rw [MakeChecks.laidMetH_plain _ _ _ (by kernel_rfl)] at h1 h2
  have t1 := Lib.tabIs_of_head (g := 0) (t := 32) (e := 31) (n := 8) (by kernel_rfl) (by kernel_rfl) (by kernel_rfl) (by kernel_rfl) (by kernel_rfl) (by kernel_rfl) h1
  have t2 := Lib.tabIs_of_head (g := 1) (t := 56) (e := 31) (n := 64) (by kernel_rfl) (by kernel_rfl) (by kernel_rfl) (by kernel_rfl) (by kernel_rfl) (by kernel_rfl) h2
  exact ⟨rowAt_of_tab t2 (by kernel_rfl) tabK_eq, rowAt_of_tab t1 (by kernel_rfl) tabI_eq⟩
end Go.Proofs.YtpgppninmnplkaaDoor
