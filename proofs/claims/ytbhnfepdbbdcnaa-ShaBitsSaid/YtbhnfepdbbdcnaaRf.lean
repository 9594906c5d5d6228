/-
  The standard's numbers, and contracts of dromondref05.K and H. Conditions: none.
-/
import Derived.Test.YtbhnfepdbbdcnaaRd
import Derived.Deep.WholeRow
import Derived.Great.BuildSlice
namespace Go.Proofs.Ytbhnfepdbbdcnaa
open Go.ChangeShapes Go.WideShapes Go.ChangeAt Go.RowKit Go.Great

/-- The rounds' numbers. -/
def ks : List Nat := [4794697086780616226, 8158064640168781261, 13096744586834688815, 16840607885511220156, 4131703408338449720, 6480981068601479193, 10538285296894168987, 12329834152419229976, 15566598209576043074, 1334009975649890238, 2608012711638119052, 6128411473006802146, 8268148722764581231, 9286055187155687089, 11230858885718282805, 13951009754708518548, 16472876342353939154, 17275323862435702243, 1135362057144423861, 2597628984639134821, 3308224258029322869, 5365058923640841347, 6679025012923562964, 8573033837759648693, 10970295158949994411, 12119686244451234320, 12683024718118986047, 13788192230050041572, 14330467153632333762, 15395433587784984357, 489312712824947311, 1452737877330783856, 2861767655752347644, 3322285676063803686, 5560940570517711597, 5996557281743188959, 7280758554555802590, 8532644243296465576, 9350256976987008742, 10552545826968843579, 11727347734174303076, 12113106623233404929, 14000437183269869457, 14369950271660146224, 15101387698204529176, 15463397548674623760, 17586052441742319658, 1182934255886127544, 1847814050463011016, 2177327727835720531, 2830643537854262169, 3796741975233480872, 4115178125766777443, 5681478168544905931, 6601373596472566643, 7507060721942968483, 8399075790359081724, 8693463985226723168, 9568029438360202098, 10144078919501101548, 10430055236837252648, 11840083180663258601, 13761210420658862357, 14299343276471374635, 14566680578165727644, 15097957966210449927, 16922976911328602910, 17689382322260857208, 500013540394364858, 748580250866718886, 1242879168328830382, 1977374033974150939, 2944078676154940804, 3659926193048069267, 4368137639120453308, 4836135668995329356, 5532061633213252278, 6448918945643986474, 6902733635092675308, 7801388544844847127]
/-- What is begun with, for 512 bits. -/
def hs5 : List Nat := [7640891576956012808, 13503953896175478587, 4354685564936845355, 11912009170470909681, 5840696475078001361, 11170449401992604703, 2270897969802886507, 6620516959819538809]
/-- What is begun with, for 384 bits. -/
def hs3 : List Nat := [14680500436340154072, 7105036623409894663, 10473403895298186519, 1526699215303891257, 7436329637833083697, 10282925794625328401, 15784041429090275239, 5167115440072839076]

/-- Numbers as values. -/
def vals (l : List Nat) : Array Value := ((l.map Int.ofNat).map (Value.int .u64)).toArray

theorem vals_get (l : List Nat) (k n : Nat) (h : l[k]? = some n) : (vals l)[k]? = some (.int .u64 (n : Nat)) := by
  unfold vals
  rw [List.getElem?_toArray, List.getElem?_map, List.getElem?_map, h]
  rfl

theorem zero80 : ∃ zs : Array Value, zs.size = 80 ∧ (∀ w, (zeroValue 30).run Try.prog w = .ok (.agg zs) w) ∧ (Try.prog.info? 30).map (·.size) = some 80 := by
  obtain ⟨h1, h2⟩ := zero_of_info (P := Try.prog) (t := 30) (v := .agg (Array.replicate 80 (.int .u64 0))) (n := 80) (by kernel_rfl)
  exact ⟨_, by simp, h1, h2⟩

theorem row80_under : Try.prog.underlying 30 = some (.array 80 22) := by kernel_rfl
theorem row80_size : (Try.prog.info? 30).map (·.size) = some 80 := by kernel_rfl
theorem ks_size : (vals ks).size = 80 := by decide
theorem ks_one : (vals ks).all (·.oneCell') = true := by kernel_rfl

set_option maxRecDepth 100000 in
theorem kRef (w : World) : Calls Try.prog 9 #[] w fun e w' => e = .returned (.agg (vals ks)) ∧ w' = w.alloc (.cells (vals ks) 30) := by
  obtain ⟨zs, hs, hz, hi⟩ := zero80
  have hne : ¬ zs = #[] := by rintro rfl; simp at hs
  go_enter Try.func9, Try.ntmps9
  apply wp_seq_k; intro K1 hK1
  have HK1 := Lib.hid hK1; clear hK1
  go_wp2
  refine HK1.out _ _ ?_
  apply wp_seq_k; intro K2 hK2
  apply wp_region_lit
  refine wpList_buildFlatArrTo rfl 30 22 80 _ rfl .u64 (ks.map Int.ofNat) (some 1) rfl (by kernel_rfl) (by kernel_rfl) (by kernel_rfl) (by kernel_rfl) ?_
  refine wpList_store_rowTo rfl 30 _ _ rfl rfl w.heap.size (vals ks) rfl rfl 30 zs (heap_alloc_last w _) (row80_size.trans (congrArg some ks_size.symm)) (hs.trans ks_size.symm) ks_one ?_
  apply wpList_nil
  refine hK2 _ _ ?_
  rw [World.setRow_alloc_new]
  apply wp_ret
  refine bodyPost_ret (results_cell_row rfl _ _ w.heap.size 30 (vals ks) (0, 0) _ rfl (heap_alloc_last w _) row80_under rfl (row80_size.trans (congrArg some ks_size.symm))) rfl ⟨rfl, rfl⟩

theorem row8_under : Try.prog.underlying 28 = some (.array 8 22) := by kernel_rfl
theorem row8_size : (Try.prog.info? 28).map (·.size) = some 8 := by kernel_rfl

theorem hRef5 (w : World) : Calls Try.prog 8 #[.int .i64 512] w fun e w' => e = .returned (.agg (vals hs5)) ∧ w' = w.alloc (.cells (vals hs5) 28) := by
  go_enter Try.func8, Try.ntmps8
  go_wp2
  refine bodyPost_ret (results_cell_row rfl _ _ w.heap.size 28 (vals hs5) (0, 0) _ rfl (heap_alloc_last w _) row8_under rfl row8_size) rfl ⟨rfl, rfl⟩

theorem hRef3 (w : World) : Calls Try.prog 8 #[.int .i64 384] w fun e w' => e = .returned (.agg (vals hs3)) ∧ w' = w.alloc (.cells (vals hs3) 28) := by
  go_enter Try.func8, Try.ntmps8
  go_wp2
  refine bodyPost_ret (results_cell_row rfl _ _ w.heap.size 28 (vals hs3) (0, 0) _ rfl (heap_alloc_last w _) row8_under rfl row8_size) rfl ⟨rfl, rfl⟩

end Go.Proofs.Ytbhnfepdbbdcnaa
