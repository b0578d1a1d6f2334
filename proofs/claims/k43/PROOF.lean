import PyProof.Rows.All
import Wide.All
import OpenK.AllK
import Wide.FinOn
import KE.OsRunLaw
import KE.KNestM
import PyProof.EqAt
import PyProof.EqKinds
import PyProof.TupleCall
import HandS.ForMost
import HandS.ForExc
import HandS.ExcInit
import HandS.Defaults
import HandS.MakeKwOnly
import HandS.IsInst
import HandS.ExcField
import HandS.ExcIs
import HandS.ExcOwn
import HandS.ExcValue
import HandS.Dict
import HandS.Text
import HandS.StrMore
import HandS.SetFor
import HandS.Flow
import HandS.Evl
import HandS.TryOnly
import HandS.DictComp
import HandS.Iter
import HandS.Steps
import HandS.TryMany
import PyProof.ListStr
import HandS.Lambda
import PyProof.MeetsStr3
import PyProof.StrLawsLast
import PyProof.Rows.StrNews2
import HandS.CallRecv
import HandS.TupAny
import HandS.Deep
import HandS.Walk
import PyProof.Rows.ChunkEnd
import PyProof.Rows.ChunkLeaf
import PyProof.NeData
import KE.SortKeyHeap
import HandS.Wide
import HandS.WideBits
import HandS.Gcd
import HandS.OwnEq
import PyProof.InstNe
import KE.KOpsOwn
import PyProof.TwoTypes
import PyProof.FactsAll.bool_1
import PyProof.FactsAll.bool_2
import PyProof.FactsAll.int_1
import PyProof.FactsAll.int_3
import PyProof.FactsAll.int_5
import HandS.EndTab
import HandS.HeadWalk
import PyProof.ReprRoads
import PyProof.CallFns
import HandS.FStr
import KE.KCallOwn
import PyProof.StrOps2
import PyProof.FitsStr
import HandS.Small
import HandS.Style
import KE.GoesEnum
import HandS.Rev
import HandS.HotCalls
import PySem.Challenge.RW_allinputs_k43_places_of_grids
set_option Elab.async false
set_option linter.all false
set_option maxRecDepth 100000
namespace HeadX
open PySem PySem.W PySem.Calls PyProof.Rows HeadRun
/-- the head by one run, for a law with lambdas: the tables are read off the tree as well -/
theorem left_impKM {p q : Program} {loose : List PySem.Str} {Xt : Shared → Bool} {K : Params → Frag} {as : List Addr} {ek : ∀ P, as = (K P).map (·.1)} {ts : List Addr} {N : Nat}
    (run : ∀ w : World, (wholeF (fun p => stepQ (denQ tabQ) p w) fenceQ N p).map (fun x => (looksF p x.1.heap x.2.abs, seenQ q loose (importedModules p.main.body) Xt x.2.abs, (as.map (getT x.2), ts.map (getT x.2)))) = some (true, openGood q loose, ((K w.params).map fun x => some x.2, ts.map fun _ => some (tabObj #[])))) :
    LeftO p q loose Xt (Hook.obs (kmHook K as ek ts)) (Hook.val (kmHook K as ek ts)) N true :=
  left_imp fun w => by
    have z := run w
    have eo : (fun x : Shared × SharedT => (looksF p x.1.heap x.2.abs, seenQ q loose (importedModules p.main.body) Xt x.2.abs, (as.map (getT x.2), ts.map (getT x.2)))) = fun x => (looksF p x.1.heap x.2.abs, seenQ q loose (importedModules p.main.body) Xt x.2.abs, Hook.obs (kmHook K as ek ts) x.2.abs) := by
      funext x
      have q1 : as.map (getT x.2) = as.map x.2.abs.heap.get? := List.map_congr_left fun a _ => getT_eq x.2 a
      have q2 : ts.map (getT x.2) = ts.map x.2.abs.heap.get? := List.map_congr_left fun a _ => getT_eq x.2 a
      rw [q1, q2]
      rfl
    rw [eo] at z
    rw [wholeQ_eq]
    simp only [seenQ_eq]
    exact z
end HeadX
namespace HeadX
open PySem PySem.W PySem.Calls PyProof.Rows HeadRun
noncomputable abbrev WF (p : Program) (N : Nat) (w : World) : Option (Shared × SharedT) := wholeF (fun p => stepQ (denQ tabQ) p w) fenceQ N p
theorem map3 {α β γ δ : Type} {r : Option α} {f : α → β} {g : α → γ} {h : α → δ} {b : β} {c : γ} {d : δ} (e1 : r.map f = some b) (e2 : r.map g = some c) (e3 : r.map h = some d) : r.map (fun x => (f x, g x, h x)) = some (b, c, d) := by
  cases r with
  | none => cases e1
  | some x =>
    obtain rfl := Option.some.inj e1
    obtain rfl := Option.some.inj e2
    obtain rfl := Option.some.inj e3
    rfl
/-- the head by runs of its own for each look -/
theorem left_imp3 {p q : Program} {loose : List PySem.Str} {Xt : Shared → Bool} {K : Params → Frag} {as : List Addr} {ek : ∀ P, as = (K P).map (·.1)} {N : Nat}
    (l : ∀ w : World, (WF p N w).map (fun x => looksF p x.1.heap x.2.abs) = some true) (s : ∀ w : World, (WF p N w).map (fun x => seenQ q loose (importedModules p.main.body) Xt x.2.abs) = some (openGood q loose))
    (o : ∀ w : World, (WF p N w).map (fun x => as.map (getT x.2)) = some ((K w.params).map fun x => some x.2)) (d : ∀ _ : World, (0 : Nat) = 0) :
    LeftO p q loose Xt (Hook.obs (kHook K as ek)) (Hook.val (kHook K as ek)) N true := left_impK fun w => map3 (l w) (s w) (o w)
theorem left_imp3M {p q : Program} {loose : List PySem.Str} {Xt : Shared → Bool} {K : Params → Frag} {as : List Addr} {ek : ∀ P, as = (K P).map (·.1)} {ts : List Addr} {N : Nat}
    (l : ∀ w : World, (WF p N w).map (fun x => looksF p x.1.heap x.2.abs) = some true) (s : ∀ w : World, (WF p N w).map (fun x => seenQ q loose (importedModules p.main.body) Xt x.2.abs) = some (openGood q loose))
    (o : ∀ w : World, (WF p N w).map (fun x => (as.map (getT x.2), ts.map (getT x.2))) = some ((K w.params).map fun x => some x.2, ts.map fun _ => some (tabObj #[]))) (d : ∀ _ : World, (0 : Nat) = 0) :
    LeftO p q loose Xt (Hook.obs (kmHook K as ek ts)) (Hook.val (kmHook K as ek ts)) N true := left_impKM fun w => map3 (l w) (s w) (o w)
end HeadX

set_option Elab.async false
set_option linter.all false
set_option maxRecDepth 100000
set_option maxHeartbeats 0
namespace HD_k43
open PySem PySem.W PySem.Calls PyProof.Rows HeadRun
abbrev R : OpenRow := OpenLaw.row PySem.Challenge.rw_allinputs_k43_places_of_grids
section
local macro_rules | `(tactic| o_head $_) => `(tactic| assumption)
theorem kA (h : R.Holds) : R.Holds := by k_head
end
noncomputable section

def as0 : List Addr := [2, 3, 54, 56, 57, 59, 60, 61, 68, 69, 70, 71, 74, 81, 83, 84, 86, 87, 88, 89, 90, 93, 100, 101, 102, 105, 112, 113, 114, 117, 124, 126, 127, 129, 130, 131, 132, 133, 136, 138]
def as1 : List Addr := [139, 141, 142, 143, 145, 146, 148, 149, 150, 152, 153, 155, 156, 157, 159, 160, 162, 163, 164, 166, 167, 169, 170, 171, 173, 174, 176, 177, 178, 180, 181, 183, 184, 185, 187, 188, 190, 191, 192, 194]
def as2 : List Addr := [195, 197, 198, 199, 201, 202, 204, 205, 206, 209, 210, 211, 214, 215, 216, 219, 220, 221, 223, 224, 226, 227, 228, 231, 232, 233, 236, 237, 238, 241, 242, 243, 245, 246, 248, 249, 250, 252, 253, 255]
def as3 : List Addr := [256, 257, 259, 260, 262, 263, 264, 266, 267, 269, 270, 271, 272, 274, 275, 277, 278, 279, 281, 282, 284, 285, 286, 288, 289, 291, 292, 293, 296, 297, 298, 301, 302, 303, 306, 307, 308, 310, 311, 313]
def as4 : List Addr := [314, 315, 317, 318, 320, 321, 322, 325, 326, 327, 329, 330, 332, 333, 334, 336, 337, 339, 340, 348, 349, 351, 352, 354, 355, 356, 358, 359, 361, 362, 363, 365, 366, 368, 369, 370, 372, 373, 375, 376]
def as5 : List Addr := [377, 379, 380, 382, 383, 384, 386, 387, 389, 390, 391, 393, 394, 396, 397, 398, 400, 401, 403, 404, 405, 407, 408, 410, 411, 412, 414, 415, 417, 418, 419, 421, 422, 424, 425, 426, 428, 429, 431, 432]
def as6 : List Addr := [433, 435, 436, 438, 439, 440, 442, 443, 445, 446, 447, 449, 450, 452, 453, 454, 456, 457, 459, 460, 461, 462, 463, 464, 465, 468, 470, 471, 473, 474, 475, 477, 478, 480, 481, 482, 484, 485, 487, 488]
def as7 : List Addr := [489, 491, 492, 494, 495, 503, 505, 506, 508, 509, 510, 512, 513, 515, 516, 517, 519, 520, 522, 523, 524, 526, 527, 529, 530, 531, 533, 534, 536, 537, 538, 540, 541, 543, 544, 545, 547, 548, 550, 551]
def as8 : List Addr := [552, 554, 555, 557, 558, 559, 561, 562, 564, 565, 566, 568, 569, 571, 572, 573, 575, 576, 578, 579, 580, 582, 583, 585, 586, 587, 589, 590, 592, 593, 594, 596, 597, 599, 600, 601, 603, 604, 606, 607]
def as9 : List Addr := [608, 610, 611, 613, 614, 615, 616, 617, 618, 619, 622, 624, 625, 627, 628, 629, 631, 632, 634, 635, 636, 638, 639, 641, 642, 643, 646, 647, 648, 650, 651, 653, 654, 655, 657, 658, 660, 661, 662, 664]
def as10 : List Addr := [665, 667, 668, 669, 671, 672, 674, 675, 676, 678, 679, 681, 682, 683, 685, 686, 688, 689, 690, 692, 693, 695, 696, 697, 700, 701, 702, 704, 705, 707, 708, 709, 711, 712, 714, 715, 716, 718, 719, 721]
def as11 : List Addr := [722, 723, 725, 726, 728, 729, 730, 732, 733, 735, 736, 737, 739, 740, 742, 743, 751, 753, 754, 756, 757, 758, 760, 761, 763, 764, 765, 767, 768, 770, 771, 772, 774, 775, 777, 778, 779, 781, 782, 784]
def as12 : List Addr := [785, 786, 788, 789, 791, 792, 793, 795, 796, 798, 799, 800, 802, 803, 805, 806, 807, 809, 810, 812, 813, 814, 816, 817, 819, 820, 821, 823, 824, 826, 827, 828, 829, 830, 831, 832, 835, 837, 838, 840]
def as13 : List Addr := [841, 842, 844, 845, 847, 848, 849, 852, 853, 854, 856, 857, 859, 860, 861, 863, 864, 866, 867, 868, 870, 871, 873, 874, 875, 877, 878, 880, 881, 882, 884, 885, 887, 888, 889, 891, 892, 894, 895, 896]
def as14 : List Addr := [898, 899, 901, 902, 903, 905, 906, 908, 909, 910, 912, 913, 915, 916, 917, 919, 920, 922, 923, 931, 933, 934, 936, 937, 938, 940, 941, 943, 944, 945, 947, 948, 950, 951, 952, 954, 955, 957, 958, 959]
def as15 : List Addr := [961, 962, 964, 965, 966, 968, 969, 971, 972, 973, 975, 976, 978, 979, 980, 982, 983, 985, 986, 987, 989, 990, 992, 993, 994, 996, 997, 999, 1000, 1001, 1003, 1004, 1006, 1007, 1008, 1010, 1011, 1013, 1014, 1015]
def as16 : List Addr := [1017, 1018, 1020, 1021, 1022, 1024, 1025, 1027, 1028, 1029, 1031, 1032, 1034, 1035, 1036, 1038, 1039, 1041, 1042, 1043, 1044, 1045, 1046, 1047, 1050, 1052, 1053, 1055, 1056, 1057, 1059, 1060, 1062, 1063, 1064, 1066, 1067, 1069, 1070, 1071]
def as17 : List Addr := [1073, 1074, 1076, 1077, 1078, 1080, 1081, 1083, 1084, 1092, 1094, 1095, 1097, 1098, 1099, 1101, 1102, 1104, 1105, 1106, 1108, 1109, 1111, 1112, 1113, 1115, 1116, 1118, 1119, 1120, 1122, 1123, 1125, 1126, 1127, 1129, 1130, 1132, 1133, 1134]
def as18 : List Addr := [1136, 1137, 1139, 1140, 1141, 1143, 1144, 1146, 1147, 1148, 1150, 1151, 1153, 1154, 1155, 1157, 1158, 1160, 1161, 1162, 1164, 1165, 1167, 1168, 1169, 1171, 1172, 1174, 1175, 1176, 1178, 1179, 1181, 1182, 1183, 1185, 1186, 1188, 1189, 1190]
def as19 : List Addr := [1191, 1192, 1193, 1194, 1197, 1199, 1200, 1202, 1203, 1204, 1206, 1207, 1209, 1210, 1211, 1213, 1214, 1216, 1217, 1218, 1226, 1228, 1229, 1231, 1232, 1233, 1235, 1236, 1238, 1239, 1240, 1242, 1243, 1245, 1246, 1247, 1249, 1250, 1252, 1253]
def as20 : List Addr := [1254, 1255, 1256, 1257, 1258, 1261, 1263, 1264, 1266, 1267, 1268, 1270, 1271, 1273, 1274, 1275, 1277, 1278, 1280, 1281, 1289, 1290, 1293, 1294, 1295, 1297, 1298, 1300, 1301, 1302, 1304, 1305, 1307, 1308, 1309, 1311, 1312, 1314, 1315, 1316]
def as21 : List Addr := [1318, 1319, 1321, 1322, 1323, 1326, 1327, 1328, 1330, 1331, 1333, 1334, 1335, 1336, 1337, 1338, 1339, 1342, 1344, 1345, 1347, 1348, 1349, 1352, 1353, 1354, 1357, 1358, 1359, 1362, 1363, 1364, 1366, 1367, 1369, 1370, 1371, 1373, 1374, 1376]
def as22 : List Addr := [1377, 1378, 1381, 1382, 1383, 1385, 1386, 1388, 1389, 1390, 1392, 1393, 1395, 1396, 1397, 1399, 1400, 1402, 1403, 1404, 1406, 1407, 1409, 1410, 1411, 1413, 1414, 1416, 1417, 1418, 1421, 1422, 1423, 1425, 1426, 1428, 1429, 1430, 1432, 1433]
def as23 : List Addr := [1435, 1436, 1437, 1439, 1440, 1442, 1443, 1444, 1447, 1448, 1449, 1452, 1453]
def asL : List Addr := as0 ++ as1 ++ as2 ++ as3 ++ as4 ++ as5 ++ as6 ++ as7 ++ as8 ++ as9 ++ as10 ++ as11 ++ as12 ++ as13 ++ as14 ++ as15 ++ as16 ++ as17 ++ as18 ++ as19 ++ as20 ++ as21 ++ as22 ++ as23
abbrev kp0 : List Nat := [0, 1, 139]
abbrev kp : List Nat := kp0
abbrev qv : Program := view R.prog kp
abbrev nm0 : List PySem.Str := [PySem.Str.ofString "_wall", PySem.Str.ofString "SheetError", PySem.Str.ofString "BadValue", PySem.Str.ofString "NoDivisor", PySem.Str.ofString "NotTold", PySem.Str.ofString "Turns", PySem.Str.ofString "is_integer", PySem.Str.ofString "is_plain", PySem.Str.ofString "check_integer", PySem.Str.ofString "check_range", PySem.Str.ofString "check_list", PySem.Str.ofString "_BITS_AT_ONCE", PySem.Str.ofString "whole_power", PySem.Str.ofString "digit_text", PySem.Str.ofString "sign_of_whole", PySem.Str.ofString "trimmed", PySem.Str.ofString "sum_of", PySem.Str.ofString "times", PySem.Str.ofString "product_of", PySem.Str.ofString "slope_of", PySem.Str.ofString "content_of", PySem.Str.ofString "primitive", PySem.Str.ofString "quotient_of", PySem.Str.ofString "left_over", PySem.Str.ofString "top_at", PySem.Str.ofString "sign_at", PySem.Str.ofString "shifted", PySem.Str.ofString "moved_by", PySem.Str.ofString "_PRIME_SIZES", PySem.Str.ofString "common_factor", PySem.Str.ofString "plain_parts", PySem.Str.ofString "common_by_remainders", PySem.Str.ofString "_common_by_prime", PySem.Str.ofString "_common_below", PySem.Str.ofString "_left_below", PySem.Str.ofString "_near_nought", PySem.Str.ofString "_inverse_below", PySem.Str.ofString "resultant", PySem.Str.ofString "_sign_of_exchange", PySem.Str.ofString "_next_height"]
abbrev nm1 : List PySem.Str := [PySem.Str.ofString "Ratio", PySem.Str.ofString "lowest_ratio", PySem.Str.ofString "goes_with_ratios", PySem.Str.ofString "is_ratio", PySem.Str.ofString "as_ratio", PySem.Str.ofString "Poly", PySem.Str.ofString "poly_of", PySem.Str.ofString "check_poly", PySem.Str.ofString "check_some_poly", PySem.Str.ofString "_digits_of", PySem.Str.ofString "_parts_beside", PySem.Str.ofString "parts_beside_polys", PySem.Str.ofString "level_ratio", PySem.Str.ofString "MOST_PLACES", PySem.Str.ofString "cut_text", PySem.Str.ofString "bound_of", PySem.Str.ofString "root_places", PySem.Str.ofString "_linear_places", PySem.Str.ofString "_on_unit", PySem.Str.ofString "_unit_places", PySem.Str.ofString "_changes", PySem.Str.ofString "freed", PySem.Str.ofString "narrowed", PySem.Str.ofString "settled", PySem.Str.ofString "_exactly", PySem.Str.ofString "reach_of", PySem.Str.ofString "Point", PySem.Str.ofString "check_ends", PySem.Str.ofString "count_roots", PySem.Str.ofString "isolate", PySem.Str.ofString "point_in", PySem.Str.ofString "_places_in", PySem.Str.ofString "_place_between", PySem.Str.ofString "_order_of", PySem.Str.ofString "_share", PySem.Str.ofString "_meet", PySem.Str.ofString "worth_place", PySem.Str.ofString "floor_of_worth", PySem.Str.ofString "ratio_of_worth", PySem.Str.ofString "parts_beside_worths"]
abbrev nm2 : List PySem.Str := [PySem.Str.ofString "Member", PySem.Str.ofString "_number_at", PySem.Str.ofString "_beside", PySem.Str.ofString "beside_members", PySem.Str.ofString "has_root", PySem.Str.ofString "_roots_of", PySem.Str.ofString "_beyond", PySem.Str.ofString "Strand", PySem.Str.ofString "check_rootless", PySem.Str.ofString "_number_on", PySem.Str.ofString "beside_strands", PySem.Str.ofString "FAULT_KINDS", PySem.Str.ofString "MOST_CHARACTERS", PySem.Str.ofString "Fault", PySem.Str.ofString "is_number", PySem.Str.ofString "is_text", PySem.Str.ofString "is_value", PySem.Str.ofString "MOST_VALUES", PySem.Str.ofString "Grid", PySem.Str.ofString "check_grid", PySem.Str.ofString "_is_row", PySem.Str.ofString "_is_table", PySem.Str.ofString "is_corner", PySem.Str.ofString "stretched", PySem.Str.ofString "part_at", PySem.Str.ofString "_size_of_all", PySem.Str.ofString "_value_for", PySem.Str.ofString "_law_begin", PySem.Str.ofString "_law_draw", PySem.Str.ofString "_law_pick", PySem.Str.ofString "_law_value", PySem.Str.ofString "_law_rows", PySem.Str.ofString "_law_given", PySem.Str.ofString "_law_same", PySem.Str.ofString "_law_refused", PySem.Str.ofString "_law_are_refused"]
abbrev names : List PySem.Str := nm0 ++ nm1 ++ nm2
abbrev ts : List Addr := [1445]
theorem run_l (w : World) : (HeadX.WF R.prog 17804 w).map (fun x => looksF R.prog x.1.heap x.2.abs) = some true := by kernel_rfl
theorem run_s (w : World) : (HeadX.WF R.prog 17804 w).map (fun x => seenQ qv names (importedModules R.prog.main.body) (fun s => xlAt qv [] s && recOk R.toRowW.records s) x.2.abs) = some (openGood qv names) := by kernel_rfl
theorem run_o (w : World) : (HeadX.WF R.prog 17804 w).map (fun x => (asL.map (getT x.2), ts.map (getT x.2))) = some ((HD_k43.kA.heap_1 w.params).map fun x => some x.2, ts.map fun _ => some (tabObj #[])) := by kernel_rfl
theorem ekL : ∀ P, asL = (HD_k43.kA.heap_1 P).map (·.1) := fun _ => by kernel_rfl
noncomputable abbrev H : Hook := kmHook HD_k43.kA.heap_1 asL ekL ts
theorem left : LeftO R.prog qv names (fun s => xlAt qv [] s && recOk R.toRowW.records s) (Hook.obs H) (Hook.val H) 17804 true := HeadX.left_imp3M (ek := ekL) run_l run_s run_o (fun _ => rfl)
end
end HD_k43

set_option Elab.async false
set_option linter.all false
set_option maxRecDepth 100000
set_option maxHeartbeats 4000000
/-! Own errors as values, also made by keywords. -/
namespace PySem
namespace EV
open PySem PySem.W PySem.Calls PyProof.Rows PySem.HandSPX
section
variable {M : Model} {A : Around} {E : Value → Shared → Prop} {hp : Heap} {gs : Array GenState} {dr : Drawn} {tk : Nat} {osx : OsState}
variable {cn cq : Str} {C Nn : Addr} {cb cm cmB : List Value} {hdt : Bool} {sln : List Str} {sbc : List Value} {abst : Bool} {colo : Option Bool} {ddo : Option Addr} {j0 j1 j2 j3 j5 : Option Value} {Bn nId iId : String}
theorem chk_new (F : ExcBaseFacts Bn nId iId cmB) (hT : ∀ Y : String, cm.contains (.type Y) = cmB.contains (.type Y)) {as : List Value} {kw : List (Str × Value)} {Q : Unit → Shared → Prop}
    (hC : hp.get? C = some (excClassObj cn cq C Nn cb cm hdt sln sbc abst colo ddo j0 j1 j2 j3 j5 nId)) (hq : Q () ⟨hp, gs, dr, tk, osx⟩) : wpAny M A (checkBuiltinCall nId ⟨.ref C :: as, kw⟩) Q E ⟨hp, gs, dr, tk, osx⟩ := by
  have hin : (Value.ref C :: cm).contains (.type Bn) = true := by rw [List.contains_cons, hT, F.hasB, Bool.or_true]
  have hst := F.noStar
  simp only [checkBuiltinCall, F.newKind, F.newSplit, F.newRow]
  repeat (first | refine wpAny_loadPart_at hC ?_ | (refine wpAny_isSubtype_exc hC ?_; rw [hin]) | refine wpAny_staticBase_exc hC ?_ | refine wpAny_madeBy_exc hC ?_ | simp only [bne_self_eq_false, Bool.false_eq_true, if_false] | wp_step)
  exact hq
end
section
variable {prog : Program} {w : World} {A : Around} {E : Value → Shared → Prop} {R : Result → Shared → Prop} {hp : Heap} {gs : Array GenState} {dr : Drawn} {tk : Nat} {osx : OsState}
variable {cn cq : Str} {C Nn : Addr} {cb cm cmB : List Value} {hdt : Bool} {sln : List Str} {sbc : List Value} {abst : Bool} {colo : Option Bool} {ddo : Option Addr} {j0 j1 j2 j3 j5 : Option Value} {Bn nId iId : String}
theorem new_kw (F : ExcBaseFacts Bn nId iId cmB) (hT : ∀ Y : String, cm.contains (.type Y) = cmB.contains (.type Y)) {as : List Value} {kw : List (Str × Value)}
    (hC : hp.get? C = some (excClassObj cn cq C Nn cb cm hdt sln sbc abst colo ddo j0 j1 j2 j3 j5 nId))
    (hq : R (.ok (.ret (.ref (hp.objs.size + 1)))) ⟨(hp.push (PySem.W.kdv_tup as)).push (excO C hp.objs.size), gs, dr, tk, osx⟩) (hl : as.length ≤ sizeLine) :
    codeAny (model prog w) A (.builtin nId ⟨.ref C :: as, kw⟩) R ⟨hp, gs, dr, tk, osx⟩ := by
  have hen := F.ends
  have hin : (Value.ref C :: cm).contains (.type Bn) = true := by rw [List.contains_cons, hT, F.hasB, Bool.or_true]
  have hna : (Value.ref C :: cm).contains (.type "AttributeError") = false := by rw [List.contains_cons, hT, F.noAttr]; rfl
  have hnn : (Value.ref C :: cm).contains (.type "NameError") = false := by rw [List.contains_cons, hT, F.noName]; rfl
  refine codeAny_builtinAt F.entry ?_
  unfold Builtin.«BaseException.__new__»
  refine wpAt_bind ?_
  show wpAt _ _ _ (stack >>= _) _ _ _
  refine wpAt_bind (wpAt_stack fun p lower => wpAt_of_wpAny ?_)
  wp_walk
  refine wpAt_of_wpAny ?_
  rw [F.owner]
  repeat (first | with_reducible refine wpAny_madeHere_exc F.canon hC ?_ | with_reducible refine wpAny_loadPart_at hC ?_ | (with_reducible refine wpAny_isSubtype_exc hC ?_; first | rw [hin] | rw [hna] | rw [hnn]) | wp_step)
  show R _ _
  rw [Heap.size_push]
  exact hq
theorem tcall_kw (F : ExcBaseFacts Bn nId iId cmB) (hT : ∀ Y : String, cm.contains (.type Y) = cmB.contains (.type Y)) {as : List Value} {kw : List (Str × Value)} {fI : Addr} {Q : Fin → Shared → Prop}
    (hC : hp.get? C = some (excClassObj cn cq C Nn cb cm hdt sln sbc abst colo ddo j0 j1 j2 j3 j5 nId))
    (hi : W.Looks (model prog w) hp (typeLookup (.ref C) "__init__") (some (.ref fI))) (hb : ∀ me, W.Looks (model prog w) hp (bindSpecial (.ref fI) me) (.ref fI, [me])) (hl : as.length ≤ sizeLine)
    (hq : codeAny (model prog w) A (.call (.ref fI) ⟨.ref (hp.objs.size + 1) :: as, kw⟩)
      (fun r s' => match r with | .ok (.ret v) => v = .none ∧ Q (.done (.ret (.ref (hp.objs.size + 1)))) s' | .ok _ => False | .error e => E e s')
      ⟨(hp.push (PySem.W.kdv_tup as)).push (excO C hp.objs.size), gs, dr, tk, osx⟩) :
    wpAny (model prog w) A (Builtin.«type.__call__» ⟨.ref C :: as, kw⟩) Q E ⟨hp, gs, dr, tk, osx⟩ := by
  repeat (first | with_reducible refine wpAny_loadPart_at hC ?_ | with_reducible refine wpAny_madeBy_exc hC ?_ | wp_step)
  refine codeAny_call_builtin_code (Code.quiet_builtin _ F.quiet) (chk_new F hT hC ?_)
  refine new_kw F hT hC ?_ hl
  show wpAny _ _ _ _ _ _
  have kp : ∀ b o, hp.get? b = some o → ((hp.push (PySem.W.kdv_tup as)).push (excO C hp.objs.size)).get? b = some o := fun b o e => Heap.get?_push_of_some _ (Heap.get?_push_of_some _ e)
  have hC1 := kp _ _ hC
  have hgt : ((hp.push (PySem.W.kdv_tup as)).push (excO C hp.objs.size)).get? (hp.objs.size + 1) = some (excO C hp.objs.size) := by heap_get
  have hcc : (Value.ref C :: cm).contains (.ref C) = true := by simp
  have li := hi.keeps kp
  have lb := (hb (.ref (hp.objs.size + 1))).keeps kp
  unfold isInstance
  repeat (first | with_reducible refine wpAny_loadPart_at hgt ?_ | (with_reducible refine wpAny_isSubtype_exc hC1 ?_; rw [hcc]) | wp_step)
  show wpAny _ _ (typeLookup (.ref C) _) _ _ _
  refine li.at ?_
  refine wpAny_holding (wpAny_bind (lb.at ?_))
  refine wpAny_bind (wpAny_call (codeAny_mono hq fun r s' zz => ?_))
  rcases r with e | (v | _ | _ | _) <;> first | exact zz | exact zz.elim | skip
  obtain ⟨rfl, zz⟩ := zz
  first
    | exact wpAny_pure (wpAny_pure zz)
    | (wp_walk; exact zz)
theorem call_kw (F : ExcBaseFacts Bn nId iId cmB) (hT : ∀ Y : String, cm.contains (.type Y) = cmB.contains (.type Y)) {as : List Value} {kw : List (Str × Value)} {fI : Addr}
    (hC : hp.get? C = some (excClassObj cn cq C Nn cb cm hdt sln sbc abst colo ddo j0 j1 j2 j3 j5 nId))
    (hi : W.Looks (model prog w) hp (typeLookup (.ref C) "__init__") (some (.ref fI))) (hb : ∀ me, W.Looks (model prog w) hp (bindSpecial (.ref fI) me) (.ref fI, [me])) (hl : as.length ≤ sizeLine)
    (hq : codeAny (model prog w) (A.under (.builtin "type.__call__" ⟨.ref C :: as, kw⟩)) (.call (.ref fI) ⟨.ref (hp.objs.size + 1) :: as, kw⟩) (W.InitBack (hp.objs.size + 1) R)
      ⟨(hp.push (PySem.W.kdv_tup as)).push (excO C hp.objs.size), gs, dr, tk, osx⟩) :
    codeAny (model prog w) A (.call (.ref C) ⟨as, kw⟩) R ⟨hp, gs, dr, tk, osx⟩ := by
  have tl := tc_lookup
  have tb := tc_bind (.ref C)
  have hTy : (⟨hp, gs, dr, tk, osx⟩ : Shared).TypeIs (.ref C) "type" := ⟨_, hC, rfl⟩
  refine codeAny_of_tree ?_
  show wpAny _ _ (callAny (.ref C) _) _ _ _
  repeat (any_goals (first | assumption | with_reducible refine wpAny_loadPart_at hC ?_ | wp_step))
  refine ⟨rfl, ?_⟩
  refine codeAny_call_builtin_at (Code.quiet_builtin _ (by decide +kernel)) entry_typeCall (wpAny_check_type_call_sub hC (tcall_kw F hT hC hi hb hl ?_))
  refine codeAny_mono hq fun r s' zz => ?_
  rcases r with e | (v | _ | _ | _) <;> exact zz
end
end EV
end PySem

set_option Elab.async false
set_option linter.all false
set_option maxRecDepth 100000
set_option maxHeartbeats 4000000
/-! Rules for own errors that stay as values. -/
namespace EV2
open PySem PySem.Spec PyProof.Rows L2
/-- C(e, .., k = v, ..), C an own error with its own __init__: the error stays known -/
def tMkV (C : Addr) (n m : Nat) (sp : Sp) (gV : List V → List V → List V) (t tk : TA) : TE := fun σ H Q => t σ H fun vs H1 => tk σ H1 fun zs H2 => vs.length = n ∧ zs.length = m ∧ n ≤ 1000 ∧
  ∀ a, H2 a = none → sp (gV (.ref a :: vs) zs) (upd H2 a (exo a C none)) (fun v H3 => v = .non ∧ Q (.ref a) H3) fun _ _ _ => False
structure ErrC (K : PySem.W.Frag) (C fI : Addr) : Prop where
  ox : OexC K C
  ini : PySem.W.findIn K (.ref C) "__init__" = some (some (.ref fI))
  ty : PySem.W.typeIn K (.ref fI) = some (.type "function")
section
variable {X : Cx} {CX : CXT} {k n : Nat} {fI C : Addr} {fd : FuncData} {ps ks : List Str} {sp : Sp} {x : Str} {p pos : Pos} {e : Expr} {es : List Expr} {kws : List Keyword} {t tk : TA} {g : List Value → List Value → List Value} {gV : List V → List V → List V}
theorem run_mkV {pins : List (Addr × Obj)} {σ : L2.St} {H : Hp} {s : Shared} {Q : VK} {us ws : List Value} {vs zs : List V} (T : ErrC X.K C fI) (F : FnOk X.prog X.w X.K X.mg X.base CX k fI fd ps sp) (hr : Room (k + 1) X.A) (hb : KBn X.K fd ps (n + 1) ks g gV)
    (hx : Passes CX X fun _ _ _ => False) (I : Inv X pins σ H s) (r : Vals vs us) (rz : Vals zs ws) (l1 : vs.length = n) (l2 : zs.length = ks.length) (hn : n ≤ 1000)
    (h : ∀ a, H a = none → sp (gV (.ref a :: vs) zs) (upd H a (exo a C none)) (fun v H3 => v = .non ∧ Q (.ref a) H3) fun _ _ _ => False) :
    wpAny (model X.prog X.w) X.A (call (.ref C) us (ks.zip ws)) (EP X pins σ Q) X.xe s := by
  obtain ⟨nm, q, N, bs, bm, sn, sub, ab, col, dd, k0, k1, k2, k3, k5, hC, hbm⟩ := T.ox.cls
  obtain ⟨hp, gg, dr, tt, os⟩ := s
  have hsz : hp.objs.size ≤ hp.objs.size + 1 := Nat.le_succ _
  have nn : H (hp.objs.size + 1) = none := I.hok.fresh hsz
  have hq := h (hp.objs.size + 1) nn
  have kk : ∀ b o, hp.get? b = some o → ((hp.push (PySem.W.kdv_tup us)).push (PySem.HandSPX.excO C hp.objs.size)).get? b = some o := fun b o e => Heap.get?_push_of_some _ (Heap.get?_push_of_some _ e)
  have gt : ((hp.push (PySem.W.kdv_tup us)).push (PySem.HandSPX.excO C hp.objs.size)).get? (hp.objs.size + 1) = some (PySem.HandSPX.excO C hp.objs.size) := by heap_get
  have J : Inv X pins σ (upd H (hp.objs.size + 1) (exo (hp.objs.size + 1) C none)) ⟨(hp.push (PySem.W.kdv_tup us)).push (PySem.HandSPX.excO C hp.objs.size), gg, dr, tt, os⟩ :=
    I.laid (t' := tt) (a := hp.objs.size + 1) (o := exo (hp.objs.size + 1) C none) (h' := (hp.push (PySem.W.kdv_tup us)).push (PySem.HandSPX.excO C hp.objs.size)) kk hsz (exo_ok gt)
  have r1 : Vals (V.ref (hp.objs.size + 1) :: vs) (Value.ref (hp.objs.size + 1) :: us) := .cons rfl r
  have r2 := hb.rel r1 rz
  have n1 : (Value.ref (hp.objs.size + 1) :: us).length = n + 1 := by rw [List.length_cons, ← r.length, l1]
  have lu : us.length ≤ sizeLine := by
    rw [← r.length, l1, sizeLine_eq]
    omega
  refine wpAny_call (PySem.EV.call_kw PySem.F.excBase_ValueError (fun Y => PySem.HandSPX.refsVE_contains Y bm hbm) (I.kIn _ _ hC) (PySem.W.looks_findIn I.kIn T.ini) (fun me => PySem.W.bind_fn I.kIn me T.ty) lu
    (codeAny_mono (FnOk.run F _ X.stack _ _ ⟨Value.ref (hp.objs.size + 1) :: us, ks.zip ws⟩ (g (Value.ref (hp.objs.size + 1) :: us) ws) _ _ (fun _ _ _ => False) (hr.make C us (ks.zip ws)) (J.env0.make C us (ks.zip ws)) (hb.to _ (Value.ref (hp.objs.size + 1) :: us) ws J.kIn n1 (rz.length.symm.trans l2)) r2 hq) fun r s' hq' => ?_))
  cases r with
  | error e => exact hx pins σ _ _ e s' J hq'
  | ok fl =>
    cases fl with
    | ret u =>
      obtain ⟨v, H', I3, rv, ev, q3⟩ := J.after hq'
      subst ev
      exact ⟨rv, ⟨V.ref (hp.objs.size + 1), H', I3, rfl, q3⟩⟩
    | next => exact False.elim hq'
    | brk => exact False.elim hq'
    | cont => exact False.elim hq'
/-- C(e, ..) -/
theorem pe_mkV (T : ErrC X.K C fI) (F : FnOk X.prog X.w X.K X.mg X.base CX k fI fd ps sp) (hr : Room (k + 1) X.A) (hg : Gl X x) (hm : X.mg x = some (.ref C)) (hb : KBn X.K fd ps (n + 1) [] g gV) (hx : Passes CX X fun _ _ _ => False) (ha : PA X (e :: es) t)
    (hdb : (x == ("__debug__" : Str)) = false := by decide) (he : starEach (e :: es) X.env = (false, eval e X.env) :: starEach es X.env := by rfl) (hpl : (backTo pos (starEach es X.env)).any (·.1) = false := by rfl) :
    PE X (.Call (.Name x p) (e :: es) [] pos) (tMkV C n 0 sp gV t tNil) := by
  refine ⟨fun pins s σ H Q I h => ?_⟩
  refine wpAny_Call_Name_kw (ld_glob I hg hm ?_ hdb)
  refine PySem.W.callWith_K (h₀ := X.base) I.ok.mod.kin T.ox.kC (thn (ha.run pos pins s σ H _ I h) fun us s1 ⟨vs, H1, I1, r, l1, _, hn, q⟩ => ⟨I1.kIn, ?_⟩) he hpl
  exact run_mkV (ks := []) (ws := []) (zs := []) T F hr hb hx I1 r .nil l1 rfl hn q
/-- C(k = v, ..) -/
theorem pe_mkVK0 (T : ErrC X.K C fI) (F : FnOk X.prog X.w X.K X.mg X.base CX k fI fd ps sp) (hr : Room (k + 1) X.A) (hg : Gl X x) (hm : X.mg x = some (.ref C)) (hb : KBn X.K fd ps 1 ks g gV) (hx : Passes CX X fun _ _ _ => False) (hkw : PK X kws tk)
    (hall : (backToKw pos (keywordEach kws X.env)).all (·.1.isSome) = true := by rfl) (hks : (backToKw pos (keywordEach kws X.env)).filterMap (·.1) = ks := by rfl) (hdb : (x == ("__debug__" : Str)) = false := by decide)
    (hpl : ((backTo pos (starEach [] X.env)).any (·.1) || (backToKw pos (keywordEach kws X.env)).any (·.1.isNone)) = false := by rfl) :
    PE X (.Call (.Name x p) [] kws pos) (tMkV C 0 ks.length sp gV tNil tk) := by
  refine ⟨fun pins s σ H Q I h => ?_⟩
  refine wpAny_Call_Name_kw (ld_glob I hg hm ?_ hdb)
  refine PySem.W.callWith_KW0 (h₀ := X.base) I.ok.mod.kin T.ox.kC hall ?_ hpl
  refine thn (hkw.run pos pins s σ H _ I h) fun ws s2 ⟨zs, H2, I2, rz, l1, l2, hn, q2⟩ => ⟨I2.kIn, ?_⟩
  rw [hks]
  exact run_mkV (us := []) (vs := []) T F hr hb hx I2 .nil rz rfl l2 hn q2
/-- C(e, .., k = v, ..) -/
theorem pe_mkVK (T : ErrC X.K C fI) (F : FnOk X.prog X.w X.K X.mg X.base CX k fI fd ps sp) (hr : Room (k + 1) X.A) (hg : Gl X x) (hm : X.mg x = some (.ref C)) (hb : KBn X.K fd ps (n + 1) ks g gV) (hx : Passes CX X fun _ _ _ => False) (ha : PA X (e :: es) t) (hkw : PK X kws tk)
    (hall : (backToKw pos (keywordEach kws X.env)).all (·.1.isSome) = true := by rfl) (hks : (backToKw pos (keywordEach kws X.env)).filterMap (·.1) = ks := by rfl) (hdb : (x == ("__debug__" : Str)) = false := by decide)
    (he : starEach (e :: es) X.env = (false, eval e X.env) :: starEach es X.env := by rfl) (hpl : ((backTo pos (starEach (e :: es) X.env)).any (·.1) || (backToKw pos (keywordEach kws X.env)).any (·.1.isNone)) = false := by rfl) :
    PE X (.Call (.Name x p) (e :: es) kws pos) (tMkV C n ks.length sp gV t tk) := by
  refine ⟨fun pins s σ H Q I h => ?_⟩
  refine wpAny_Call_Name_kw (ld_glob I hg hm ?_ hdb)
  refine PySem.W.callWith_KW (h₀ := X.base) I.ok.mod.kin T.ox.kC hall (thn (ha.run pos pins s σ H _ I h) fun us s1 ⟨vs, H1, I1, r, q⟩ => ?_) hpl he
  refine thn (hkw.run pos pins s1 σ H1 _ I1 q) fun ws s2 ⟨zs, H2, I2, rz, l1, l2, hn, q2⟩ => ⟨I2.kIn, ?_⟩
  rw [hks]
  exact run_mkV T F hr hb hx I2 r rz l1 l2 hn q2
end
end EV2

set_option Elab.async false
set_option linter.all false
set_option maxRecDepth 100000
set_option maxHeartbeats 4000000
/-! Fields and kinds of own errors that stay as values. -/
namespace PySem.EV
open PySem PySem.W PySem.Spec PySem.Calls PyProof.Rows
section
variable {prog : Program} {w : World} {A : Around} {E : Value → Shared → Prop} {s : Shared} {K : Frag} {x D : Addr} {ox : Obj} {od : Option Obj}
theorem fo_data {C : Addr} {name : Str} {a g : Value} (hc : (clsIn K C).isSome = true) (ha : findIn K (.ref C) name = some (some a)) (hg : specialIn K a "__get__" = some (some g)) (ht : takesIn K a = some true) : findObj K C od name = some (.bind g a) := by
  obtain ⟨cd, hc⟩ := Option.isSome_iff_exists.mp hc
  unfold findObj
  rw [hc, Option.bind_some, ha, Option.bind_some]
  simp [hg, ht]
/-- x.__class__, x an error with or without a dict of its own -/
theorem cls_get {Q : Option Value → Shared → Prop} (C : L2.ExcC K D) (X : K.In s.heap) (I : InstAt s.heap x ox D od) (h : Q (some (.ref D)) { s with toks := s.toks + 1 }) : wpAny (model prog w) A (getAttr? (.ref x) "__class__") Q E s := by
  have hf : findObj K D od "__class__" = some (.bind (.builtin "getset_descriptor.__get__") (.builtin "object.__class__")) := fo_data (by obtain ⟨cd, hc, _⟩ := any_some C.hd; rw [hc]; rfl) C.ha C.hn C.ht
  obtain ⟨hp, g, d, t, os⟩ := s
  have t0 := I.type (M := model prog w)
  have t1 := looks_findIn (M := model prog w) X C.hg
  have t2 := looks_findIn (M := model prog w) X C.hk
  have t3 := looks_find (M := model prog w) X I hf
  have sb : Looks (model prog w) hp (isInstance (.ref x) (.type "BaseException")) true := t0.andThen (looks_subIn X C.hs)
  have z0 : (false && onTheHeap (Value.builtin "BaseException.__getattribute__")) = false := rfl
  have z2 : (Value.builtin "BaseException.__getattribute__" == Value.builtin "object.__getattribute__") = false := by decide +kernel
  have z1 : (onTheHeap (Value.ref D) && Value.builtin "BaseException.__getattribute__" == Value.builtin "object.__getattribute__") = false := by rw [z2]; rfl
  unfold getAttr? getAttrBy? getAttrBy
  refine wpAny_bind (wpAny_mkText (wpAny_bind (wpAny_attempt (wpAny_holding (wpAny_bind (t0.at (wpAny_bind (t1.at ?_))))))))
  show wpAny _ _ (if (onTheHeap (Value.ref D) && Value.builtin "BaseException.__getattribute__" == Value.builtin "object.__getattribute__") = true then _ else _) _ _ _
  rw [z1, if_neg Bool.false_ne_true]
  unfold getAttrByItsOwn hookBefore
  refine wpAny_bind ?_
  rw [if_pos (show onTheHeap (Value.ref D) = true from rfl)]
  refine t2.at ?_
  refine wpAny_bind (wpAny_attempt (wpAny_holding ?_))
  unfold callGetattribute
  rw [z0, if_neg Bool.false_ne_true]
  unfold boundAndCalled
  rw [PySem.F.excAttr_ValueError.ga.bind (.ref x)]
  refine wpAny_bind (wpAny_pure ?_)
  show wpAny _ _ (call (.builtin "BaseException.__getattribute__") [.ref x, .str "__class__" t]) _ _ _
  refine wpAny_call (codeAny_call_builtin PySem.F.excAttr_ValueError.ga.plain PySem.F.entry_bexc_ga ?_)
  refine @check_slot (model prog w) _ _ ⟨hp, g, d, t + 1, os⟩ "BaseException.__getattribute__" "BaseException" "__getattribute__" (.ref x) [.str "__class__" t] [] _ (by decide +kernel) (by decide +kernel) sb (PySem.F.args_bexc_ga (.ref x) (.str "__class__" t)) ?_
  unfold Builtin.«object.__getattribute__»
  refine wpAny_bind (wpAny_of_eq (a := ((Value.ref x : Value), [Value.str "__class__" t])) (by first | rfl | (simp only [slotArgs]; rfl)) ?_)
  refine wpAny_bind (wpAny_pure (wpAny_bind (t0.at (wpAny_bind (t3.at ?_)))))
  show wpAny _ _ (holding [Value.builtin "object.__class__"] (call (.builtin "getset_descriptor.__get__") [.builtin "object.__class__", .ref x, .ref D]) >>= ret) _ _ _
  refine wpAny_bind (wpAny_holding (wpAny_call (class_get (s := ⟨hp, g, d, t + 1, os⟩) (ox := ox) (od := od) X I C.hm ?_)))
  refine wpAny_pure ?_
  show wpAny _ _ (handedOut (.ref D)) _ _ _
  rw [handedOut_of (v := .ref D) rfl]
  first
    | exact wpAny_pure (wpAny_pure h)
    | exact wpAny_pure h
    | exact wpAny_pure (wpAny_bind (wpAny_pure (wpAny_pure h)))
theorem kitx_err (C : L2.ExcC K D) : KitX K (.ref x) (.ref D) (fun h => InstAt h x ox D od) where
  ty := fun _ _ _ I => I.type
  it := fun _ _ X _ => by
    obtain ⟨cdD, hcD, _⟩ := any_some C.hd
    unfold clsIn at hcD
    split at hcD
    · rename_i c' d' cd' sl' ho
      intro A' Q' E' s' k q
      unfold isType loadHead
      exact wpAny_bind (wpAny_loadPart (k _ _ (X _ _ ho)) (wpAny_pure q))
    · cases hcD
  ne := fun h tp dd its n sl X htp => by
    obtain ⟨cdD, hcD, _⟩ := any_some C.hd
    refine Bool.eq_false_iff.mpr fun q => ?_
    have e : D = tp := Value.ref.inj (beq_iff_eq.mp q)
    subst e
    unfold clsIn at hcD
    split at hcD
    · rename_i c' d' cd' sl' ho
      have z := (X _ _ ho).symm.trans htp
      cases z
    · cases hcD
  ca := fun X I k => cls_get C X I k
end
end PySem.EV
namespace EV2
open PySem PySem.Spec PyProof.Rows L2
/-! ### isinstance(e, c), e an own error -/
/-- x is an own error of the class at D -/
def ErrAt (H : Hp) (x : V) (D : Addr) : Prop := ∃ (a : Addr) (d : Option Addr), x = .ref a ∧ H a = some (exo a D d) ∧ ∀ dd, d = some dd → ∃ fs, H dd = some (exd dd fs)
def rIsV (K : PySem.W.Frag) : List V → Hp → VK → Prop := fun xs H Q => ∃ (x c : V) (D : Addr) (cv : Value) (b : Bool), xs = [x, c] ∧ ErrAt H x D ∧ ExcC K D ∧ (∀ u, RelV c u → u = cv) ∧ PySem.W.kitOne K (.ref D) cv = some b ∧ Q (.bl b) H
theorem call_isV {X : Cx} : CallR X (.builtin "isinstance") (rIsV X.K) := by
  intro pins s σ H xs us Q I r h
  obtain ⟨x, c, D, cv, b, rfl, ⟨a, d, rfl, ha, hd⟩, C, hcv, e, q⟩ := h
  obtain ⟨u1, u2, rfl, r1, r2⟩ := vals2 r
  have ec := hcv _ r2
  subst ec
  obtain rfl : u1 = Value.ref a := r1
  obtain ⟨t1, ho⟩ := exo_at I.hok ha
  cases d with
  | none =>
    have J : PySem.W.InstAt s.heap a { cls := .ref D, dict := none, data := .fields #[.ref t1, .none, .none, .none, .bool false, .none] } D none := ⟨ho, rfl, rfl, trivial⟩
    exact PySem.W.kia_one (PySem.EV.kitx_err C) I.kIn J e (fun z => nomatch z) fun tk => ⟨.bl b, H, I.kept (t' := tk) fun _ _ z => z, rfl, q⟩
  | some dd =>
    obtain ⟨fs, hdd⟩ := hd dd rfl
    obtain ⟨mA, hns, _⟩ := exd_at I.hok hdd
    obtain ⟨od, eo, _⟩ := lookIn_ns hns
    have J : PySem.W.InstAt s.heap a { cls := .ref D, dict := some dd, data := .fields #[.ref t1, .none, .none, .none, .bool false, .none] } D (some od) := ⟨ho, rfl, rfl, eo⟩
    exact PySem.W.kia_one (PySem.EV.kitx_err C) I.kIn J e (fun z => nomatch z) fun tk => ⟨.bl b, H, I.kept (t' := tk) fun _ _ z => z, rfl, q⟩
/-! ### e.f -/
def tErrF (K : PySem.W.Frag) (f : Str) (te : TE) : TE := fun σ H Q => te σ H fun x H1 => ∃ (a C d : Addr) (fs : List (Str × V)) (v : V), x = .ref a ∧ H1 a = some (exo a C (some d)) ∧ H1 d = some (exd d fs) ∧ XfC K C ∧ PySem.W.findIn K (.ref C) f = some none ∧ fs.lookup f = some v ∧ Q v H1
theorem pe_errF {X : Cx} {e : Expr} {te : TE} {f : Str} {pos : Pos} (he : PE X e te) (hb : attributeBase e f X.env (eval e X.env) = eval e X.env := by rfl) : PE X (.Attribute e f pos) (tErrF X.K f te) := by
  refine ⟨fun pins s σ H Q I h => ?_⟩
  refine attr_of hb (thn (he.run pins s σ H _ I h) fun u s1 hh => ?_)
  obtain ⟨x, H1, I1, rx, a, C, d, fs, v, ex, ea, ed, T, hno, l, q⟩ := hh
  subst ex
  obtain rfl : u = Value.ref a := rx
  obtain ⟨t1, ho⟩ := exo_at I1.hok ea
  obtain ⟨mA, hns, hr⟩ := exd_at I1.hok ed
  obtain ⟨od, eo, hl⟩ := lookIn_ns hns
  obtain ⟨u, hu, ru⟩ := RelO.some_of (v := v) (o := mA f) (by rw [← l]; exact hr f)
  have J : PySem.W.InstAt s1.heap a { cls := .ref C, dict := some d, data := .fields #[.ref t1, .none, .none, .none, .bool false, .none] } C (some od) := ⟨ho, rfl, rfl, eo⟩
  exact HandSPX.exc_get I1.kIn J T.ga T.gg T.exC (PySem.W.findObj_own T.hdC hno rfl (by rw [hl, hu])) (handed_of ru) ⟨v, H1, I1.tok _, ru, q⟩
/-! ### C(), C an own error without an __init__ of its own -/
def tMk0 (C : Addr) : TE := fun _ H Q => ∀ a, H a = none → Q (.ref a) (upd H a (exo a C none))
theorem pe_mk0 {X : Cx} {C : Addr} {bmB : List Value} {B newId initId : String} {x : Str} {p pos : Pos} (F : ExcBaseFacts B newId initId bmB) (q : PySem.W.excIn X.K C bmB newId = true) (gC : X.mg x = some (.ref C)) (kC : PySem.W.keepIn X.K (.ref C) = true) (hg : Gl X x)
    (hdb : (x == ("__debug__" : Str)) = false := by decide) : PE X (.Call (.Name x p) [] [] pos) (tMk0 C) := by
  refine ⟨fun pins s σ H Q I h => ?_⟩
  refine wpAny_Call_Name_kw (ld_glob I hg gC ?_ hdb)
  refine PySem.W.callWith_K0 I.kIn kC ?_
  show wpAny _ _ (call (.ref C) []) _ _ _
  obtain ⟨bm, N, nm, qn, bs, hdct, sn, sub, ab, col, dd, k0, k1, k2, k3, k5, mN, hC, hN, hni, T⟩ := exc_obj I.kIn q
  refine wpAny_call_exc_subT F T hC hN hni (fun h' e hm => ?_) (by show 0 ≤ sizeLine; rw [sizeLine_eq]; omega)
  obtain ⟨t, he, _, _⟩ := hm.there
  have hn := I.hok.gone hm.new
  exact ⟨.ref e, _, I.laidN (t' := s.toks) hm.keeps hm.new hn (exo_ok he), rfl, h e hn⟩
end EV2

set_option Elab.async false
set_option linter.all false
set_option maxRecDepth 100000
set_option maxHeartbeats 4000000
/-! Pens: a dict of three text keys, the cells and two numbers; common small facts. -/
namespace Pen
open PySem PySem.Spec PyProof.Rows L2
/-- all but what stands at p is as it was -/
def Sib (p : Addr) (H H' : Hp) : Prop := ∀ b o, b ≠ p → H b = some o → H' b = some o
theorem Sib.refl (p : Addr) (H : Hp) : Sib p H H := fun _ _ _ h => h
theorem Sib.trans {p : Addr} {H H1 H2 : Hp} (a : Sib p H H1) (b : Sib p H1 H2) : Sib p H H2 := fun c o n h => b c o n (a c o n h)
theorem Sib.new {p q : Addr} {o : HO} {H : Hp} (h : H q = none) : Sib p H (upd H q o) := fun b u _ e => by
  rw [upd_ne (ne_of_none e h)]
  exact e
theorem Sib.put {p : Addr} {o : HO} {H : Hp} : Sib p H (upd H p o) := fun b u n e => by
  rw [upd_ne n]
  exact e
/-- the pen's pairs: c the cells, i how many were taken, r what is left of the last one -/
def kvs (k1 k2 k3 : Str) (c : Addr) (i r : Int) : List (Key × V) := [(Sum.inr k1, .ref c), (Sum.inr k2, .int i), (Sum.inr k3, .int r)]
structure At (k1 k2 k3 : Str) (H : Hp) (p c : Addr) (cs : List Int) (i r : Int) : Prop where
  hp : H p = some (.dK (kvs k1 k2 k3 c i r))
  hc : H c = some (.lst (cs.map V.int))
  hl : cs.length ≤ 64
  h0 : 0 ≤ i
  h1 : i < 2 ^ 40
section
variable {k1 k2 k3 : Str} {H H' : Hp} {p c : Addr} {cs : List Int} {i r : Int}
theorem ref_ne (P : At k1 k2 k3 H p c cs i r) : c ≠ p := ne_of P.hc P.hp (by intro z; cases z)
theorem get1 (P : At k1 k2 k3 H p c cs i r) : DGet H p (.str k1) (some (.ref c)) := by
  have h := DGet.k (k := Sum.inr k1) P.hp
  have e : valV (kvs k1 k2 k3 c i r) (Sum.inr k1) = some (.ref c) := by simp [valV, kvs]
  rw [e] at h
  exact h
theorem get2 (P : At k1 k2 k3 H p c cs i r) (h12 : k1 ≠ k2) : DGet H p (.str k2) (some (.int i)) := by
  have h := DGet.k (k := Sum.inr k2) P.hp
  have e : valV (kvs k1 k2 k3 c i r) (Sum.inr k2) = some (.int i) := by simp [valV, kvs, h12]
  rw [e] at h
  exact h
theorem get3 (P : At k1 k2 k3 H p c cs i r) (h13 : k1 ≠ k3) (h23 : k2 ≠ k3) : DGet H p (.str k3) (some (.int r)) := by
  have h := DGet.k (k := Sum.inr k3) P.hp
  have e : valV (kvs k1 k2 k3 c i r) (Sum.inr k3) = some (.int r) := by simp [valV, kvs, h13, h23]
  rw [e] at h
  exact h
theorem put2 (P : At k1 k2 k3 H p c cs i r) (h12 : k1 ≠ k2) (h23 : k2 ≠ k3) (z : Int) : DPut H p (.str k2) (.int z) (upd H p (.dK (kvs k1 k2 k3 c z r))) := by
  have h := DPut.k (k := Sum.inr k2) (v := .int z) P.hp (by show 3 < sizeLine; decide)
  have e : putK (kvs k1 k2 k3 c i r) (Sum.inr k2) (.int z) = kvs k1 k2 k3 c z r := by
    have h3 : ¬ k3 = k2 := fun q => h23 q.symm
    simp [putK, kvs, h12, h3]
  rw [e] at h
  exact h
theorem put3 (P : At k1 k2 k3 H p c cs i r) (h13 : k1 ≠ k3) (h23 : k2 ≠ k3) (z : Int) : DPut H p (.str k3) (.int z) (upd H p (.dK (kvs k1 k2 k3 c i z))) := by
  have h := DPut.k (k := Sum.inr k3) (v := .int z) P.hp (by show 3 < sizeLine; decide)
  have e : putK (kvs k1 k2 k3 c i r) (Sum.inr k3) (.int z) = kvs k1 k2 k3 c i z := by simp [putK, kvs, h13, h23]
  rw [e] at h
  exact h
theorem At.to (P : At k1 k2 k3 H p c cs i r) {i' r' : Int} (hp : H' p = some (.dK (kvs k1 k2 k3 c i' r'))) (s : Sib p H H') (h0 : 0 ≤ i') (h1 : i' < 2 ^ 40) : At k1 k2 k3 H' p c cs i' r' :=
  ⟨hp, s _ _ (ref_ne P) P.hc, P.hl, h0, h1⟩
theorem At.new (P : At k1 k2 k3 H p c cs i r) {q : Addr} {o : HO} (h : H q = none) : At k1 k2 k3 (upd H q o) p c cs i r :=
  P.to (by rw [upd_ne (ne_of_none P.hp h)]; exact P.hp) (Sib.new h) P.h0 P.h1
theorem At.keep (P : At k1 k2 k3 H p c cs i r) (s : Same H H') : At k1 k2 k3 H' p c cs i r := P.to (s _ _ P.hp) (fun b o _ h => s b o h) P.h0 P.h1
end
theorem fmod_lo {a m : Int} (h : 0 < m) : 0 ≤ a.fmod m := by
  rw [Int.fmod_eq_emod_of_nonneg a (by omega)]
  exact Int.emod_nonneg a (by omega)
theorem fmod_hi {a m : Int} (h : 0 < m) : a.fmod m < m := by
  rw [Int.fmod_eq_emod_of_nonneg a (by omega)]
  exact Int.emod_lt_of_pos a h
/-- cells != [] -/
theorem dp_ints {K : PySem.W.Frag} {H : Hp} : ∀ (cs : List Int), DpAll K H (cs.map V.int) (cs.map PyData.int)
  | [] => .nil
  | n :: cs => .cons (.int n) (dp_ints cs)
theorem can_ints : ∀ (cs : List Int), PyData.canLayAll0 (cs.map PyData.int) = true
  | [] => rfl
  | n :: cs => by
    show (PyData.canLay0 (.int n) && PyData.canLayAll0 (cs.map PyData.int)) = true
    rw [can_ints cs]
    all_goals rfl
theorem depth_ints : ∀ (cs : List Int), PyData.depthAll (cs.map PyData.int) = 0
  | [] => rfl
  | n :: cs => by
    show max (PyData.depth (.int n)) (PyData.depthAll (cs.map PyData.int)) = 0
    rw [depth_ints cs]
    all_goals rfl
theorem shaped_ints (cs : List Int) : SeqAt.shaped (.list (cs.map PyData.int)) = true := by
  unfold SeqAt.shaped
  show (PyData.canLayAll0 (cs.map PyData.int) && decide (PyData.depthAll (cs.map PyData.int) + 1 ≤ 64)) = true
  rw [can_ints, depth_ints]
  all_goals rfl
theorem eqv_nil : ∀ (cs : List Int), PyData.eqv (.list (cs.map PyData.int)) (.list []) = decide (cs = [])
  | [] => rfl
  | n :: cs => rfl
theorem fm64 {a m : Int} (h : 0 < m) (h2 : m ≤ 2 ^ 64) : -(2 ^ 64) < a.fmod m ∧ a.fmod m < 2 ^ 64 := by
  have h3 := fmod_lo (a := a) h
  have h4 := fmod_hi (a := a) h
  omega
theorem SqL_sib {K : PySem.W.Frag} {p l : Addr} {H H' : Hp} {xs : List V} (h : SqL K H l xs) (s : Sib p H H') (n : l ≠ p) : SqL K H' l xs := by
  rcases h with (h | ⟨o, h⟩) | h
  · exact .inl (.inl (s _ _ n h))
  · exact .inl (.inr ⟨o, s _ _ n h⟩)
  · exact .inr h
theorem at_ints {cs : List Int} {i : Int} (h0 : 0 ≤ i) (h1 : i < cs.length) : ∃ z, atI (cs.map V.int) i = some (.int z) := by
  have hk : i.toNat < cs.length := by omega
  refine ⟨cs[i.toNat], ?_⟩
  unfold atI ixN
  rw [List.length_map, if_pos h0, if_pos h1, Option.bind_some, List.getElem?_map, List.getElem?_eq_getElem hk]
  all_goals rfl
theorem cut_all {xs : List V} {n : Nat} (h : xs.length ≤ n) : cutV xs none (some (n : Int)) = xs := by
  have e1 : HT.sIx xs.length 0 none = 0 := rfl
  have e2 : HT.sIx xs.length xs.length (some (n : Int)) = xs.length := by
    rw [HT.sIx_nat]
    omega
  unfold cutV
  rw [e1, e2]
  simp
end Pen

set_option Elab.async false
set_option linter.all false
set_option maxRecDepth 100000
set_option maxHeartbeats 4000000
/-! Own errors with one or two fields that their __init__ stores: what stands behind C(..). -/
namespace EV2
open PySem PySem.Spec PyProof.Rows L2
/-- an error with the fields fs -/
structure ErrF (H : Hp) (a d C : Addr) (fs : List (Str × V)) : Prop where
  he : H a = some (exo a C (some d))
  hd : H d = some (exd d fs)
def spI1 (C : Addr) (f : Str) : Sp := fun vs H Q _ => ∃ (a : Addr) (v : V), vs = [.ref a, v] ∧ H a = some (exo a C none) ∧
  ∀ d, H d = none → d ≠ a → Q .non (upd (upd H d (exd d [(f, v)])) a (exo a C (some d)))
def spI2 (C : Addr) (f g : Str) : Sp := fun vs H Q _ => ∃ (a : Addr) (v u : V), vs = [.ref a, v, u] ∧ H a = some (exo a C none) ∧
  ∀ d, H d = none → d ≠ a → Q .non (upd (upd (upd H d (exd d [(f, v)])) a (exo a C (some d))) d (exd d [(g, u), (f, v)]))
section
variable {H : Hp} {Q : VK} {E : XK} {C : Addr} {f g : Str} {u v : V}
theorem rd_e1 (k : ∀ a d H', H a = none → H' a = some (exo a C (some d)) → H' d = some (exd d [(f, v)]) → Same H H' → Q (.ref a) H') :
    ∀ a, H a = none → spI1 C f [.ref a, v] (upd H a (exo a C none)) (fun z H3 => z = .non ∧ Q (.ref a) H3) E := fun a ha =>
  ⟨a, v, rfl, upd_same, fun d hd ne => ⟨rfl, k a d _ ha upd_same (by rw [upd_ne ne, upd_same]) fun b o e => by
    have n1 : b ≠ a := ne_of_none e ha
    have n2 : b ≠ d := fun z => by
      rw [z] at e
      rw [upd_ne ne, e] at hd
      cases hd
    rw [upd_ne n1, upd_ne n2, upd_ne n1]
    exact e⟩⟩
theorem rd_e2 (k : ∀ a d H', H a = none → H' a = some (exo a C (some d)) → H' d = some (exd d [(g, u), (f, v)]) → Same H H' → Q (.ref a) H') :
    ∀ a, H a = none → spI2 C f g [.ref a, v, u] (upd H a (exo a C none)) (fun z H3 => z = .non ∧ Q (.ref a) H3) E := fun a ha =>
  ⟨a, v, u, rfl, upd_same, fun d hd ne => ⟨rfl, k a d _ ha (by rw [upd_ne (Ne.symm ne), upd_same]) upd_same fun b o e => by
    have n1 : b ≠ a := ne_of_none e ha
    have n2 : b ≠ d := fun z => by
      rw [z] at e
      rw [upd_ne ne, e] at hd
      cases hd
    rw [upd_ne n2, upd_ne n1, upd_ne n2, upd_ne n1]
    exact e⟩⟩
end
/-- how a def binds positional and keyword arguments, told by its text -/
theorem kbn_of {K : PySem.W.Frag} {x qual : Str} {st : Stmt} {f : Addr} {fd : FuncData} {ps ks : List Str} {n : Nat} {g : List Value → List Value → List Value} {gV : List V → List V → List V} (F : Fun K x qual st f fd)
    (h : ∀ (kV doc pm : Value) (an : Option Addr) (cdv ct : Value) (us ws : List Value), us.length = n → ws.length = ks.length → bindArgs (PySem.W.fnOf x qual (defArgs st) (defBody st) (defScope st) .none kV doc pm an cdv ct) ⟨us, ks.zip ws⟩ = pure (ps.zip (g us ws)))
    (hr : ∀ {vs : List V} {us : List Value} {zs : List V} {ws : List Value}, Vals vs us → Vals zs ws → Vals (gV vs zs) (g us ws)) : KBn K fd ps n ks g gV := by
  obtain ⟨oc, od, kV, doc, pm, an, cdv, ct, osl, rfl, lk, hcd⟩ := F.ex
  exact ⟨fun s us ws X l1 l2 => .of_eq (h kV doc pm an cdv ct us ws l1 l2), hr⟩
/-- two keywords in the other order -/
def swapK {α : Type} (us ws : List α) : List α := us ++ ws.reverse
theorem vals_rev : ∀ {vs : List V} {us : List Value}, Vals vs us → Vals vs.reverse us.reverse
  | _, _, .nil => .nil
  | _, _, .cons r t => by
    rw [List.reverse_cons, List.reverse_cons]
    exact (vals_rev t).append (.cons r .nil)
end EV2

set_option Elab.async false
set_option linter.all false
set_option maxRecDepth 100000
set_option maxHeartbeats 4000000
/-! What readings give, for errors that are made and asked on the spot, for lists of tuples, for isinstance. -/
namespace EV2
open PySem PySem.Spec PyProof.Rows L2 Evl
/-- tuples at ps with the items xss -/
abbrev TupsAt (H : Hp) : List Addr → List (List V) → Prop := Paired fun p xs => H p = some (.tup xs)
theorem TupsAt.ext {H H' : Hp} (e : Ex H H') : ∀ {ps : List Addr} {xss : List (List V)}, TupsAt H ps xss → TupsAt H' ps xss
  | _, _, .nil => .nil
  | _, _, .cons r t => .cons (e _ _ r) (TupsAt.ext e t)
def EvTs (ta : TA) (σ : L2.St) (H : Hp) (xss : List (List V)) : Prop := ∀ H1, Ex H H1 → ∀ Q : List V → Hp → Prop, (∀ ps H2, Ex H1 H2 → TupsAt H2 ps xss → Q (ps.map V.ref) H2) → ta σ H1 Q
section
variable {K : PySem.W.Frag} {σ : L2.St} {H : Hp} {te : TE} {ta tk tr : TA} {x v : V} {xs : List V} {xss : List (List V)} {f : Str} {C : Addr}
theorem ets_nil : EvTs tNil σ H [] := fun H1 _ _ q => q [] H1 (Ex.refl H1) .nil
theorem ets_cons (h : EvU te σ H xs) (hr : EvTs tr σ H xss) : EvTs (tCons te tr) σ H (xs :: xss) := fun H1 e Q q =>
  h H1 e _ fun p H2 _ e2 hp => hr H2 (e.trans e2) _ fun ps H3 e3 ht => q (p :: ps) H3 (e2.trans e3) (.cons (e3 _ _ hp) ht)
/-- a list of such tuples -/
def EvLT (te : TE) (σ : L2.St) (H : Hp) (xss : List (List V)) : Prop := ∀ H1, Ex H H1 → ∀ Q : VK, (∀ p ps H2, H1 p = none → Ex H1 H2 → H2 p = some (.lst (ps.map V.ref)) → TupsAt H2 ps xss → Q (.ref p) H2) → te σ H1 Q
theorem elt_lst (h : EvTs ta σ H xss) (hl : xss.length ≤ 100000) : EvLT (tLst ta) σ H xss := fun H1 e Q q =>
  h H1 e _ fun ps H2 e2 ht => ⟨by
    have z := Paired.length ht
    rw [List.length_map, z]
    exact sz_of hl, fun p hp => q p ps _ (fresh_back e2 hp) (e2.trans (Ex.new hp)) upd_same (ht.ext (Ex.new hp))⟩
/-- what follows an attribute of an error -/
def errK (K : PySem.W.Frag) (f : Str) (Q : VK) : VK := fun x H1 => ∃ (a C d : Addr) (fs : List (Str × V)) (v : V), x = .ref a ∧ H1 a = some (exo a C (some d)) ∧ H1 d = some (exd d fs) ∧ XfC K C ∧ PySem.W.findIn K (.ref C) f = some none ∧ fs.lookup f = some v ∧ Q v H1
/-- C(v).f -/
theorem ev_e1p {gV : List V → List V → List V} (hx : XfC K C) (no : PySem.W.findIn K (.ref C) f = some none) (ha : EvA ta σ H [v]) (hg : ∀ a : V, gV [a, v] [] = [a, v]) : Ev (tErrF K f (tMkV C 1 0 (spI1 C f) gV ta tNil)) σ H v := fun H1 e Q q =>
  ha H1 e _ fun H2 e2 => ⟨rfl, rfl, by decide, by
    intro a ha
    rw [hg]
    exact rd_e1 (Q := errK K f Q) (fun a d H3 ha he hd s => ⟨a, C, d, _, v, rfl, he, hd, hx, no, by simp [List.lookup], q H3 (e2.trans s)⟩) a ha⟩
/-- C(f = v).f -/
theorem ev_e1k {gV : List V → List V → List V} (hx : XfC K C) (no : PySem.W.findIn K (.ref C) f = some none) (ha : EvA tk σ H [v]) (hg : ∀ a : V, gV [a] [v] = [a, v]) : Ev (tErrF K f (tMkV C 0 1 (spI1 C f) gV tNil tk)) σ H v := fun H1 e Q q =>
  ha H1 e _ fun H2 e2 => ⟨rfl, rfl, by decide, by
    intro a ha
    rw [hg]
    exact rd_e1 (Q := errK K f Q) (fun a d H3 ha he hd s => ⟨a, C, d, _, v, rfl, he, hd, hx, no, by simp [List.lookup], q H3 (e2.trans s)⟩) a ha⟩
/-- errors with two fields: f and g are v and u behind it; h is the one that is asked, z its value -/
theorem ev_e2 {n m : Nat} {vs zs : List V} {g h : Str} {u z : V} {gV : List V → List V → List V} (hx : XfC K C) (no : PySem.W.findIn K (.ref C) h = some none) (ha : EvA ta σ H vs) (hk : EvA tk σ H zs) (l1 : vs.length = n) (l2 : zs.length = m) (hn : n ≤ 1000)
    (hg : ∀ a : V, gV (a :: vs) zs = [a, v, u]) (hz : ([(g, u), (f, v)] : List (Str × V)).lookup h = some z) : Ev (tErrF K h (tMkV C n m (spI2 C f g) gV ta tk)) σ H z := fun H1 e Q q =>
  ha H1 e _ fun H2 e2 => hk H2 (e.trans e2) _ fun H3 e3 => ⟨l1, l2, hn, by
    intro a ha
    rw [hg]
    exact rd_e2 (Q := errK K h Q) (fun a d H4 ha he hd s => ⟨a, C, d, _, z, rfl, he, hd, hx, no, hz, q H4 ((e2.trans e3).trans s)⟩) a ha⟩
end
end EV2

set_option Elab.async false
set_option linter.all false
set_option maxRecDepth 100000
set_option maxHeartbeats 4000000
/-! A new list that grows by tuples. -/
namespace EV2
open PySem PySem.Spec PyProof.Rows L2 Evl
structure Grown (H0 H : Hp) (l : Addr) (ts : List Addr) (xss : List (List V)) : Prop where
  nw : H0 l = none
  ex : Ex H0 H
  at_ : H l = some (.lst (ts.map V.ref))
  tp : TupsAt H ts xss
theorem tups_app {H : Hp} : ∀ {ps qs : List Addr} {xss yss : List (List V)}, TupsAt H ps xss → TupsAt H qs yss → TupsAt H (ps ++ qs) (xss ++ yss)
  | _, _, _, _, .nil, t => t
  | _, _, _, _, .cons r s, t => .cons r (tups_app s t)
theorem tups_upd {H : Hp} {l : Addr} {xs ys : List V} (h : H l = some (.lst xs)) : ∀ {ps : List Addr} {xss : List (List V)}, TupsAt H ps xss → TupsAt (upd H l (.lst ys)) ps xss
  | _, _, .nil => .nil
  | _, _, .cons r t => .cons (by
      rw [upd_ne (ne_of r h (by intro z; cases z))]
      exact r) (tups_upd h t)
section
variable {K : PySem.W.Frag} {σ : L2.St} {H0 H : Hp} {te : TE} {l : Addr} {ts : List Addr} {xss : List (List V)} {ys : List V} {tz : TS} {D : Ends} {i : Nat}
theorem grow (G : Grown H0 H l ts xss) (hi : σ[i]? = some (some (.ref l))) (h : EvU te σ H ys) (hz : ts.length < 1000) (k : ∀ p H', Grown H0 H' l (ts ++ [p]) (xss ++ [ys]) → tz D σ H') :
    tSeq (tDrop (tBM K "list" rAppend (tVar i) (tCons te tNil))) tz D σ H := by
  refine q_appU G.at_ (ev_var hi) h (by rw [List.length_map]; omega) fun p H1 hp e1 ht => k p _ ⟨G.nw, Ex.mut (G.ex.trans e1) G.nw, ?_, ?_⟩
  · rw [upd_same, List.map_append]
    rfl
  · exact tups_upd (e1 _ _ G.at_) (tups_app (G.tp.ext e1) (.cons ht .nil))
end
end EV2

set_option Elab.async false
set_option linter.all false
set_option maxRecDepth 100000
set_option maxHeartbeats 4000000
/-! Own errors right below one own base, which is a ValueError: what follows from the class's own line; which kind is which. -/
namespace EV2
open PySem PySem.Spec PyProof.Rows L2 Evl
def BM (S : Addr) : List Value := [.ref S, .type "ValueError", .type "Exception", .type "BaseException", .type "object"]
/-- the class's own line -/
def LineOf (K : PySem.W.Frag) (S C : Addr) : Prop := ∃ nm q N bs sn sub ab col dd k0 k1 k2 k3 k5, K.lookup C = some (excClassObj nm q C N bs (BM S) true sn sub ab col dd k0 k1 k2 k3 k5 "ValueError.__new__")
section
variable {K : PySem.W.Frag} {S C D : Addr}
theorem LineOf.cls (h : LineOf K S C) : ∃ cd, PySem.W.clsIn K C = some cd ∧ cd.mro = .ref C :: BM S ∧ cd.hasDict = true := by
  obtain ⟨nm, q, N, bs, sn, sub, ab, col, dd, k0, k1, k2, k3, k5, e⟩ := h
  refine ⟨_, by unfold PySem.W.clsIn; rw [e] <;> rfl, rfl, rfl⟩
theorem LineOf.mro (h : LineOf K S C) (v : Value) : PySem.W.mroIn K C v = some ((Value.ref C :: BM S).contains v) := by
  obtain ⟨cd, e, m, _⟩ := h.cls
  unfold PySem.W.mroIn
  rw [e, Option.bind_some, m, if_neg (by show ¬ false = true; decide)]
theorem LineOf.base (h : LineOf K S C) : PySem.W.subIn K (.ref C) (.type "BaseException") = some true := by
  show PySem.W.mroIn K C (.type "BaseException") = some true
  rw [h.mro]
  congr 1
theorem LineOf.value (h : LineOf K S C) : PySem.W.subIn K (.ref C) (.type "ValueError") = some true := by
  show PySem.W.mroIn K C (.type "ValueError") = some true
  rw [h.mro]
  congr 1
theorem LineOf.obj (h : LineOf K S C) : PySem.W.mroIn K C (.type "object") = some true := by
  rw [h.mro]
  congr 1
theorem LineOf.ty (h : LineOf K S C) : PySem.W.typeIn K (.ref C) = some (.type "type") := by
  obtain ⟨nm, q, N, bs, sn, sub, ab, col, dd, k0, k1, k2, k3, k5, e⟩ := h
  show (K.lookup C).map (·.cls) = some (.type "type")
  rw [e]
  all_goals rfl
theorem LineOf.dict (h : LineOf K S C) : PySem.W.hasDictIn K C = true := by
  obtain ⟨cd, e, _, d⟩ := h.cls
  unfold PySem.W.hasDictIn
  rw [e]
  exact d
theorem LineOf.isc (h : LineOf K S C) : (PySem.W.clsIn K C).isSome = true := by
  obtain ⟨cd, e, _⟩ := h.cls
  rw [e]
  all_goals rfl
theorem refs_bm : PySem.HandSPX.refsVE (BM S) = true := by rfl
theorem LineOf.ox (h : LineOf K S C) (sa : PySem.W.findIn K (.ref C) "__setattr__" = some (some (.builtin "object.__setattr__"))) (kC : PySem.W.keepIn K (.ref C) = true) : OexC K C := by
  have e1 := h.base
  have e2 := h.ty
  obtain ⟨nm, q, N, bs, sn, sub, ab, col, dd, k0, k1, k2, k3, k5, e⟩ := h
  exact ⟨⟨nm, q, N, bs, _, sn, sub, ab, col, dd, k0, k1, k2, k3, k5, e, refs_bm⟩, sa, e1, e2, kC⟩
/-- the look at an instance's class -/
structure GetC (K : PySem.W.Frag) : Prop where
  hn : PySem.W.specialIn K (.builtin "object.__class__") "__get__" = some (some (.builtin "getset_descriptor.__get__"))
  ht : PySem.W.takesIn K (.builtin "object.__class__") = some true
theorem LineOf.ic (h : LineOf K S C) (g : GetC K) (hg : PySem.W.findIn K (.ref C) "__getattribute__" = some (some (.builtin "BaseException.__getattribute__"))) (hk : PySem.W.findIn K (.ref C) "__getattr__" = some none)
    (ha : PySem.W.findIn K (.ref C) "__class__" = some (some (.builtin "object.__class__"))) : ExcC K C := ⟨hg, hk, h.base, h.dict, ha, g.hn, g.ht, h.obj⟩
theorem LineOf.xf (h : LineOf K S C) (hg : PySem.W.findIn K (.ref C) "__getattribute__" = some (some (.builtin "BaseException.__getattribute__"))) (hk : PySem.W.findIn K (.ref C) "__getattr__" = some none) : XfC K C := ⟨hg, hk, h.base, h.dict⟩
theorem ref_beq (a b : Addr) : (Value.ref a == Value.ref b) = decide (a = b) := by
  by_cases e : a = b
  · subst e
    simp
  · rw [decide_eq_false e]
    exact beq_eq_false_iff_ne.mpr fun q => e (Value.ref.inj q)
/-- isinstance(e, C), e of the class D: both right below S -/
theorem kit_below (hD : LineOf K S D) (hC : LineOf K S C) (n : C ≠ S) : PySem.W.kitOne K (.ref D) (.ref C) = some (decide (C = D)) := by
  unfold PySem.W.kitOne
  by_cases e : D = C
  · subst e
    rw [if_pos (by rw [ref_beq]; simp)]
    simp
  · rw [if_neg (by rw [ref_beq]; simp [e])]
    show (if ((PySem.W.clsIn K C).isSome && PySem.W.typeIn K (.ref C) == some (.type "type")) = true then PySem.W.subIn K (.ref D) (.ref C) else none) = some (decide (C = D))
    rw [hC.isc, hC.ty]
    rw [if_pos (by rfl)]
    show PySem.W.mroIn K D (.ref C) = some (decide (C = D))
    rw [hD.mro]
    congr 1
    have n1 : (Value.ref C == Value.ref D) = false := by rw [ref_beq]; exact decide_eq_false fun q => e q.symm
    have n2 : (Value.ref C == Value.ref S) = false := by rw [ref_beq]; exact decide_eq_false n
    have n3 : ∀ x : String, (Value.ref C == Value.type x) = false := fun x => beq_eq_false_iff_ne.mpr fun q => by cases q
    have q : decide (C = D) = false := decide_eq_false fun q => e q.symm
    rw [q]
    simp only [BM, List.contains_cons, n1, n2, n3, List.contains_nil, Bool.or_false]
/-- the base itself, and ValueError -/
theorem kit_base (hD : LineOf K S D) (sS : (PySem.W.clsIn K S).isSome = true) (tS : PySem.W.typeIn K (.ref S) = some (.type "type")) : PySem.W.kitOne K (.ref D) (.ref S) = some true := by
  unfold PySem.W.kitOne
  by_cases e : D = S
  · rw [if_pos (by rw [ref_beq]; simp [e])]
  · rw [if_neg (by rw [ref_beq]; simp [e])]
    show (if ((PySem.W.clsIn K S).isSome && PySem.W.typeIn K (.ref S) == some (.type "type")) = true then PySem.W.subIn K (.ref D) (.ref S) else none) = some true
    rw [sS, tS]
    rw [if_pos (by rfl)]
    show PySem.W.mroIn K D (.ref S) = some true
    rw [hD.mro]
    congr 1
    simp only [BM, List.contains_cons]
    rw [show (Value.ref S == Value.ref S) = true from by rw [ref_beq]; simp]
    simp
theorem kit_value (hD : LineOf K S D) : PySem.W.kitOne K (.ref D) (.type "ValueError") = some true := by
  unfold PySem.W.kitOne
  rw [if_neg (by intro q; exact absurd (beq_iff_eq.mp q) (by intro z; cases z))]
  show (if PySem.W.kitMeta "ValueError" = true then PySem.W.subIn K (.ref D) (.type "ValueError") else none) = some true
  rw [if_pos (by decide +kernel)]
  exact hD.value
end
/-- one among many -/
def marks (l : List Addr) (D : Addr) : List Int := l.map fun C => if C = D then 1 else 0
theorem marks_no : ∀ {l : List Addr} {D : Addr}, D ∉ l → marks l D = List.replicate l.length 0
  | [], _, _ => rfl
  | C :: l, D, h => by
    have h1 : ¬ C = D := fun e => h (by rw [e]; exact List.mem_cons_self ..)
    show (if C = D then 1 else 0) :: marks l D = _
    rw [if_neg h1, marks_no fun q => h (List.mem_cons_of_mem _ q)]
    rfl
theorem marks_at : ∀ {l : List Addr} {j : Nat} {D : Addr}, l.Nodup → l[j]? = some D → marks l D = List.replicate j 0 ++ [1] ++ List.replicate (l.length - 1 - j) 0
  | [], _, _, _, h => by simp at h
  | C :: l, 0, D, nd, h => by
    have e : C = D := Option.some.inj h
    subst e
    show (if C = C then 1 else 0) :: marks l C = _
    rw [if_pos rfl, marks_no (List.nodup_cons.mp nd).1]
    simp
  | C :: l, j + 1, D, nd, h => by
    have h' : l[j]? = some D := h
    have hm : D ∈ l := List.mem_of_getElem? h'
    have n : ¬ C = D := fun e => (List.nodup_cons.mp nd).1 (by rw [e]; exact hm)
    show (if C = D then 1 else 0) :: marks l D = _
    rw [if_neg n, marks_at (List.nodup_cons.mp nd).2 h']
    have hl : (C :: l).length - 1 - (j + 1) = l.length - 1 - j := by
      rw [List.length_cons]
      omega
    rw [hl]
    rfl
end EV2

set_option Elab.async false
set_option linter.all false
set_option maxRecDepth 100000
set_option maxHeartbeats 4000000
/-! Lists put together, isinstance of errors, list comprehensions: what they give. -/
namespace EV2
open PySem PySem.Spec PyProof.Rows L2 Evl
theorem ErrAt.ext {H H' : Hp} {x : V} {D : Addr} (e : Ex H H') (h : ErrAt H x D) : ErrAt H' x D := by
  obtain ⟨a, d, ex, ha, hd⟩ := h
  exact ⟨a, d, ex, e _ _ ha, fun dd z => by
    obtain ⟨fs, q⟩ := hd dd z
    exact ⟨fs, e _ _ q⟩⟩
section
variable {K : PySem.W.Frag} {σ : L2.St} {H : Hp} {ta tb tc te : TE} {x c v : V} {xs ys : List V} {k : Int} {a : Addr}
theorem el_cat (ha : EvL ta σ H xs) (hb : EvL tb σ H ys) (hl : xs.length + ys.length ≤ 100000) : EvL (tOp rCat ta tb) σ H (xs ++ ys) := fun H1 e Q q =>
  ha H1 e _ fun p H2 np e2 hp => hb H2 (e.trans e2) _ fun r H3 nr e3 hr => ⟨p, r, xs, ys, rfl, rfl, e3 _ _ hp, hr, sz_of hl, fun u hu => q u _ (fresh_back (e2.trans e3) hu) ((e2.trans e3).trans (Ex.new hu)) upd_same⟩
/-- the first one an old list -/
theorem el_catV (ha : Ev ta σ H (.ref a)) (h : H a = some (.lst xs)) (hb : EvL tb σ H ys) (hl : xs.length + ys.length ≤ 100000) : EvL (tOp rCat ta tb) σ H (xs ++ ys) := fun H1 e Q q =>
  ha H1 e _ fun H2 e2 => hb H2 (e.trans e2) _ fun r H3 nr e3 hr => ⟨a, r, xs, ys, rfl, rfl, e3 _ _ (e2 _ _ (e _ _ h)), hr, sz_of hl, fun u hu => q u _ (fresh_back (e2.trans e3) hu) ((e2.trans e3).trans (Ex.new hu)) upd_same⟩
/-- [v] * k -/
theorem el_rep1 (ha : EvL ta σ H [v]) (hb : Ev tb σ H (.int k)) (h0 : 0 ≤ k) (h1 : k ≤ 100000) : EvL (tOp rRep ta tb) σ H (List.replicate k.toNat v) := fun H1 e Q q =>
  ha H1 e _ fun p H2 np e2 hp => hb H2 (e.trans e2) _ fun H3 e3 => ⟨p, k, [v], rfl, rfl, e3 _ _ hp, by omega, by omega, by
    show 1 * k.toNat ≤ sizeLine
    exact sz_of (by omega), fun u hu => by
    have z := q u (upd H3 u (.lst (List.replicate k.toNat v))) (fresh_back (e2.trans e3) hu) ((e2.trans e3).trans (Ex.new hu)) upd_same
    have w : (List.replicate k.toNat [v]).flatten = List.replicate k.toNat v := by
      generalize k.toNat = n
      induction n with
      | zero => rfl
      | succ n ih => rw [List.replicate_succ, List.flatten_cons, ih]; rfl
    first
      | (rw [w]; exact z)
      | exact z⟩
/-- isinstance(x, c) of an own error -/
theorem ev_isV {D : Addr} {cv : Value} {b : Bool} (ha : Ev ta σ H x) (hc : Ev tc σ H c) (hx : ErrAt H x D) (C : ExcC K D) (hcv : ∀ u, RelV c u → u = cv) (hk : PySem.W.kitOne K (.ref D) cv = some b) :
    Ev (tCB (rIsV K) (tCons ta (tCons tc tNil))) σ H (.bl b) := fun H1 e Q q =>
  ha H1 e _ fun H2 e2 => hc H2 (e.trans e2) _ fun H3 e3 => ⟨x, c, D, cv, b, rfl, hx.ext ((e.trans e2).trans e3), C, hcv, hk, q H3 (e2.trans e3)⟩
theorem rel_ref {a : Addr} : ∀ u, RelV (.ref a) u → u = .ref a := fun u h => h
theorem rel_ty {n : String} : ∀ u, RelV (.ty n) u → u = .type n := fun u h => h
end
end EV2
namespace EV2
open PySem PySem.Spec PyProof.Rows L2 Evl
theorem et_yes {σ : L2.St} {H : Hp} : EvT tYes σ H true := fun H1 _ _ q => q H1 (Ex.refl H1)
theorem given_map {α : Type} (l : List α) (g : α → V) (d : V) : given l.length (fun _ => true) (fun i => (l[i]?.map g).getD d) = l.map g := by
  unfold given
  rw [List.filter_eq_self.mpr (fun _ _ => rfl)]
  apply List.ext_getElem?
  intro i
  rw [List.getElem?_map, List.getElem?_map]
  by_cases h : i < l.length
  · rw [List.getElem?_range h, List.getElem?_eq_getElem h]
    simp [h]
  · rw [List.getElem?_eq_none (by rw [List.length_range]; omega), List.getElem?_eq_none (by omega)]
    rfl
/-- [e for x in xs] where e of each item is known -/
theorem el_lcM {K : PySem.W.Frag} {σ : L2.St} {H : Hp} {te tl : TE} {α : Type} {a : Addr} {j : Nat} {vs : List Nat} (l : List α) (y g : α → V) (h : Ev tl σ H (.ref a)) (hx : SqL K H a (l.map y)) (hz : l.length ≤ 40000) (hw : ∀ x, wipe ((wipe σ vs).set j (some x)) vs = wipe σ vs)
    (he : ∀ (u : α) H1, Ex H H1 → u ∈ l → Ev te ((wipe σ vs).set j (some (y u))) H1 (g u)) : EvL (tLc (iList K tl) (gName j) tYes te vs) σ H (l.map g) := by
  have z := el_lcL (K := K) (te := te) (t := tYes) (j := j) (vs := vs) (fun _ => true) (fun i => (l[i]?.map g).getD .non) h hx (by rw [List.length_map]; exact hz) hw (fun _ _ _ _ _ => et_yes) (fun i x H1 e1 hi _ => by
    rw [List.getElem?_map] at hi
    cases q : l[i]? with
    | none => rw [q] at hi; cases hi
    | some u =>
      rw [q] at hi
      have e2 : y u = x := Option.some.inj hi
      rw [← e2]
      exact he u H1 e1 (List.mem_of_getElem? q))
  rw [List.length_map, given_map] at z
  exact z
/-- int(b), b a truth -/
theorem ev_intB {σ : L2.St} {H : Hp} {ta : TE} {b : Bool} (h : Ev ta σ H (.bl b)) : Ev (tCB (fun xs H Q => (∃ i, xs = [V.int i] ∧ Q (.int i) H) ∨ ∃ k, xs = [V.bl k] ∧ Q (.int (if k then 1 else 0)) H) (tCons ta tNil)) σ H (.int (if b then 1 else 0)) := fun H1 e Q q =>
  h H1 e _ fun H2 e2 => .inr ⟨b, rfl, q H2 e2⟩
theorem ev_intI {σ : L2.St} {H : Hp} {ta : TE} {i : Int} (h : Ev ta σ H (.int i)) : Ev (tCB (fun xs H Q => (∃ i, xs = [V.int i] ∧ Q (.int i) H) ∨ ∃ k, xs = [V.bl k] ∧ Q (.int (if k then 1 else 0)) H) (tCons ta tNil)) σ H (.int i) := fun H1 e Q q =>
  h H1 e _ fun H2 e2 => .inl ⟨i, rfl, q H2 e2⟩
end EV2

set_option Elab.async false
set_option linter.all false
set_option maxRecDepth 100000
set_option maxHeartbeats 4000000
/-! Lists of errors; equal lists of ints. -/
namespace EV2
open PySem PySem.Spec PyProof.Rows L2 Evl
abbrev ErrsAt (H : Hp) : List V → List Addr → Prop := Paired (ErrAt H)
theorem ErrsAt.ext {H H' : Hp} (e : Ex H H') : ∀ {xs : List V} {Ds : List Addr}, ErrsAt H xs Ds → ErrsAt H' xs Ds
  | _, _, .nil => .nil
  | _, _, .cons r t => .cons (ErrAt.ext e r) (ErrsAt.ext e t)
theorem errs_app {H : Hp} : ∀ {xs ys : List V} {Ds Es : List Addr}, ErrsAt H xs Ds → ErrsAt H ys Es → ErrsAt H (xs ++ ys) (Ds ++ Es)
  | _, _, _, _, .nil, t => t
  | _, _, _, _, .cons r s, t => .cons r (errs_app s t)
theorem errs_mem {H : Hp} : ∀ {xs : List V} {Ds : List Addr}, ErrsAt H xs Ds → ∀ x ∈ xs, ∃ D ∈ Ds, ErrAt H x D
  | _, _, .nil, x, h => by cases h
  | _, _, .cons (a := y) (b := D) r t, x, h => by
    rcases List.mem_cons.mp h with e | h
    · exact ⟨_, List.mem_cons_self .., by rw [e]; exact r⟩
    · obtain ⟨D', m, q⟩ := errs_mem t x h
      exact ⟨D', List.mem_cons_of_mem _ m, q⟩
theorem errs_at {H : Hp} : ∀ {xs : List V} {Ds : List Addr} {i : Nat} {D : Addr}, ErrsAt H xs Ds → Ds[i]? = some D → ∃ x, xs[i]? = some x ∧ ErrAt H x D
  | _, _, i, D, .nil, h => by simp at h
  | _, _, 0, D, .cons r t, h => by
    have e := Option.some.inj h
    subst e
    exact ⟨_, rfl, r⟩
  | _, _, i + 1, D, .cons r t, h => errs_at (i := i) t h
/-- a new error of the class D -/
def EvE (te : TE) (σ : L2.St) (H : Hp) (D : Addr) : Prop := ∀ H1, Ex H H1 → ∀ Q : VK, (∀ x H2, Ex H1 H2 → ErrAt H2 x D → Q x H2) → te σ H1 Q
def EvEs (ta : TA) (σ : L2.St) (H : Hp) (Ds : List Addr) : Prop := ∀ H1, Ex H H1 → ∀ Q : List V → Hp → Prop, (∀ xs H2, Ex H1 H2 → ErrsAt H2 xs Ds → Q xs H2) → ta σ H1 Q
section
variable {K : PySem.W.Frag} {σ : L2.St} {H : Hp} {te : TE} {ta tk tr : TA} {C D : Addr} {Ds Es : List Addr} {f g : Str} {u v : V} {xs : List V} {l : Addr} {i : Nat} {tz : TS} {En : Ends}
theorem ees_nil : EvEs tNil σ H [] := fun H1 _ _ q => q [] H1 (Ex.refl H1) .nil
theorem ees_cons (h : EvE te σ H D) (hr : EvEs tr σ H Ds) : EvEs (tCons te tr) σ H (D :: Ds) := fun H1 e Q q =>
  h H1 e _ fun x H2 e2 hx => hr H2 (e.trans e2) _ fun xs H3 e3 ht => q (x :: xs) H3 (e2.trans e3) (.cons (hx.ext e3) ht)
theorem ee_0 : EvE (tMk0 C) σ H C := fun H1 e Q q => fun a ha => q (.ref a) _ (Ex.new ha) ⟨a, none, rfl, upd_same, fun dd z => by cases z⟩
theorem ee_1 {gV : List V → List V → List V} (ha : EvA ta σ H [v]) (hg : ∀ a : V, gV [a, v] [] = [a, v]) : EvE (tMkV C 1 0 (spI1 C f) gV ta tNil) σ H C := fun H1 e Q q =>
  ha H1 e _ fun H2 e2 => ⟨rfl, rfl, by decide, by
    intro a ha
    rw [hg]
    exact rd_e1 (Q := Q) (fun a d H3 ha he hd s => q (.ref a) H3 (e2.trans s) ⟨a, some d, rfl, he, fun dd z => by cases z; exact ⟨_, hd⟩⟩) a ha⟩
theorem ee_2 {gV : List V → List V → List V} (ha : EvA ta σ H [v, u]) (hg : ∀ a : V, gV [a, v, u] [] = [a, v, u]) : EvE (tMkV C 2 0 (spI2 C f g) gV ta tNil) σ H C := fun H1 e Q q =>
  ha H1 e _ fun H2 e2 => ⟨rfl, rfl, by decide, by
    intro a ha
    rw [hg]
    exact rd_e2 (Q := Q) (fun a d H3 ha he hd s => q (.ref a) H3 (e2.trans s) ⟨a, some d, rfl, he, fun dd z => by cases z; exact ⟨_, hd⟩⟩) a ha⟩
/-- made = made + [ .. ] -/
theorem q_more (hi : σ[i]? = some (some (.ref l))) (hl : H l = some (.lst xs)) (hE : ErrsAt H xs Ds) (ha : EvEs ta σ H Es) (hz : xs.length + Es.length ≤ 100000)
    (k : ∀ l' H' ys, Ex H H' → H' l' = some (.lst ys) → ys.length = xs.length + Es.length → ErrsAt H' ys (Ds ++ Es) → tz En (σ.set i (some (.ref l'))) H') : tSeq (tAsg (tOp rCat (tVar i) (tLst ta)) (gName i)) tz En σ H := by
  refine ⟨_, hi, ha H (Ex.refl H) _ fun ys H2 e2 hY => ?_⟩
  have z := Paired.length hY
  refine ⟨sz_of (by omega), fun p hp => ?_⟩
  have e3 := e2.trans (Ex.new (o := .lst ys) hp)
  refine ⟨l, p, xs, ys, rfl, rfl, e3 _ _ hl, upd_same, sz_of (by omega), fun r hr => ?_⟩
  have e4 := e3.trans (Ex.new (o := .lst (xs ++ ys)) hr)
  exact k r _ (xs ++ ys) e4 upd_same (by rw [List.length_append, z]) (errs_app (hE.ext e4) (hY.ext ((Ex.new (o := .lst ys) hp).trans (Ex.new (o := .lst (xs ++ ys)) hr))))
end
theorem eqv_ints : ∀ (xs ys : List Int), PyData.eqvAll (xs.map PyData.int) (ys.map PyData.int) = decide (xs = ys)
  | [], [] => rfl
  | [], _ :: _ => rfl
  | _ :: _, [] => rfl
  | x :: xs, y :: ys => by
    show (PyData.eqv (.int x) (.int y) && PyData.eqvAll (xs.map PyData.int) (ys.map PyData.int)) = decide (x :: xs = y :: ys)
    rw [eqv_ints xs ys]
    show ((x == y) && decide (xs = ys)) = decide (x :: xs = y :: ys)
    by_cases h : x = y <;> by_cases h2 : xs = ys <;> simp [h, h2]
theorem rv_ints {K : PySem.W.Frag} {H : Hp} {p q : Addr} {xs ys : List Int} (hp : SqL K H p (xs.map V.int)) (hq : SqL K H q (ys.map V.int)) : RV (rEqD K) (.ref p) (.ref q) H (.bl (decide (xs = ys))) := fun H1 e Q k =>
  ⟨_, _, .lst (ex_l e hp) (Pen.dp_ints xs), .lst (ex_l e hq) (Pen.dp_ints ys), Pen.shaped_ints xs, Pen.shaped_ints ys, by
    show Q (.bl (PyData.eqvAll (xs.map PyData.int) (ys.map PyData.int))) H1
    rw [eqv_ints]
    exact k H1 (Ex.refl H1)⟩
/-- all(xs) of a new list of truths -/
theorem ev_all {K : PySem.W.Frag} {σ : L2.St} {H : Hp} {te : TE} {bs : List Bool} (h : EvL te σ H (bs.map V.bl)) : Ev (tCB (rAll K) (tCons te tNil)) σ H (.bl (bs.all id)) := fun H1 e Q q =>
  h H1 e _ fun p H2 _ e2 hp => ⟨p, bs, rfl, SqL.of hp, q H2 e2⟩
theorem all_true {α : Type} : ∀ (xs : List α), (xs.map fun _ => true).all id = true
  | [] => rfl
  | _ :: xs => by
    show (true && (xs.map fun _ => true).all id) = true
    rw [all_true xs]
    rfl
/-- len(x) -/
def rLenX (K : PySem.W.Frag) : List V → Hp → VK → Prop := fun xs H Q => ∃ x n, xs = [x] ∧ LenV K x H n ∧ Q (.int n) H
theorem ev_lenX {K : PySem.W.Frag} {σ : L2.St} {H : Hp} {ta : TE} {a : Addr} {xs : List V} (ha : Ev ta σ H (.ref a)) (h : SqL K H a xs) : Ev (tCB (rLenX K) (tCons ta tNil)) σ H (.int (xs.length : Int)) := fun H1 e Q q =>
  ha H1 e _ fun H2 e2 => ⟨_, xs.length, rfl, .inl ⟨xs, ex_l (e.trans e2) h, rfl⟩, q H2 e2⟩
theorem el_eq {te : TE} {σ : L2.St} {H : Hp} {xs ys : List V} (h : EvL te σ H xs) (e : xs = ys) : EvL te σ H ys := by
  rw [← e]
  exact h
end EV2

set_option Elab.async false
set_option linter.all false
set_option maxRecDepth 100000
set_option maxHeartbeats 4000000
/-! Raising own errors: without an __init__ and arguments, with keywords. -/
namespace EV2
open PySem PySem.Spec PyProof.Rows L2 Evl
/-- C(), made to be raised -/
theorem pmk_0 {X : Cx} {C : Addr} {bmB : List Value} {B newId initId : String} {x : Str} {p pos : Pos} (F : ExcBaseFacts B newId initId bmB) (q : PySem.W.excIn X.K C bmB newId = true) (gC : X.mg x = some (.ref C)) (kC : PySem.W.keepIn X.K (.ref C) = true) (r : Raises X (.ref C)) (hg : Gl X x)
    (hdb : (x == ("__debug__" : Str)) = false := by decide) : PMk X (.Call (.Name x p) [] [] pos) (fun _ H Q => Q (.ref C) none H) := by
  intro pins s σ H Q I h
  refine wpAny_Call_Name_kw (ld_glob I hg gC ?_ hdb)
  refine PySem.W.callWith_K0 I.kIn kC ?_
  show wpAny _ _ (call (.ref C) []) _ _ _
  obtain ⟨bm, N, nm, qn, bs, hdct, sn, sub, ab, col, dd, k0, k1, k2, k3, k5, mN, hC, hN, hni, T⟩ := exc_obj I.kIn q
  refine wpAny_call_exc_subT F T hC hN hni (fun h' e hm => ?_) (by show 0 ≤ sizeLine; rw [sizeLine_eq]; omega)
  exact mk_of I hm r h (I.hok.gone hm.new)
/-- C(e, .., k = v, ..), made to be raised -/
def tMkR (C : Addr) (n m : Nat) (sp : Sp) (gV : List V → List V → List V) (t tk : TA) : L2.St → Hp → XK → Prop := fun σ H Q => t σ H fun vs H1 => tk σ H1 fun zs H2 => vs.length = n ∧ zs.length = m ∧ n ≤ 1000 ∧
  ∀ a, H2 a = none → sp (gV (.ref a :: vs) zs) (upd H2 a (exo a C none))
    (fun v H3 => v = .non ∧ ∃ (d : Addr) (fs : List (Str × V)), H3 a = some (exo a C (some d)) ∧ H3 d = some (exd d fs) ∧ H2 d = none ∧ Q (.ref C) (some d) (upd (del H3 a) d (.xd fs))) fun _ _ _ => False
section
variable {X : Cx} {CX : CXT} {k n : Nat} {fI C : Addr} {fd : FuncData} {ps ks : List Str} {sp : Sp} {x : Str} {p pos : Pos} {e : Expr} {es : List Expr} {kws : List Keyword} {t tk : TA} {g : List Value → List Value → List Value} {gV : List V → List V → List V}
theorem run_mkR {pins : List (Addr × Obj)} {σ : L2.St} {H : Hp} {s : Shared} {Q : XK} {us ws : List Value} {vs zs : List V} (T : ErrC X.K C fI) (F : FnOk X.prog X.w X.K X.mg X.base CX k fI fd ps sp) (hr : Room (k + 1) X.A) (hb : KBn X.K fd ps (n + 1) ks g gV)
    (hx : Passes CX X fun _ _ _ => False) (I : Inv X pins σ H s) (r : Vals vs us) (rz : Vals zs ws) (l1 : vs.length = n) (l2 : zs.length = ks.length) (hn : n ≤ 1000)
    (h : ∀ a, H a = none → sp (gV (.ref a :: vs) zs) (upd H a (exo a C none))
      (fun v H3 => v = .non ∧ ∃ (d : Addr) (fs : List (Str × V)), H3 a = some (exo a C (some d)) ∧ H3 d = some (exd d fs) ∧ H d = none ∧ Q (.ref C) (some d) (upd (del H3 a) d (.xd fs))) fun _ _ _ => False) :
    wpAny (model X.prog X.w) X.A (call (.ref C) us (ks.zip ws)) (MkP X pins σ Q) X.xe s := by
  obtain ⟨nm, q, N, bs, bm, sn, sub, ab, col, dd, k0, k1, k2, k3, k5, hC, hbm⟩ := T.ox.cls
  obtain ⟨hp, gg, dr, tt, os⟩ := s
  have hsz : hp.objs.size ≤ hp.objs.size + 1 := Nat.le_succ _
  have nn : H (hp.objs.size + 1) = none := I.hok.fresh hsz
  have hq := h (hp.objs.size + 1) nn
  have kk : ∀ b o, hp.get? b = some o → ((hp.push (PySem.W.kdv_tup us)).push (PySem.HandSPX.excO C hp.objs.size)).get? b = some o := fun b o e => Heap.get?_push_of_some _ (Heap.get?_push_of_some _ e)
  have gt : ((hp.push (PySem.W.kdv_tup us)).push (PySem.HandSPX.excO C hp.objs.size)).get? (hp.objs.size + 1) = some (PySem.HandSPX.excO C hp.objs.size) := by heap_get
  have J : Inv X pins σ (upd H (hp.objs.size + 1) (exo (hp.objs.size + 1) C none)) ⟨(hp.push (PySem.W.kdv_tup us)).push (PySem.HandSPX.excO C hp.objs.size), gg, dr, tt, os⟩ :=
    I.laid (t' := tt) (a := hp.objs.size + 1) (o := exo (hp.objs.size + 1) C none) (h' := (hp.push (PySem.W.kdv_tup us)).push (PySem.HandSPX.excO C hp.objs.size)) kk hsz (exo_ok gt)
  have r1 : Vals (V.ref (hp.objs.size + 1) :: vs) (Value.ref (hp.objs.size + 1) :: us) := .cons rfl r
  have r2 := hb.rel r1 rz
  have n1 : (Value.ref (hp.objs.size + 1) :: us).length = n + 1 := by rw [List.length_cons, ← r.length, l1]
  have lu : us.length ≤ sizeLine := by
    rw [← r.length, l1, sizeLine_eq]
    omega
  refine wpAny_call (PySem.EV.call_kw PySem.F.excBase_ValueError (fun Y => PySem.HandSPX.refsVE_contains Y bm hbm) (I.kIn _ _ hC) (PySem.W.looks_findIn I.kIn T.ini) (fun me => PySem.W.bind_fn I.kIn me T.ty) lu
    (codeAny_mono (FnOk.run F _ X.stack _ _ ⟨Value.ref (hp.objs.size + 1) :: us, ks.zip ws⟩ (g (Value.ref (hp.objs.size + 1) :: us) ws) _ _ (fun _ _ _ => False) (hr.make C us (ks.zip ws)) (J.env0.make C us (ks.zip ws)) (hb.to _ (Value.ref (hp.objs.size + 1) :: us) ws J.kIn n1 (rz.length.symm.trans l2)) r2 hq) fun r s' hq' => ?_))
  cases r with
  | error e => exact hx pins σ _ _ e s' J hq'
  | ok fl =>
    cases fl with
    | ret u =>
      obtain ⟨v, H2, os2, bare2, un2, hok2, rv, ev, d, fs, ea, ed, hd1, q2⟩ := hq'
      subst ev
      obtain ⟨h2, g2, d2, t2, os'⟩ := s'
      exact ⟨rv, mk_end (raises_own T.ox.exC T.ox.tyC) I hsz kk un2 hok2 os2 bare2 ea ed hd1 q2⟩
    | next => exact False.elim hq'
    | brk => exact False.elim hq'
    | cont => exact False.elim hq'
theorem pmk_R (T : ErrC X.K C fI) (F : FnOk X.prog X.w X.K X.mg X.base CX k fI fd ps sp) (hr : Room (k + 1) X.A) (hg : Gl X x) (hm : X.mg x = some (.ref C)) (hb : KBn X.K fd ps (n + 1) [] g gV) (hx : Passes CX X fun _ _ _ => False) (ha : PA X (e :: es) t)
    (hdb : (x == ("__debug__" : Str)) = false := by decide) (he : starEach (e :: es) X.env = (false, eval e X.env) :: starEach es X.env := by rfl) (hpl : (backTo pos (starEach es X.env)).any (·.1) = false := by rfl) :
    PMk X (.Call (.Name x p) (e :: es) [] pos) (tMkR C n 0 sp gV t tNil) := by
  intro pins s σ H Q I h
  refine wpAny_Call_Name_kw (ld_glob I hg hm ?_ hdb)
  refine PySem.W.callWith_K (h₀ := X.base) I.ok.mod.kin T.ox.kC (thn (ha.run pos pins s σ H _ I h) fun us s1 ⟨vs, H1, I1, r, l1, _, hn, q⟩ => ⟨I1.kIn, ?_⟩) he hpl
  exact run_mkR (ks := []) (ws := []) (zs := []) T F hr hb hx I1 r .nil l1 rfl hn q
theorem pmk_RK0 (T : ErrC X.K C fI) (F : FnOk X.prog X.w X.K X.mg X.base CX k fI fd ps sp) (hr : Room (k + 1) X.A) (hg : Gl X x) (hm : X.mg x = some (.ref C)) (hb : KBn X.K fd ps 1 ks g gV) (hx : Passes CX X fun _ _ _ => False) (hkw : PK X kws tk)
    (hall : (backToKw pos (keywordEach kws X.env)).all (·.1.isSome) = true := by rfl) (hks : (backToKw pos (keywordEach kws X.env)).filterMap (·.1) = ks := by rfl) (hdb : (x == ("__debug__" : Str)) = false := by decide)
    (hpl : ((backTo pos (starEach [] X.env)).any (·.1) || (backToKw pos (keywordEach kws X.env)).any (·.1.isNone)) = false := by rfl) :
    PMk X (.Call (.Name x p) [] kws pos) (tMkR C 0 ks.length sp gV tNil tk) := by
  intro pins s σ H Q I h
  refine wpAny_Call_Name_kw (ld_glob I hg hm ?_ hdb)
  refine PySem.W.callWith_KW0 (h₀ := X.base) I.ok.mod.kin T.ox.kC hall ?_ hpl
  refine thn (hkw.run pos pins s σ H _ I h) fun ws s2 ⟨zs, H2, I2, rz, l1, l2, hn, q2⟩ => ⟨I2.kIn, ?_⟩
  rw [hks]
  exact run_mkR (us := []) (vs := []) T F hr hb hx I2 .nil rz rfl l2 hn q2
end
/-- what stands behind raise C(..) of an error with one field, with two: the error's own dict at d -/
theorem rr_e1 {H : Hp} {Q : XK} {E : XK} {C : Addr} {f : Str} {v : V} (k : ∀ d H', H d = none → Same H H' → H' d = some (.xd [(f, v)]) → Q (.ref C) (some d) H') :
    ∀ a, H a = none → spI1 C f [.ref a, v] (upd H a (exo a C none)) (fun z H3 => z = .non ∧ ∃ (d : Addr) (fs : List (Str × V)), H3 a = some (exo a C (some d)) ∧ H3 d = some (exd d fs) ∧ H d = none ∧ Q (.ref C) (some d) (upd (del H3 a) d (.xd fs))) E := fun a ha =>
  ⟨a, v, rfl, upd_same, fun d hd ne => ⟨rfl, d, _, upd_same, by rw [upd_ne ne, upd_same], by rw [upd_ne ne] at hd; exact hd, by
    have hd' : H d = none := by rw [upd_ne ne] at hd; exact hd
    refine k d _ hd' (fun b o e => ?_) upd_same
    have n1 : b ≠ a := ne_of_none e ha
    have n2 : b ≠ d := ne_of_none e hd'
    rw [upd_ne n2, del_ne n1, upd_ne n1, upd_ne n2, upd_ne n1]
    exact e⟩⟩
theorem rr_e2 {H : Hp} {Q : XK} {E : XK} {C : Addr} {f g : Str} {v u : V} (k : ∀ d H', H d = none → Same H H' → H' d = some (.xd [(g, u), (f, v)]) → Q (.ref C) (some d) H') :
    ∀ a, H a = none → spI2 C f g [.ref a, v, u] (upd H a (exo a C none)) (fun z H3 => z = .non ∧ ∃ (d : Addr) (fs : List (Str × V)), H3 a = some (exo a C (some d)) ∧ H3 d = some (exd d fs) ∧ H d = none ∧ Q (.ref C) (some d) (upd (del H3 a) d (.xd fs))) E := fun a ha =>
  ⟨a, v, u, rfl, upd_same, fun d hd ne => ⟨rfl, d, _, by rw [upd_ne (Ne.symm ne), upd_same], upd_same, by rw [upd_ne ne] at hd; exact hd, by
    have hd' : H d = none := by rw [upd_ne ne] at hd; exact hd
    refine k d _ hd' (fun b o e => ?_) upd_same
    have n1 : b ≠ a := ne_of_none e ha
    have n2 : b ≠ d := ne_of_none e hd'
    rw [upd_ne n2, del_ne n1, upd_ne n2, upd_ne n1, upd_ne n2, upd_ne n1]
    exact e⟩⟩
/-- except S, C right below S -/
theorem exm_below {K : PySem.W.Frag} {S C : Addr} (h : LineOf K S C) (bS : PySem.W.subIn K (.ref S) (.type "BaseException") = some true) (dS : PySem.W.hasDictIn K S = true) (tS : PySem.W.typeIn K (.ref S) = some (.type "type")) : PySem.W.exmOne K (.ref C) (.ref S) = some true :=
  PySem.W.exm_ref bS dS tS (by
    show PySem.W.mroIn K C (.ref S) = some true
    rw [h.mro]
    congr 1
    simp only [BM, List.contains_cons]
    rw [show (Value.ref S == Value.ref S) = true from by rw [ref_beq]; simp]
    simp)
end EV2

set_option Elab.async false
set_option linter.all false
set_option maxRecDepth 100000
set_option maxHeartbeats 4000000
/-! The drawn values of a law: plain ones, small tuples and lists, an empty dict; compared with themselves. -/
namespace EV2
open PySem PySem.Spec PyProof.Rows L2 Evl
/-- != of data or of dicts that hold the same -/
def rNeAny (K : PySem.W.Frag) : R2 := fun x y H Q => rNeD K x y H Q ∨ rNeDA x y H Q
theorem op_neAny {X : Cx} (hu : X.A.units + 64 < cLine) : OpR X (compareOp .NotEq) (rNeAny X.K) := by
  intro pins s σ H x y v u Q I rx ry h
  rcases h with h | h
  · exact op_neD hu pins s σ H x y v u Q I rx ry h
  · exact op_ne_dictA (by omega) pins s σ H x y v u Q I rx ry h
inductive Gd (H : Hp) : V → Prop
  | non : Gd H .non
  | bl (b : Bool) : Gd H (.bl b)
  | int (i : Int) : Gd H (.int i)
  | str (s : Str) : SeqAt.shaped (.str s) = true → Gd H (.str s)
  | two {a : Addr} (i j : Int) : H a = some (.tup [.int i, .int j]) → Gd H (.ref a)
  | one {a : Addr} (s : Str) : SeqAt.shaped (.list [.str s]) = true → H a = some (.lst [.str s]) → Gd H (.ref a)
  | emp {a : Addr} : H a = some (.dK []) → Gd H (.ref a)
  | deep {a b : Addr} (i j k : Int) : H a = some (.tup [.ref b, .int k]) → H b = some (.tup [.int i, .int j]) → Gd H (.ref a)
theorem Gd.ext {H H' : Hp} {v : V} (e : Ex H H') (g : Gd H v) : Gd H' v := by
  cases g with
  | non => exact .non
  | bl b => exact .bl b
  | int i => exact .int i
  | str s hs => exact .str s hs
  | two i j h => exact .two i j (e _ _ h)
  | one s hs h => exact .one s hs (e _ _ h)
  | emp h => exact .emp (e _ _ h)
  | deep i j k h h2 => exact .deep i j k (e _ _ h) (e _ _ h2)
theorem Gd.sib {p : Addr} {q : Key × V} {kv : List (Key × V)} {H H' : Hp} {v : V} (hp : H p = some (.dK (q :: kv))) (e : Pen.Sib p H H') (g : Gd H v) : Gd H' v := by
  cases g with
  | non => exact .non
  | bl b => exact .bl b
  | int i => exact .int i
  | str s hs => exact .str s hs
  | two i j h => exact .two i j (e _ _ (ne_of h hp (by intro z; cases z)) h)
  | one s hs h => exact .one s hs (e _ _ (ne_of h hp (by intro z; cases z)) h)
  | emp h => exact .emp (e _ _ (ne_of h hp (by intro z; cases z)) h)
  | deep i j k h h2 => exact .deep i j k (e _ _ (ne_of h hp (by intro z; cases z)) h) (e _ _ (ne_of h2 hp (by intro z; cases z)) h2)
section
variable {K : PySem.W.Frag} {H : Hp} {v : V}
theorem rv_data {d : PyData} (h : ∀ H1, Ex H H1 → Dp K H1 v d) (hs : SeqAt.shaped d = true) (he : PyData.eqv d d = true) : RV (rNeAny K) v v H (.bl false) := fun H1 e Q q =>
  .inl ⟨d, d, h H1 e, h H1 e, hs, hs, by
    rw [he]
    exact q H1 (Ex.refl H1)⟩
theorem rv_self (g : Gd H v) : RV (rNeAny K) v v H (.bl false) := by
  cases g with
  | non => exact rv_data (fun _ _ => .non) rfl rfl
  | bl b => exact rv_data (fun _ _ => .bl b) rfl (by cases b <;> rfl)
  | int i => exact rv_data (fun _ _ => .int i) rfl (by show (i == i) = true; simp)
  | str s hs => exact rv_data (fun _ _ => .str s) hs (by show (s == s) = true; simp)
  | two i j h => exact rv_data (fun H1 e => .tup (st_of (e _ _ h)) (.cons (.int i) (.cons (.int j) .nil))) rfl (by show ((i == i) && ((j == j) && true)) = true; simp)
  | one s hs h => exact rv_data (fun H1 e => .lst (sq_of (e _ _ h)) (.cons (.str s) .nil)) hs (by show ((s == s) && true) = true; simp)
  | emp h => exact fun H1 e Q q => .inr ⟨_, _, [], [], rfl, rfl, e _ _ h, e _ _ h, rfl, (fun p hp => by cases hp), q H1 (Ex.refl H1)⟩
  | deep i j k h h2 => exact rv_data (fun H1 e => .tup (st_of (e _ _ h)) (.cons (.tup (st_of (e _ _ h2)) (.cons (.int i) (.cons (.int j) .nil))) (.cons (.int k) .nil))) rfl (by show (((i == i) && ((j == j) && true)) && ((k == k) && true)) = true; simp)
theorem gd_ty (g : Gd H v) : ∃ n b, kitB n "bool" = some b ∧ ∀ H1, Ex H H1 → TyX K H1 v (.type n) := by
  cases g with
  | non => exact ⟨"NoneType", false, by decide +kernel, fun _ _ => .base .non⟩
  | bl b => exact ⟨"bool", true, by decide +kernel, fun _ _ => .base (.bl b)⟩
  | int i => exact ⟨"int", false, by decide +kernel, fun _ _ => .base (.int i)⟩
  | str s hs => exact ⟨"str", false, by decide +kernel, fun _ _ => .base (.str s)⟩
  | two i j h => exact ⟨"tuple", false, by decide +kernel, fun _ e => .base (.tup (e _ _ h))⟩
  | one s hs h => exact ⟨"list", false, by decide +kernel, fun _ e => .base (.lst (e _ _ h))⟩
  | emp h => exact ⟨"dict", false, by decide +kernel, fun _ e => .base (.dK (e _ _ h))⟩
  | deep i j k h h2 => exact ⟨"tuple", false, by decide +kernel, fun _ e => .base (.tup (e _ _ h))⟩
end
section
variable {K : PySem.W.Frag} {σ : L2.St} {H : Hp} {ta tb tc te : TE} {v : V} {tr ts : TA} {l : Addr} {xs : List V}
/-- isinstance(v, bool) twice, told apart -/
theorem et_isi (g : Gd H v) (ha : Ev ta σ H v) (hb : Ev tb σ H v) : EvT (tTest (tOp rNe (tCB (rIsi K) (tCons ta (tCons (tC (.ty "bool")) tNil))) (tCB (rIsi K) (tCons tb (tCons (tC (.ty "bool")) tNil))))) σ H false := by
  obtain ⟨n, b, hk, ty⟩ := gd_ty (K := K) g
  have one : ∀ {t : TE}, Ev t σ H v → Ev (tCB (rIsi K) (tCons t (tCons (tC (.ty "bool")) tNil))) σ H (.bl b) := fun h H1 e Q q =>
    h H1 e _ fun H2 e2 => ⟨v, .ty "bool", .type n, .type "bool", b, rfl, .ty "bool", ty H2 (e.trans e2), kit_ty hk, q H2 e2⟩
  have z := ev_op (one ha) (one hb) (rv_ne (x := .bl b) (y := .bl b) rfl)
  refine et_is (et_test z) ?_
  simp
/-- what is made is one of the drawn values -/
def EvG (te : TE) (σ : L2.St) (H : Hp) : Prop := ∀ H1, Ex H H1 → ∀ Q : VK, (∀ v H2, Ex H1 H2 → Gd H2 v → Q v H2) → te σ H1 Q
def EvGs (ta : TA) (σ : L2.St) (H : Hp) (n : Nat) : Prop := ∀ H1, Ex H H1 → ∀ Q : List V → Hp → Prop, (∀ vs H2, Ex H1 H2 → vs.length = n → (∀ v ∈ vs, Gd H2 v) → Q vs H2) → ta σ H1 Q
theorem eg_v (h : Ev te σ H v) (g : Gd H v) : EvG te σ H := fun H1 e Q q => h H1 e _ fun H2 e2 => q v H2 e2 (g.ext (e.trans e2))
theorem eg_c (g : ∀ H, Gd H v) : EvG (tC v) σ H := fun H1 e Q q => q v H1 (Ex.refl H1) (g H1)
theorem eg_two {i j : Int} (h : EvA tr σ H [.int i, .int j]) : EvG (tTup tr) σ H := fun H1 e Q q => h H1 e _ fun H2 e2 => ⟨by show 2 ≤ sizeLine; decide, fun p hp => q _ _ (e2.trans (Ex.new hp)) (.two i j upd_same)⟩
theorem eg_one {s : Str} (hs : SeqAt.shaped (.list [.str s]) = true) (h : EvA tr σ H [.str s]) : EvG (tLst tr) σ H := fun H1 e Q q => h H1 e _ fun H2 e2 => ⟨by show 1 ≤ sizeLine; decide, fun p hp => q _ _ (e2.trans (Ex.new hp)) (.one s hs upd_same)⟩
theorem eg_emp : EvG tDNewK σ H := fun H1 e Q q => fun p hp => q _ _ (Ex.new hp) (.emp upd_same)
theorem eg_deep {i j k : Int} (h : EvU ta σ H [.int i, .int j]) (hb : Ev tb σ H (.int k)) : EvG (tTup (tCons ta (tCons tb tNil))) σ H := fun H1 e Q q =>
  h H1 e _ fun p H2 _ e2 hp => hb H2 (e.trans e2) _ fun H3 e3 => ⟨by show 2 ≤ sizeLine; decide, fun r hr => q _ _ ((e2.trans e3).trans (Ex.new hr)) (.deep i j k upd_same (Ex.new hr _ _ (e3 _ _ hp)))⟩
theorem egs_nil : EvGs tNil σ H 0 := fun H1 _ Q q => q [] H1 (Ex.refl H1) rfl fun v hv => by cases hv
theorem egs_cons {n : Nat} (h : EvG te σ H) (hr : EvGs tr σ H n) : EvGs (tCons te tr) σ H (n + 1) := fun H1 e Q q =>
  h H1 e _ fun v H2 e2 g => hr H2 (e.trans e2) _ fun vs H3 e3 hl hg => q (v :: vs) H3 (e2.trans e3) (by rw [List.length_cons, hl]) fun u hu => by
    rcases List.mem_cons.mp hu with z | z
    · rw [z]
      exact g.ext e3
    · exact hg u z
theorem rd_gs {n : Nat} {Q : VK} (h : EvGs tr σ H n) (hz : n ≤ 100000) (q : ∀ l vs H2, H l = none → Ex H H2 → H2 l = some (.lst vs) → vs.length = n → (∀ v ∈ vs, Gd H2 v) → Q (.ref l) H2) : tLst tr σ H Q :=
  h H (Ex.refl H) _ fun vs H2 e2 hl hg => ⟨sz_of (by omega), fun p hp => q p vs _ (fresh_back e2 hp) (e2.trans (Ex.new hp)) upd_same hl fun v hv => (hg v hv).ext (Ex.new hp)⟩
theorem q_gs {n i : Nat} {tz : TS} {D : Ends} (h : EvGs tr σ H n) (hz : n ≤ 100000) (k : ∀ l vs H2, H l = none → Ex H H2 → H2 l = some (.lst vs) → vs.length = n → (∀ v ∈ vs, Gd H2 v) → tz D (σ.set i (some (.ref l))) H2) : tSeq (tAsg (tLst tr) (gName i)) tz D σ H :=
  rd_gs (Q := fun v H2 => tz D (σ.set i (some v)) H2) h hz k
theorem q_asgK {i : Nat} {tz : TS} {D : Ends} (h : te σ H fun v H1 => tz D (σ.set i (some v)) H1) : tSeq (tAsg te (gName i)) tz D σ H := h
def rMin2 : List V → Hp → VK → Prop := fun xs H Q => ∃ i j, xs = [.int i, .int j] ∧ Q (.int (if j < i then j else i)) H
theorem ev_min2 {i j : Int} (ha : Ev ta σ H (.int i)) (hb : Ev tb σ H (.int j)) : Ev (tCB rMin2 (tCons ta (tCons tb tNil))) σ H (.int (if j < i then j else i)) := fun H1 e Q q =>
  ha H1 e _ fun H2 e2 => hb H2 (e.trans e2) _ fun H3 e3 => ⟨i, j, rfl, q H3 (e2.trans e3)⟩
end
end EV2

set_option Elab.async false
set_option linter.all false
set_option maxRecDepth 100000
set_option maxHeartbeats 4000000
/-! Texts of ascii signs: upper, lower, letters, lists of them. -/
namespace TX
open PySem PySem.Spec PyProof.Rows L2 Evl
abbrev S (l : List Nat) : Str := ⟨l.toArray⟩
theorem len_S (l : List Nat) : (S l).length = l.length := by
  show l.toArray.size = l.length
  simp
theorem app_S (a b : List Nat) : S a ++ S b = S (a ++ b) := by
  show (⟨a.toArray ++ b.toArray⟩ : Str) = ⟨(a ++ b).toArray⟩
  simp
theorem S_inj {a b : List Nat} (h : S a = S b) : a = b := by
  have h2 : a.toArray = b.toArray := congrArg Str.cps h
  have h3 := congrArg Array.toList h2
  simpa using h3
def up (c : Nat) : Nat := if 97 ≤ c ∧ c ≤ 122 then c - 32 else c
def low (c : Nat) : Nat := if 65 ≤ c ∧ c ≤ 90 then c + 32 else c
def let1 (c : Nat) : Bool := decide (65 ≤ up c ∧ up c ≤ 90)
def A26 : Str := "ABCDEFGHIJKLMNOPQRSTUVWXYZ"
theorem up_of : ∀ c, c < 128 → Unicode.upperOf c = [up c] := by decide +kernel
theorem low_of : ∀ c, c < 128 → Txt.lower (S [c]) = S [low c] := by decide +kernel
theorem alpha_of : ∀ c, c < 128 → Unicode.isAlpha c = let1 c := by decide +kernel
theorem in_of : ∀ c, c < 128 → decide (c ∈ A26.cps.toList) = decide (65 ≤ c ∧ c ≤ 90) := by decide +kernel
theorem ix_of : ∀ c, c < 128 → 65 ≤ c → c ≤ 90 → Txt.index0 A26 (S [c]) = some (c - 65) := by decide +kernel
theorem at_of : ∀ c : Nat, c < 26 → atI A26.cps.toList (c : Int) = (some (65 + c) : Option Nat) := by decide +kernel
theorem up_lt {c : Nat} (h : c < 128) : up c < 128 := by
  unfold up
  split <;> omega
theorem up_S {l : List Nat} (h : ∀ c ∈ l, c < 128) : Txt.upper (S l) = S (l.map up) := by
  have e : ∀ l : List Nat, (placed (S l) fun _ c => Unicode.upperOf c) = (l.flatMap Unicode.upperOf).toArray := fun l => by
    have m : (l.toArray.mapIdx fun (_ : Nat) c => (Unicode.upperOf c).toArray) = (l.map fun c => (Unicode.upperOf c).toArray).toArray := by
      apply Array.ext_getElem?
      intro i
      simp
    show (l.toArray.mapIdx fun (_ : Nat) c => (Unicode.upperOf c).toArray).flatten = _
    rw [m]
    apply Array.toList_inj.mp
    rw [Array.toList_flatten]
    simp only [List.map_map, List.flatMap, List.map_toArray]
    congr 1
  have e2 : l.flatMap Unicode.upperOf = l.map up := by
    induction l with
    | nil => rfl
    | cons x l ih =>
      rw [List.flatMap_cons, up_of x (h x (List.mem_cons_self ..)), ih fun c hc => h c (List.mem_cons_of_mem _ hc)]
      rfl
  show (⟨placed (S l) fun _ c => Unicode.upperOf c⟩ : Str) = _
  rw [e, e2]
theorem alpha_S {l : List Nat} (h : ∀ c ∈ l, c < 128) : Txt.isalpha (S l) = (decide (0 < l.length) && l.all let1) := by
  unfold Txt.isalpha
  rw [len_S]
  congr 1
  show l.toArray.all Unicode.isAlpha = _
  rw [List.all_toArray]
  induction l with
  | nil => rfl
  | cons x l ih =>
    rw [List.all_cons, List.all_cons, alpha_of x (h x (List.mem_cons_self ..)), ih fun c hc => h c (List.mem_cons_of_mem _ hc)]
theorem ascii_S {l : List Nat} (h : ∀ c ∈ l, c < 128) : Txt.isascii (S l) = true := by
  show l.toArray.all (fun c => c < 128) = true
  rw [List.all_toArray]
  exact List.all_eq_true.mpr fun c hc => decide_eq_true (h c hc)

/-! ### lists of signs, walks over texts -/
abbrev sg (c : Nat) : V := .str (S [c])
def rLstS : List V → Hp → VK → Prop := fun xs H Q => ∃ z : Str, xs = [.str z] ∧ z.length ≤ sizeLine ∧ ∀ l, H l = none → Q (.ref l) (upd H l (.lst (z.cps.toList.map sg)))
theorem call_listS {X : Cx} (hc : X.calm = true) : CallR X (.type "list") rLstS := by
  intro pins s σ H xs us Q I r h
  obtain ⟨z, rfl, hz, q⟩ := h
  obtain ⟨u, rfl, t, rfl⟩ := vals1 r
  refine call_list_str (I.ok.hd hc) z t (fun h' tk acc c' hk e hi => ?_) hz
  refine ⟨.ref s.heap.objs.size, upd H s.heap.objs.size (.lst (z.cps.toList.map sg)), I.laid hk (Nat.le_refl _) ⟨by rw [List.length_map]; exact hz, acc.toList, c', ?_, by rw [Array.toArray_toList]; exact e⟩, rfl, q _ (I.hok.fresh (Nat.le_refl _))⟩
  refine vals_of_idx _ _ (by rw [List.length_map, Array.length_toList, Array.length_toList]; exact hi.1) fun j u hj => ?_
  obtain ⟨c, t', hc, rfl⟩ := hi.2 j u (by rw [← Array.getElem?_toList]; exact hj)
  refine ⟨sg c, ?_, ⟨_, rfl⟩⟩
  rw [List.getElem?_map, Array.getElem?_toList, hc]
  rfl
section
variable {K : PySem.W.Frag} {σ : L2.St} {H : Hp} {te ta tb : TE} {g : TG} {tu tz : TS} {D : Ends} {l m : List Nat} {a b : Str}
theorem el_listS (h : Ev te σ H (.str (S l))) (hl : l.length ≤ 100000) : EvL (tCB rLstS (tCons te tNil)) σ H (l.map sg) := fun H1 e Q q =>
  h H1 e _ fun H2 e2 => ⟨S l, rfl, by rw [len_S]; exact sz_of hl, fun p hp => q p _ (fresh_back e2 hp) (e2.trans (Ex.new hp)) upd_same⟩
/-- for c in text -/
theorem q_forS (h : Ev te σ H (.str (S l))) (Pv : Nat → L2.St → Hp → Prop) (h0 : ∀ H1, Ex H H1 → Pv 0 σ H1)
    (hs : ∀ i c σ' H', l[i]? = some c → Pv i σ' H' → g (sg c) σ' H' fun σ2 H2 => tu { D with nx := Pv (i + 1), ct := Pv (i + 1), bk := tz D } σ2 H2) (hd : ∀ σ' H', Pv l.length σ' H' → tz D σ' H') : tSeq (tFor (iStr te) g tu) tz D σ H :=
  h H (Ex.refl H) _ fun H1 e1 => ⟨S l, rfl, fun i m σ' H' => m = l.length - i ∧ i ≤ l.length ∧ Pv i σ' H', ⟨l.length, by simp, Nat.zero_le _, h0 H1 e1⟩, by
    rintro i m σ' H' ⟨rfl, hi, p⟩
    have sz : (S l).cps.size = l.length := len_S l
    by_cases hlt : i < l.length
    · refine .inr ⟨by show i < (S l).cps.size; rw [sz]; exact hlt, Pv (i + 1), fun σ' H' p' => ⟨l.length - (i + 1), by omega, rfl, hlt, p'⟩, fun x H'' y => ?_⟩
      obtain ⟨e, c, hc, ex⟩ := y
      subst e
      subst ex
      refine hs i c _ _ ?_ p
      have hc' : l.toArray[i]? = some c := hc
      simpa using hc'
    · have e : i = l.length := by omega
      subst e
      exact .inl ⟨by show (S l).cps.size ≤ _; rw [sz]; exact Nat.le_refl _, hd _ _ p⟩⟩
/-- texts put together, upper and lower, letters -/
theorem rv_addS (hz : a.length + b.length ≤ 100000) : RV (fun x y H Q => ∃ i j : Str, x = .str i ∧ y = .str j ∧ i.length + j.length ≤ sizeLine ∧ Q (.str (i ++ j)) H) (.str a) (.str b) H (.str (a ++ b)) := fun H1 _ _ q => ⟨a, b, rfl, rfl, sz_of hz, q H1 (Ex.refl H1)⟩
theorem ev_addS (ha : Ev ta σ H (.str (S l))) (hb : Ev tb σ H (.str (S m))) (hz : l.length + m.length ≤ 100000) : Ev (tOp (fun x y H Q => ∃ i j : Str, x = .str i ∧ y = .str j ∧ i.length + j.length ≤ sizeLine ∧ Q (.str (i ++ j)) H) ta tb) σ H (.str (S (l ++ m))) := by
  have z := ev_op ha hb (rv_addS (H := H) (a := S l) (b := S m) (by rw [len_S, len_S]; exact hz))
  rw [app_S] at z
  exact z
end
end TX

set_option Elab.async false
set_option linter.all false
set_option maxRecDepth 100000
set_option maxHeartbeats 4000000
/-! try with several clauses that bind one name. -/
namespace TX
open PySem PySem.Spec PyProof.Rows L2 Evl
/-- an exception of the body on its way through the clauses: sI is the state ahead of it, s the one now -/
structure Air (X : Cx) (pins : List (Addr × Obj)) (σ : L2.St) (H : Hp) (a : Addr) (cls : Value) (d : Option Addr) (B : Heap) (sI s : Shared) : Prop where
  st : X.stack = X.env :: X.outer
  fr : X.env.frame = some X.env.locals
  J : Inv X pins σ H sI
  nb : ∀ b o, sI.heap.get? b = some o → b ∉ frs X.stack → B.get? b = some o
  up : sI.heap.UpToSlots s.heap
  fl : HandSPX.FlyingZ B (X.env :: X.outer) a (Zc cls d) s.heap
  na : H a = none
  os : s.os = sI.os
  ag : AllBare s.gens
section
variable {X : Cx} {pins : List (Addr × Obj)} {σ : L2.St} {H : Hp} {a : Addr} {cls : Value} {d : Option Addr} {B : Heap} {sI s : Shared} {Wout : WX}
theorem Air.to (x : Air X pins σ H a cls d B sI s) {h : Heap} (fl : HandSPX.FlyingZ B (X.env :: X.outer) a (Zc cls d) h) (u : s.heap.UpToSlots h) : Air X pins σ H a cls d B sI { s with heap := h } :=
  ⟨x.st, x.fr, x.J, x.nb, x.up.trans u, fl, x.na, x.os, x.ag⟩
theorem Air.inv (x : Air X pins σ H a cls d B sI s) : Inv X pins σ H s := x.J.landed x.nb x.fl.1 x.up x.os x.ag
/-- no frame is the exception -/
theorem Air.apart (x : Air X pins σ H a cls d B sI s) {o : Obj} {vs : Array Value} (e : s.heap.get? a = some o) (q : o.data = .fields vs) : a ∉ frs (X.env :: X.outer) := fun m => by
  obtain ⟨_, o2, e2, no⟩ := x.fl.2.2.1.mem m
  rw [e2] at e
  cases e
  exact no _ q
theorem Air.into (x : Air X pins σ H a cls d B sI s) : ∃ oe : Obj, s.heap.get? a = some oe ∧ Zc cls d oe ∧ (∃ vs, oe.data = .fields vs) ∧ Inv (X.suite a ((a, oe) :: (X.pn ++ pins))) [] σ H s := by
  obtain ⟨oe, vs, e, z, q⟩ := x.fl.there
  have ap := x.apart e q
  refine ⟨oe, e, z, ⟨vs, q⟩, x.inv.suite e q x.na (fun w => ap ?_) fun w => ap ?_⟩
  · exact List.mem_filterMap.mpr ⟨X.env, List.mem_cons_self, by rw [x.fr, w]⟩
  · obtain ⟨en, m, r⟩ := List.mem_filterMap.mp w
    exact List.mem_filterMap.mpr ⟨en, List.mem_cons_of_mem _ m, r⟩
/-- no clause takes it -/
theorem Air.on (x : Air X pins σ H a cls d B sI s) (tk : Takes X Wout) {D : Ends} (w : Wout cls d σ H) : wpAny (model X.prog X.w) X.A (handleBy (.ref a) X.env []) (SP X pins D) X.xe s := by
  have away : wpAny (model X.prog X.w) X.A (setFlight (.ref a) X.env.frame) (fun _ s4 => wpAny (model X.prog X.w) X.A (throw (.ref a) : Sem Flow) (SP X pins D) X.xe s4) X.xe s := by
    rw [x.fr]
    exact HandSPX.setFlight_upZ x.fl fun h2 hd2 u2 => wpAny_throw (tk _ _ ⟨a, B, sI, pins, σ, H, cls, d, rfl, x.J, x.nb, x.up.trans u2, .inr (.inr (by rw [x.st]; exact hd2)), x.na, x.os, x.ag, w⟩)
  refine wpAny_handleBy_nil ?_
  obtain ⟨_, _, _, oe, vs, T, oT, tt, e, z, q, v1, r⟩ := x.fl
  unfold PySem.passOn
  refine wpAny_bind (wpAny_field e q v1 ?_)
  rw [if_neg (fun g => by simp at g)]
  first
    | exact wpAny_bind (wpAny_pure (wpAny_bind away))
    | exact wpAny_bind away
end
/-- the ends, slot i forgotten -/
abbrev offE (i : Nat) (D : Ends) : Ends := { nx := fun σ' H' => D.nx (σ'.set i none) H', rt := D.rt, bk := fun σ' H' => D.bk (σ'.set i none) H', ct := fun σ' H' => D.ct (σ'.set i none) H' }
abbrev Clause := Value × (Addr → Value → Option Addr → TS)
/-- what the clauses wish -/
def wAsM (K : PySem.W.Frag) (i : Nat) (Wout : WX) (D : Ends) : List Clause → WX
  | [] => Wout
  | (c, ts) :: r => fun cls d σ H => ∃ b, PySem.W.exmOne K cls c = some b ∧ (b = true → ∀ a, H a = none → ts a cls d (offE i D) (σ.set i (some (.ref a))) H) ∧ (b = false → wAsM K i Wout D r cls d σ H)
inductive HdAs (X : Cx) (n : Str) : List ExceptHandler → List Clause → Prop
  | nil : HdAs X n [] []
  | cons {x : Str} {c : Value} {ts : Addr → Value → Option Addr → TS} {b0 : Stmt} {suite : List Stmt} {np hp : Pos} {hds : List ExceptHandler} {l : List Clause} (hc : Names X x c)
      (hsu : ∀ (a : Addr) (oe : Obj) (cls : Value) (d : Option Addr) (pn : List (Addr × Obj)), Zc cls d oe → (∃ vs, oe.data = .fields vs) → PSs (X.suite a ((a, oe) :: pn)) (b0 :: suite) (ts a cls d)) (r : HdAs X n hds l) :
      HdAs X n (.ExceptHandler (some (.Name x np)) (some n) (b0 :: suite) hp :: hds) ((c, ts) :: l)
section
variable {X : Cx} {pins : List (Addr × Obj)} {σ : L2.St} {H : Hp} {a : Addr} {cls : Value} {d : Option Addr} {B : Heap} {sI s : Shared} {Wout : WX} {i : Nat} {n : Str}
/-- the clauses, one by one -/
theorem Air.clauses (hN : X.N.Nodup) (hi : X.N[i]? = some n) (hln : X.env.kindOf n = some .local) (tk : Takes X Wout) {D : Ends} : ∀ {hds : List ExceptHandler} {l : List Clause}, HdAs X n hds l → ∀ {s : Shared}, Air X pins σ H a cls d B sI s →
    wAsM X.K i Wout D l cls d σ H → wpAny (model X.prog X.w) X.A (handleBy (.ref a) X.env hds) (SP X pins D) X.xe s := by
  intro hds l hk
  induction hk with
  | nil => exact fun x w => x.on tk w
  | @cons x c ts b0 suite np hp hds l hc hsu r ih =>
    intro s A w
    obtain ⟨b, e1, yes, no⟩ := w
    obtain ⟨oe, eo, z, hf, S⟩ := A.into
    refine wpAny_handleBy_cons (codeAny_handlers_test ?_) (by intro q; cases q)
    have named : ∀ {Q : Value → Shared → Prop} {E : Value → Shared → Prop}, Q c s → wpAny (model X.prog X.w) (X.A.mark (some (.ref a))) (eval (.Name x np) X.env) Q E s := fun {Q E} q => by
      rcases hc with ⟨g, db, m | ⟨m, v, nn⟩⟩
      · exact ld_glob (X := X.suite a ((a, oe) :: (X.pn ++ pins))) S g m q db
      · exact ld_blt (X := X.suite a ((a, oe) :: (X.pn ++ pins))) S g m v q nn db
    have looks : PySem.W.Looks (model X.prog X.w) s.heap (typeOf (.ref a)) cls := fun A Q E s2 k q => wpAny_typeOf_ref (k _ _ eo) (by rw [z.1]; exact q)
    refine named ((PySem.W.exm_one (M := model X.prog X.w) A.inv.kIn looks e1).here ?_)
    cases b with
    | false =>
      show wpAny _ X.A (handleBy (.ref a) X.env hds) _ _ _
      exact ih A (no rfl)
    | true =>
      refine codeAny_handlers_suite_as (HandSPX.lands_againZ A.fl fun h2 fl2 u2 => ?_)
      have A2 := A.to fl2 u2
      obtain ⟨oe2, _, z2, hf2, S2⟩ := A2.into
      refine store_ok (X := X.suite a ((a, oe2) :: (X.pn ++ pins))) (v := .ref a) S2 hN hi (.inl hln) rfl (fun s3 S3 => ?_) (.inr hln)
      have leave : ∀ {σ4 : L2.St} {H4 : Hp} {s4 : Shared} {Q : Shared → Prop}, Inv (X.suite a ((a, oe2) :: (X.pn ++ pins))) [] σ4 H4 s4 → (∀ s5, Inv X pins (σ4.set i none) H4 s5 → Q s5) →
          wpAny (model X.prog X.w) X.A (do bindName X.env n .none; unbindBehindTheSuite X.env n hp) (fun _ s5 => Q s5) X.xe s4 := fun S4 q => gone_ok (S4.unsuite A.J.ok) hN hi hln q
      refine wpAny_mono ((hsu a oe2 cls d _ z2 hf2).run [] s3 _ H _ S3 (yes rfl a A.na)) (fun f s4 o => ?_) fun _ _ q => q.elim
      cases f with
      | ret u =>
        obtain ⟨v, σ4, H4, S4, rv, q⟩ := o
        exact leave S4 fun s5 J5 => ⟨_, _, _, J5, rv, q⟩
      | next => obtain ⟨σ4, H4, S4, q⟩ := o; exact leave S4 fun s5 J5 => ⟨_, _, J5, q⟩
      | brk => obtain ⟨σ4, H4, S4, q⟩ := o; exact leave S4 fun s5 J5 => ⟨_, _, J5, q⟩
      | cont => obtain ⟨σ4, H4, S4, q⟩ := o; exact leave S4 fun s5 J5 => ⟨_, _, J5, q⟩
variable {body : List Stmt} {h0 : ExceptHandler} {hds : List ExceptHandler} {l : List Clause} {pos : Pos} {tb : WX → TS}
theorem ps_try_asM (st : X.stack = X.env :: X.outer) (fr : X.env.frame = some X.env.locals) (hN : X.N.Nodup) (hi : X.N[i]? = some n) (hln : X.env.kindOf n = some .local) (tk : Takes X Wout)
    (hb : ∀ (W : WX) (pn : List (Addr × Obj)) (xe : Value → Shared → Prop), Takes (X.tr pn xe) W → PassesOwn (model X.prog X.w) X.A X.env xe → PSs (X.tr pn xe) body (tb W))
    (hh : HdAs X n (h0 :: hds) l) : PS X (.Try body (h0 :: hds) [] [] pos) (fun D σ H => tb (wAsM X.K i Wout D l) D σ H) := by
  refine ⟨fun pins s σ H D I h => ?_⟩
  have ok := I.ok
  refine wpAny_Try_except ?_
  have inner := hb (wAsM X.K i Wout D l) (X.pn ++ pins) (fun u s1 => wpAny (model X.prog X.w) X.A (noteFrame u X.env) (fun _ s2 => wpAny (model X.prog X.w) X.A (setFlight u none) (fun _ s3 => wpAny (model X.prog X.w) X.A (handleBy u X.env (h0 :: hds)) (SP X pins D) X.xe s3) X.xe s2) X.xe s1)
    (fun u s1 x => by
      obtain ⟨a, B, sI, p2, σ1, H1, cls, d, rfl, J, nb, up, sky, na, os, ag, w⟩ := x
      have sky2 : Sky B (X.env :: X.outer) a (Zc cls d) X.env.locals s1.heap := by rw [← st]; exact sky
      exact Sky.land Zc.steady (by rw [ok.frames, st]) fr sky2 fun h2 fl u2 => Air.clauses hN hi hln tk hh ⟨st, fr, J.ofTry ok, nb, up.trans u2, fl, na, os, ag⟩ w) PassesOwn.looking
  refine wpAny_mono (inner.run [] s σ H D (I.toTry _) h) (fun f s1 o => ?_) fun _ _ q => q
  cases f with
  | next => obtain ⟨σ1, H1, J, q⟩ := o; exact wpAny_execs_nil ⟨σ1, H1, J.ofTry ok, q⟩
  | ret u =>
    obtain ⟨v, σ1, H1, J, rv, q⟩ := o
    exact ⟨v, σ1, H1, J.ofTry ok, rv, q⟩
  | brk => obtain ⟨σ1, H1, J, q⟩ := o; exact ⟨σ1, H1, J.ofTry ok, q⟩
  | cont => obtain ⟨σ1, H1, J, q⟩ := o; exact ⟨σ1, H1, J.ofTry ok, q⟩
end
end TX

set_option Elab.async false
set_option linter.all false
set_option maxRecDepth 100000
set_option maxHeartbeats 4000000
/-! Lambdas handed on: tables kept; a def whose code object is known; siblings caught; what is known of a value's type. -/
namespace TX
open PySem PySem.Spec PyProof.Rows L2 Evl EV2 LamX
/-- except C, e of the class D: both right below S -/
theorem exm_sib {K : PySem.W.Frag} {S C D : Addr} (hD : LineOf K S D) (hC : LineOf K S C) (n : C ≠ S) : PySem.W.exmOne K (.ref D) (.ref C) = some (decide (C = D)) :=
  PySem.W.exm_ref hC.base hC.dict hC.ty (by
    show PySem.W.mroIn K D (.ref C) = some (decide (C = D))
    rw [hD.mro]
    congr 1
    by_cases e : C = D
    · subst e
      simp [List.contains_cons, ref_beq]
    · have n1 : (Value.ref C == Value.ref D) = false := by rw [ref_beq]; exact decide_eq_false e
      have n2 : (Value.ref C == Value.ref S) = false := by rw [ref_beq]; exact decide_eq_false n
      have n3 : ∀ x : String, (Value.ref C == Value.type x) = false := fun x => beq_eq_false_iff_ne.mpr fun q => by cases q
      rw [decide_eq_false e]
      simp only [BM, List.contains_cons, n1, n2, n3, List.contains_nil, Bool.or_false])
/-- tables when a pen is written -/
theorem tabS_sib {p P : Addr} {q : Str} {kv : List (Key × V)} {H H' : Hp} (hp : H p = some (.dK kv)) (e : Pen.Sib p H H') (t : TabS H P q) : TabS H' P q := by
  obtain ⟨ps, h1, h2, h3⟩ := t
  refine ⟨ps, e _ _ (ne_of h1 hp (by intro z; cases z)) h1, h2, fun pos cv hc => ?_⟩
  obtain ⟨c, e1, e2⟩ := h3 pos cv hc
  exact ⟨c, e1, e _ _ (ne_of e2 hp (by intro z; unfold CodeO at z; cases z)) e2⟩
theorem tabs_sib {p : Addr} {T : List (Addr × Str)} {kv : List (Key × V)} {H H' : Hp} (hp : H p = some (.dK kv)) (e : Pen.Sib p H H') (t : Tabs T H) : Tabs T H' := fun x hx => tabS_sib hp e (t x hx)
theorem extN_lst {H H' : Hp} {a : Addr} {xs : List V} (e : ExtN H H') (h : H a = some (.lst xs)) : H' a = some (.lst xs) := e _ _ h (fun ps z => by cases z)
theorem extN_dK {H H' : Hp} {a : Addr} {kv : List (Key × V)} (e : ExtN H H') (h : H a = some (.dK kv)) : H' a = some (.dK kv) := e _ _ h (fun ps z => by cases z)
theorem pen_extN {k1 k2 k3 : Str} {H H' : Hp} {p c : Addr} {cs : List Int} {i r : Int} (P : Pen.At k1 k2 k3 H p c cs i r) (e : ExtN H H') : Pen.At k1 k2 k3 H' p c cs i r := ⟨extN_dK e P.hp, extN_lst e P.hc, P.hl, P.h0, P.h1⟩
/-- a def whose code object stands at c -/
structure FunC (K : PySem.W.Frag) (x qual : Str) (st : Stmt) (f c : Addr) (fd : FuncData) : Prop where
  ex : ∃ (oc : Value) (od : Option Addr) (kV doc pm : Value) (an : Option Addr) (ct : Value) (osl : Array (Option Value)),
    fd = PySem.W.fnOf x qual (defArgs st) (defBody st) (defScope st) .none kV doc pm an (.ref c) ct ∧ K.lookup f = some ⟨oc, od, .func fd, osl⟩ ∧ PySem.W.codeIn K (.ref c) qual = true
  kp : PySem.W.keepIn K (.ref f) = true
section
variable {P : Program} {w : World} {K : PySem.W.Frag} {mg : Str → Option Value} {base : Heap} {x qual : Str} {st : Stmt} {f c : Addr} {fd : FuncData}
theorem FunC.toFun (F : FunC K x qual st f c fd) : Fun K x qual st f fd := by
  obtain ⟨oc, od, kV, doc, pm, an, ct, osl, e, l, q⟩ := F.ex
  exact ⟨⟨oc, od, kV, doc, pm, an, .ref c, ct, osl, e, l, q⟩, F.kp⟩
theorem FunC.ok {N ps : List Str} {k : Nat} {sp : Sp} (F : FunC K x qual st f c fd) (Sc : FnScope N ps (defScope st)) (len : ∀ vs H Q E, sp vs H Q E → vs.length = ps.length)
    (hb : ∀ (A : Around) (outer : List Env) (s : Shared) (H : Hp) (vs : List V) (Q : VK) (E : XK), Room k (A.deeper (envOfC qual (defScope st) s.heap.objs.size f (.ref c))) → sp vs H Q E →
      ∃ t, PSs (cxOf CX0 P w K mg base N qual (defScope st) f (.ref c) A outer s H E).nox (defBody st) t ∧ t { nx := fun _ H' => Q .non H', rt := Q } (start N vs) H) : FnOk P w K mg base CX0 (k + 1) f fd ps sp := by
  obtain ⟨oc, od, kV, doc, pm, an, ct, osl, rfl, l, q⟩ := F.ex
  refine fn_of l q Sc len fun A outer s H vs Q E hr hs => ?_
  obtain ⟨t, a, b⟩ := hb A outer s H vs Q E hr hs
  exact ⟨t, a.nox, b⟩
end
/-! ### kinds of values -/
def Knd (K : PySem.W.Frag) (H : Hp) (v : V) (n : String) : Prop := ∀ H1, Ex H H1 → TyX K H1 v (.type n)
section
variable {K : PySem.W.Frag} {σ : L2.St} {H : Hp} {ta tb : TE} {v : V} {n m : String} {b : Bool}
theorem Knd.ext {H' : Hp} (h : Knd K H v n) (e : Ex H H') : Knd K H' v n := fun H1 e1 => h H1 (e.trans e1)
theorem knd_int {i : Int} : Knd K H (.int i) "int" := fun _ _ => .base (.int i)
theorem knd_bl {b : Bool} : Knd K H (.bl b) "bool" := fun _ _ => .base (.bl b)
theorem knd_non : Knd K H .non "NoneType" := fun _ _ => .base .non
theorem knd_str {s : Str} : Knd K H (.str s) "str" := fun _ _ => .base (.str s)
theorem knd_lst {a : Addr} {xs : List V} (h : H a = some (.lst xs)) : Knd K H (.ref a) "list" := fun _ e => .base (.lst (e _ _ h))
theorem knd_tup {a : Addr} {xs : List V} (h : H a = some (.tup xs)) : Knd K H (.ref a) "tuple" := fun _ e => .base (.tup (e _ _ h))
theorem ev_isi (h : Knd K H v n) (hk : kitB n m = some b) (ha : Ev ta σ H v) : Ev (tCB (rIsi K) (tCons ta (tCons (tC (.ty m)) tNil))) σ H (.bl b) := fun H1 e Q q =>
  ha H1 e _ fun H2 e2 => ⟨v, .ty m, .type n, .type m, b, rfl, .ty m, h H2 (e.trans e2), kit_ty hk, q H2 e2⟩
end
end TX

set_option Elab.async false
set_option linter.all false
set_option maxRecDepth 100000
set_option maxHeartbeats 4000000
/-! Letters of columns: the numbers behind them. -/
namespace TX
open PySem PySem.Spec PyProof.Rows L2 Evl
def letsF : Nat → Nat → List Nat
  | 0, _ => []
  | _ + 1, 0 => []
  | f + 1, n + 1 => letsF f (n / 26) ++ [65 + n % 26]
def bnd : Nat → Nat
  | 0 => 1
  | f + 1 => 26 * bnd f + 1
theorem lets_zero (f : Nat) : letsF f 0 = [] := by cases f <;> rfl
theorem lets_succ (f n : Nat) : letsF (f + 1) (n + 1) = letsF f (n / 26) ++ [65 + n % 26] := rfl
theorem bnd_div {f n : Nat} (h : n + 1 < bnd (f + 1)) : n / 26 < bnd f := by
  have h2 : n + 1 < 26 * bnd f + 1 := h
  exact Nat.div_lt_of_lt_mul (by omega)
theorem lets_len : ∀ (f n : Nat), (letsF f n).length ≤ f
  | 0, _ => Nat.le_refl _
  | f + 1, 0 => Nat.zero_le _
  | f + 1, n + 1 => by
    rw [lets_succ, List.length_append]
    have := lets_len f (n / 26)
    show _ + 1 ≤ _
    omega
theorem lets_rng : ∀ (f n : Nat), ∀ x ∈ letsF f n, 65 ≤ x ∧ x ≤ 90
  | 0, _, x, h => by cases h
  | f + 1, 0, x, h => by cases h
  | f + 1, n + 1, x, h => by
    rw [lets_succ] at h
    rcases List.mem_append.mp h with h | h
    · exact lets_rng f _ x h
    · have e := List.mem_singleton.mp h
      omega
/-- what a text of capital letters stands for -/
def val (l : List Nat) : Int := l.foldl (fun a x => a * 26 + ((x - 65 : Nat) : Int) + 1) 0
theorem val_snoc (l : List Nat) (x : Nat) : val (l ++ [x]) = val l * 26 + ((x - 65 : Nat) : Int) + 1 := by
  unfold val
  rw [List.foldl_append]
  rfl
theorem val_lets : ∀ (f n : Nat), n < bnd f → val (letsF f n) = n
  | 0, n, h => by
    have h2 : n < 1 := h
    have e : n = 0 := by omega
    rw [e]
    rfl
  | f + 1, 0, _ => rfl
  | f + 1, n + 1, h => by
    rw [lets_succ, val_snoc, val_lets f (n / 26) (bnd_div h)]
    have e : 65 + n % 26 - 65 = n % 26 := by omega
    rw [e]
    omega
theorem lets_ne {f n : Nat} : letsF (f + 1) (n + 1) ≠ [] := fun e => by
  rw [lets_succ] at e
  simp at e
theorem len3 {c : Nat} (h1 : 1 ≤ c) (h2 : c ≤ 18278) : (letsF 3 c).length = 1 + (if 26 < c then 1 else 0) + (if 702 < c then 1 else 0) := by
  obtain ⟨n, rfl⟩ : ∃ n, c = n + 1 := ⟨c - 1, by omega⟩
  rw [lets_succ, List.length_append]
  show (letsF 2 (n / 26)).length + 1 = _
  rcases Nat.eq_zero_or_pos (n / 26) with e | e
  · rw [e]
    have : n < 26 := by omega
    rw [if_neg (by omega), if_neg (by omega)]
    rfl
  · obtain ⟨m, hm⟩ : ∃ m, n / 26 = m + 1 := ⟨n / 26 - 1, by omega⟩
    rw [hm, lets_succ, List.length_append]
    show (letsF 1 (m / 26)).length + 1 + 1 = _
    rw [if_pos (by omega)]
    rcases Nat.eq_zero_or_pos (m / 26) with e2 | e2
    · rw [e2, if_neg (by omega)]
      rfl
    · obtain ⟨k, hk⟩ : ∃ k, m / 26 = k + 1 := ⟨m / 26 - 1, by omega⟩
      rw [hk, lets_succ, if_pos (by omega)]
      rfl
/-- the column behind one that does not end with Z -/
theorem lets_next {f n : Nat} (h : n % 26 ≠ 25) : letsF (f + 1) (n + 2) = letsF f (n / 26) ++ [66 + n % 26] := by
  rw [lets_succ]
  have e1 : (n + 1) / 26 = n / 26 := by omega
  have e2 : 65 + (n + 1) % 26 = 66 + n % 26 := by omega
  rw [e1, e2]
end TX

set_option Elab.async false
set_option linter.all false
set_option maxRecDepth 100000
set_option maxHeartbeats 4000000
/-! A caught own error asked for its kind; ends of texts. -/
namespace TX
open PySem PySem.Spec PyProof.Rows L2 Evl EV2 LamX
/-- isinstance(e, c), e the caught error, with a dict of its own -/
def rIsF (K : PySem.W.Frag) (a : Addr) (cls : Value) (d : Option Addr) : List V → Hp → VK → Prop := fun xs H Q => ∃ (D dd : Addr) (fs : List (Str × V)) (c : V) (cv : Value) (b : Bool), cls = .ref D ∧ d = some dd ∧ ExcC K D ∧ H dd = some (.xd fs) ∧
  xs = [.ref a, c] ∧ (∀ u, RelV c u → u = cv) ∧ PySem.W.kitOne K (.ref D) cv = some b ∧ Q (.bl b) H
theorem call_isF {X : Cx} {a : Addr} {oe : Obj} {cls : Value} {d : Option Addr} {pn : List (Addr × Obj)} (hz : Zc cls d oe) (hf : ∃ vs, oe.data = .fields vs) : CallR (X.suite a ((a, oe) :: pn)) (.builtin "isinstance") (rIsF X.K a cls d) := by
  intro pins s σ H xs us Q I r h
  obtain ⟨D, dd, fs, c, cv, b, rfl, rfl, C, ed, rfl, hcv, e, q⟩ := h
  obtain ⟨u1, u2, rfl, r1, r2⟩ := vals2 r
  have ec := hcv _ r2
  subst ec
  obtain rfl : u1 = Value.ref a := r1
  obtain ⟨ha, _⟩ := I.pin (a, oe) (List.mem_append_left _ List.mem_cons_self)
  obtain ⟨vs, hd⟩ := hf
  obtain ⟨mA, hns, _⟩ := (show ObjOk X.prog X.w H s.heap dd (.xd fs) from I.hok dd _ ed)
  obtain ⟨od, ho, _⟩ := lookIn_ns hns
  have J : PySem.W.InstAt s.heap a oe D (some od) := ⟨ha, hz.1, by unfold PySem.W.notCls; rw [hd] <;> rfl, by rw [hz.2]; exact ho⟩
  exact PySem.W.kia_one (PySem.EV.kitx_err C) I.kIn J e (fun z => nomatch z) fun tk => ⟨.bl b, H, I.kept (t' := tk) fun _ _ z => z, rfl, q⟩
/-- the last sign, all but the last -/
theorem at_last (l : List Nat) (x : Nat) : atI (S (l ++ [x])).cps.toList (-1) = some x := by
  have e : (S (l ++ [x])).cps.toList = l ++ [x] := by
    show (l ++ [x]).toArray.toList = _
    simp
  rw [e]
  unfold atI ixN
  rw [if_neg (by decide)]
  have hl : (l ++ [x]).length = l.length + 1 := by simp
  rw [hl]
  rw [if_pos (by omega)]
  have e2 : (-1 + ((l.length + 1 : Nat) : Int)).toNat = l.length := by omega
  have e3 : (((l.length + 1 : Nat) : Int) + -1).toNat = l.length := by omega
  first
    | (rw [Option.bind_some, e2]; simp)
    | (rw [Option.bind_some, e3]; simp)
theorem cut_last (l : List Nat) (x : Nat) : cutS (S (l ++ [x])) none (some (-1)) = S l := by
  unfold cutS
  have e : (S (l ++ [x])).cps.toList = l ++ [x] := by
    show (l ++ [x]).toArray.toList = _
    simp
  have hl : (S (l ++ [x])).length = l.length + 1 := by rw [len_S]; simp
  rw [e, hl]
  have e1 : HT.sIx (l.length + 1) 0 none = 0 := rfl
  have e2 : HT.sIx (l.length + 1) (l.length + 1) (some (-1)) = l.length := by
    unfold HT.sIx
    simp
    try omega
  rw [e1, e2]
  simp
theorem ev_slS {σ : L2.St} {H : Hp} {te : TE} {tl th : TO} {z : Str} {lo hi : Option Int} (h : Ev te σ H (.str z)) (h1 : EvO tl σ H lo) (h2 : EvO th σ H hi) (hl : z.length ≤ 100000) : Ev (tSl rSlS te tl th) σ H (.str (cutS z lo hi)) := fun H1 e Q q =>
  h H1 e _ fun H2 e2 => h1 H2 (e.trans e2) _ fun H3 e3 => h2 H3 ((e.trans e2).trans e3) _ fun H4 e4 => ⟨z, rfl, sz_of hl, q H4 ((e2.trans e3).trans e4)⟩
end TX

set_option Elab.async false
set_option linter.all false
set_option maxRecDepth 100000
set_option maxHeartbeats 4000000
/-! Texts of ascii signs: digits, small letters, prefixes. -/
namespace TX
open PySem PySem.Spec PyProof.Rows L2 Evl EV2 LamX
def dig1 (c : Nat) : Bool := decide (48 ≤ c ∧ c ≤ 57)
def aln1 (c : Nat) : Bool := let1 c || dig1 c
theorem alnum_of : ∀ c, c < 128 → Unicode.isAlnum c = aln1 c := by decide +kernel
theorem digit_of : ∀ c, c < 128 → Unicode.isDigit c = dig1 c := by decide +kernel
theorem lower_of : ∀ c, c < 128 → Unicode.lowerOf c = [low c] := by decide +kernel
theorem all_S {f g : Nat → Bool} : ∀ {l : List Nat}, (∀ c ∈ l, f c = g c) → l.all f = l.all g
  | [], _ => rfl
  | x :: l, h => by
    rw [List.all_cons, List.all_cons, h x (List.mem_cons_self ..), all_S fun c hc => h c (List.mem_cons_of_mem _ hc)]
theorem alnum_S {l : List Nat} (h : ∀ c ∈ l, c < 128) : Txt.isalnum (S l) = (decide (0 < l.length) && l.all aln1) := by
  unfold Txt.isalnum
  rw [len_S]
  congr 1
  show l.toArray.all Unicode.isAlnum = _
  rw [List.all_toArray]
  exact all_S fun c hc => alnum_of c (h c hc)
theorem digit_S {l : List Nat} (h : ∀ c ∈ l, c < 128) : Txt.isdigit (S l) = (decide (0 < l.length) && l.all dig1) := by
  unfold Txt.isdigit
  rw [len_S]
  congr 1
  show l.toArray.all Unicode.isDigit = _
  rw [List.all_toArray]
  exact all_S fun c hc => digit_of c (h c hc)
theorem lower_S {l : List Nat} (h : ∀ c ∈ l, c < 128) : Txt.lower (S l) = S (l.map low) := by
  have e : (l.toArray.mapIdx fun i (_ : Nat) => (Unicode.lowerAt l.toArray i).toArray) = (l.map fun c => [low c].toArray).toArray := by
    apply Array.ext_getElem?
    intro i
    simp only [Array.getElem?_mapIdx, List.getElem?_toArray, List.getElem?_map]
    cases q : l[i]? with
    | none => rfl
    | some c =>
      have hc := h c (List.mem_of_getElem? q)
      have z : Unicode.lowerAt l.toArray i = [low c] := by
        unfold Unicode.lowerAt
        rw [List.getElem?_toArray, q]
        show (if (c == 0x3A3 && Unicode.endsWord l.toArray i) = true then [0x3C2] else Unicode.lowerOf c) = _
        have n : (c == 0x3A3) = false := beq_eq_false_iff_ne.mpr (by omega)
        rw [n, Bool.false_and, if_neg (by decide)]
        exact lower_of c hc
      simp [z]
  show (⟨(l.toArray.mapIdx fun i (_ : Nat) => (Unicode.lowerAt l.toArray i).toArray).flatten⟩ : Str) = _
  rw [e]
  congr 1
  apply Array.toList_inj.mp
  rw [Array.toList_flatten]
  have z : ∀ m : List Nat, ((m.map fun c => [low c].toArray).map Array.toList).flatten = m.map low := fun m => by
    induction m with
    | nil => rfl
    | cons x m ih =>
      rw [List.map_cons, List.map_cons, List.flatten_cons, ih]
      rfl
  exact z l
/-! ### sheets' names, rows -/
def sheetOk (l : List Nat) : Bool := decide (1 ≤ l.length) && decide (l.length ≤ 12) && l.all aln1 && (l.head?.map let1).getD false
def rowText (l : List Nat) : Bool := decide (1 ≤ l.length) && decide (l.length ≤ 7) && l.all dig1 && !decide (l.head? = some 48) && decide (NumText.digitsVal l ≤ 1000000)
/-- a cell's letters, whether they are fixed, its digits, whether they are -/
def cellParts (l : List Nat) : List Nat × Bool × List Nat × Bool :=
  let c := if l.head? = some 36 then l.tail else l
  let r := c.dropWhile let1
  (c.takeWhile let1, decide (l.head? = some 36), if r.head? = some 36 then r.tail else r, decide (r.head? = some 36))
section
variable {K : PySem.W.Frag} {σ : L2.St} {H : Hp} {te ta tb : TE} {l m : List Nat} {c : Nat}
theorem ev_isalnum (h : Ev te σ H (.str (S l))) (ha : ∀ c ∈ l, c < 128) : Ev (tBM0 K "str" (fun x xs H Q => ∃ a, x = .str a ∧ xs = [] ∧ True ∧ Q (.bl (Txt.isalnum a)) H) te) σ H (.bl (decide (0 < l.length) && l.all aln1)) := fun H1 e Q q =>
  h H1 e _ fun H2 e2 => ⟨rfl, S l, rfl, rfl, True.intro, by rw [alnum_S ha]; exact q H2 e2⟩
theorem ev_isdigit (h : Ev te σ H (.str (S l))) (ha : ∀ c ∈ l, c < 128) : Ev (tBM0 K "str" (fun x xs H Q => ∃ a, x = .str a ∧ xs = [] ∧ True ∧ Q (.bl (Txt.isdigit a)) H) te) σ H (.bl (decide (0 < l.length) && l.all dig1)) := fun H1 e Q q =>
  h H1 e _ fun H2 e2 => ⟨rfl, S l, rfl, rfl, True.intro, by rw [digit_S ha]; exact q H2 e2⟩
theorem toList_S (l : List Nat) : (S l).cps.toList = l := by
  show l.toArray.toList = l
  simp
/-- text[i], a written or counted place -/
theorem ev_at {i : Nat} (ha : Ev ta σ H (.str (S l))) (hb : Ev tb σ H (.int (i : Int))) (hc : l[i]? = some c) (hl : l.length ≤ 100000) : Ev (tOp rIxS ta tb) σ H (sg c) :=
  ev_op ha hb (rv_ixS (by rw [len_S]; exact hl) (by rw [toList_S]; exact atI_nat hc))
theorem sl_from {n : Nat} (l : List Nat) (h : n ≤ l.length) : cutS (S l) (some (n : Int)) none = S (l.drop n) := by
  unfold cutS
  have e1 : HT.sIx (S l).length 0 (some (n : Int)) = n := by
    rw [HT.sIx_nat, len_S]
    omega
  have e2 : HT.sIx (S l).length (S l).length none = l.length := by
    show (S l).length = _
    exact len_S l
  rw [e1, e2, toList_S]
  congr 2
  apply List.take_of_length_le
  rw [List.length_drop]
  exact Nat.le_refl _
theorem sl_to {n : Nat} (l : List Nat) (h : n ≤ l.length) : cutS (S l) none (some (n : Int)) = S (l.take n) := by
  unfold cutS
  have e1 : HT.sIx (S l).length 0 none = 0 := rfl
  have e2 : HT.sIx (S l).length (S l).length (some (n : Int)) = n := by
    rw [HT.sIx_nat, len_S]
    omega
  rw [e1, e2, toList_S]
  rfl
end
/-- '$' ahead -/
theorem sub_36 (c : Nat) (l : List Nat) : Builtin.Str.subAt (S (c :: l)) (S [36]) 0 = decide (c = 36) := by
  show ((c :: l).toArray.extract 0 (0 + 1) == [36].toArray) = decide (c = 36)
  have e : (c :: l).toArray.extract 0 (0 + 1) = [c].toArray := by simp
  rw [e]
  by_cases h : c = 36
  · subst h
    rfl
  · rw [decide_eq_false h]
    exact beq_eq_false_iff_ne.mpr fun z => h (by
      have z2 := congrArg Array.toList z
      simpa using z2)
theorem starts_36 (l : List Nat) : Txt.startswith (S l) (S [36]) = decide (l.head? = some 36) := by
  cases l with
  | nil => rfl
  | cons c l =>
    unfold Txt.startswith
    rw [sub_36, len_S, len_S]
    have h : (0 + [36].length ≤ (c :: l).length) := by simp
    rw [decide_eq_true h]
    simp
theorem strip_36 (l : List Nat) : Txt.removeprefix (S l) (S [36]) = S (if l.head? = some 36 then l.tail else l) := by
  rw [StrLaws.removeprefix_eq]
  show (if Txt.startswith (S l) (S [36]) = true then (⟨(((S l).cps.toList.drop (S [36]).length).take ((S l).length - (S [36]).length)).toArray⟩ : Str) else S l) = _
  rw [starts_36, toList_S, len_S, len_S]
  cases l with
  | nil => rfl
  | cons c l =>
    by_cases h : c = 36
    · subst h
      show (⟨((l.take (l.length + 1 - 1))).toArray⟩ : Str) = S l
      have e : l.length + 1 - 1 = l.length := by omega
      rw [e, List.take_length]
    · have n : ¬ (c :: l).head? = some 36 := fun z => h (Option.some.inj z)
      rw [decide_eq_false n, if_neg n, if_neg (by decide)]
end TX

set_option Elab.async false
set_option linter.all false
set_option maxRecDepth 100000
set_option maxHeartbeats 4000000
/-! text.rpartition(sign). -/
namespace TX
open PySem PySem.Spec PyProof.Rows L2 Evl
theorem mt_rpartition {X : Cx} : MtR X "str.rpartition" (fun x xs H Q => ∃ a b, x = .str a ∧ xs = [.str b] ∧ (b.length == 0) = false ∧ a.length ≤ sizeLine ∧
    ∀ p, H p = none → Q (.ref p) (upd H p (.tup [.str (Txt.rpartition a b).1, .str (Txt.rpartition a b).2.1, .str (Txt.rpartition a b).2.2]))) := by
  intro pins s σ H x xs v us Q I rx rs h
  obtain ⟨a, b, rfl, rfl, hb, hz, h⟩ := h
  obtain ⟨t, rfl⟩ := rx
  cases rs with
  | cons r1 rs =>
    cases rs
    obtain ⟨u, rfl⟩ := r1
    refine call_meets F.slot_str_rpartition (typeIs_str _ _ _) F.entry_str_rpartition (F.args_str_rpartition_2 _ _) (meets_str_rpartition a b t u hb hz) ?_
    unfold Txt.rpartition at h
    revert h
    cases Builtin.Str.lastOccurrence a b 0 a.length with
    | none => intro h; exact laid_parts I h
    | some i => intro h; exact laid_parts I h
def lastBang : List Nat → Option (List Nat × List Nat)
  | [] => none
  | c :: r => match lastBang r with
    | some (a, b) => some (c :: a, b)
    | none => if c = 33 then some ([], r) else none
theorem bang_none : ∀ {l : List Nat}, lastBang l = none → 33 ∉ l
  | [], _, h => by cases h
  | c :: r, e, h => by
    unfold lastBang at e
    cases q : lastBang r with
    | some p => rw [q] at e; cases e
    | none =>
      rw [q] at e
      have n : ¬ c = 33 := fun z => by
        rw [if_pos z] at e
        cases e
      rcases List.mem_cons.mp h with z | z
      · exact n z.symm
      · exact bang_none q z
theorem bang_some : ∀ {l a b : List Nat}, lastBang l = some (a, b) → l = a ++ 33 :: b ∧ 33 ∉ b
  | [], a, b, e => by cases e
  | c :: r, a, b, e => by
    unfold lastBang at e
    cases q : lastBang r with
    | some p =>
      obtain ⟨a2, b2⟩ := p
      rw [q] at e
      cases e
      obtain ⟨h1, h2⟩ := bang_some q
      exact ⟨by rw [h1]; rfl, h2⟩
    | none =>
      rw [q] at e
      by_cases z : c = 33
      · have e2 : (if c = 33 then some (([] : List Nat), r) else none) = some (a, b) := e
        rw [if_pos z] at e2
        cases e2
        exact ⟨by rw [z]; rfl, bang_none q⟩
      · have e2 : (if c = 33 then some (([] : List Nat), r) else none) = some (a, b) := e
        rw [if_neg z] at e2
        cases e2
theorem at_33 (l : List Nat) (i : Nat) : StrLaws.At (S l) (S [33]) (S l).length i ↔ l[i]? = some 33 := by
  have hx : ∀ j, ((S l).cps.extract j (j + (S [33]).length)).toList = (l.drop j).take 1 := fun j => by
    have z := StrLaws.strSub_toList (S l) j (j + (S [33]).length)
    rw [toList_S] at z
    have e : j + (S [33]).length - j = 1 := by
      rw [len_S]
      simp
    rw [e] at z
    exact z
  unfold StrLaws.At
  rw [len_S, len_S]
  constructor
  · intro ⟨h1, h2⟩
    have h3 : (S l).cps.extract i (i + (S [33]).length) = (S [33]).cps := eq_of_beq h2
    have h4 := congrArg Array.toList h3
    rw [hx] at h4
    have h5 : (l.drop i).take 1 = [33] := h4
    have h6 : i < l.length := h1
    have h7 : (l[i] :: l.drop (i + 1)).take 1 = [33] := by
      rw [← List.drop_eq_getElem_cons h6]
      exact h5
    have h8 : [l[i]] = [33] := h7
    rw [List.getElem?_eq_getElem h6]
    rw [List.cons.inj h8 |>.1]
  · intro h
    have h6 : i < l.length := (List.getElem?_eq_some_iff.mp h).1
    refine ⟨h6, ?_⟩
    show ((S l).cps.extract i (i + (S [33]).length) == (S [33]).cps) = true
    refine beq_iff_eq.mpr (Array.toList_inj.mp ?_)
    rw [hx, List.drop_eq_getElem_cons h6]
    rw [List.getElem?_eq_getElem h6] at h
    have h7 := Option.some.inj h
    rw [h7]
    rfl
theorem sub_S (l : List Nat) (i j : Nat) : Builtin.Str.strSub (S l) i j = S ((l.drop i).take (j - i)) := by
  have z := StrLaws.mk_of_toList (StrLaws.strSub_toList (S l) i j)
  rw [toList_S] at z
  exact z
theorem rpart_S (l : List Nat) : Txt.rpartition (S l) (S [33]) = match lastBang l with
    | none => (Str.empty, Str.empty, S l)
    | some (a, b) => (S a, S [33], S b) := by
  unfold Txt.rpartition
  cases q : lastBang l with
  | none =>
    rcases StrLaws.last_spec (S l) (S [33]) with ⟨e, _⟩ | ⟨i, e, h, _⟩
    · rw [e]
    · exact absurd (List.mem_of_getElem? ((at_33 l i).mp h)) (bang_none q)
  | some p =>
    obtain ⟨a, b⟩ := p
    obtain ⟨h1, h2⟩ := bang_some q
    have ha : l[a.length]? = some 33 := by
      rw [h1]
      simp
    rcases StrLaws.last_spec (S l) (S [33]) with ⟨_, h⟩ | ⟨i, e, h, hn⟩
    · exact absurd ((at_33 l _).mpr ha) (h _)
    · have hi := (at_33 l i).mp h
      have ei : i = a.length := by
        rcases Nat.lt_trichotomy i a.length with c | c | c
        · exact absurd ((at_33 l _).mpr ha) (hn _ c)
        · exact c
        · exfalso
          rw [h1, List.getElem?_append_right (by omega)] at hi
          have e2 : i - a.length = (i - a.length - 1) + 1 := by omega
          rw [e2, List.getElem?_cons_succ] at hi
          exact h2 (List.mem_of_getElem? hi)
      rw [e, ei]
      show (Builtin.Str.strSub (S l) 0 a.length, S [33], Builtin.Str.strSub (S l) (a.length + (S [33]).length) (S l).length) = (S a, S [33], S b)
      rw [sub_S, sub_S, len_S, len_S]
      have z1 : (l.drop 0).take (a.length - 0) = a := by
        rw [h1]
        simp
      have z2 : (l.drop (a.length + [33].length)).take (l.length - (a.length + [33].length)) = b := by
        rw [h1]
        simp
        have n : a.length + (b.length + 1) - (a.length + 1) = b.length := by omega
        rw [n, List.take_length]
      rw [z1, z2]
def firstBang : List Nat → Option (List Nat × List Nat)
  | [] => none
  | c :: r => if c = 33 then some ([], r) else match firstBang r with
    | some (a, b) => some (c :: a, b)
    | none => none
theorem fbang_none : ∀ {l : List Nat}, firstBang l = none → 33 ∉ l
  | [], _, h => by cases h
  | c :: r, e, h => by
    unfold firstBang at e
    by_cases z : c = 33
    · rw [if_pos z] at e
      cases e
    · rw [if_neg z] at e
      cases q : firstBang r with
      | some p => rw [q] at e; cases e
      | none =>
        rcases List.mem_cons.mp h with y | y
        · exact z y.symm
        · exact fbang_none q y
theorem fbang_some : ∀ {l a b : List Nat}, firstBang l = some (a, b) → l = a ++ 33 :: b ∧ 33 ∉ a
  | [], a, b, e => by cases e
  | c :: r, a, b, e => by
    unfold firstBang at e
    by_cases z : c = 33
    · rw [if_pos z] at e
      cases e
      exact ⟨by rw [z]; rfl, fun h => by cases h⟩
    · rw [if_neg z] at e
      cases q : firstBang r with
      | some p =>
        obtain ⟨a2, b2⟩ := p
        rw [q] at e
        cases e
        obtain ⟨h1, h2⟩ := fbang_some q
        refine ⟨by rw [h1]; rfl, fun h => ?_⟩
        rcases List.mem_cons.mp h with y | y
        · exact z y.symm
        · exact h2 y
      | none => rw [q] at e; cases e
theorem part_S (l : List Nat) : Txt.partition (S l) (S [33]) = match firstBang l with
    | none => (S l, Str.empty, Str.empty)
    | some (a, b) => (S a, S [33], S b) := by
  unfold Txt.partition
  rcases StrLaws.occ_head (S l) (S [33]) 1 (Nat.le_refl _) with ⟨e, h⟩ | ⟨i, r, e, h, hn⟩
  · cases q : firstBang l with
    | none => rw [e]
    | some p =>
      obtain ⟨a, b⟩ := p
      obtain ⟨h1, _⟩ := fbang_some q
      have ha : l[a.length]? = some 33 := by
        rw [h1]
        simp
      exact absurd ((at_33 l _).mpr ha) (h _)
  · have hi := (at_33 l i).mp h
    cases q : firstBang l with
    | none => exact absurd (List.mem_of_getElem? hi) (fbang_none q)
    | some p =>
      obtain ⟨a, b⟩ := p
      obtain ⟨h1, h2⟩ := fbang_some q
      have ha : l[a.length]? = some 33 := by
        rw [h1]
        simp
      have ei : i = a.length := by
        rcases Nat.lt_trichotomy i a.length with c | c | c
        · exfalso
          rw [h1, List.getElem?_append_left c] at hi
          exact h2 (List.mem_of_getElem? hi)
        · exact c
        · exact absurd ((at_33 l _).mpr ha) (hn _ c)
      rw [e, ei]
      show (Builtin.Str.strSub (S l) 0 a.length, S [33], Builtin.Str.strSub (S l) (a.length + (S [33]).length) (S l).length) = (S a, S [33], S b)
      rw [sub_S, sub_S, len_S, len_S]
      have z1 : (l.drop 0).take (a.length - 0) = a := by
        rw [h1]
        simp
      have z2 : (l.drop (a.length + [33].length)).take (l.length - (a.length + [33].length)) = b := by
        rw [h1]
        simp
        have n : a.length + (b.length + 1) - (a.length + 1) = b.length := by omega
        rw [n, List.take_length]
      rw [z1, z2]
end TX

set_option Elab.async false
set_option linter.all false
set_option maxRecDepth 100000
set_option maxHeartbeats 4000000
/-! Lists of values with a property, odd values as data. -/
namespace TX
open PySem PySem.Spec PyProof.Rows L2 Pen EV2 Evl LamX
theorem strOk_S {l : List Nat} (h : ∀ c ∈ l, c < 128) : PyData.strOk (S l) = true := by
  show l.toArray.all (fun c => decide (c < 0x110000)) = true
  rw [List.all_toArray]
  exact List.all_eq_true.mpr fun c hc => decide_eq_true (by have := h c hc; omega)
end TX
namespace TX
open PySem PySem.Spec PyProof.Rows L2 Pen EV2 Evl LamX
/-- what is made has the property P, which stays -/
def EvP (P : Hp → V → Prop) (te : TE) (σ : L2.St) (H : Hp) : Prop := ∀ H1, Ex H H1 → ∀ Q : VK, (∀ v H2, Ex H1 H2 → P H2 v → Q v H2) → te σ H1 Q
def EvPs (P : Hp → V → Prop) (ta : TA) (σ : L2.St) (H : Hp) (n : Nat) : Prop := ∀ H1, Ex H H1 → ∀ Q : List V → Hp → Prop, (∀ vs H2, Ex H1 H2 → vs.length = n → (∀ v ∈ vs, P H2 v) → Q vs H2) → ta σ H1 Q
section
variable {P : Hp → V → Prop} {σ : L2.St} {H : Hp} {te : TE} {tr : TA} {v x : V}
theorem ep_v (h : Ev te σ H v) (p : ∀ H, P H v) : EvP P te σ H := fun H1 e Q q => h H1 e _ fun H2 e2 => q v H2 e2 (p H2)
theorem ep_lst (h : Ev te σ H x) (p : ∀ a H, H a = some (.lst [x]) → P H (.ref a)) : EvP P (tLst (tCons te tNil)) σ H := fun H1 e Q q => h H1 e _ fun H2 e2 => ⟨by show 1 ≤ sizeLine; decide, fun a ha => q _ _ (e2.trans (Ex.new ha)) (p a _ upd_same)⟩
theorem ep_tup (h : Ev te σ H x) (p : ∀ a H, H a = some (.tup [x]) → P H (.ref a)) : EvP P (tTup (tCons te tNil)) σ H := fun H1 e Q q => h H1 e _ fun H2 e2 => ⟨by show 1 ≤ sizeLine; decide, fun a ha => q _ _ (e2.trans (Ex.new ha)) (p a _ upd_same)⟩
theorem eps_nil : EvPs P tNil σ H 0 := fun H1 _ Q q => q [] H1 (Ex.refl H1) rfl fun v hv => by cases hv
theorem eps_cons {n : Nat} (st : ∀ H H' v, Ex H H' → P H v → P H' v) (h : EvP P te σ H) (hr : EvPs P tr σ H n) : EvPs P (tCons te tr) σ H (n + 1) := fun H1 e Q q =>
  h H1 e _ fun v H2 e2 g => hr H2 (e.trans e2) _ fun vs H3 e3 hl hg => q (v :: vs) H3 (e2.trans e3) (by rw [List.length_cons, hl]) fun u hu => by
    rcases List.mem_cons.mp hu with z | z
    · rw [z]
      exact st _ _ _ e3 g
    · exact hg u z
theorem rd_ps {n : Nat} {Q : VK} (st : ∀ H H' v, Ex H H' → P H v → P H' v) (h : EvPs P tr σ H n) (hz : n ≤ 100000) (q : ∀ l vs H2, H l = none → Ex H H2 → H2 l = some (.lst vs) → vs.length = n → (∀ v ∈ vs, P H2 v) → Q (.ref l) H2) : tLst tr σ H Q :=
  h H (Ex.refl H) _ fun vs H2 e2 hl hg => ⟨sz_of (by omega), fun p hp => q p vs _ (fresh_back e2 hp) (e2.trans (Ex.new hp)) upd_same hl fun v hv => st _ _ _ (Ex.new hp) (hg v hv)⟩
end
/-- plain values, lists and tuples of one plain value -/
inductive Bx : V → PyData → Prop
  | int (i : Int) : Bx (.int i) (.int i)
  | str (s : Str) : PyData.strOk s = true → Bx (.str s) (.str s)
inductive Vd (H : Hp) : V → PyData → String → Prop
  | int (i : Int) : Vd H (.int i) (.int i) "int"
  | bl (b : Bool) : Vd H (.bl b) (.bool b) "bool"
  | non : Vd H .non .none "NoneType"
  | str (s : Str) : PyData.strOk s = true → Vd H (.str s) (.str s) "str"
  | lst {a : Addr} {x : V} {d : PyData} : H a = some (.lst [x]) → Bx x d → Vd H (.ref a) (.list [d]) "list"
  | tup {a : Addr} {x : V} {d : PyData} : H a = some (.tup [x]) → Bx x d → Vd H (.ref a) (.tuple [d]) "tuple"
theorem Vd.keep {H H' : Hp} {v : V} {d : PyData} {n : String} (h1 : ∀ a xs, H a = some (.lst xs) → H' a = some (.lst xs)) (h2 : ∀ a xs, H a = some (.tup xs) → H' a = some (.tup xs)) (g : Vd H v d n) : Vd H' v d n := by
  cases g with
  | int i => exact .int i
  | bl b => exact .bl b
  | non => exact .non
  | str s h => exact .str s h
  | lst e b => exact .lst (h1 _ _ e) b
  | tup e b => exact .tup (h2 _ _ e) b
section
variable {K : PySem.W.Frag} {H : Hp} {v x : V} {d : PyData} {n : String}
theorem Vd.ext {H' : Hp} (e : Ex H H') (g : Vd H v d n) : Vd H' v d n := g.keep (fun _ _ h => e _ _ h) fun _ _ h => e _ _ h
theorem Vd.sib {H' : Hp} {p : Addr} {kv : List (Key × V)} (hp : H p = some (.dK kv)) (e : Pen.Sib p H H') (g : Vd H v d n) : Vd H' v d n := g.keep (fun _ _ h => e _ _ (ne_of h hp (by intro z; cases z)) h) fun _ _ h => e _ _ (ne_of h hp (by intro z; cases z)) h
theorem Vd.extN {H' : Hp} (e : ExtN H H') (g : Vd H v d n) : Vd H' v d n := g.keep (fun _ _ h => e _ _ h (fun _ z => by cases z)) fun _ _ h => e _ _ h (fun _ z => by cases z)
theorem Vd.knd (g : Vd H v d n) : Knd K H v n := by
  cases g with
  | int i => exact knd_int
  | bl b => exact knd_bl
  | non => exact knd_non
  | str s h => exact knd_str
  | lst e b => exact knd_lst e
  | tup e b => exact knd_tup e
theorem Bx.dp (b : Bx x d) : Dp K H x d := by
  cases b with
  | int i => exact .int i
  | str s h => exact .str s
theorem Bx.ok (b : Bx x d) : PyData.canLay0 d = true ∧ PyData.depth d = 0 ∧ PyData.eqv d d = true := by
  cases b with
  | int i => exact ⟨rfl, rfl, by show (i == i) = true; simp⟩
  | str s h => exact ⟨h, rfl, by show (s == s) = true; simp⟩
theorem Vd.dp (g : Vd H v d n) : Dp K H v d := by
  cases g with
  | int i => exact .int i
  | bl b => exact .bl b
  | non => exact .non
  | str s h => exact .str s
  | lst e b => exact .lst (sq_of e) (.cons b.dp .nil)
  | tup e b => exact .tup (st_of e) (.cons b.dp .nil)
theorem Vd.ok (g : Vd H v d n) : PyData.canLay0 d = true ∧ PyData.depth d ≤ 1 ∧ PyData.eqv d d = true := by
  cases g with
  | int i => exact ⟨rfl, by show 0 ≤ 1; decide, by show (i == i) = true; simp⟩
  | bl b => exact ⟨rfl, by show 0 ≤ 1; decide, by cases b <;> rfl⟩
  | non => exact ⟨rfl, by show 0 ≤ 1; decide, rfl⟩
  | str s h => exact ⟨h, by show 0 ≤ 1; decide, by show (s == s) = true; simp⟩
  | @lst a x d e b =>
    obtain ⟨h1, h2, h3⟩ := b.ok
    refine ⟨?_, ?_, ?_⟩
    · show (PyData.canLay0 d && true) = true
      rw [h1]
      rfl
    · show max (PyData.depth d) 0 + 1 ≤ 1
      omega
    · show (PyData.eqv d d && true) = true
      rw [h3]
      rfl
  | @tup a x d e b =>
    obtain ⟨h1, h2, h3⟩ := b.ok
    refine ⟨?_, ?_, ?_⟩
    · show (PyData.canLay0 d && true) = true
      rw [h1]
      rfl
    · show max (PyData.depth d) 0 + 1 ≤ 1
      omega
    · show (PyData.eqv d d && true) = true
      rw [h3]
      rfl
end
end TX

set_option Elab.async false
set_option linter.all false
set_option maxRecDepth 100000
set_option maxHeartbeats 4000000
/-! Tuples that are made or there already; slices of texts and tuples from a counted place. -/
namespace TX
open PySem PySem.Spec PyProof.Rows L2 Pen EV2 Evl LamX
/-- evaluates to a tuple of these, new or not -/
def EvR (te : TE) (σ : L2.St) (H : Hp) (xs : List V) : Prop := ∀ H1, Ex H H1 → ∀ Q : VK, (∀ a H2, Ex H1 H2 → H2 a = some (.tup xs) → Q (.ref a) H2) → te σ H1 Q
section
variable {K : PySem.W.Frag} {σ : L2.St} {H H' : Hp} {ta tb te : TE} {xs ys : List V} {a : Addr} {lo hi : Option Int} {tl th : TO}
theorem EvR.mono (e : Ex H H') (h : EvR te σ H xs) : EvR te σ H' xs := fun H1 a Q q => h H1 (e.trans a) Q q
theorem er_of (h : Ev te σ H (.ref a)) (ha : H a = some (.tup xs)) : EvR te σ H xs := fun H1 e Q q => h H1 e _ fun H2 e2 => q a H2 e2 ((e.trans e2) _ _ ha)
theorem er_new (h : EvU te σ H xs) : EvR te σ H xs := fun H1 e Q q => h H1 e _ fun p H2 _ e2 hp => q p H2 e2 hp
theorem er_sl (h : EvR te σ H xs) (h1 : EvO tl σ H lo) (h2 : EvO th σ H hi) : EvR (tSl (rSlA K) te tl th) σ H (cutV xs lo hi) := fun H1 e Q q =>
  h H1 e _ fun a H2 e2 ha => h1 H2 (e.trans e2) _ fun H3 e3 => h2 H3 ((e.trans e2).trans e3) _ fun H4 e4 => ⟨a, xs, rfl, st_of ((e3.trans e4) _ _ ha), fun hw => by
    refine q a H4 ((e2.trans e3).trans e4) ?_
    have z : cutV xs lo hi = xs := by
      unfold cutV
      rw [hw.1, hw.2]
      simp
    rw [z]
    exact (e3.trans e4) _ _ ha, fun _ p hp => q p _ (((e2.trans e3).trans e4).trans (Ex.new hp)) upd_same⟩
theorem er_cat (ha : EvR ta σ H xs) (hb : EvR tb σ H ys) (hl : xs.length + ys.length ≤ 100000) : EvR (tOp (rCatA K) ta tb) σ H (xs ++ ys) := fun H1 e Q q =>
  ha H1 e _ fun a H2 e2 h2 => hb H2 (e.trans e2) _ fun b H3 e3 h3 => ⟨a, b, xs, ys, rfl, rfl, st_of (e3 _ _ h2), st_of h3, sz_of hl, fun z => by
    rw [z, List.nil_append] at q
    exact q b H3 (e2.trans e3) h3, fun _ z => by
    rw [z, List.append_nil] at q
    exact q a H3 (e2.trans e3) (e3 _ _ h2), fun _ _ p hp => q p _ ((e2.trans e3).trans (Ex.new hp)) upd_same⟩
theorem cutV_to {n : Nat} (xs : List V) : cutV xs none (some (n : Int)) = xs.take n := by
  unfold cutV
  rw [HT.sIx_nat]
  have e1 : HT.sIx xs.length 0 none = 0 := rfl
  rw [e1, List.drop_zero, Nat.sub_zero, ← List.take_take, List.take_length]
theorem cutV_from {n : Nat} (xs : List V) : cutV xs (some (n : Int)) none = xs.drop n := by
  unfold cutV
  rw [HT.sIx_nat]
  have e2 : HT.sIx xs.length xs.length none = xs.length := rfl
  rw [e2]
  by_cases h : n ≤ xs.length
  · rw [Nat.min_eq_left h]
    exact List.take_of_length_le (by rw [List.length_drop]; exact Nat.le_refl _)
  · rw [Nat.min_eq_right (by omega), List.drop_of_length_le (Nat.le_refl _), List.drop_of_length_le (by omega)]
    simp
theorem sl_fromA {n : Nat} (l : List Nat) : cutS (S l) (some (n : Int)) none = S (l.drop n) := by
  by_cases h : n ≤ l.length
  · exact sl_from l h
  · unfold cutS
    have e1 : HT.sIx (S l).length 0 (some (n : Int)) = l.length := by
      rw [HT.sIx_nat, len_S]
      omega
    have e2 : HT.sIx (S l).length (S l).length none = l.length := by
      show (S l).length = _
      exact len_S l
    rw [e1, e2, toList_S, List.drop_of_length_le (Nat.le_refl _), List.drop_of_length_le (by omega), List.take_nil]
theorem q_retR {D : Ends} (h : EvR te σ H xs) (k : ∀ a H1, Ex H H1 → H1 a = some (.tup xs) → D.rt (.ref a) H1) : tRet te D σ H := h H (Ex.refl H) _ k
end
end TX

set_option Elab.async false
set_option linter.all false
set_option maxRecDepth 100000
set_option maxHeartbeats 4000000
/-! What a term leads to, told by a relation that stays; displays of such terms. -/
namespace TX
open PySem PySem.Spec PyProof.Rows L2 Evl
/-- a relation that stays as the heap grows -/
def MonR (R : V → Hp → Prop) : Prop := ∀ v H H', Ex H H' → R v H → R v H'
def MonL (R : List V → Hp → Prop) : Prop := ∀ v H H', Ex H H' → R v H → R v H'
def EvQ (te : TE) (σ : L2.St) (H : Hp) (R : V → Hp → Prop) : Prop := ∀ H1, Ex H H1 → ∀ Q : VK, (∀ v H2, Ex H1 H2 → R v H2 → Q v H2) → te σ H1 Q
def EvAQ (ta : TA) (σ : L2.St) (H : Hp) (R : List V → Hp → Prop) : Prop := ∀ H1, Ex H H1 → ∀ Q : List V → Hp → Prop, (∀ v H2, Ex H1 H2 → R v H2 → Q v H2) → ta σ H1 Q
section
variable {σ : L2.St} {H H' : Hp} {te : TE} {ta : TA} {R : V → Hp → Prop} {S S' : List V → Hp → Prop} {v : V}
theorem EvQ.mono (h : EvQ te σ H R) (e : Ex H H') : EvQ te σ H' R := fun H1 e1 Q q => h H1 (e.trans e1) Q q
theorem EvAQ.mono (h : EvAQ ta σ H S) (e : Ex H H') : EvAQ ta σ H' S := fun H1 e1 Q q => h H1 (e.trans e1) Q q
theorem EvQ.to {R' : V → Hp → Prop} (h : EvQ te σ H R) (k : ∀ v H', Ex H H' → R v H' → R' v H') : EvQ te σ H R' := fun H1 e1 Q q => h H1 e1 Q fun v H2 e2 r => q v H2 e2 (k v H2 (e1.trans e2) r)
theorem evq_of (h : Ev te σ H v) : EvQ te σ H (fun u _ => u = v) := fun H1 e Q q => h H1 e _ fun H2 e2 => q v H2 e2 rfl
theorem ev_of_q (h : EvQ te σ H (fun u _ => u = v)) : Ev te σ H v := fun H1 e Q q => h H1 e _ fun u H2 e2 r => by
  subst r
  exact q H2 e2
theorem eaq_nil : EvAQ tNil σ H (fun vs _ => vs = []) := fun H1 _ Q q => q [] H1 (Ex.refl H1) rfl
theorem eaq_cons (hv : EvQ te σ H R) (hr : EvAQ ta σ H S) (m : MonR R) : EvAQ (tCons te ta) σ H (fun vs H' => ∃ v ws, vs = v :: ws ∧ R v H' ∧ S ws H') := fun H1 e Q q =>
  hv H1 e _ fun v H2 e2 r => hr H2 (e.trans e2) _ fun ws H3 e3 s => q (v :: ws) H3 (e2.trans e3) ⟨v, ws, rfl, m _ _ _ e3 r, s⟩
theorem eaq_of {vs : List V} (h : EvA ta σ H vs) : EvAQ ta σ H (fun u _ => u = vs) := fun H1 e Q q => h H1 e _ fun H2 e2 => q vs H2 e2 rfl
theorem evq_tup (h : EvAQ ta σ H S) (hl : ∀ vs H', S vs H' → vs.length ≤ 100000) (m : MonL S) : EvQ (tTup ta) σ H (fun v H' => ∃ p vs, v = .ref p ∧ H' p = some (.tup vs) ∧ S vs H') := fun H1 e Q q =>
  h H1 e _ fun vs H2 e2 s => ⟨sz_of (hl vs H2 s), fun p np => q (.ref p) _ (e2.trans (Ex.new np)) ⟨p, vs, rfl, upd_same, m _ _ _ (Ex.new np) s⟩⟩
theorem evq_lst (h : EvAQ ta σ H S) (hl : ∀ vs H', S vs H' → vs.length ≤ 100000) (m : MonL S) : EvQ (tLst ta) σ H (fun v H' => ∃ p vs, v = .ref p ∧ H' p = some (.lst vs) ∧ S vs H') := fun H1 e Q q =>
  h H1 e _ fun vs H2 e2 s => ⟨sz_of (hl vs H2 s), fun p np => q (.ref p) _ (e2.trans (Ex.new np)) ⟨p, vs, rfl, upd_same, m _ _ _ (Ex.new np) s⟩⟩
theorem evq_if {t : TT} {ta tb : TE} {b : Bool} (h : EvT t σ H b) (h1 : b = true → EvQ ta σ H R) (h2 : b = false → EvQ tb σ H R) : EvQ (tIf t ta tb) σ H R := fun H1 e Q q => h H1 e _ fun H2 e2 => by
  cases b with
  | true => exact h1 rfl H2 (e.trans e2) Q fun v H3 e3 r => q v H3 (e2.trans e3) r
  | false => exact h2 rfl H2 (e.trans e2) Q fun v H3 e3 r => q v H3 (e2.trans e3) r
theorem q_asgQ {i : Nat} {tz : TS} {D : Ends} (h : EvQ te σ H R) (k : ∀ v H1, Ex H H1 → R v H1 → tz D (σ.set i (some v)) H1) : tSeq (tAsg te (gName i)) tz D σ H := h H (Ex.refl H) _ k
theorem q_retQ {D : Ends} (h : EvQ te σ H R) (k : ∀ v H1, Ex H H1 → R v H1 → D.rt v H1) : tRet te D σ H := h H (Ex.refl H) _ k
theorem evq_call {sp : Sp} {E : XK} (h : EvAQ ta σ H S) (k : ∀ vs H', Ex H H' → S vs H' → ∀ Q : VK, (∀ v H2, Ex H' H2 → R v H2 → Q v H2) → sp vs H' Q E) : EvQ (tCall sp [] E ta) σ H R := fun H1 e Q q =>
  h H1 e _ fun vs H2 e2 s => by
    have z := k vs H2 (e.trans e2) s Q fun v H3 e3 r => q v H3 (e2.trans e3) r
    simpa using z
/-- a new tuple -/
def TupR (xs : List V) : V → Hp → Prop := fun v H' => ∃ p, v = .ref p ∧ H' p = some (.tup xs)
def LstR (xs : List V) : V → Hp → Prop := fun v H' => ∃ p, v = .ref p ∧ H' p = some (.lst xs)
theorem mon_tup {xs : List V} : MonR (TupR xs) := fun v H H' e ⟨p, h1, h2⟩ => ⟨p, h1, e _ _ h2⟩
theorem mon_eq {x : V} : MonR (fun v _ => v = x) := fun _ _ _ _ h => h
theorem evq_new {xs : List V} (h : EvU te σ H xs) : EvQ te σ H (TupR xs) := fun H1 e Q q => h H1 e _ fun p H2 _ e2 hp => q _ H2 e2 ⟨p, rfl, hp⟩
theorem evq_lnew {xs : List V} (h : EvL te σ H xs) : EvQ te σ H (LstR xs) := fun H1 e Q q => h H1 e _ fun p H2 _ e2 hp => q _ H2 e2 ⟨p, rfl, hp⟩
/-- two things by relations, side by side -/
def TwoR (R R' : V → Hp → Prop) : List V → Hp → Prop := fun vs H' => ∃ a b, vs = [a, b] ∧ R a H' ∧ R' b H'
theorem eaq_two {R' : V → Hp → Prop} {tb : TE} (h1 : EvQ te σ H R) (h2 : EvQ tb σ H R') (m1 : MonR R) : EvAQ (tCons te (tCons tb tNil)) σ H (TwoR R R') := fun H1 e Q q =>
  h1 H1 e _ fun a H2 e2 r1 => h2 H2 (e.trans e2) _ fun b H3 e3 r2 => q [a, b] H3 (e2.trans e3) ⟨a, b, rfl, m1 _ _ _ e3 r1, r2⟩
theorem mon_two {R' : V → Hp → Prop} (m1 : MonR R) (m2 : MonR R') : MonL (TwoR R R') := fun vs H H' e ⟨a, b, h, r1, r2⟩ => ⟨a, b, h, m1 _ _ _ e r1, m2 _ _ _ e r2⟩
theorem evq_tup2 {R' : V → Hp → Prop} {tb : TE} (h1 : EvQ te σ H R) (h2 : EvQ tb σ H R') (m1 : MonR R) (m2 : MonR R') : EvQ (tTup (tCons te (tCons tb tNil))) σ H (fun v H' => ∃ p a b, v = .ref p ∧ H' p = some (.tup [a, b]) ∧ R a H' ∧ R' b H') :=
  (evq_tup (eaq_two h1 h2 m1) (fun vs _ ⟨a, b, h, _⟩ => by rw [h]; show 2 ≤ 100000; decide) (mon_two m1 m2)).to fun v H' _ ⟨p, vs, h1, h2, a, b, h3, r1, r2⟩ => ⟨p, a, b, h1, by rw [h2, h3], r1, r2⟩
theorem evq_lst2 {R' : V → Hp → Prop} {tb : TE} (h1 : EvQ te σ H R) (h2 : EvQ tb σ H R') (m1 : MonR R) (m2 : MonR R') : EvQ (tLst (tCons te (tCons tb tNil))) σ H (fun v H' => ∃ p a b, v = .ref p ∧ H' p = some (.lst [a, b]) ∧ R a H' ∧ R' b H') :=
  (evq_lst (eaq_two h1 h2 m1) (fun vs _ ⟨a, b, h, _⟩ => by rw [h]; show 2 ≤ 100000; decide) (mon_two m1 m2)).to fun v H' _ ⟨p, vs, h1, h2, a, b, h3, r1, r2⟩ => ⟨p, a, b, h1, by rw [h2, h3], r1, r2⟩
theorem q_ifQ {t : TT} {b : Bool} {i : Nat} {tz : TS} {D : Ends} {v0 : V} (h : EvT t σ H b) (h1 : b = true → EvQ te σ H R) (h2 : b = false → σ[i]? = some (some v0) ∧ R v0 H) (m : MonR R) (k : ∀ v H1, Ex H H1 → R v H1 → tz D (σ.set i (some v)) H1) : tSeq (tIfS t (tAsg te (gName i)) tNext) tz D σ H :=
  h H (Ex.refl H) _ fun H1 e1 => by
    cases b with
    | true => exact h1 rfl H1 e1 _ fun v H2 e2 r => k v H2 (e1.trans e2) r
    | false =>
      obtain ⟨a, r⟩ := h2 rfl
      have z := k v0 H1 e1 (m _ _ _ e1 r)
      have hs : σ.set i (some v0) = σ := by
        have hl := (List.getElem?_eq_some_iff.mp a)
        obtain ⟨hl, hv⟩ := hl
        rw [← hv]
        exact List.set_getElem_self hl
      rw [hs] at z
      exact z
theorem q_fldQ {K : PySem.W.Frag} {tv : TE} {i : Nat} {x C dx : Addr} {fs : List (Str × V)} {f : Str} {tz : TS} {D : Ends} (h : EvQ tv σ H R) (hi : σ[i]? = some (some (.ref x))) (hx : H x = some (.ins C dx fs)) (c : Cls K C) (n : NoAttr K C f) (hl : fs.length < 1000)
    (k : ∀ v H1, Ex H H1 → R v H1 → tz D σ (upd H1 x (.ins C dx (putF f v fs)))) : tSeq (sFld K (tVar i) tv f) tz D σ H := h H (Ex.refl H) _ fun v H1 e r => ⟨_, hi, x, C, dx, fs, rfl, e _ _ hx, c, n, hl, k v H1 e r⟩
theorem q_dropQ {tz : TS} {D : Ends} (h : EvQ te σ H R) (k : ∀ v H1, Ex H H1 → R v H1 → tz D σ H1) : tSeq (tDrop te) tz D σ H := h H (Ex.refl H) _ k
end
theorem units65 {k : Nat} {A : Around} (r : Room (k + 1) A) : A.units + 65 < cLine := by have := r.un; omega
section
def rNotInDT (K : PySem.W.Frag) : R2 := fun x y H Q => ∃ d ds, Dp K H x d ∧ Dp K H y (.tuple ds) ∧ SeqAt.shaped d = true ∧ SeqAt.shaped (.tuple ds) = true ∧ Q (.bl (!ds.any fun z => PyData.eqv z d)) H
theorem op_notInDT {X : Cx} (hu : X.A.units + 65 < cLine) : OpR X (compareOp .NotIn) (rNotInDT X.K) := by
  intro pins s σ H x y v u Q I rx ry h
  obtain ⟨d, ds, hd, he, sd, se, q⟩ := h
  obtain ⟨as, r1⟩ := Dp.reads I d x v hd rx
  obtain ⟨bs, r2⟩ := Dp.reads I (.tuple ds) y u he ry
  exact SeqAt.notIn_tuple_reads r2 r1 (SeqAt.canLay_of_shaped se) (SeqAt.canLay_of_shaped sd) (room_in_shaped sd hu) ⟨.bl _, H, I, rfl, q⟩
end
end TX

set_option Elab.async false
set_option linter.all false
set_option maxRecDepth 100000
set_option maxHeartbeats 4000000
/-! A comprehension over two ranges; xs.append(e) of a told value. -/
namespace TX
open PySem PySem.Spec PyProof.Rows L2 Evl Pen EV2
/-- what stays when a list's items change -/
def StayL (R : V → Hp → Prop) : Prop := ∀ (v : V) (H : Hp) (D : Addr) (xs ys : List V), H D = some (.lst xs) → R v H → R v (upd H D (.lst ys))
/-- a list of told things -/
def LsR (R : Nat → V → Hp → Prop) (n : Nat) : V → Hp → Prop := fun v H => ∃ p xs, v = .ref p ∧ H p = some (.lst xs) ∧ xs.length = n ∧ ∀ k w, xs[k]? = some w → R k w H
def IvL (R : Nat → V → Hp → Prop) (D : Addr) (H1 : Hp) (c : Nat) (H' : Hp) : Prop := Ex H1 H' ∧ ∃ xs, H' D = some (.lst xs) ∧ xs.length = c ∧ ∀ k w, xs[k]? = some w → R k w H'
theorem ex_put {H H1 : Hp} {D : Addr} {o : HO} (n : H D = none) (e : Ex H H1) : Ex H (upd H1 D o) := fun b x hb => by
  rw [upd_ne (ne_of_none hb n)]
  exact e b x hb
section
variable {K : PySem.W.Frag} {σ : L2.St} {H : Hp} {ta tb : TA} {te : TE} {a b n n1 : Nat} {lo hi lo1 hi1 : Int} {R : Nat → V → Hp → Prop}
theorem evq_lc2 (ha : EvA ta σ H [.int lo, .int hi]) (hn : (hi - lo).toNat = n) (hn1 : (hi1 - lo1).toNat = n1) (hb1 : -(2 ^ 62) ≤ lo ∧ lo < 2 ^ 62 ∧ -(2 ^ 62) ≤ hi ∧ hi < 2 ^ 62) (hb2 : -(2 ^ 62) ≤ lo1 ∧ lo1 < 2 ^ 62 ∧ -(2 ^ 62) ≤ hi1 ∧ hi1 < 2 ^ 62)
    (hb : ∀ i, i < n → ∀ H', Ex H H' → EvA tb ((wipe σ [a, b]).set a (some (.int (lo + (i : Nat))))) H' [.int lo1, .int hi1]) (hz : n * n1 ≤ 100000)
    (he : ∀ i j, i < n → j < n1 → ∀ H', Ex H H' → EvQ te ((wipe ((wipe σ [a, b]).set a (some (.int (lo + (i : Nat))))) [b]).set b (some (.int (lo1 + (j : Nat))))) H' (R (i * n1 + j)))
    (hw : ∀ v, wipe ((wipe σ [a, b]).set a (some v)) [a, b] = wipe σ [a, b]) (hw1 : ∀ v w, wipe ((wipe ((wipe σ [a, b]).set a (some v)) [b]).set b (some w)) [b] = wipe ((wipe σ [a, b]).set a (some v)) [b])
    (mR : ∀ k, MonR (R k)) (sR : ∀ k, StayL (R k)) :
    EvQ (tLc2 (iRng2 ta) (gName a) tYes (iRng2 tb) (gName b) tYes te [a, b] [b]) σ H (LsR R (n * n1)) := fun H0 e0 Q q =>
  ha H0 e0 _ fun H1 e1 => ⟨lo, hi, rfl, hb1, fun D nD => by
    have e01 := e0.trans e1
    have ivm : ∀ {c H' H''}, IvL R D H1 c H' → Ex H' H'' → IvL R D H1 c H'' := fun {c H' H''} z e => by
      obtain ⟨h1, xs, h2, h3, h4⟩ := z
      exact ⟨h1.trans e, xs, e _ _ h2, h3, fun k w h => mR k _ _ _ e (h4 k w h)⟩
    have iva : ∀ {c H' y}, IvL R D H1 c H' → R c y H' → ∀ xs, H' D = some (.lst xs) → IvL R D H1 (c + 1) (upd H' D (.lst (xs ++ [y]))) := fun {c H' y} z r ys hy => by
      obtain ⟨h1, xs, h2, h3, h4⟩ := z
      have hy2 : ys = xs := by
        rw [h2] at hy
        cases hy
        rfl
      subst hy2
      refine ⟨ex_put nD h1, ys ++ [y], upd_same, by rw [List.length_append, h3]; rfl, fun k w h => ?_⟩
      by_cases hk : k < ys.length
      · rw [List.getElem?_append_left hk] at h
        exact sR k _ _ _ _ _ h2 (h4 k w h)
      · rw [List.getElem?_append_right (by omega)] at h
        have hk2 : k - ys.length = 0 := by
          cases hj : k - ys.length with
          | zero => rfl
          | succ j => rw [hj] at h; cases h
        rw [hk2] at h
        cases h
        have hk3 : k = c := by omega
        rw [hk3]
        exact sR c _ _ _ _ _ h2 r
    refine ⟨fun i m H' => m = n - i ∧ i ≤ n ∧ IvL R D H1 (i * n1) H', ⟨n, by simp, Nat.zero_le _, fun b x hb => (by rw [upd_ne (ne_of_none hb nD)]; exact hb), [], upd_same, by simp, fun k w h => by simp at h⟩, ?_⟩
    rintro i m H2 ⟨rfl, hi2, p⟩
    rw [hn]
    by_cases hlt : i < n
    · refine .inr ⟨hlt, IvL R D H1 ((i + 1) * n1), fun H' p' => ⟨n - (i + 1), by omega, rfl, hlt, p'⟩, fun x H3 y => ?_⟩
      obtain ⟨ex, ey⟩ := y
      subst ex ey
      refine ⟨hw _, ?_⟩
      unfold tYes
      dsimp only
      rw [if_pos rfl]
      refine hb i hlt H3 (e01.trans p.1) H3 (Ex.refl H3) _ fun H4 e4 => ⟨lo1, hi1, rfl, hb2, ?_⟩
      refine ⟨fun j k H' => k = n1 - j ∧ j ≤ n1 ∧ IvL R D H1 (i * n1 + j) H', ⟨n1, by simp, Nat.zero_le _, ivm p e4⟩, ?_⟩
      rintro j k H5 ⟨rfl, hj, p5⟩
      rw [hn1]
      by_cases hjl : j < n1
      · refine .inr ⟨hjl, IvL R D H1 (i * n1 + (j + 1)), fun H' p' => ⟨n1 - (j + 1), by omega, rfl, hjl, p'⟩, fun x H6 y => ?_⟩
        obtain ⟨ex, ey⟩ := y
        subst ex ey
        refine ⟨hw1 _ _, ?_⟩
        rw [if_pos rfl]
        refine he i j hlt hjl H6 (e01.trans p5.1) H6 (Ex.refl H6) _ fun v H7 e7 r => ?_
        have p7 := ivm p5 e7
        obtain ⟨h1, xs, h2, h3, h4⟩ := p7
        have hb : i * n1 + j < 100000 := by
          have h5 : (i + 1) * n1 ≤ n * n1 := Nat.mul_le_mul_right _ hlt
          rw [Nat.succ_mul] at h5
          omega
        exact ⟨xs, h2, sz_lt (by omega), iva ⟨h1, xs, h2, h3, h4⟩ r xs h2⟩
      · have e : j = n1 := by omega
        subst e
        refine .inl ⟨Nat.le_refl _, ?_⟩
        rw [Nat.succ_mul]
        exact p5
    · have e : i = n := by omega
      subst e
      obtain ⟨h1, xs, h2, h3, h4⟩ := p
      exact .inl ⟨Nat.le_refl _, q _ H2 (e1.trans h1) ⟨D, xs, rfl, h2, h3, h4⟩⟩⟩
theorem q_ifApp {R : V → Hp → Prop} {t : TT} {b : Bool} {tz : TS} {D : Ends} {l : Addr} {xs : List V} {tl : TE} (h : EvT t σ H b) (hl : H l = some (.lst xs)) (hv : Ev tl σ H (.ref l)) (hz : xs.length < 100000) (h1 : b = true → EvQ te σ H R) (sR : StayL R)
    (k1 : b = true → ∀ v H1, Sib l H H1 → H1 l = some (.lst (xs ++ [v])) → R v H1 → tz D σ H1) (k0 : b = false → ∀ H1, Ex H H1 → tz D σ H1) : tSeq (tIfS t (tDrop (tBM K "list" rAppend tl (tCons te tNil))) tNext) tz D σ H := h H (Ex.refl H) _ fun H1 e1 => by
  cases b with
  | true =>
    refine hv H1 e1 _ fun H2 e2 => ⟨Or.inl ⟨rfl, xs, sq_of ((e1.trans e2) l _ hl)⟩, h1 rfl H2 (e1.trans e2) _ fun v H3 e3 r => ⟨l, xs, v, rfl, rfl, ((e1.trans e2).trans e3) l _ hl, sz_lt hz, ?_⟩⟩
    have hl3 := ((e1.trans e2).trans e3) l _ hl
    refine k1 rfl v _ (fun b o n hb => ?_) upd_same (sR _ _ _ _ _ hl3 r)
    rw [upd_ne n]
    exact ((e1.trans e2).trans e3) _ _ hb
  | false => exact k0 rfl H1 e1
end
theorem s_ifApp {K : PySem.W.Frag} {σ : L2.St} {H : Hp} {te : TE} {R : V → Hp → Prop} {t : TT} {b : Bool} {D : Ends} {l : Addr} {xs : List V} {tl : TE} (h : EvT t σ H b) (hl : H l = some (.lst xs)) (hv : Ev tl σ H (.ref l)) (hz : xs.length < 100000) (h1 : b = true → EvQ te σ H R)
    (k1 : b = true → ∀ v H1, Ex H H1 → R v H1 → D.nx σ (upd H1 l (.lst (xs ++ [v])))) (k0 : b = false → ∀ H1, Ex H H1 → D.nx σ H1) : tIfS t (tDrop (tBM K "list" rAppend tl (tCons te tNil))) tNext D σ H := h H (Ex.refl H) _ fun H1 e1 => by
  cases b with
  | true =>
    refine hv H1 e1 _ fun H2 e2 => ⟨Or.inl ⟨rfl, xs, sq_of ((e1.trans e2) l _ hl)⟩, h1 rfl H2 (e1.trans e2) _ fun v H3 e3 r => ⟨l, xs, v, rfl, rfl, ((e1.trans e2).trans e3) l _ hl, sz_lt hz, ?_⟩⟩
    exact k1 rfl v H3 ((e1.trans e2).trans e3) r
  | false => exact k0 rfl H1 e1
theorem q_un4 {K : PySem.W.Frag} {σ : L2.St} {H : Hp} {te : TE} {a b c d : Nat} {w x y z : V} {tz : TS} {D : Ends} (h : EvQ te σ H (TupR [w, x, y, z])) (k : ∀ H1, Ex H H1 → tz D ((((σ.set a (some w)).set b (some x)).set c (some y)).set d (some z)) H1) :
    tSeq (tAsg te (gTup K 4 (gCons (gName a) (gCons (gName b) (gCons (gName c) (gCons (gName d) gNil)))))) tz D σ H := h H (Ex.refl H) _ fun v H1 e ⟨u, hv, hu⟩ => by
  subst hv
  exact ⟨u, _, rfl, st_of hu, rfl, _, _, rfl, _, _, rfl, _, _, rfl, _, _, rfl, rfl, k H1 e⟩
theorem q_retCB {σ : L2.St} {H : Hp} {te : TE} {R : V → Hp → Prop} {r : List V → Hp → VK → Prop} {D : Ends} (h : EvQ te σ H R) (k : ∀ v H1, Ex H H1 → R v H1 → r [v] H1 D.rt) : tRet (tCB r (tCons te tNil)) D σ H := by
  show te σ H fun v H1 => r [v] H1 D.rt
  exact h H (Ex.refl H) _ k
section
variable {X : Cx}
/-- e.f, the fragment named -/
theorem pe_fldK {K : PySem.W.Frag} {o : Expr} {f : Str} {pos : Pos} {ta : TE} (he : PE X o ta) (hK : X.K = K) (hb : attributeBase o f X.env (eval o X.env) = eval o X.env) : PE X (.Attribute o f pos) (tFld K ta f) := by
  subst hK
  exact pe_fld he hb
theorem passF {P : Program} {w : World} : Passes (L2.CX P w) X E0 := fun _ _ _ _ _ _ _ h => by
  obtain ⟨_, _, _, _, _, _, _, _, _, _, _, _, z⟩ := h
  exact z.elim
end
end TX

set_option Elab.async false
set_option linter.all false
set_option maxRecDepth 100000
set_option maxHeartbeats 4000000
/-! for over range(0, n, c). -/
namespace TX
open PySem PySem.Spec PyProof.Rows L2 Evl Pen EV2
theorem small_pos {n c : Int} (hn : 0 ≤ n ∧ n ≤ 100000) (hc : 1 ≤ c ∧ c ≤ 1000) : Builtin.Range.small 0 n c = true := by
  have h1 : 0 ≤ Builtin.Range.rangeSize 0 n c ∧ Builtin.Range.rangeSize 0 n c ≤ 100000 := by
    have z := PyProof.Rows.rangeSize_toNat 0 n c
    have y := PyProof.Rows.rangeSize_toNat_le 0 n c
    omega
  unfold Builtin.Range.small
  generalize Builtin.Range.rangeSize 0 n c = r at h1
  rw [if_pos (show c > 0 by omega)]
  simp only [Builtin.Range.rangeFitsLong, Bool.and_eq_true, Bool.or_eq_true, decide_eq_true_eq, beq_iff_eq]
  omega
theorem rgc_pos {n c : Int} (hn : 0 ≤ n ∧ n ≤ 100000) (hc : 1 ≤ c ∧ c ≤ 1000) : RgC 0 n c (Builtin.Range.rangeSize 0 n c).toNat :=
  ⟨by omega, by omega, small_pos hn hc, PyProof.Rows.rangeSize_toNat 0 n c⟩
theorem q_forR3 {σ : L2.St} {H : Hp} {tu tz : TS} {D : Ends} {ta : TA} {j : Nat} {n c : Int} (h : EvA ta σ H [.int 0, .int n, .int c]) (hn : 0 ≤ n ∧ n ≤ 100000) (hc : 1 ≤ c ∧ c ≤ 1000) (Pv : L2.St → Hp → Prop) (h0 : ∀ H1, Ex H H1 → Pv σ H1)
    (hs : ∀ (k : Nat) σ' H', (k : Int) < n → Pv σ' H' → tu { D with nx := Pv, ct := Pv, bk := tz D } (σ'.set j (some (.int (k : Int)))) H') (hd : ∀ σ' H', Pv σ' H' → tz D σ' H') : tSeq (tFor (iRng3 ta) (gName j) tu) tz D σ H :=
  h H (Ex.refl H) _ fun H1 e => ⟨0, n, c, (Builtin.Range.rangeSize 0 n c).toNat, rfl, rgc_pos hn hc, for_it (D := { D with nx := tz D }) walk_rangeC (fun _ => Pv) (h0 H1 e) (fun _ _ _ _ _ => trivial) (fun i x σ' H' H2 hi p y => by
    obtain ⟨e1, e2⟩ := y
    subst e1 e2
    have hin := PyProof.Rows.start_inside (v := (i : Int)) hc.1 hn.1 (by omega) (by have := PyProof.Rows.rangeSize_toNat 0 n c; omega)
    have e3 : (0 : Int) + (i : Nat) * c = (((i : Nat) * c : Int).toNat : Int) := by omega
    show tu _ (σ'.set j (some (.int ((0 : Int) + (i : Nat) * c)))) _
    rw [e3]
    exact hs _ σ' _ (by omega) p) hd⟩
end TX

set_option Elab.async false
set_option linter.all false
set_option maxRecDepth 100000
set_option maxHeartbeats 4000000
/-! != of two pairs of a text and one and the same object. -/
namespace TX
open PySem PySem.Spec PyProof.Rows L2 Evl Pen EV2
def rNeS (K : PySem.W.Frag) : R2 := fun x y H Q => ∃ (a b : Addr) (z : Str) (r : Addr), x = .ref a ∧ y = .ref b ∧ SqT K H a [.str z, .ref r] ∧ SqT K H b [.str z, .ref r] ∧ Q (.bl false) H
theorem op_neS {X : Cx} (hu : X.A.units + 64 < cLine) : OpR X (compareOp .NotEq) (rNeS X.K) := by
  intro pins s σ H x y v u Q I rx ry h
  obtain ⟨a, b, z, r, rfl, rfl, ha, hb, q⟩ := h
  cases rx
  cases ry
  obtain ⟨its, r1, p1, _⟩ := I.tuple ha
  obtain ⟨its2, r2, p2, _⟩ := I.tuple hb
  cases r1 with
  | cons e1 r1 =>
    cases r1 with
    | cons e2 r1 =>
      cases r1
      cases r2 with
      | cons f1 r2 =>
        cases r2 with
        | cons f2 r2 =>
          cases r2
          obtain ⟨t1, rfl⟩ := e1
          obtain ⟨t2, rfl⟩ := f1
          cases e2
          cases f2
          have hh : SeqAt.RcNeAt X.A s (.ref a) (.ref b) (!((List.range (min 2 2)).all (fun _ => true) && (2 : Nat) == 2)) := SeqAt.RcNeAt.tuples p1 p2 (by omega) fun j h1 h2 => by
            match j, h1 with
            | 0, _ =>
              have e : SeqAt.EqAt X.A.in1 s (Value.str z t1) (Value.str z t2) (z == z) := SeqAt.EqAt.str_str z t1 z t2
              rw [show (z == z) = true by simp] at e
              exact e
            | 1, _ => exact SeqAt.EqAt.same _
          exact hh _ _ _ _ ⟨.bl false, H, I, rfl, q⟩
end TX

set_option Elab.async false
set_option linter.all false
set_option maxRecDepth 100000
set_option maxHeartbeats 4000000
/-! The call of a lambda with one name, a pair's key: the whole heap stays. -/
namespace TX
open PySem PySem.Spec PyProof.Rows L2 Evl Pen EV2
section
variable {prog : Program} {w : World} {A : Around} {E : Value → Shared → Prop} {s : Shared} {env : Env} {x : Str} {m : Str → Option Value} {T : Addr} {its : Array Value} {j : Nat} {v : Value} {Q : Value → Shared → Prop}
theorem raw_name {p : Pos} (hk : env.scope.kind = .function) (hl : env.kindOf x = some .local) (hn : s.heap.Ns env.locals m) (hm : m x = some v) (hd : (x == ("__debug__" : Str)) = false) (q : Q v s) : wpAny (model prog w) A (eval (.Name x p) env) Q E s :=
  wpAny_Name (wpAny_loadName_local hk hl hn hm q) hd
theorem seqIx {j n : Nat} (h : j < n) : seqIndex? (j : Int) n = some j := by
  unfold seqIndex?
  first
    | (rw [if_pos (by omega)]; simp; done)
    | (simp; omega)
theorem raw_sub {p1 p2 p3 : Pos} {k : Nat} (hk : env.scope.kind = .function) (hl : env.kindOf x = some .local) (hn : s.heap.Ns env.locals m) (hm : m x = some (.ref T)) (hd : (x == ("__debug__" : Str)) = false) (ht : s.heap.IsTuple T its) (hj : its.toList[j]? = some v) (hz : its.size ≤ 100)
    (q : ∀ tk, Q v { s with toks := tk }) : wpAny (model prog w) A (eval (.Subscript (.Name x p1) (.Constant (.int (j : Int)) k p2) p3) env) Q E s := by
  refine Subscript_ (raw_name hk hl hn hm hd (wpAny_Constant_int ?_))
  have hlt : j < its.size := by
    have := (List.getElem?_eq_some_iff.mp hj).1
    simpa using this
  exact subscriptTail_builtinR (x := v) ht.typeIs slot_tuple_getitem.lookup (getItem_tuple (j := j) (Q := fun r s' => r = v ∧ Q r s') ht (by omega) (by omega) (seqIx hlt) (by simpa using hj) ⟨rfl, q _⟩)
/-- the lambda's body: a pair of the first item and not the second -/
theorem raw_key {p1 p2 p3 p4 p5 p6 p7 p8 : Pos} {k1 k2 k3 : Nat} {n : Int} {t : Tok} {b : Bool} (hk : env.scope.kind = .function) (hl : env.kindOf x = some .local) (hn : s.heap.Ns env.locals m) (hm : m x = some (.ref T)) (hd : (x == ("__debug__" : Str)) = false) (ht : s.heap.IsTuple T its) (hi : its.toList = [.int n t, .bool b])
    (q : ∀ tk, Q (.ref s.heap.objs.size) { s with heap := s.heap.push { cls := .type "tuple", data := .seq #[.int n t, .bool (!b)] }, toks := tk }) :
    wpAny (model prog w) A (eval (.Tuple [.Subscript (.Name x p1) (.Constant (.int 0) k1 p2) p3, .UnaryOp .Not (.Subscript (.Name x p4) (.Constant (.int 1) k2 p5) p6) p7] k3 p8) env) Q E s := by
  have hz : its.size ≤ 100 := by
    have : its.toList.length = 2 := by rw [hi]; rfl
    have h2 : its.size = 2 := by simpa using this
    omega
  refine wpAny_Tuple_spliced ?_
  show wpAny (model prog w) A (spliced [(false, eval (.Subscript (.Name x p1) (.Constant (.int 0) k1 p2) p3) env), (false, eval (.UnaryOp .Not (.Subscript (.Name x p4) (.Constant (.int 1) k2 p5) p6) p7) env)]) _ E s
  refine Calls.spliced_cons (raw_sub (j := 0) hk hl hn hm hd ht (by rw [hi]; rfl) hz fun tk => ?_)
  refine Calls.spliced_cons (UnaryOp_ (raw_sub (s := { s with toks := tk }) (j := 1) (v := .bool b) hk hl hn hm hd ht (by rw [hi]; rfl) hz fun tk2 => ?_))
  refine not_of (wpAny_truthy_bool ?_)
  refine Calls.spliced_nil ⟨by show 2 ≤ sizeLine; decide, q tk2⟩
/-- the call of the lambda at f with the pair at a: the key, and the whole heap stays -/
theorem lam_key {f a c' : Addr} {qual : Str} {params : Arguments} {scope : Scope} {pm ctv : Value} {p1 p2 p3 p4 p5 p6 p7 p8 : Pos} {k1 k2 k3 : Nat} {n : Int} {t : Tok} {b : Bool} (hdp : A.depth < recursionLimit)
    (hf : s.heap.get? f = some (PySem.W.kla_obj "<lambda>" qual params (.Tuple [.Subscript (.Name x p1) (.Constant (.int 0) k1 p2) p3, .UnaryOp .Not (.Subscript (.Name x p4) (.Constant (.int 1) k2 p5) p6) p7] k3 p8) scope [] pm c' ctv))
    (hco : scope.isCoroutine = false) (hgen : scope.isGenerator = false) (hk : scope.kind = .function) (hnc : ∀ y ∈ scope.names, y.2 ≠ .cell) (hl : scope.names.lookup x = some .local) (hd : (x == ("__debug__" : Str)) = false)
    (hcd : s.heap.CodeRec (.ref c') qual) (lim : s.heap.NoLimit) (ht : s.heap.IsTuple a its) (hi : its.toList = [.int n t, .bool b])
    (hbind : bindArgs (PySem.W.kla_fn "<lambda>" qual params (.Tuple [.Subscript (.Name x p1) (.Constant (.int 0) k1 p2) p3, .UnaryOp .Not (.Subscript (.Name x p4) (.Constant (.int 1) k2 p5) p6) p7] k3 p8) scope [] pm (.ref c') ctv) ⟨[.ref a], []⟩ = pure [(x, .ref a)]) :
    wpAny (model prog w) A (call (.ref f) [.ref a]) (PySem.W.KeyPure (.tuple [.int n, .bool (!b)]) s) (fun _ _ => False) s := by
  refine wpAny_call (PySem.W.kla_callFunE hdp hf rfl hco hgen rfl hcd ?_)
  rw [hbind]
  refine wpAny_pure (wpAny_newFunctionEnv hnc (fun y hy => by rw [List.mem_singleton.mp hy]; exact hl) (fun h₁ hns hsb => ⟨lim.fresh _ hsb, ?_⟩) hk)
  refine PySem.W.kla_codeExpr ?_
  have kp : ∀ b o, s.heap.get? b = some o → h₁.get? b = some o := fun b o e => hsb.extBut b o (Nat.ne_of_lt (Heap.lt_size e)) (Heap.get?_push_of_some _ e)
  have ht' : h₁.IsTuple a its := by
    obtain ⟨o, e, c, r⟩ := ht
    exact ⟨o, kp _ _ e, c, r⟩
  refine raw_key (m := fun y => [(x, Value.ref a)].reverse.lookup y) hk hl hns (by simp) hd ht' hi fun tk => ?_
  refine ⟨_, tk, rfl, fun b o e => Heap.get?_push_of_some _ (kp b o e), ?_⟩
  exact .tuple (as := [] ++ ([] ++ [])) (Heap.get?_push_size _ rfl) rfl rfl (.cons (.int _ _) (.cons (.bool _) .nil))
end
end TX

set_option Elab.async false
set_option linter.all false
set_option maxRecDepth 100000
set_option maxHeartbeats 4000000
/-! What defs compute, told by values without a heap (D): the relation of values and heaps, what is wanted behind a result. -/
namespace DN
open PySem PySem.Spec PyProof.Rows L2 Evl LamX
/-- the state of a pen: its cells, how many were taken, what is left -/
structure PS where
  cs : List Int
  i : Int
  r : Int
  c : Addr
inductive D where
  | non | bl (b : Bool) | int (i : Int) | str (s : Str) | ty (n : String) | adr (a : Addr) | pen
  | tup (xs : List D) | lst (xs : List D) | dct
  | tpf (xs : List D)
  | obj (c : Nat) (fs : List (Str × D))
inductive Res (α : Type) where
  | ok (a : α) (s : PS)
  | err (c : Nat) (fs : List (Str × D)) (s : PS)
  | bad
abbrev M (α : Type) := PS → Res α
def bnd {α β : Type} (r : Res α) (f : α → M β) : Res β := match r with
  | .ok a s => f a s
  | .err c fs s => .err c fs s
  | .bad => .bad
structure Gam where
  K : PySem.W.Frag
  cls : Nat → Addr
  k1 : Str
  k2 : Str
  k3 : Str
  TT : List (Addr × Str)
/-- the heap without some addresses -/
def msk (A : List Addr) (H : Hp) : Hp := fun b => if b ∈ A then none else H b
/-- all but dicts and tables stays -/
structure Grow (H H' : Hp) : Prop where
  keep : ∀ a o, H a = some o → (∀ p kv, o ≠ .dK (p :: kv)) → (∀ ps, o ≠ .tbl ps) → H' a = some o
  dom : ∀ a, H a ≠ none → H' a ≠ none
theorem Grow.refl (H : Hp) : Grow H H := ⟨fun _ _ h _ _ => h, fun _ h => h⟩
theorem Grow.trans {H H1 H2 : Hp} (a : Grow H H1) (b : Grow H1 H2) : Grow H H2 := ⟨fun x o h n1 n2 => b.keep x o (a.keep x o h n1 n2) n1 n2, fun x h => b.dom x (a.dom x h)⟩
theorem Grow.ex {H H' : Hp} (e : Ex H H') : Grow H H' := ⟨fun a o h _ _ => e a o h, fun a h => by
  cases q : H a with
  | none => exact absurd q h
  | some o => rw [e a o q]; simp⟩
theorem Grow.extN {H H' : Hp} (e : ExtN H H') (d : ∀ a ps, H a = some (.tbl ps) → H' a ≠ none) : Grow H H' := ⟨fun a o h _ n => e a o h n, fun a h => by
  cases q : H a with
  | none => exact absurd q h
  | some o =>
    by_cases n : ∃ ps, o = .tbl ps
    · obtain ⟨ps, rfl⟩ := n
      exact d a ps q
    · rw [e a o q (fun ps z => n ⟨ps, z⟩)]; simp⟩
theorem Grow.fresh {H H' : Hp} {p : Addr} (g : Grow H H') (h : H' p = none) : H p = none := by
  cases q : H p with
  | none => rfl
  | some o => exact absurd h (g.dom p (by rw [q]; simp))
theorem Grow.new {H : Hp} {p : Addr} {o : HO} (h : H p = none) : Grow H (upd H p o) := .ex (Ex.new h)
section
variable {A B : List Addr} {H H' : Hp} {a p : Addr} {o : HO}
theorem msk_in (h : a ∈ A) : msk A H a = none := if_pos h
theorem msk_out (h : a ∉ A) : msk A H a = H a := if_neg h
theorem of_msk (h : msk A H a = some o) : a ∉ A ∧ H a = some o := by
  unfold msk at h
  split at h
  · cases h
  · exact ⟨‹_›, h⟩
theorem msk_nil : msk [] H = H := by funext b; exact if_neg (by simp)
theorem Grow.msk (g : Grow H H') : Grow (msk A H) (msk A H') := ⟨fun a o h n1 n2 => by
  obtain ⟨h1, h2⟩ := of_msk h
  rw [msk_out h1]
  exact g.keep a o h2 n1 n2, fun a h => by
  by_cases q : a ∈ A
  · exact absurd (msk_in q) h
  · rw [msk_out q] at h ⊢
    exact g.dom a h⟩
theorem msk_sub (s : ∀ a ∈ B, a ∈ A) : Ex (msk A H) (msk B H) := fun a o h => by
  obtain ⟨h1, h2⟩ := of_msk h
  rw [msk_out fun z => h1 (s a z)]
  exact h2
theorem msk_to (h : ∀ a, a ∉ A → H a = H' a) : msk A H = msk A H' := by
  funext a
  by_cases q : a ∈ A
  · rw [msk_in q, msk_in q]
  · rw [msk_out q, msk_out q, h a q]
theorem msk_upd (h : p ∈ A) : msk A (upd H p o) = msk A H := msk_to fun a q => upd_ne fun z => q (z ▸ h)
end
theorem Grow.rd {H H' : Hp} {a : Addr} {u : HO} (g : Grow H H') (h : Rd H a u) (n1 : ∀ p kv, u ≠ .dK (p :: kv)) (n2 : ∀ ps, u ≠ .tbl ps) : Rd H' a u := by
  rcases h with h | ⟨o, h⟩
  · exact .inl (g.keep a _ h n1 n2)
  · exact .inr ⟨o, g.keep a _ h (fun _ _ z => by cases z) fun _ z => by cases z⟩
theorem Grow.sqL {K : PySem.W.Frag} {H H' : Hp} {a : Addr} {xs : List V} (g : Grow H H') (h : SqL K H a xs) : SqL K H' a xs := by
  rcases h with h | h
  · exact .inl (g.rd h (fun _ _ z => by cases z) fun _ z => by cases z)
  · exact .inr h
theorem Grow.sqT {K : PySem.W.Frag} {H H' : Hp} {a : Addr} {xs : List V} (g : Grow H H') (h : SqT K H a xs) : SqT K H' a xs := by
  rcases h with h | h
  · exact .inl (g.rd h (fun _ _ z => by cases z) fun _ z => by cases z)
  · exact .inr h
/-! ### values and heaps -/
mutual
inductive Rep (Γ : Gam) (q : Option Addr) (H : Hp) : V → D → Prop
  | non : Rep Γ q H .non .non
  | bl (b : Bool) : Rep Γ q H (.bl b) (.bl b)
  | int (i : Int) : Rep Γ q H (.int i) (.int i)
  | str (s : Str) : Rep Γ q H (.str s) (.str s)
  | ty (n : String) : Rep Γ q H (.ty n) (.ty n)
  | adr (a : Addr) : Rep Γ q H (.ref a) (.adr a)
  | pen {a : Addr} (h : q = some a) : Rep Γ q H (.ref a) .pen
  | tup {a : Addr} {vs : List V} {ds : List D} (h : SqT Γ.K H a vs) (r : RepL Γ q H vs ds) : Rep Γ q H (.ref a) (.tup ds)
  | lst {a : Addr} {vs : List V} {ds : List D} (h : SqL Γ.K H a vs) (r : RepL Γ q H vs ds) : Rep Γ q H (.ref a) (.lst ds)
  | tpf {a : Addr} {o : Obj} {vs : List V} {ds : List D} (h : H a = some (.frz o (.tup vs))) (hd : o.dict = none) (r : RepL Γ q H vs ds) : Rep Γ q H (.ref a) (.tpf ds)
  | dct {a : Addr} (h : H a = some (.dK [])) : Rep Γ q H (.ref a) .dct
  | obj {a dx : Addr} {c : Nat} {fs : List (Str × V)} {gs : List (Str × D)} (h : H a = some (.ins (Γ.cls c) dx fs)) (r : RepF Γ q H fs gs) : Rep Γ q H (.ref a) (.obj c gs)
inductive RepL (Γ : Gam) (q : Option Addr) (H : Hp) : List V → List D → Prop
  | nil : RepL Γ q H [] []
  | cons {v : V} {d : D} {vs : List V} {ds : List D} (h : Rep Γ q H v d) (r : RepL Γ q H vs ds) : RepL Γ q H (v :: vs) (d :: ds)
inductive RepF (Γ : Gam) (q : Option Addr) (H : Hp) : List (Str × V) → List (Str × D) → Prop
  | nil : RepF Γ q H [] []
  | cons {f : Str} {v : V} {d : D} {vs : List (Str × V)} {ds : List (Str × D)} (h : Rep Γ q H v d) (r : RepF Γ q H vs ds) : RepF Γ q H ((f, v) :: vs) ((f, d) :: ds)
end
mutual
theorem Rep.mono {Γ : Gam} {q : Option Addr} {H H' : Hp} (g : Grow H H') : ∀ {v : V} {d : D}, Rep Γ q H v d → Rep Γ q H' v d
  | _, _, .non => .non
  | _, _, .bl b => .bl b
  | _, _, .int i => .int i
  | _, _, .str s => .str s
  | _, _, .ty n => .ty n
  | _, _, .adr a => .adr a
  | _, _, .pen h => .pen h
  | _, _, .tup h r => .tup (g.sqT h) (RepL.mono g r)
  | _, _, .lst h r => .lst (g.sqL h) (RepL.mono g r)
  | _, _, .tpf h hd r => .tpf (g.keep _ _ h (fun _ _ z => by cases z) fun _ z => by cases z) hd (RepL.mono g r)
  | _, _, .dct h => .dct (g.keep _ _ h (fun _ _ z => by cases z) fun _ z => by cases z)
  | _, _, .obj h r => .obj (g.keep _ _ h (fun _ _ z => by cases z) fun _ z => by cases z) (RepF.mono g r)
theorem RepL.mono {Γ : Gam} {q : Option Addr} {H H' : Hp} (g : Grow H H') : ∀ {vs : List V} {ds : List D}, RepL Γ q H vs ds → RepL Γ q H' vs ds
  | _, _, .nil => .nil
  | _, _, .cons h r => .cons (Rep.mono g h) (RepL.mono g r)
theorem RepF.mono {Γ : Gam} {q : Option Addr} {H H' : Hp} (g : Grow H H') : ∀ {vs : List (Str × V)} {ds : List (Str × D)}, RepF Γ q H vs ds → RepF Γ q H' vs ds
  | _, _, .nil => .nil
  | _, _, .cons h r => .cons (Rep.mono g h) (RepF.mono g r)
end
section
variable {Γ : Gam} {q : Option Addr} {H : Hp}
theorem RepL.length : ∀ {vs : List V} {ds : List D}, RepL Γ q H vs ds → vs.length = ds.length
  | _, _, .nil => rfl
  | _, _, .cons _ r => by rw [List.length_cons, List.length_cons, r.length]
theorem RepL.get : ∀ {vs : List V} {ds : List D} {i : Nat} {d : D}, RepL Γ q H vs ds → ds[i]? = some d → ∃ v, vs[i]? = some v ∧ Rep Γ q H v d
  | _, _, _, _, .nil, e => by simp at e
  | _, _, 0, _, .cons r _, e => by simp at e; subst e; exact ⟨_, rfl, r⟩
  | _, _, i + 1, d, .cons _ t, e => by
    obtain ⟨v, h1, h2⟩ := RepL.get (i := i) (d := d) t (by simpa using e)
    exact ⟨v, by simpa using h1, h2⟩
theorem RepL.getV : ∀ {vs : List V} {ds : List D} {i : Nat} {v : V}, RepL Γ q H vs ds → vs[i]? = some v → ∃ d, ds[i]? = some d ∧ Rep Γ q H v d
  | _, _, _, _, .nil, e => by simp at e
  | _, _, 0, _, .cons r _, e => by simp at e; subst e; exact ⟨_, rfl, r⟩
  | _, _, i + 1, d, .cons _ t, e => by
    obtain ⟨v, h1, h2⟩ := RepL.getV (i := i) (v := d) t (by simpa using e)
    exact ⟨v, by simpa using h1, h2⟩
theorem RepL.append : ∀ {vs ws : List V} {ds es : List D}, RepL Γ q H vs ds → RepL Γ q H ws es → RepL Γ q H (vs ++ ws) (ds ++ es)
  | _, _, _, _, .nil, s => s
  | _, _, _, _, .cons r t, s => .cons r (RepL.append t s)
theorem RepL.take : ∀ {vs : List V} {ds : List D} (n : Nat), RepL Γ q H vs ds → RepL Γ q H (vs.take n) (ds.take n)
  | _, _, 0, _ => .nil
  | _, _, _ + 1, .nil => .nil
  | _, _, n + 1, .cons r t => .cons r (RepL.take n t)
theorem RepL.drop : ∀ {vs : List V} {ds : List D} (n : Nat), RepL Γ q H vs ds → RepL Γ q H (vs.drop n) (ds.drop n)
  | _, _, 0, r => r
  | _, _, _ + 1, .nil => .nil
  | _, _, n + 1, .cons _ t => RepL.drop n t
theorem RepL.set {v : V} {d : D} (r : Rep Γ q H v d) : ∀ {vs : List V} {ds : List D} (i : Nat), RepL Γ q H vs ds → RepL Γ q H (vs.set i v) (ds.set i d)
  | _, _, _, .nil => .nil
  | _, _, 0, .cons _ t => .cons r t
  | _, _, i + 1, .cons h t => .cons h (RepL.set r i t)
theorem RepL.reverse : ∀ {vs : List V} {ds : List D}, RepL Γ q H vs ds → RepL Γ q H vs.reverse ds.reverse
  | _, _, .nil => .nil
  | _, _, .cons h r => by
    rw [List.reverse_cons, List.reverse_cons]
    exact RepL.append (RepL.reverse r) (.cons h .nil)
theorem RepL.replicate {v : V} {d : D} (r : Rep Γ q H v d) : ∀ n, RepL Γ q H (List.replicate n v) (List.replicate n d)
  | 0 => .nil
  | n + 1 => .cons r (RepL.replicate r n)
theorem RepL.ints : ∀ (ns : List Int), RepL Γ q H (ns.map V.int) (ns.map D.int)
  | [] => .nil
  | n :: ns => .cons (.int n) (RepL.ints ns)
theorem RepL.toInts : ∀ {vs : List V} {ns : List Int}, RepL Γ q H vs (ns.map D.int) → vs = ns.map V.int
  | _, [], .nil => rfl
  | _, n :: ns, .cons h r => by
    cases h
    rw [RepL.toInts r]
    rfl
theorem RepF.lookup {f : Str} : ∀ {vs : List (Str × V)} {ds : List (Str × D)}, RepF Γ q H vs ds → (∀ d, ds.lookup f = some d → ∃ v, vs.lookup f = some v ∧ Rep Γ q H v d) ∧ (ds.lookup f = none → vs.lookup f = none)
  | _, _, .nil => ⟨fun _ h => by simp at h, fun _ => rfl⟩
  | _, _, .cons (f := g) (v := v) (d := e) h r => by
    obtain ⟨h1, h2⟩ := RepF.lookup (f := f) r
    by_cases z : f = g
    · have zb : (f == g) = true := beq_iff_eq.mpr z
      constructor
      · intro d hd
        simp only [List.lookup, zb] at hd ⊢
        cases hd
        exact ⟨v, rfl, h⟩
      · intro hn
        simp only [List.lookup, zb] at hn
        cases hn
    · have zb : (f == g) = false := beq_eq_false_iff_ne.mpr z
      constructor
      · intro d hd
        simp only [List.lookup, zb] at hd ⊢
        exact h1 d hd
      · intro hn
        simp only [List.lookup, zb] at hn ⊢
        exact h2 hn
theorem RepF.length : ∀ {vs : List (Str × V)} {ds : List (Str × D)}, RepF Γ q H vs ds → vs.length = ds.length
  | _, _, .nil => rfl
  | _, _, .cons _ r => by rw [List.length_cons, List.length_cons, r.length]
def putD (f : Str) (v : D) : List (Str × D) → List (Str × D)
  | [] => [(f, v)]
  | (g, x) :: r => if g = f then (g, v) :: r else (g, x) :: putD f v r
theorem RepF.put {f : Str} {v : V} {d : D} (h : Rep Γ q H v d) : ∀ {vs : List (Str × V)} {ds : List (Str × D)}, RepF Γ q H vs ds → RepF Γ q H (putF f v vs) (putD f d ds)
  | _, _, .nil => .cons h .nil
  | _, _, .cons (f := g) r t => by
    unfold putF putD
    split
    · exact .cons h t
    · exact .cons r (RepF.put h t)
end
/-! ### what is known of the heap all the while -/
/-- what may be changed by the one who owns it -/
def Ownb (H : Hp) (a : Addr) : Prop := (∃ vs, H a = some (.lst vs)) ∨ ∃ C dx fs, H a = some (.ins C dx fs)
structure EI (Γ : Gam) (q : Option Addr) (A : List Addr) (H : Hp) (s : PS) : Prop where
  pen : ∀ a, q = some a → ∃ c, c ∉ A ∧ Pen.At Γ.k1 Γ.k2 Γ.k3 H a c s.cs s.i s.r ∧ c = s.c
  tab : Tabs Γ.TT H
  own : ∀ a ∈ A, Ownb H a
section
variable {Γ : Gam} {q : Option Addr} {A : List Addr} {H H' : Hp} {s : PS}
theorem EI.ex (e : EI Γ q A H s) (x : Ex H H') : EI Γ q A H' s := ⟨fun a h => let ⟨c, h1, h2, h3⟩ := e.pen a h; ⟨c, h1, h2.keep fun b o z => x b o z, h3⟩, e.tab.ext x, fun a h => by
  rcases e.own a h with ⟨vs, h⟩ | ⟨C, dx, fs, h⟩
  · exact .inl ⟨vs, x _ _ h⟩
  · exact .inr ⟨C, dx, fs, x _ _ h⟩⟩
theorem EI.new {p : Addr} {o : HO} (e : EI Γ q A H s) (h : H p = none) : EI Γ q A (upd H p o) s := e.ex (Ex.new h)
theorem EI.out {p : Addr} (e : EI Γ q A H s) (h : H p = none) : p ∉ A := fun z => by
  rcases e.own p z with ⟨vs, w⟩ | ⟨C, dx, fs, w⟩ <;> (rw [h] at w; cases w)
theorem EI.less {B : List Addr} (e : EI Γ q A H s) (h : ∀ a ∈ B, a ∈ A) : EI Γ q B H s := ⟨fun a z => let ⟨c, h1, h2⟩ := e.pen a z; ⟨c, fun w => h1 (h c w), h2⟩, e.tab, fun a z => e.own a (h a z)⟩
theorem msk_new {p : Addr} {o : HO} (h : p ∉ A) : msk A (upd H p o) = upd (msk A H) p o := by
  funext b
  by_cases z : b = p
  · subst z
    rw [msk_out h, upd_same, upd_same]
  · rw [upd_ne z]
    by_cases w : b ∈ A
    · rw [msk_in w, msk_in w]
    · rw [msk_out w, msk_out w, upd_ne z]
end
/-! ### what is wanted behind a result -/
/-- an error's fields -/
def XRep (Γ : Gam) (q : Option Addr) (A : List Addr) (H : Hp) (x : Option Addr) : List (Str × D) → Prop
  | [] => x = none
  | f :: fs => ∃ a ws, x = some a ∧ H a = some (.xd ws) ∧ RepF Γ q (msk A H) ws (f :: fs)
def PostG {α β : Type} (Γ : Gam) (q : Option Addr) (A : List Addr) (H : Hp) (R : Hp → β → α → Prop) (r : Res α) (Q : β → Hp → Prop) (E : XK) : Prop := match r with
  | .ok d s => ∀ v H', Grow H H' → EI Γ q A H' s → R H' v d → Q v H'
  | .err c fs s => ∀ x H', Grow H H' → EI Γ q A H' s → XRep Γ q A H' x fs → E (.ref (Γ.cls c)) x H'
  | .bad => False
abbrev RE (Γ : Gam) (q : Option Addr) (A : List Addr) : Hp → V → D → Prop := fun H v d => Rep Γ q (msk A H) v d
abbrev RA (Γ : Gam) (q : Option Addr) (A : List Addr) : Hp → List V → List D → Prop := fun H v d => RepL Γ q (msk A H) v d
abbrev RT : Hp → Bool → Bool → Prop := fun _ v d => v = d
section
variable {α β γ δ : Type} {Γ : Gam} {q : Option Addr} {A : List Addr} {H H1 : Hp} {R : Hp → β → α → Prop} {R2 : Hp → δ → γ → Prop} {r : Res α} {Q : β → Hp → Prop} {Q2 : δ → Hp → Prop} {E : XK}
theorem PostG.mono (p : PostG Γ q A H R r Q E) (g : Grow H H1) : PostG Γ q A H1 R r Q E := by
  cases r with
  | ok d s => exact fun v H' g1 e rr => p v H' (g.trans g1) e rr
  | err c fs s => exact fun x H' g1 e xr => p x H' (g.trans g1) e xr
  | bad => exact p
theorem post_bnd {f : α → M γ} (p : PostG Γ q A H R2 (bnd r f) Q2 E) (k : ∀ a s, r = .ok a s → ∀ b H1, Grow H H1 → EI Γ q A H1 s → R H1 b a → PostG Γ q A H1 R2 (f a s) Q2 E → Q b H1) : PostG Γ q A H R r Q E := by
  cases r with
  | ok d s => exact fun v H' g e rr => k d s rfl v H' g e rr (PostG.mono p g)
  | err c fs s => exact p
  | bad => exact p
end
/-! ### slots -/
inductive Sl where
  | emp
  | val (d : D)
  | own (o : Option Addr) (d : D)
abbrev Sto := List Sl
def OwnAt (Γ : Gam) (q : Option Addr) (A : List Addr) (H : Hp) (a : Addr) : D → Prop
  | .lst ds => ∃ vs, H a = some (.lst vs) ∧ RepL Γ q (msk A H) vs ds
  | .obj c gs => ∃ dx fs, H a = some (.ins (Γ.cls c) dx fs) ∧ RepF Γ q (msk A H) fs gs
  | _ => False
structure StR (Γ : Gam) (q : Option Addr) (B A : List Addr) (H : Hp) (σ : L2.St) (τ : Sto) : Prop where
  len : σ.length = τ.length
  val : ∀ (i : Nat) (d : D), τ[i]? = some (.val d) → ∃ v, σ[i]? = some (some v) ∧ Rep Γ q (msk A H) v d
  own : ∀ (i : Nat) (z : Option Addr) (d : D), τ[i]? = some (.own z d) → ∃ a, σ[i]? = some (some (.ref a)) ∧ (a ∈ A ∧ a ∉ B) ∧ OwnAt Γ q A H a d ∧ (∀ x, z = some x → a = x) ∧ ∀ (j : Nat) (y : Option Addr) (e : D), τ[j]? = some (.own y e) → σ[j]? = some (some (.ref a)) → i = j
section
variable {Γ : Gam} {q : Option Addr} {B A : List Addr} {H H' : Hp} {σ : L2.St} {τ : Sto} {v : V} {d : D} {i : Nat}
theorem OwnAt.grow {a : Addr} (g : Grow H H') : ∀ {d : D}, OwnAt Γ q A H a d → OwnAt Γ q A H' a d
  | .lst ds, ⟨vs, h, r⟩ => ⟨vs, g.keep _ _ h (fun _ _ z => by cases z) (fun _ z => by cases z), r.mono g.msk⟩
  | .obj c gs, ⟨dx, fs, h, r⟩ => ⟨dx, fs, g.keep _ _ h (fun _ _ z => by cases z) (fun _ z => by cases z), r.mono g.msk⟩
theorem StR.grow (r : StR Γ q B A H σ τ) (g : Grow H H') : StR Γ q B A H' σ τ :=
  ⟨r.len, fun i d h => let ⟨v, h1, h2⟩ := r.val i d h; ⟨v, h1, h2.mono g.msk⟩, fun i z d h => let ⟨a, h1, h2, h3, h4⟩ := r.own i z d h; ⟨a, h1, h2, h3.grow g, h4⟩⟩
theorem get_set {α : Type} {l : List α} {i j : Nat} {x y : α} (h : (l.set i x)[j]? = some y) : (j = i ∧ y = x ∧ i < l.length) ∨ (j ≠ i ∧ l[j]? = some y) := by
  by_cases e : j = i
  · subst e
    rw [List.getElem?_set] at h
    simp at h
    exact .inl ⟨rfl, h.2.symm, h.1⟩
  · rw [List.getElem?_set_ne (fun z => e z.symm)] at h
    exact .inr ⟨e, h⟩
theorem StR.set (r : StR Γ q B A H σ τ) (h : Rep Γ q (msk A H) v d) : StR Γ q B A H (σ.set i (some v)) (τ.set i (.val d)) := by
  refine ⟨by rw [List.length_set, List.length_set, r.len], fun j e hj => ?_, fun j y e hj => ?_⟩
  · rcases get_set hj with ⟨rfl, h1, h2⟩ | ⟨h1, h2⟩
    · cases h1
      exact ⟨v, by rw [List.getElem?_set_self (by rw [r.len]; exact h2)], h⟩
    · obtain ⟨u, h3, h4⟩ := r.val j e h2
      exact ⟨u, by rw [List.getElem?_set_ne (fun z => h1 z.symm)]; exact h3, h4⟩
  · rcases get_set hj with ⟨rfl, h1, h2⟩ | ⟨h1, h2⟩
    · cases h1
    · obtain ⟨a, h3, h4, h5, h5', h6⟩ := r.own j y e h2
      refine ⟨a, by rw [List.getElem?_set_ne (fun z => h1 z.symm)]; exact h3, h4, h5, h5', fun k x f hk hs => ?_⟩
      rcases get_set hk with ⟨rfl, h7, _⟩ | ⟨h7, h8⟩
      · cases h7
      · exact h6 k x f h8 (by rw [List.getElem?_set_ne (fun z => h7 z.symm)] at hs; exact hs)
theorem StR.emp (r : StR Γ q B A H σ τ) (w : Option V) : StR Γ q B A H (σ.set i w) (τ.set i .emp) := by
  refine ⟨by rw [List.length_set, List.length_set, r.len], fun j e hj => ?_, fun j y e hj => ?_⟩
  · rcases get_set hj with ⟨rfl, h1, h2⟩ | ⟨h1, h2⟩
    · cases h1
    · obtain ⟨u, h3, h4⟩ := r.val j e h2
      exact ⟨u, by rw [List.getElem?_set_ne (fun z => h1 z.symm)]; exact h3, h4⟩
  · rcases get_set hj with ⟨rfl, h1, h2⟩ | ⟨h1, h2⟩
    · cases h1
    · obtain ⟨a, h3, h4, h5, h5', h6⟩ := r.own j y e h2
      refine ⟨a, by rw [List.getElem?_set_ne (fun z => h1 z.symm)]; exact h3, h4, h5, h5', fun k x f hk hs => ?_⟩
      rcases get_set hk with ⟨rfl, h7, _⟩ | ⟨h7, h8⟩
      · cases h7
      · exact h6 k x f h8 (by rw [List.getElem?_set_ne (fun z => h7 z.symm)] at hs; exact hs)
/-- a slot is forgotten, its value stays in the def -/
theorem StR.drop (r : StR Γ q B A H σ τ) : StR Γ q B A H σ (τ.set i .emp) := by
  refine ⟨by rw [List.length_set, r.len], fun j e hj => ?_, fun j y e hj => ?_⟩
  · rcases get_set hj with ⟨rfl, h1, h2⟩ | ⟨h1, h2⟩
    · cases h1
    · exact r.val j e h2
  · rcases get_set hj with ⟨rfl, h1, h2⟩ | ⟨h1, h2⟩
    · cases h1
    · obtain ⟨a, h3, h4, h5, h5', h6⟩ := r.own j y e h2
      refine ⟨a, h3, h4, h5, h5', fun k x f hk hs => ?_⟩
      rcases get_set hk with ⟨rfl, h7, _⟩ | ⟨h7, h8⟩
      · cases h7
      · exact h6 k x f h8 hs
theorem msk_more {p : Addr} : Ex (msk (p :: A) H) (msk A H) := msk_sub fun a h => List.mem_cons_of_mem _ h
theorem OwnAt.more {p a : Addr} (hn : Ex (msk A H) (msk (p :: A) H')) (ha : H' a = H a) : ∀ {d : D}, OwnAt Γ q A H a d → OwnAt Γ q (p :: A) H' a d
  | .lst ds, ⟨vs, h, r⟩ => ⟨vs, by rw [ha]; exact h, r.mono (.ex hn)⟩
  | .obj c gs, ⟨dx, fs, h, r⟩ => ⟨dx, fs, by rw [ha]; exact h, r.mono (.ex hn)⟩
/-- a new thing is owned: H ahead of it, H' with it -/
theorem StR.take (r : StR Γ q B A H σ τ) {p : Addr} (hn : H p = none) (hp : p ∉ A) (hB : ∀ a ∈ B, a ∈ A) (he : ∀ b, H b ≠ none → H' b = H b) (ho : OwnAt Γ q (p :: A) H' p d) : StR Γ q B (p :: A) H' (σ.set i (some (.ref p))) (τ.set i (.own none d)) := by
  have hx : Ex (msk A H) (msk (p :: A) H') := fun b o hb => by
    obtain ⟨h1, h2⟩ := of_msk hb
    have h3 : b ≠ p := ne_of_none h2 hn
    rw [msk_out (by simp only [List.mem_cons, not_or]; exact ⟨h3, h1⟩), he b (by rw [h2]; simp)]
    exact h2
  refine ⟨by rw [List.length_set, List.length_set, r.len], fun j e hj => ?_, fun j y e hj => ?_⟩
  · rcases get_set hj with ⟨rfl, h1, h2⟩ | ⟨h1, h2⟩
    · cases h1
    · obtain ⟨u, h3, h4⟩ := r.val j e h2
      exact ⟨u, by rw [List.getElem?_set_ne (fun z => h1 z.symm)]; exact h3, h4.mono (.ex hx)⟩
  · rcases get_set hj with ⟨rfl, h1, h2⟩ | ⟨h1, h2⟩
    · cases h1
      refine ⟨p, by rw [List.getElem?_set_self (by rw [r.len]; exact h2)], ⟨List.mem_cons_self .., fun z => hp (hB p z)⟩, ho, fun _ z => (by cases z), fun k x f hk hs => ?_⟩
      rcases get_set hk with ⟨rfl, _, _⟩ | ⟨h7, h8⟩
      · rfl
      · obtain ⟨a, h9, h10, _⟩ := r.own k x f h8
        rw [List.getElem?_set_ne (fun z => h7 z.symm), h9] at hs
        cases hs
        exact absurd h10.1 hp
    · obtain ⟨a, h3, h4, h5, h5', h6⟩ := r.own j y e h2
      have ha : H' a = H a := he a (by
        cases e with
        | lst ds => obtain ⟨vs, w1, _⟩ := h5; rw [w1]; simp
        | obj c gs => obtain ⟨dx, fs, w1, _⟩ := h5; rw [w1]; simp
        | _ => exact h5.elim)
      refine ⟨a, by rw [List.getElem?_set_ne (fun z => h1 z.symm)]; exact h3, ⟨List.mem_cons_of_mem _ h4.1, h4.2⟩, h5.more hx ha, h5', fun k x f hk hs => ?_⟩
      rcases get_set hk with ⟨rfl, h7, h8⟩ | ⟨h7, h8⟩
      · cases h7
        rw [List.getElem?_set_self (by rw [r.len]; exact h8)] at hs
        cases hs
        exact absurd h4.1 hp
      · exact h6 k x f h8 (by rw [List.getElem?_set_ne (fun z => h7 z.symm)] at hs; exact hs)
/-- what is owned is changed -/
theorem StR.put (r : StR Γ q B A H σ τ) {p : Addr} {o : HO} {z : Option Addr} (hi : τ[i]? = some (.own z d)) (hs : σ[i]? = some (some (.ref p))) {e : D} (ho : OwnAt Γ q A (upd H p o) p e) : StR Γ q B A (upd H p o) σ (τ.set i (.own z e)) := by
  obtain ⟨p', g1, hp, _, hz, hd⟩ := r.own i z d hi
  rw [hs] at g1
  cases g1
  have hm : msk A (upd H p o) = msk A H := msk_upd hp.1
  refine ⟨by rw [List.length_set, r.len], fun j f hj => ?_, fun j y f hj => ?_⟩
  · rcases get_set hj with ⟨rfl, h1, h2⟩ | ⟨h1, h2⟩
    · cases h1
    · obtain ⟨u, h3, h4⟩ := r.val j f h2
      exact ⟨u, h3, by rw [hm]; exact h4⟩
  · rcases get_set hj with ⟨rfl, h1, h2⟩ | ⟨h1, h2⟩
    · cases h1
      refine ⟨p, hs, hp, ho, hz, fun k x f hk hs2 => ?_⟩
      rcases get_set hk with ⟨rfl, _, _⟩ | ⟨h7, h8⟩
      · rfl
      · exact hd k x f h8 hs2
    · obtain ⟨a, h3, h4, h5, h5', h6⟩ := r.own j y f h2
      have na : a ≠ p := fun w => by
        subst w
        exact h1 (hd j y f h2 h3).symm
      have h5'' : OwnAt Γ q A (upd H p o) a f := by
        cases f with
        | lst ds => obtain ⟨vs, w1, w2⟩ := h5; exact ⟨vs, by rw [upd_ne na]; exact w1, by rw [hm]; exact w2⟩
        | obj c gs => obtain ⟨dx, fs, w1, w2⟩ := h5; exact ⟨dx, fs, by rw [upd_ne na]; exact w1, by rw [hm]; exact w2⟩
        | _ => exact h5.elim
      refine ⟨a, h3, h4, h5'', h5', fun k x g hk hs2 => ?_⟩
      rcases get_set hk with ⟨rfl, h7, h8⟩ | ⟨h7, h8⟩
      · cases h7
        rw [hs] at hs2
        cases hs2
        exact absurd rfl na
      · exact h6 k x g h8 hs2
end
end DN

set_option Elab.async false
set_option linter.all false
set_option maxRecDepth 100000
set_option maxHeartbeats 4000000
/-! Readings and what they compute: expressions, tests, arguments. -/
namespace DN
open PySem PySem.Spec PyProof.Rows L2 Evl LamX
abbrev XS := L2.St → XK
abbrev ME := Sto → M D
abbrev MT := Sto → M Bool
abbrev MA := Sto → M (List D)
def SndE (Γ : Gam) (E : XS) (te : TE) (me : ME) : Prop := ∀ q B A H σ τ s (Q : VK), EI Γ q A H s → StR Γ q B A H σ τ → PostG Γ q A H (RE Γ q A) (me τ s) Q (E σ) → te σ H Q
def SndT (Γ : Gam) (E : XS) (tt : TT) (mt : MT) : Prop := ∀ q B A H σ τ s (Q : Bool → Hp → Prop), EI Γ q A H s → StR Γ q B A H σ τ → PostG Γ q A H RT (mt τ s) Q (E σ) → tt σ H Q
def SndA (Γ : Gam) (E : XS) (ta : TA) (ma : MA) : Prop := ∀ q B A H σ τ s (Q : List V → Hp → Prop), EI Γ q A H s → StR Γ q B A H σ τ → PostG Γ q A H (RA Γ q A) (ma τ s) Q (E σ) → ta σ H Q
/-- an operation on two values, on one value, a call on values -/
def SndO (Γ : Gam) (E : XS) (r : R2) (f : D → D → M D) : Prop := ∀ q A H σ s v u x y (Q : VK), EI Γ q A H s → Rep Γ q (msk A H) v x → Rep Γ q (msk A H) u y → PostG Γ q A H (RE Γ q A) (f x y s) Q (E σ) → r v u H Q
def SndU (Γ : Gam) (E : XS) (r : V → Hp → VK → Prop) (f : D → M D) : Prop := ∀ q A H σ s v x (Q : VK), EI Γ q A H s → Rep Γ q (msk A H) v x → PostG Γ q A H (RE Γ q A) (f x s) Q (E σ) → r v H Q
def SndC (Γ : Gam) (E : XS) (r : List V → Hp → VK → Prop) (f : List D → M D) : Prop := ∀ q A H σ s vs ds (Q : VK), EI Γ q A H s → RepL Γ q (msk A H) vs ds → PostG Γ q A H (RE Γ q A) (f ds s) Q (E σ) → r vs H Q
def ret {α : Type} (a : α) : M α := fun s => .ok a s
def nope {α : Type} : M α := fun _ => .bad
section
variable {Γ : Gam} {E : XS} {ta tb te : TE} {ma mb me : ME} {t u : TT} {mt mu : MT} {tr : TA} {mr : MA} {r : R2} {v : V} {d : D}
/-! ### names, constants, operations -/
def mVar (i : Nat) : ME := fun τ s => match τ[i]? with | some (.val d) => .ok d s | _ => .bad
theorem se_var {i : Nat} : SndE Γ E (tVar i) (mVar i) := fun q B A H σ τ s Q ei st p => by
  unfold mVar at p
  split at p
  · rename_i d hd
    obtain ⟨v, h1, h2⟩ := st.val i d hd
    exact ⟨v, h1, p v H (Grow.refl H) ei h2⟩
  · exact p.elim
def mC (d : D) : ME := fun _ s => .ok d s
theorem se_c (h : ∀ q H, Rep Γ q H v d) : SndE Γ E (tC v) (mC d) := fun q B A H σ τ s Q ei st p => p v H (Grow.refl H) ei (h q _)
theorem se_int {i : Int} : SndE Γ E (tC (.int i)) (mC (.int i)) := se_c fun _ _ => .int i
theorem se_bl {b : Bool} : SndE Γ E (tC (.bl b)) (mC (.bl b)) := se_c fun _ _ => .bl b
theorem se_str {x : Str} : SndE Γ E (tC (.str x)) (mC (.str x)) := se_c fun _ _ => .str x
theorem se_non : SndE Γ E (tC .non) (mC .non) := se_c fun _ _ => .non
theorem se_ty {n : String} : SndE Γ E (tC (.ty n)) (mC (.ty n)) := se_c fun _ _ => .ty n
theorem se_adr {a : Addr} : SndE Γ E (tC (.ref a)) (mC (.adr a)) := se_c fun _ _ => .adr a
def mOp (f : D → D → M D) (ma mb : ME) : ME := fun τ s => bnd (ma τ s) fun x s1 => bnd (mb τ s1) fun y s2 => f x y s2
theorem se_op {f : D → D → M D} (hr : SndO Γ E r f) (ha : SndE Γ E ta ma) (hb : SndE Γ E tb mb) : SndE Γ E (tOp r ta tb) (mOp f ma mb) := fun q B A H σ τ s Q ei st p =>
  ha q B A H σ τ s _ ei st (post_bnd p fun x s1 _ v H1 g1 e1 rx p1 => hb q B A H1 σ τ s1 _ e1 (st.grow g1) (post_bnd p1 fun y s2 _ u H2 g2 e2 ry p2 => hr q A H2 σ s2 v u x y Q e2 (rx.mono g2.msk) ry p2))
def mUn (f : D → M D) (ma : ME) : ME := fun τ s => bnd (ma τ s) fun x s1 => f x s1
theorem se_un {ru : V → Hp → VK → Prop} {f : D → M D} (hr : SndU Γ E ru f) (ha : SndE Γ E ta ma) : SndE Γ E (tUn ru ta) (mUn f ma) := fun q B A H σ τ s Q ei st p =>
  ha q B A H σ τ s _ ei st (post_bnd p fun x s1 _ v H1 g1 e1 rx p1 => hr q A H1 σ s1 v x Q e1 rx p1)
/-! ### tests -/
def mB (me : ME) : MT := fun τ s => bnd (me τ s) fun d s1 => match d with | .bl b => .ok b s1 | _ => .bad
theorem st_B (h : SndE Γ E te me) : SndT Γ E (tB te) (mB me) := fun q B A H σ τ s Q ei st p =>
  h q B A H σ τ s _ ei st (post_bnd p fun x s1 _ v H1 g1 e1 rx p1 => by
    cases rx with
    | bl b => exact ⟨b, rfl, p1 b H1 (Grow.refl _) e1 rfl⟩
    | _ => exact p1.elim)
theorem st_test (h : SndE Γ E te me) : SndT Γ E (tTest te) (mB me) := fun q B A H σ τ s Q ei st p =>
  h q B A H σ τ s _ ei st (post_bnd p fun x s1 _ v H1 g1 e1 rx p1 => by
    cases rx with
    | bl b => exact ⟨b, rfl, p1 b H1 (Grow.refl _) e1 rfl⟩
    | _ => exact p1.elim)
def mAnd (a b : MT) : MT := fun τ s => bnd (a τ s) fun x s1 => if x = true then b τ s1 else .ok false s1
def mOr (a b : MT) : MT := fun τ s => bnd (a τ s) fun x s1 => if x = true then .ok true s1 else b τ s1
def mNot (a : MT) : MT := fun τ s => bnd (a τ s) fun x s1 => .ok (!x) s1
theorem st_and (h1 : SndT Γ E t mt) (h2 : SndT Γ E u mu) : SndT Γ E (tAnd t u) (mAnd mt mu) := fun q B A H σ τ s Q ei st p =>
  h1 q B A H σ τ s _ ei st (post_bnd p fun x s1 _ c H1 g1 e1 rx p1 => by
    obtain rfl : c = x := rx
    cases c with
    | true => exact h2 q B A H1 σ τ s1 Q e1 (st.grow g1) p1
    | false => exact p1 false H1 (Grow.refl _) e1 rfl)
theorem st_or (h1 : SndT Γ E t mt) (h2 : SndT Γ E u mu) : SndT Γ E (tOr t u) (mOr mt mu) := fun q B A H σ τ s Q ei st p =>
  h1 q B A H σ τ s _ ei st (post_bnd p fun x s1 _ c H1 g1 e1 rx p1 => by
    obtain rfl : c = x := rx
    cases c with
    | true => exact p1 true H1 (Grow.refl _) e1 rfl
    | false => exact h2 q B A H1 σ τ s1 Q e1 (st.grow g1) p1)
theorem st_not (h : SndT Γ E t mt) : SndT Γ E (tNot t) (mNot mt) := fun q B A H σ τ s Q ei st p =>
  h q B A H σ τ s _ ei st (post_bnd p fun x s1 _ c H1 g1 e1 rx p1 => by
    obtain rfl : c = x := rx
    exact p1 _ H1 (Grow.refl _) e1 rfl)
def mAndV (a b : ME) : ME := fun τ s => bnd (a τ s) fun x s1 => match x with | .bl c => if c = true then b τ s1 else .ok (.bl false) s1 | _ => .bad
def mOrV (a b : ME) : ME := fun τ s => bnd (a τ s) fun x s1 => match x with | .bl c => if c = true then .ok (.bl true) s1 else b τ s1 | _ => .bad
def mNotV (a : ME) : ME := fun τ s => bnd (a τ s) fun x s1 => match x with | .bl c => .ok (.bl (!c)) s1 | _ => .bad
theorem se_andV (h1 : SndE Γ E ta ma) (h2 : SndE Γ E tb mb) : SndE Γ E (tAndV ta tb) (mAndV ma mb) := fun q B A H σ τ s Q ei st p =>
  h1 q B A H σ τ s _ ei st (post_bnd p fun x s1 _ v H1 g1 e1 rx p1 => by
    cases rx with
    | bl b =>
      refine ⟨b, rfl, ?_⟩
      cases b with
      | true => exact h2 q B A H1 σ τ s1 Q e1 (st.grow g1) p1
      | false => exact p1 (.bl false) H1 (Grow.refl _) e1 (.bl false)
    | _ => exact p1.elim)
theorem se_orV (h1 : SndE Γ E ta ma) (h2 : SndE Γ E tb mb) : SndE Γ E (tOrV ta tb) (mOrV ma mb) := fun q B A H σ τ s Q ei st p =>
  h1 q B A H σ τ s _ ei st (post_bnd p fun x s1 _ v H1 g1 e1 rx p1 => by
    cases rx with
    | bl b =>
      refine ⟨b, rfl, ?_⟩
      cases b with
      | true => exact p1 (.bl true) H1 (Grow.refl _) e1 (.bl true)
      | false => exact h2 q B A H1 σ τ s1 Q e1 (st.grow g1) p1
    | _ => exact p1.elim)
theorem se_notV (h1 : SndE Γ E ta ma) : SndE Γ E (tNotV ta) (mNotV ma) := fun q B A H σ τ s Q ei st p =>
  h1 q B A H σ τ s _ ei st (post_bnd p fun x s1 _ v H1 g1 e1 rx p1 => by
    cases rx with
    | bl b => exact ⟨b, rfl, p1 _ H1 (Grow.refl _) e1 (.bl _)⟩
    | _ => exact p1.elim)
def mIf (c : MT) (a b : ME) : ME := fun τ s => bnd (c τ s) fun x s1 => if x = true then a τ s1 else b τ s1
theorem se_if (h : SndT Γ E t mt) (h1 : SndE Γ E ta ma) (h2 : SndE Γ E tb mb) : SndE Γ E (tIf t ta tb) (mIf mt ma mb) := fun q B A H σ τ s Q ei st p =>
  h q B A H σ τ s _ ei st (post_bnd p fun x s1 _ c H1 g1 e1 rx p1 => by
    obtain rfl : c = x := rx
    cases c with
    | true => exact h1 q B A H1 σ τ s1 Q e1 (st.grow g1) p1
    | false => exact h2 q B A H1 σ τ s1 Q e1 (st.grow g1) p1)
/-! ### arguments, displays -/
def mNil : MA := fun _ s => .ok [] s
def mCons (a : ME) (r : MA) : MA := fun τ s => bnd (a τ s) fun x s1 => bnd (r τ s1) fun xs s2 => .ok (x :: xs) s2
theorem sa_nil : SndA Γ E tNil mNil := fun q B A H σ τ s Q ei st p => p [] H (Grow.refl H) ei .nil
theorem sa_cons (h : SndE Γ E ta ma) (hr : SndA Γ E tr mr) : SndA Γ E (tCons ta tr) (mCons ma mr) := fun q B A H σ τ s Q ei st p =>
  h q B A H σ τ s _ ei st (post_bnd p fun x s1 _ v H1 g1 e1 rx p1 => hr q B A H1 σ τ s1 _ e1 (st.grow g1) (post_bnd p1 fun xs s2 _ vs H2 g2 e2 rxs p2 => p2 (v :: vs) H2 (Grow.refl _) e2 (.cons (rx.mono g2.msk) rxs)))
def mTup (a : MA) : ME := fun τ s => bnd (a τ s) fun xs s1 => if xs.length ≤ 100000 then .ok (.tup xs) s1 else .bad
def mLst (a : MA) : ME := fun τ s => bnd (a τ s) fun xs s1 => if xs.length ≤ 100000 then .ok (.lst xs) s1 else .bad
theorem rep_tup {q : Option Addr} {A : List Addr} {H : Hp} {s : PS} {p : Addr} {vs : List V} {ds : List D} (ei : EI Γ q A H s) (hp : H p = none) (h : RepL Γ q (msk A H) vs ds) : Rep Γ q (msk A (upd H p (.tup vs))) (.ref p) (.tup ds) :=
  .tup (vs := vs) (st_of (by rw [msk_out (ei.out hp)]; exact upd_same)) (h.mono (Grow.new hp).msk)
theorem rep_lst {q : Option Addr} {A : List Addr} {H : Hp} {s : PS} {p : Addr} {vs : List V} {ds : List D} (ei : EI Γ q A H s) (hp : H p = none) (h : RepL Γ q (msk A H) vs ds) : Rep Γ q (msk A (upd H p (.lst vs))) (.ref p) (.lst ds) :=
  .lst (vs := vs) (sq_of (by rw [msk_out (ei.out hp)]; exact upd_same)) (h.mono (Grow.new hp).msk)
theorem se_tup (h : SndA Γ E tr mr) : SndE Γ E (tTup tr) (mTup mr) := fun q B A H σ τ s Q ei st p =>
  h q B A H σ τ s _ ei st (post_bnd p fun xs s1 _ vs H1 g1 e1 rxs p1 => by
    split at p1
    · rename_i hl
      exact ⟨sz_of (by rw [rxs.length]; exact hl), fun a ha => p1 _ _ (Grow.new ha) (e1.new ha) (rep_tup e1 ha rxs)⟩
    · exact p1.elim)
theorem se_lst (h : SndA Γ E tr mr) : SndE Γ E (tLst tr) (mLst mr) := fun q B A H σ τ s Q ei st p =>
  h q B A H σ τ s _ ei st (post_bnd p fun xs s1 _ vs H1 g1 e1 rxs p1 => by
    split at p1
    · rename_i hl
      exact ⟨sz_of (by rw [rxs.length]; exact hl), fun a ha => p1 _ _ (Grow.new ha) (e1.new ha) (rep_lst e1 ha rxs)⟩
    · exact p1.elim)
def mCB (f : List D → M D) (a : MA) : ME := fun τ s => bnd (a τ s) fun xs s1 => f xs s1
theorem se_CB {rc : List V → Hp → VK → Prop} {f : List D → M D} (hr : SndC Γ E rc f) (h : SndA Γ E tr mr) : SndE Γ E (tCB rc tr) (mCB f mr) := fun q B A H σ τ s Q ei st p =>
  h q B A H σ τ s _ ei st (post_bnd p fun xs s1 _ vs H1 g1 e1 rxs p1 => hr q A H1 σ s1 vs xs Q e1 rxs p1)
/-! ### fields -/
def mFld (c : Nat) (f : Str) (a : ME) : ME := fun τ s => bnd (a τ s) fun x s1 => match x with
  | .obj c' gs => if c' = c then (match gs.lookup f with | some d => .ok d s1 | none => .bad) else .bad
  | _ => .bad
theorem se_fld {c : Nat} {f : Str} (hc : Cls Γ.K (Γ.cls c)) (hn : NoAttr Γ.K (Γ.cls c) f) (h : SndE Γ E ta ma) : SndE Γ E (tFld Γ.K ta f) (mFld c f ma) := fun q B A H σ τ s Q ei st p =>
  h q B A H σ τ s _ ei st (post_bnd p fun x s1 _ v H1 g1 e1 rx p1 => by
    cases rx with
    | obj ho rf =>
      dsimp only at p1
      split at p1
      · rename_i hcc
        subst hcc
        split at p1
        · rename_i d hd
          obtain ⟨w, h1, h2⟩ := (rf.lookup (f := f)).1 d hd
          exact ⟨_, _, _, _, w, rfl, (of_msk ho).2, hc, hn, h1, p1 w H1 (Grow.refl _) e1 h2⟩
        · exact p1.elim
      · exact p1.elim
    | _ => exact p1.elim)
/-- a field of what the def owns -/
def mFldO (c : Nat) (f : Str) (i : Nat) : ME := fun τ s => match τ[i]? with
  | some (.own _ (.obj c' gs)) => if c' = c then (match gs.lookup f with | some d => .ok d s | none => .bad) else .bad
  | _ => .bad
theorem se_fldO {c i : Nat} {f : Str} (hc : Cls Γ.K (Γ.cls c)) (hn : NoAttr Γ.K (Γ.cls c) f) : SndE Γ E (tFld Γ.K (tVar i) f) (mFldO c f i) := fun q B A H σ τ s Q ei st p => by
  unfold mFldO at p
  split at p
  · rename_i z c' gs hi
    split at p
    · rename_i hcc
      subst hcc
      split at p
      · rename_i d hd
        obtain ⟨a, h1, h2, ⟨dx, fs, h3, h4⟩, _⟩ := st.own i _ _ hi
        obtain ⟨w, h5, h6⟩ := (h4.lookup (f := f)).1 d hd
        exact ⟨_, h1, a, _, dx, fs, w, rfl, h3, hc, hn, h5, p w H (Grow.refl _) ei h6⟩
      · exact p.elim
    · exact p.elim
  · exact p.elim
/-! ### numbers -/
def o2I (g : Int → Int → D) : D → D → M D := fun x y s => match x, y with | .int i, .int j => .ok (g i j) s | _, _ => .bad
def o2C (C : Int → Int → Bool) (g : Int → Int → D) : D → D → M D := fun x y s => match x, y with | .int i, .int j => if C i j = true then .ok (g i j) s else .bad | _, _ => .bad
theorem so_I0 {gV : Int → Int → V} {g : Int → Int → D} (h : ∀ i j q H, Rep Γ q H (gV i j) (g i j)) : SndO Γ E (rI0 gV) (o2I g) := fun q A H σ s v u x y Q ei rx ry p => by
  cases rx with
  | int i =>
    cases ry with
    | int j => exact ⟨i, j, rfl, rfl, p _ H (Grow.refl _) ei (h i j q _)⟩
    | _ => exact p.elim
  | _ => exact p.elim
theorem so_I {C : Int → Int → Prop} {C' : Int → Int → Bool} {gV : Int → Int → V} {g : Int → Int → D} (hC : ∀ i j, C' i j = true → C i j) (h : ∀ i j q H, Rep Γ q H (gV i j) (g i j)) : SndO Γ E (rI C gV) (o2C C' g) := fun q A H σ s v u x y Q ei rx ry p => by
  cases rx with
  | int i =>
    cases ry with
    | int j =>
      unfold o2C at p
      dsimp only at p
      split at p
      · rename_i hc
        exact ⟨i, j, rfl, rfl, hC i j hc, p _ H (Grow.refl _) ei (h i j q _)⟩
      · exact p.elim
    | _ => exact p.elim
  | _ => exact p.elim
def dAdd := o2I fun i j => .int (i + j)
def dSub := o2I fun i j => .int (i - j)
def dLt := o2I fun i j => .bl (decide (i < j))
def dLe := o2I fun i j => .bl (decide (i ≤ j))
def dGt := o2I fun i j => .bl (decide (i > j))
def dGe := o2I fun i j => .bl (decide (i ≥ j))
theorem so_add : SndO Γ E (rI0 fun i j => .int (i + j)) dAdd := so_I0 fun _ _ _ _ => .int _
theorem so_sub : SndO Γ E (rI0 fun i j => .int (i - j)) dSub := so_I0 fun _ _ _ _ => .int _
def scalD : D → D → Bool
  | .non, .non => true | .non, .int _ => true | .int _, .non => true | .non, .bl _ => true | .bl _, .non => true | .non, .str _ => true | .str _, .non => true
  | .int _, .int _ => true | .bl _, .bl _ => true | .str _, .str _ => true
  | .int _, .str _ => true | .str _, .int _ => true | .bl _, .str _ => true | .str _, .bl _ => true
  | _, _ => false
def eqD : D → D → Bool
  | .non, .non => true | .int i, .int j => decide (i = j) | .bl i, .bl j => decide (i = j) | .str i, .str j => decide (i = j)
  | _, _ => false
theorem scal_rep {q : Option Addr} {H : Hp} {u : V} {e : D} (h1 : Rep Γ q H v d) (h2 : Rep Γ q H u e) (h : scalD d e = true) : scal v u = true ∧ decide (v = u) = eqD d e := by
  cases h1 <;> cases h2 <;> first
    | (cases h; done)
    | exact ⟨rfl, by simp [eqD]⟩
def dEq : D → D → M D := fun x y s => if scalD x y = true then .ok (.bl (eqD x y)) s else .bad
def dNe : D → D → M D := fun x y s => if scalD x y = true then .ok (.bl (!eqD x y)) s else .bad
theorem so_eq : SndO Γ E rEq dEq := fun q A H σ s v u x y Q ei rx ry p => by
  unfold dEq at p
  split at p
  · rename_i h
    obtain ⟨h1, h2⟩ := scal_rep rx ry h
    exact ⟨h1, by rw [h2]; exact p _ H (Grow.refl _) ei (.bl _)⟩
  · exact p.elim
theorem so_ne : SndO Γ E rNe dNe := fun q A H σ s v u x y Q ei rx ry p => by
  unfold dNe at p
  split at p
  · rename_i h
    obtain ⟨h1, h2⟩ := scal_rep rx ry h
    exact ⟨h1, by rw [h2]; exact p _ H (Grow.refl _) ei (.bl _)⟩
  · exact p.elim
def u1I (g : Int → D) : D → M D := fun x s => match x with | .int i => .ok (g i) s | _ => .bad
theorem su_I {gV : Int → V} {g : Int → D} (h : ∀ i q H, Rep Γ q H (gV i) (g i)) : SndU Γ E (rU gV) (u1I g) := fun q A H σ s v x Q ei rx p => by
  cases rx with
  | int i => exact ⟨i, rfl, p _ H (Grow.refl _) ei (h i q _)⟩
  | _ => exact p.elim
end
end DN

set_option Elab.async false
set_option linter.all false
set_option maxRecDepth 100000
set_option maxHeartbeats 4000000
/-! Readings and what they compute: statements, loops. -/
namespace DN
open PySem PySem.Spec PyProof.Rows L2 Evl LamX
inductive RS where
  | nx (τ : Sto) (s : PS) | bk (τ : Sto) (s : PS) | ct (τ : Sto) (s : PS)
  | rt (d : D) (s : PS)
  | er (c : Nat) (fs : List (Str × D)) (τ : Sto) (s : PS)
  | bad
abbrev MS := Sto → PS → RS
/-- from one state to a later one: B stays untouched, what is owned beyond it may change -/
structure Step (B A : List Addr) (H : Hp) (A' : List Addr) (H' : Hp) : Prop where
  keep : ∀ a o, (a ∉ A ∨ a ∈ B) → H a = some o → (∀ p kv, o ≠ .dK (p :: kv)) → (∀ ps, o ≠ .tbl ps) → H' a = some o
  dom : ∀ a, H a ≠ none → H' a ≠ none
  sub : ∀ a ∈ B, a ∈ A'
  nw : ∀ a ∈ A', a ∈ A ∨ H a = none
theorem Step.refl {B A : List Addr} {H : Hp} (hB : ∀ a ∈ B, a ∈ A) : Step B A H A H := ⟨fun _ _ _ h _ _ => h, fun _ h => h, hB, fun _ h => .inl h⟩
theorem Step.trans {B A A1 A2 : List Addr} {H H1 H2 : Hp} (a : Step B A H A1 H1) (b : Step B A1 H1 A2 H2) : Step B A H A2 H2 :=
  ⟨fun x o hx h n1 n2 => b.keep x o (by
      rcases hx with hx | hx
      · refine .inl fun z => ?_
        rcases a.nw x z with w | w
        · exact hx w
        · rw [h] at w; cases w
      · exact .inr hx) (a.keep x o hx h n1 n2) n1 n2, fun x h => b.dom x (a.dom x h), b.sub, fun x h => by
      rcases b.nw x h with w | w
      · exact a.nw x w
      · by_cases z : H x = none
        · exact .inr z
        · exact absurd w (a.dom x z)⟩
theorem Step.grow {B A : List Addr} {H H' : Hp} (hB : ∀ a ∈ B, a ∈ A) (g : Grow H H') : Step B A H A H' := ⟨fun a o _ h n1 n2 => g.keep a o h n1 n2, g.dom, hB, fun _ h => .inl h⟩
/-- what is not owned stays -/
theorem Step.msk {B A A' : List Addr} {H H' : Hp} (a : Step B A H A' H') : Grow (msk A H) (msk A' H') := ⟨fun x o h n1 n2 => by
  obtain ⟨h1, h2⟩ := of_msk h
  have h3 : x ∉ A' := fun z => by
    rcases a.nw x z with w | w
    · exact h1 w
    · rw [h2] at w; cases w
  rw [msk_out h3]
  exact a.keep x o (.inl h1) h2 n1 n2, fun x h => by
  by_cases z : x ∈ A
  · rw [msk_in z] at h; exact absurd rfl h
  · rw [msk_out z] at h
    have h3 : x ∉ A' := fun w => by
      rcases a.nw x w with w | w
      · exact z w
      · exact h w
    rw [msk_out h3]
    exact a.dom x h⟩
def PostS (Γ : Gam) (q : Option Addr) (B A : List Addr) (H : Hp) (r : RS) (De : Ends) (E : XS) : Prop := match r with
  | .nx τ s => ∀ A' H' σ', Step B A H A' H' → EI Γ q A' H' s → StR Γ q B A' H' σ' τ → De.nx σ' H'
  | .bk τ s => ∀ A' H' σ', Step B A H A' H' → EI Γ q A' H' s → StR Γ q B A' H' σ' τ → De.bk σ' H'
  | .ct τ s => ∀ A' H' σ', Step B A H A' H' → EI Γ q A' H' s → StR Γ q B A' H' σ' τ → De.ct σ' H'
  | .rt d s => ∀ A' H' v, Step B A H A' H' → EI Γ q A' H' s → Rep Γ q (msk B H') v d → De.rt v H'
  | .er c fs τ s => ∀ A' H' σ' x, Step B A H A' H' → EI Γ q A' H' s → StR Γ q B A' H' σ' τ → XRep Γ q A' H' x fs → E σ' (.ref (Γ.cls c)) x H'
  | .bad => False
theorem PostS.step {Γ : Gam} {q : Option Addr} {B A A1 : List Addr} {H H1 : Hp} {r : RS} {De : Ends} {E : XS} (p : PostS Γ q B A H r De E) (t : Step B A H A1 H1) : PostS Γ q B A1 H1 r De E := by
  cases r with
  | nx τ s => exact fun A' H' σ' t1 e st => p A' H' σ' (t.trans t1) e st
  | bk τ s => exact fun A' H' σ' t1 e st => p A' H' σ' (t.trans t1) e st
  | ct τ s => exact fun A' H' σ' t1 e st => p A' H' σ' (t.trans t1) e st
  | rt d s => exact fun A' H' v t1 e rr => p A' H' v (t.trans t1) e rr
  | er c fs τ s => exact fun A' H' σ' x t1 e st xr => p A' H' σ' x (t.trans t1) e st xr
  | bad => exact p
def SndS (Γ : Gam) (E : XS) (ts : TS) (ms : MS) : Prop := ∀ q B A H σ τ s (De : Ends), (∀ a ∈ B, a ∈ A) → EI Γ q A H s → StR Γ q B A H σ τ → PostS Γ q B A H (ms τ s) De E → ts De σ H
def bndS {α : Type} (r : Res α) (τ : Sto) (f : α → PS → RS) : RS := match r with
  | .ok a s => f a s
  | .err c fs s => .er c fs τ s
  | .bad => .bad
section
variable {Γ : Gam} {E : XS} {te tl : TE} {me ml : ME} {t : TT} {mt : MT} {tr : TA} {mr : MA} {ts tu : TS} {ms mu : MS}
/-- from an expression into a statement -/
theorem post_S {α β : Type} {q : Option Addr} {B A : List Addr} {H : Hp} {σ : L2.St} {τ : Sto} {R : Hp → β → α → Prop} {r : Res α} {f : α → PS → RS} {De : Ends} {Q : β → Hp → Prop} (hB : ∀ a ∈ B, a ∈ A) (st : StR Γ q B A H σ τ) (p : PostS Γ q B A H (bndS r τ f) De E)
    (k : ∀ a s, r = .ok a s → ∀ b H1, Grow H H1 → EI Γ q A H1 s → R H1 b a → PostS Γ q B A H1 (f a s) De E → Q b H1) : PostG Γ q A H R r Q (E σ) := by
  cases r with
  | ok d s => exact fun v H' g e rr => k d s rfl v H' g e rr (PostS.step p (Step.grow hB g))
  | err c fs s => exact fun x H' g e xr => p A H' σ x (Step.grow hB g) e (st.grow g) xr
  | bad => exact p
def sSeq (a b : MS) : MS := fun τ s => match a τ s with | .nx τ1 s1 => b τ1 s1 | r => r
theorem ss_seq (h1 : SndS Γ E ts ms) (h2 : SndS Γ E tu mu) : SndS Γ E (tSeq ts tu) (sSeq ms mu) := fun q B A H σ τ s De hB ei st p => by
  refine h1 q B A H σ τ s { De with nx := tu De } hB ei st ?_
  unfold sSeq at p
  cases h : ms τ s with
  | nx τ1 s1 =>
    rw [h] at p
    exact fun A' H' σ' t e st' => h2 q B A' H' σ' τ1 s1 De (t.sub) e st' (PostS.step p t)
  | bk τ1 s1 => rw [h] at p; exact p
  | ct τ1 s1 => rw [h] at p; exact p
  | rt d s1 => rw [h] at p; exact p
  | er c fs τ1 s1 => rw [h] at p; exact p
  | bad => rw [h] at p; exact p
def sNext : MS := fun τ s => .nx τ s
theorem ss_next : SndS Γ E tNext sNext := fun q B A H σ τ s De hB ei st p => p A H σ (.refl hB) ei st
def sBreak : MS := fun τ s => .bk τ s
theorem ss_break : SndS Γ E tBreak sBreak := fun q B A H σ τ s De hB ei st p => p A H σ (.refl hB) ei st
def sCont : MS := fun τ s => .ct τ s
theorem ss_cont : SndS Γ E tCont sCont := fun q B A H σ τ s De hB ei st p => p A H σ (.refl hB) ei st
def sDrop (a : ME) : MS := fun τ s => bndS (a τ s) τ fun _ s1 => .nx τ s1
theorem ss_drop (h : SndE Γ E te me) : SndS Γ E (tDrop te) (sDrop me) := fun q B A H σ τ s De hB ei st p =>
  h q B A H σ τ s _ ei st (post_S hB st p fun d s1 _ v H1 g e rr p1 => p1 A H1 σ (.refl hB) e (st.grow g))
def sRet (a : ME) : MS := fun τ s => bndS (a τ s) τ fun d s1 => .rt d s1
theorem ss_ret (h : SndE Γ E te me) : SndS Γ E (tRet te) (sRet me) := fun q B A H σ τ s De hB ei st p =>
  h q B A H σ τ s _ ei st (post_S hB st p fun d s1 _ v H1 g e rr p1 => p1 A H1 v (.refl hB) e (rr.mono (.ex (msk_sub hB))))
def sRetN : MS := fun τ s => .rt .non s
theorem ss_retN : SndS Γ E tRetN sRetN := fun q B A H σ τ s De hB ei st p => p A H .non (.refl hB) ei .non
/-- what is owned is returned -/
def sRetO (i : Nat) : MS := fun τ s => match τ[i]? with | some (.own _ d) => .rt d s | _ => .bad
theorem ss_retO {i : Nat} : SndS Γ E (tRet (tVar i)) (sRetO i) := fun q B A H σ τ s De hB ei st p => by
  unfold sRetO at p
  split at p
  · rename_i z d hi
    obtain ⟨a, h1, h2, h3, _⟩ := st.own i z d hi
    refine ⟨_, h1, ?_⟩
    refine p A H (.ref a) (.refl hB) ei ?_
    cases d with
    | lst ds => obtain ⟨vs, w1, w2⟩ := h3; exact .lst (vs := vs) (sq_of (by rw [msk_out h2.2]; exact w1)) (w2.mono (.ex (msk_sub hB)))
    | obj c gs => obtain ⟨dx, fs, w1, w2⟩ := h3; exact .obj (by rw [msk_out h2.2]; exact w1) (w2.mono (.ex (msk_sub hB)))
    | _ => exact h3.elim
  · exact p.elim
/-! ### targets -/
theorem ex_nil {A : List Addr} {H : Hp} : Ex (msk A H) H := fun a o h => (of_msk h).2
def SndG (Γ : Gam) (g : TG) (mg : D → Sto → Option Sto) : Prop := ∀ q B A H s σ τ v d τ' (Q : L2.St → Hp → Prop), EI Γ q A H s → StR Γ q B A H σ τ → Rep Γ q (msk A H) v d → mg d τ = some τ' → (∀ σ', StR Γ q B A H σ' τ' → Q σ' H) → g v σ H Q
def SndGs (Γ : Gam) (g : TGs) (mg : List D → Sto → Option Sto) : Prop := ∀ q B A H s σ τ v d τ' (Q : L2.St → Hp → Prop), EI Γ q A H s → StR Γ q B A H σ τ → RepL Γ q (msk A H) v d → mg d τ = some τ' → (∀ σ', StR Γ q B A H σ' τ' → Q σ' H) → g v σ H Q
def gN (i : Nat) : D → Sto → Option Sto := fun d τ => some (τ.set i (.val d))
theorem sg_name {i : Nat} : SndG Γ (gName i) (gN i) := fun q B A H s σ τ v d τ' Q ei st r e k => by
  cases e
  exact k _ (st.set r)
def gsN : List D → Sto → Option Sto := fun ds τ => match ds with | [] => some τ | _ => none
def gsC (g : D → Sto → Option Sto) (gs : List D → Sto → Option Sto) : List D → Sto → Option Sto := fun ds τ => match ds with | d :: ds => (g d τ).bind (gs ds) | _ => none
theorem sg_nil : SndGs Γ gNil gsN := fun q B A H s σ τ v d τ' Q ei st r e k => by
  cases r with
  | nil => cases e; exact ⟨rfl, k _ st⟩
  | cons _ _ => cases e
theorem sg_cons {g : TG} {gs : TGs} {mg : D → Sto → Option Sto} {mgs : List D → Sto → Option Sto} (h : SndG Γ g mg) (hs : SndGs Γ gs mgs) : SndGs Γ (gCons g gs) (gsC mg mgs) := fun q B A H s σ τ v d τ' Q ei st r e k => by
  cases r with
  | nil => cases e
  | cons h1 r1 =>
    unfold gsC at e
    dsimp only at e
    rw [Option.bind_eq_some_iff] at e
    obtain ⟨τ1, e1, e2⟩ := e
    exact ⟨_, _, rfl, h q B A H s σ τ _ _ τ1 _ ei st h1 e1 fun σ1 st1 => hs q B A H s σ1 τ1 _ _ τ' Q ei st1 r1 e2 k⟩
def gT (n : Nat) (gs : List D → Sto → Option Sto) : D → Sto → Option Sto := fun d τ => match d with | .tup ds => if ds.length = n then gs ds τ else none | _ => none
theorem sg_tup {n : Nat} {gs : TGs} {mgs : List D → Sto → Option Sto} (hs : SndGs Γ gs mgs) : SndG Γ (gTup Γ.K n gs) (gT n mgs) := fun q B A H s σ τ v d τ' Q ei st r e k => by
  cases r with
  | tup h r1 =>
    unfold gT at e
    dsimp only at e
    split at e
    · rename_i hl
      exact ⟨_, _, rfl, (Grow.ex ex_nil).sqT h, by rw [r1.length]; exact hl, hs q B A H s σ τ _ _ τ' Q ei st r1 e k⟩
    · cases e
  | _ => cases e
def sAsg (a : ME) (g : D → Sto → Option Sto) : MS := fun τ s => bndS (a τ s) τ fun d s1 => match g d τ with | some τ' => .nx τ' s1 | none => .bad
theorem ss_asg {g : TG} {mg : D → Sto → Option Sto} (h : SndE Γ E te me) (hg : SndG Γ g mg) : SndS Γ E (tAsg te g) (sAsg me mg) := fun q B A H σ τ s De hB ei st p =>
  h q B A H σ τ s _ ei st (post_S hB st p fun d s1 _ v H1 g1 e rr p1 => by
    (first | dsimp only at p1 | skip)
    split at p1
    · rename_i τ' ht
      exact hg q B A H1 s1 σ τ v d τ' _ e (st.grow g1) rr ht fun σ' st' => p1 A H1 σ' (.refl hB) e st'
    · exact p1.elim)
def sPar (i j : Nat) (a : MA) : MS := fun τ s => bndS (a τ s) τ fun ds s1 => match ds with | [d, e] => .nx ((τ.set i (.val d)).set j (.val e)) s1 | _ => .bad
theorem ss_par {i j : Nat} (h : SndA Γ E tr mr) : SndS Γ E (tPar i j tr) (sPar i j mr) := fun q B A H σ τ s De hB ei st p =>
  h q B A H σ τ s _ ei st (post_S hB st p fun ds s1 _ vs H1 g1 e rr p1 => by
    (first | dsimp only at p1 | skip)
    split at p1
    · cases rr with
      | cons r1 rr =>
        cases rr with
        | cons r2 rr =>
          cases rr
          exact ⟨_, _, rfl, p1 A H1 _ (.refl hB) e (((st.grow g1).set r1).set r2)⟩
    · exact p1.elim)
def sIf (c : MT) (a b : MS) : MS := fun τ s => bndS (c τ s) τ fun x s1 => if x = true then a τ s1 else b τ s1
theorem ss_if (h : SndT Γ E t mt) (h1 : SndS Γ E ts ms) (h2 : SndS Γ E tu mu) : SndS Γ E (tIfS t ts tu) (sIf mt ms mu) := fun q B A H σ τ s De hB ei st p =>
  h q B A H σ τ s _ ei st (post_S hB st p fun x s1 _ c H1 g1 e rx p1 => by
    obtain rfl : c = x := rx
    cases c with
    | true => exact h1 q B A H1 σ τ s1 De hB e (st.grow g1) p1
    | false => exact h2 q B A H1 σ τ s1 De hB e (st.grow g1) p1)
/-! ### loops -/
def forD (g : D → Sto → Option Sto) (b : MS) : List D → MS
  | [], τ, s => .nx τ s
  | d :: ds, τ, s => match g d τ with
    | none => .bad
    | some τ1 => match b τ1 s with
      | .nx τ2 s2 => forD g b ds τ2 s2
      | .ct τ2 s2 => forD g b ds τ2 s2
      | .bk τ2 s2 => .nx τ2 s2
      | .rt d s2 => .rt d s2
      | .er c fs τ2 s2 => .er c fs τ2 s2
      | .bad => .bad
theorem for_core {q : Option Addr} {B A1 : List Addr} {H1 : Hp} {σ : L2.St} {τ : Sto} {s : PS} {J : It} {g : TG} {mg : D → Sto → Option Sto} {tb : TS} {b : MS} {ds : List D} {De : Ends} (hg : SndG Γ g mg) (hb : SndS Γ E tb b) (hB : ∀ a ∈ B, a ∈ A1) (ei : EI Γ q A1 H1 s) (st : StR Γ q B A1 H1 σ τ)
    (hJ : ∀ A' H' i, Step B A1 H1 A' H' → (∀ d, ds[i]? = some d → J.go i H' ∧ ∀ x H'', J.yld i H' x H'' → H'' = H' ∧ Rep Γ q (msk A' H') x d) ∧ (i = ds.length → J.stop i H')) (p : PostS Γ q B A1 H1 (forD mg b ds τ s) De E) :
    ∃ W : Nat → Nat → L2.St → Hp → Prop, (∃ m, W 0 m σ H1) ∧ ∀ i m σ H, W i m σ H →
      (J.stop i H ∧ De.nx σ H) ∨ (J.go i H ∧ ∃ N : L2.St → Hp → Prop, (∀ σ' H', N σ' H' → ∃ m', m' < m ∧ W (i + 1) m' σ' H') ∧ ∀ x H', J.yld i H x H' → g x σ H' fun σ2 H2 => tb { De with nx := N, ct := N, bk := De.nx } σ2 H2) := by
  refine ⟨fun i m σ H => ∃ A' τ' s', m = ds.length - i ∧ i ≤ ds.length ∧ Step B A1 H1 A' H ∧ EI Γ q A' H s' ∧ StR Γ q B A' H σ τ' ∧ PostS Γ q B A' H (forD mg b (ds.drop i) τ' s') De E, ⟨ds.length, A1, τ, s, by simp, Nat.zero_le _, .refl hB, ei, st, by simpa using p⟩, ?_⟩
  rintro i m σ H ⟨A', τ', s', rfl, hi, t, e, st', p'⟩
  by_cases hlt : i < ds.length
  · have hd : ds[i]? = some ds[i] := List.getElem?_eq_getElem hlt
    obtain ⟨hgo, hy⟩ := (hJ A' H i t).1 _ hd
    have hdr : ds.drop i = ds[i] :: ds.drop (i + 1) := List.drop_eq_getElem_cons hlt
    rw [hdr] at p'
    unfold forD at p'
    split at p'
    · exact p'.elim
    · rename_i τ1 ht
      refine .inr ⟨hgo, fun σ2 H2 => ∃ A2 τ2 s2, Step B A1 H1 A2 H2 ∧ EI Γ q A2 H2 s2 ∧ StR Γ q B A2 H2 σ2 τ2 ∧ PostS Γ q B A2 H2 (forD mg b (ds.drop (i + 1)) τ2 s2) De E, ?_, ?_⟩
      · rintro σ2 H2 ⟨A2, τ2, s2, t2, e2, st2, p2⟩
        exact ⟨ds.length - (i + 1), by omega, A2, τ2, s2, rfl, by omega, t2, e2, st2, p2⟩
      · intro x H' hx
        obtain ⟨rfl, hr⟩ := hy x H' hx
        refine hg q B A' H' s' σ τ' x _ τ1 _ e st' hr ht fun σ' st1 => ?_
        refine hb q B A' H' σ' τ1 s' _ t.sub e st1 ?_
        cases hbr : b τ1 s' with
        | nx τ2 s2 => rw [hbr] at p'; exact fun A2 H2 σ2 t2 e2 st2 => ⟨A2, τ2, s2, t.trans t2, e2, st2, p'.step t2⟩
        | ct τ2 s2 => rw [hbr] at p'; exact fun A2 H2 σ2 t2 e2 st2 => ⟨A2, τ2, s2, t.trans t2, e2, st2, p'.step t2⟩
        | bk τ2 s2 => rw [hbr] at p'; exact p'
        | rt d s2 => rw [hbr] at p'; exact p'
        | er c fs τ2 s2 => rw [hbr] at p'; exact p'
        | bad => rw [hbr] at p'; exact p'
  · have he : i = ds.length := by omega
    subst he
    rw [List.drop_length] at p'
    exact .inl ⟨(hJ A' H _ t).2 rfl, p' A' H σ (.refl t.sub) e st'⟩
def sForL (a : ME) (g : D → Sto → Option Sto) (b : MS) : MS := fun τ s => bndS (a τ s) τ fun d s1 => match d with | .lst ds => forD g b ds τ s1 | _ => .bad
def sForT (a : ME) (g : D → Sto → Option Sto) (b : MS) : MS := fun τ s => bndS (a τ s) τ fun d s1 => match d with | .tup ds => forD g b ds τ s1 | _ => .bad
theorem ss_forL {g : TG} {mg : D → Sto → Option Sto} (h : SndE Γ E te me) (hg : SndG Γ g mg) (hb : SndS Γ E ts ms) : SndS Γ E (tFor (iList Γ.K te) g ts) (sForL me mg ms) := fun q B A H σ τ s De hB ei st p =>
  h q B A H σ τ s _ ei st (post_S hB st p fun d s1 _ v H1 g1 e rr p1 => by
    cases rr with
    | lst hl rl =>
      rename_i a vs ds _
      refine ⟨a, rfl, ⟨vs, (Grow.ex ex_nil).sqL hl⟩, for_core hg hb hB e (st.grow g1) (fun A' H' i t => ?_) p1⟩
      have hl' : SqL Γ.K H' a vs := (Grow.ex ex_nil).sqL (t.msk.sqL hl)
      refine ⟨fun d hd => ?_, fun hi => ⟨vs, hl', by rw [rl.length, hi]; exact Nat.le_refl _⟩⟩
      obtain ⟨w, hw, rw'⟩ := rl.get hd
      refine ⟨⟨vs, w, hl', hw⟩, fun x H'' hx => ⟨hx.1, ?_⟩⟩
      have := hx.2 vs hl'
      rw [hw] at this
      cases this
      exact rw'.mono t.msk
    | _ => exact p1.elim)
theorem ss_forT {g : TG} {mg : D → Sto → Option Sto} (h : SndE Γ E te me) (hg : SndG Γ g mg) (hb : SndS Γ E ts ms) : SndS Γ E (tFor (iTup Γ.K te) g ts) (sForT me mg ms) := fun q B A H σ τ s De hB ei st p =>
  h q B A H σ τ s _ ei st (post_S hB st p fun d s1 _ v H1 g1 e rr p1 => by
    cases rr with
    | tup hl rl =>
      rename_i a vs ds _
      refine ⟨a, rfl, ⟨vs, (Grow.ex ex_nil).sqT hl⟩, for_core hg hb hB e (st.grow g1) (fun A' H' i t => ?_) p1⟩
      have hl' : SqT Γ.K H' a vs := (Grow.ex ex_nil).sqT (t.msk.sqT hl)
      refine ⟨fun d hd => ?_, fun hi => ⟨vs, hl', by rw [rl.length, hi]; exact Nat.le_refl _⟩⟩
      obtain ⟨w, hw, rw'⟩ := rl.get hd
      refine ⟨⟨vs, w, hl', hw⟩, fun x H'' hx => ⟨hx.1, ?_⟩⟩
      have := hx.2 vs hl'
      rw [hw] at this
      cases this
      exact rw'.mono t.msk
    | _ => exact p1.elim)
def rngD (lo : Int) (n : Nat) : List D := (List.range n).map fun (k : Nat) => D.int (lo + (k : Int))
theorem rng_core {q : Option Addr} {B A1 : List Addr} {H1 : Hp} {lo : Int} {n : Nat} : ∀ A' H' i, Step B A1 H1 A' H' → (∀ d, (rngD lo n)[i]? = some d → (Itr lo n).go i H' ∧ ∀ x H'', (Itr lo n).yld i H' x H'' → H'' = H' ∧ Rep Γ q (msk A' H') x d) ∧ (i = (rngD lo n).length → (Itr lo n).stop i H') := fun A' H' i t => by
  unfold rngD
  refine ⟨fun d hd => ?_, fun hi => by rw [hi]; simp [Itr]⟩
  have hlt : i < n := by
    have := (List.getElem?_eq_some_iff.mp hd).1
    simpa using this
  rw [List.getElem?_map, List.getElem?_range hlt] at hd
  cases hd
  exact ⟨hlt, fun x H'' hx => ⟨hx.1, by rw [hx.2]; exact .int _⟩⟩
def sForR1 (a : MA) (g : D → Sto → Option Sto) (b : MS) : MS := fun τ s => bndS (a τ s) τ fun ds s1 => match ds with | [.int j] => if -(2 ^ 62) ≤ j ∧ j < 2 ^ 62 then forD g b (rngD 0 j.toNat) τ s1 else .bad | _ => .bad
theorem ss_forR1 {g : TG} {mg : D → Sto → Option Sto} (h : SndA Γ E tr mr) (hg : SndG Γ g mg) (hb : SndS Γ E ts ms) : SndS Γ E (tFor (iRng1 tr) g ts) (sForR1 mr mg ms) := fun q B A H σ τ s De hB ei st p =>
  h q B A H σ τ s _ ei st (post_S hB st p fun ds s1 _ vs H1 g1 e rr p1 => by
    (first | dsimp only at p1 | skip)
    split at p1
    · cases rr with
      | cons r1 rr =>
        cases rr
        cases r1
        split at p1
        · rename_i hj
          exact ⟨_, rfl, hj.1, hj.2, for_core hg hb hB e (st.grow g1) rng_core p1⟩
        · exact p1.elim
    · exact p1.elim)
def sForR2 (a : MA) (g : D → Sto → Option Sto) (b : MS) : MS := fun τ s => bndS (a τ s) τ fun ds s1 => match ds with | [.int i, .int j] => if (-(2 ^ 62) ≤ i ∧ i < 2 ^ 62) ∧ -(2 ^ 62) ≤ j ∧ j < 2 ^ 62 then forD g b (rngD i (j - i).toNat) τ s1 else .bad | _ => .bad
theorem ss_forR2 {g : TG} {mg : D → Sto → Option Sto} (h : SndA Γ E tr mr) (hg : SndG Γ g mg) (hb : SndS Γ E ts ms) : SndS Γ E (tFor (iRng2 tr) g ts) (sForR2 mr mg ms) := fun q B A H σ τ s De hB ei st p =>
  h q B A H σ τ s _ ei st (post_S hB st p fun ds s1 _ vs H1 g1 e rr p1 => by
    (first | dsimp only at p1 | skip)
    split at p1
    · cases rr with
      | cons r1 rr =>
        cases rr with
        | cons r2 rr =>
          cases rr
          cases r1
          cases r2
          split at p1
          · rename_i hj
            exact ⟨_, _, rfl, ⟨hj.1.1, hj.1.2, hj.2.1, hj.2.2⟩, for_core hg hb hB e (st.grow g1) rng_core p1⟩
          · exact p1.elim
    · exact p1.elim)
def whD (c : MT) (b : MS) : Nat → MS
  | 0, _, _ => .bad
  | n + 1, τ, s => bndS (c τ s) τ fun x s1 => if x = true then (match b τ s1 with
      | .nx τ2 s2 => whD c b n τ2 s2
      | .ct τ2 s2 => whD c b n τ2 s2
      | .bk τ2 s2 => .nx τ2 s2
      | .rt d s2 => .rt d s2
      | .er c fs τ2 s2 => .er c fs τ2 s2
      | .bad => .bad) else .nx τ s1
theorem ss_while {n : Nat} (hc : SndT Γ E t mt) (hb : SndS Γ E ts ms) : SndS Γ E (tWhile t ts) (whD mt ms n) := fun q B A H σ τ s De hB ei st p => by
  refine ⟨fun m σ H' => ∃ A' τ' s', Step B A H A' H' ∧ EI Γ q A' H' s' ∧ StR Γ q B A' H' σ τ' ∧ PostS Γ q B A' H' (whD mt ms m τ' s') De E, ⟨n, A, τ, s, .refl hB, ei, st, p⟩, ?_⟩
  rintro m σ H' ⟨A', τ', s', t0, e, st', p'⟩
  cases m with
  | zero => exact p'.elim
  | succ m =>
    unfold whD at p'
    refine hc q B A' H' σ τ' s' _ e st' (post_S t0.sub st' p' fun x s1 _ c H1 g1 e1 rx p1 => ?_)
    obtain rfl : c = x := rx
    have t1 : Step B A H A' H1 := t0.trans (Step.grow t0.sub g1)
    cases c with
    | true =>
      (first | dsimp only at p1 | skip)
      rw [if_pos rfl] at p1
      rw [if_pos rfl]
      refine ⟨fun σ2 H2 => ∃ A2 τ2 s2, Step B A H A2 H2 ∧ EI Γ q A2 H2 s2 ∧ StR Γ q B A2 H2 σ2 τ2 ∧ PostS Γ q B A2 H2 (whD mt ms m τ2 s2) De E, fun σ2 H2 h => ⟨m, by omega, h⟩, ?_⟩
      refine hb q B A' H1 σ τ' s1 _ t0.sub e1 (st'.grow g1) ?_
      cases hbr : ms τ' s1 with
      | nx τ2 s2 => rw [hbr] at p1; exact fun A2 H2 σ2 t2 e2 st2 => ⟨A2, τ2, s2, t1.trans t2, e2, st2, p1.step t2⟩
      | ct τ2 s2 => rw [hbr] at p1; exact fun A2 H2 σ2 t2 e2 st2 => ⟨A2, τ2, s2, t1.trans t2, e2, st2, p1.step t2⟩
      | bk τ2 s2 => rw [hbr] at p1; exact p1
      | rt d s2 => rw [hbr] at p1; exact p1
      | er c fs τ2 s2 => rw [hbr] at p1; exact p1
      | bad => rw [hbr] at p1; exact p1
    | false =>
      (first | dsimp only at p1 | skip)
      rw [if_neg Bool.false_ne_true] at p1
      rw [if_neg Bool.false_ne_true]
      exact p1 A' H1 σ (.refl t0.sub) e1 (st'.grow g1)
end
end DN

set_option Elab.async false
set_option linter.all false
set_option maxRecDepth 100000
set_option maxHeartbeats 4000000
/-! Readings and what they compute: calls, bodies, methods, objects that are made, own errors that are raised, kinds. -/
namespace DN
open PySem PySem.Spec PyProof.Rows L2 Evl LamX
abbrev MF := List D → M D
abbrev E0 : XK := fun _ _ _ => False
/-- a def's promise: what mf computes -/
def spD (Γ : Gam) (n : Nat) (mf : MF) : Sp := fun vs H Q E => ∃ q A ds s, EI Γ q A H s ∧ RepL Γ q (msk A H) vs ds ∧ ds.length = n ∧ PostG Γ q A H (RE Γ q A) (mf ds s) Q E
/-- that of a def which lets nothing out -/
def spL (Γ : Gam) (n : Nat) (mf : MF) : Sp := fun vs H Q _ => ∃ q A ds s, EI Γ q A H s ∧ RepL Γ q (msk A H) vs ds ∧ ds.length = n ∧ PostG Γ q A H (RE Γ q A) (mf ds s) Q E0
def PostI (Γ : Gam) (q : Option Addr) (A : List Addr) (H : Hp) (c : Nat) (x : Addr) (r : Res D) (Q : VK) (E : XK) : Prop := match r with
  | .ok (.obj c' gs) s' => c' = c ∧ ∀ H' dx fs', Grow (msk [x] H) H' → EI Γ q (x :: A) H' s' → H' x = some (.ins (Γ.cls c) dx fs') → RepF Γ q (msk (x :: A) H') fs' gs → Q .non H'
  | .err e fs s' => ∀ xo H', Grow (msk [x] H) H' → EI Γ q A H' s' → XRep Γ q A H' xo fs → E (.ref (Γ.cls e)) xo H'
  | _ => False
/-- an __init__'s -/
def spI (Γ : Gam) (c n : Nat) (mf : Addr → MF) : Sp := fun vs H Q E => ∃ q A x dx ds s ws, vs = .ref x :: ws ∧ EI Γ q (x :: A) H s ∧ x ∉ A ∧ H x = some (.ins (Γ.cls c) dx []) ∧ RepL Γ q (msk (x :: A) H) ws ds ∧ ds.length = n ∧ PostI Γ q A H c x (mf x ds s) Q E
section
variable {Γ : Gam} {n k c : Nat} {mf mf' : MF} {vs : List V} {H : Hp} {Q : VK} {E : XK} {EX : XS} {ta : TE} {ma : ME} {tr : TA} {mr : MA} {ts : TS} {ms : MS}
theorem spD_len (h : spD Γ n mf vs H Q E) : vs.length = n := by
  obtain ⟨q, A, ds, s, _, r, l, _⟩ := h
  rw [r.length, l]
theorem spL_len (h : spL Γ n mf vs H Q E) : vs.length = n := by
  obtain ⟨q, A, ds, s, _, r, l, _⟩ := h
  rw [r.length, l]
theorem spI_len {mi : Addr → MF} (h : spI Γ c n mi vs H Q E) : vs.length = n + 1 := by
  obtain ⟨q, A, x, dx, ds, s, ws, rfl, _, _, _, r, l, _⟩ := h
  rw [List.length_cons, r.length, l]
theorem spD_eq (e : ∀ ds s, mf ds s = mf' ds s) (h : spD Γ n mf' vs H Q E) : spD Γ n mf vs H Q E := by
  obtain ⟨q, A, ds, s, h1, h2, h3, h4⟩ := h
  exact ⟨q, A, ds, s, h1, h2, h3, by rw [e]; exact h4⟩
theorem spI_eq {mi mi' : Addr → MF} (e : ∀ x ds s, mi x ds s = mi' x ds s) (h : spI Γ c n mi' vs H Q E) : spI Γ c n mi vs H Q E := by
  obtain ⟨q, A, x, dx, ds, s, ws, h1, h2, h3, h4, h5, h6, h7⟩ := h
  exact ⟨q, A, x, dx, ds, s, ws, h1, h2, h3, h4, h5, h6, by rw [e]; exact h7⟩
/-- defaults -/
def RepC (Γ : Gam) (vs : List V) (ds : List D) : Prop := ∀ q H, RepL Γ q H vs ds
def mCall (n : Nat) (mf : MF) (dd : List D) (a : MA) : ME := fun τ s => bnd (a τ s) fun ds s1 => if (ds ++ dd).length = n then mf (ds ++ dd) s1 else .bad
theorem se_callD {dvs : List V} {dd : List D} (hd : RepC Γ dvs dd) (h : SndA Γ (fun _ => E) tr mr) : SndE Γ (fun _ => E) (tCall (spD Γ n mf) dvs E tr) (mCall n mf dd mr) := fun q B A H σ τ s Q ei st p =>
  h q B A H σ τ s _ ei st (post_bnd p fun ds s1 _ vs H1 g1 e1 rr p1 => by
    split at p1
    · rename_i hl
      exact ⟨q, A, ds ++ dd, s1, e1, rr.append (hd q _), hl, p1⟩
    · exact p1.elim)
theorem repC_nil : RepC Γ [] [] := fun _ _ => .nil
theorem se_call (h : SndA Γ (fun _ => E) tr mr) : SndE Γ (fun _ => E) (tCall (spD Γ n mf) [] E tr) (mCall n mf [] mr) := se_callD repC_nil h
theorem se_callLD {dvs : List V} {dd : List D} (hd : RepC Γ dvs dd) (h : SndA Γ (fun _ => E0) tr mr) : SndE Γ (fun _ => E0) (tCall (spL Γ n mf) dvs E tr) (mCall n mf dd mr) := fun q B A H σ τ s Q ei st p =>
  h q B A H σ τ s _ ei st (post_bnd p fun ds s1 _ vs H1 g1 e1 rr p1 => by
    split at p1
    · rename_i hl
      exact ⟨q, A, ds ++ dd, s1, e1, rr.append (hd q _), hl, p1⟩
    · exact p1.elim)
theorem se_callL (h : SndA Γ (fun _ => E0) tr mr) : SndE Γ (fun _ => E0) (tCall (spL Γ n mf) [] E tr) (mCall n mf [] mr) := se_callLD repC_nil h
/-! ### methods, new objects -/
def mMeth (c : Nat) (m : Str) (n : Nat) (mf : MF) (dd : List D) (a : ME) (r : MA) : ME := fun τ s => bnd (a τ s) fun x s1 => match x with
  | .obj c' gs => if c' = c ∧ gs.lookup m = none then bnd (r τ s1) fun ds s2 => if (ds ++ dd).length + 1 = n then mf (x :: (ds ++ dd)) s2 else .bad else .bad
  | _ => .bad
theorem se_methD {dvs : List V} {dd : List D} {m : Str} (hd : RepC Γ dvs dd) (h : SndE Γ (fun _ => E) ta ma) (hr : SndA Γ (fun _ => E) tr mr) : SndE Γ (fun _ => E) (tMeth (Γ.cls c) m (spD Γ n mf) dvs E ta tr) (mMeth c m n mf dd ma mr) := fun q B A H σ τ s Q ei st p =>
  h q B A H σ τ s _ ei st (post_bnd p fun x s1 _ v H1 g1 e1 rx p1 => by
    cases rx with
    | obj ho rf =>
      rename_i a dx c' fs gs _
      dsimp only at p1
      split at p1
      · rename_i hcc
        obtain ⟨rfl, hl⟩ := hcc
        refine ⟨a, dx, fs, rfl, (of_msk ho).2, (rf.lookup (f := m)).2 hl, hr q B A H1 σ τ s1 _ e1 (st.grow g1) (post_bnd p1 fun ds s2 _ vs H2 g2 e2 rr p2 => ?_)⟩
        dsimp only at p2
        split at p2
        · rename_i hn
          exact ⟨q, A, .obj c' gs :: (ds ++ dd), s2, e2, .cons ((Rep.obj ho rf).mono g2.msk) (rr.append (hd q _)), by rw [List.length_cons]; exact hn, p2⟩
        · exact p2.elim
      · exact p1.elim
    | _ => exact p1.elim)
def mMake (c n : Nat) (mf : MF) (dd : List D) (a : MA) : ME := fun τ s => bnd (a τ s) fun ds s1 => if (ds ++ dd).length = n then bnd (mf (ds ++ dd) s1) fun d s2 => (match d with | .obj c' gs => if c' = c then .ok (.obj c gs) s2 else .bad | _ => .bad) else .bad
/-- what a new object's __init__ is given -/
theorem make_core {q : Option Addr} {A : List Addr} {H1 : Hp} {s : PS} {mi : Addr → MF} {ws : List V} {ds : List D} {x dx : Addr} (hm : ∀ x ds s, ds.length = n → mi x ds s = mf ds s) (e : EI Γ q A H1 s) (r : RepL Γ q (msk A H1) ws ds) (hn : ds.length = n) (hx : H1 x = none) (hdx : H1 dx = none) (hne : dx ≠ x)
    (p : PostG Γ q A H1 (RE Γ q A) (bnd (mf ds s) fun d s2 => (match d with | .obj c' gs => if c' = c then .ok (.obj c gs) s2 else .bad | _ => .bad)) Q E) :
    spI Γ c n mi (.ref x :: ws) (upd (upd H1 dx (.own x)) x (.ins (Γ.cls c) dx [])) (fun v H2 => v = .non ∧ Q (.ref x) H2) E := by
  have hx1 : (upd H1 dx (.own x)) x = none := by rw [upd_ne (fun z => hne z.symm)]; exact hx
  have ex : Ex H1 (upd (upd H1 dx (.own x)) x (.ins (Γ.cls c) dx [])) := (Ex.new hdx).trans (Ex.new hx1)
  have nA : x ∉ A := e.out hx
  have e2 : EI Γ q (x :: A) (upd (upd H1 dx (.own x)) x (.ins (Γ.cls c) dx [])) s := by
    have e1 := e.ex ex
    refine ⟨fun a ha => ?_, e1.tab, fun a ha => ?_⟩
    · obtain ⟨c0, h1, h2, h3⟩ := e.pen a ha
      refine ⟨c0, fun z => ?_, h2.keep fun b o z => ex b o z, h3⟩
      rcases List.mem_cons.mp z with z | z
      · rw [z] at h2
        have := h2.hc
        rw [hx] at this
        cases this
      · exact h1 z
    · rcases List.mem_cons.mp ha with z | z
      · rw [z]; exact .inr ⟨_, _, _, upd_same⟩
      · exact e1.own a z
  have exm : Ex (msk A H1) (msk (x :: A) (upd (upd H1 dx (.own x)) x (.ins (Γ.cls c) dx []))) := fun b o hb => by
    obtain ⟨h1, h2⟩ := of_msk hb
    rw [msk_out (by simp only [List.mem_cons, not_or]; exact ⟨ne_of_none h2 hx, h1⟩)]
    exact ex b o h2
  have gk : ∀ {H'}, Grow (msk [x] (upd (upd H1 dx (.own x)) x (.ins (Γ.cls c) dx []))) H' → Grow H1 H' := fun {H'} g => by
    refine Grow.trans (.ex (fun b o hb => ?_)) g
    rw [msk_out (by simp only [List.mem_singleton]; exact ne_of_none hb hx)]
    exact ex b o hb
  refine ⟨q, A, x, dx, ds, s, ws, rfl, e2, nA, upd_same, r.mono (.ex exm), hn, ?_⟩
  rw [hm _ _ _ hn]
  cases hr : mf ds s with
  | bad => rw [hr] at p; exact p.elim
  | err c' fs s' =>
    rw [hr] at p
    intro xo H' g e' xr
    exact p xo H' (gk g) e' xr
  | ok d s' =>
    rw [hr] at p
    unfold bnd at p
    dsimp only at p
    cases d with
    | obj c' gs =>
      dsimp only at p
      split at p
      · rename_i hcc
        refine ⟨hcc, fun H' dx' fs' g e' hx' rf => ⟨rfl, p (.ref x) H' (gk g) (e'.less fun a h => List.mem_cons_of_mem _ h) ?_⟩⟩
        exact .obj (by rw [msk_out nA]; exact hx') (rf.mono (.ex msk_more))
      · exact p.elim
    | _ => exact p.elim
theorem se_makeD {mi : Addr → MF} {dvs : List V} {dd : List D} (hm : ∀ x ds s, ds.length = n → mi x ds s = mf ds s) (hd : RepC Γ dvs dd) (h : SndA Γ (fun _ => E) tr mr) : SndE Γ (fun _ => E) (tMake (Γ.cls c) (spI Γ c n mi) dvs E tr) (mMake c n mf dd mr) := fun q B A H σ τ s Q ei st p =>
  h q B A H σ τ s _ ei st (post_bnd p fun ds s1 _ vs H1 g1 e1 rr p1 => by
    split at p1
    · rename_i hl
      exact fun x dx hx hdx hne => make_core hm e1 (rr.append (hd q _)) hl hx hdx hne p1
    · exact p1.elim)
/-! ### bodies -/
def mDef (k : Nat) (ms : MS) : MF := fun ds s => match ms (ds.map .val ++ List.replicate k .emp) s with
  | .nx _ s' => .ok .non s'
  | .rt d s' => .ok d s'
  | .er c fs _ s' => .err c fs s'
  | _ => .bad
theorem start_str {q : Option Addr} {B A : List Addr} {k : Nat} : ∀ {vs : List V} {ds : List D}, RepL Γ q (msk A H) vs ds → StR Γ q B A H (vs.map some ++ List.replicate k none) (ds.map .val ++ List.replicate k .emp) := fun {vs ds} r => by
  refine ⟨by rw [List.length_append, List.length_append, List.length_map, List.length_map, List.length_replicate, List.length_replicate, r.length], fun i d hi => ?_, fun i z d hi => ?_⟩
  · by_cases h : i < ds.length
    · rw [List.getElem?_append_left (by rw [List.length_map]; exact h), List.getElem?_map] at hi
      cases hd : ds[i]? with
      | none => rw [hd] at hi; cases hi
      | some e =>
        rw [hd] at hi
        cases hi
        obtain ⟨v, h1, h2⟩ := r.get hd
        exact ⟨v, by rw [List.getElem?_append_left (by rw [List.length_map, r.length]; exact h), List.getElem?_map, h1]; rfl, h2⟩
    · rw [List.getElem?_append_right (by rw [List.length_map]; omega), List.getElem?_replicate] at hi
      split at hi <;> cases hi
  · by_cases h : i < ds.length
    · rw [List.getElem?_append_left (by rw [List.length_map]; exact h), List.getElem?_map] at hi
      cases hd : ds[i]? with
      | none => rw [hd] at hi; cases hi
      | some e => rw [hd] at hi; cases hi
    · rw [List.getElem?_append_right (by rw [List.length_map]; omega), List.getElem?_replicate] at hi
      split at hi <;> cases hi
theorem start_eq {N : List Str} {vs : List V} (h : vs.length + k = N.length) : L2.start N vs = vs.map some ++ List.replicate k none := by
  unfold L2.start
  rw [show N.length - vs.length = k by omega]
theorem def_core {N : List Str} (hs : SndS Γ EX ts ms) {q : Option Addr} {A : List Addr} {ds : List D} {s : PS} (hk : n + k = N.length) (e : EI Γ q A H s) (r : RepL Γ q (msk A H) vs ds) (hn : ds.length = n) (hE : ∀ σ c x H, E c x H → EX σ c x H) (p : PostG Γ q A H (RE Γ q A) (mDef k ms ds s) Q E) :
    ts { nx := fun _ H' => Q .non H', rt := Q } (L2.start N vs) H := by
  rw [start_eq (k := k) (by rw [r.length, hn]; exact hk)]
  refine hs q A A H _ _ s _ (fun _ h => h) e (start_str r) ?_
  have gr : ∀ {A' H'}, Step A A H A' H' → Grow H H' := fun {A' H'} t => ⟨fun a o h n1 n2 => t.keep a o (by by_cases z : a ∈ A; exact .inr z; exact .inl z) h n1 n2, t.dom⟩
  have le : ∀ {A' H' s'}, Step A A H A' H' → EI Γ q A' H' s' → EI Γ q A H' s' := fun t e => e.less t.sub
  unfold mDef at p
  cases hr : ms (ds.map .val ++ List.replicate k .emp) s with
  | nx τ' s' => rw [hr] at p; exact fun A' H' σ' t e' st => p _ H' (gr t) (le t e') .non
  | bk τ' s' => rw [hr] at p; exact p.elim
  | ct τ' s' => rw [hr] at p; exact p.elim
  | rt d s' => rw [hr] at p; exact fun A' H' v t e' rr => p v H' (gr t) (le t e') rr
  | er c fs τ' s' =>
    rw [hr] at p
    intro A' H' σ' x t e' st xr
    refine hE σ' _ _ _ (p x H' (gr t) (le t e') ?_)
    cases fs with
    | nil => exact xr
    | cons f fs =>
      obtain ⟨a, ws, h1, h2, h3⟩ := xr
      exact ⟨a, ws, h1, h2, h3.mono (.ex (msk_sub t.sub))⟩
  | bad => rw [hr] at p; exact p.elim
theorem def_D {N : List Str} (hs : SndS Γ (fun _ => E) ts ms) (hk : n + k = N.length) (h : spD Γ n (mDef k ms) vs H Q E) : ts { nx := fun _ H' => Q .non H', rt := Q } (L2.start N vs) H := by
  obtain ⟨q, A, ds, s, h1, h2, h3, h4⟩ := h
  exact def_core hs hk h1 h2 h3 (fun _ _ _ _ z => z) h4
theorem def_L {N : List Str} (hs : SndS Γ (fun _ => E0) ts ms) (hk : n + k = N.length) (h : spL Γ n (mDef k ms) vs H Q E) : ts { nx := fun _ H' => Q .non H', rt := Q } (L2.start N vs) H := by
  obtain ⟨q, A, ds, s, h1, h2, h3, h4⟩ := h
  exact def_core hs hk h1 h2 h3 (fun _ _ _ _ z => z) h4
def mInit (c k : Nat) (ms : MS) : Addr → MF := fun x ds s => match ms (.own (some x) (.obj c []) :: (ds.map .val ++ List.replicate k .emp)) s with
  | .nx τ' s' => match (τ'[0]? : Option Sl) with
    | some (.own (some y) (.obj c' gs)) => if y = x ∧ c' = c then .ok (.obj c gs) s' else .bad
    | _ => .bad
  | .er e fs _ s' => .err e fs s'
  | _ => .bad
theorem init_str {q : Option Addr} {A : List Addr} {x dx : Addr} {ws : List V} {ds : List D} (hx : H x = some (.ins (Γ.cls c) dx [])) (nA : x ∉ A) (r : RepL Γ q (msk (x :: A) H) ws ds) : StR Γ q A (x :: A) H (some (.ref x) :: (ws.map some ++ List.replicate k none)) (.own (some x) (.obj c []) :: (ds.map .val ++ List.replicate k .emp)) := by
  have z := start_str (B := A) (k := k) r
  refine ⟨by rw [List.length_cons, List.length_cons, z.len], fun i d hi => ?_, fun i y d hi => ?_⟩
  · cases i with
    | zero => cases hi
    | succ i => exact z.val i d hi
  · cases i with
    | zero =>
      cases hi
      refine ⟨x, rfl, ⟨List.mem_cons_self .., nA⟩, ⟨dx, [], hx, .nil⟩, fun _ w => by cases w; rfl, fun j y e hj hs => ?_⟩
      cases j with
      | zero => rfl
      | succ j =>
        have := (z.own j y e hj)
        obtain ⟨a, h1, _⟩ := this
        exfalso
        have hj2 : (ds.map Sl.val ++ List.replicate k Sl.emp)[j]? = some (Sl.own y e) := hj
        by_cases h : j < ds.length
        · rw [List.getElem?_append_left (by rw [List.length_map]; exact h), List.getElem?_map] at hj2
          cases hd : ds[j]? with
          | none => rw [hd] at hj2; cases hj2
          | some e => rw [hd] at hj2; cases hj2
        · rw [List.getElem?_append_right (by rw [List.length_map]; omega), List.getElem?_replicate] at hj2
          split at hj2 <;> cases hj2
    | succ i =>
      exfalso
      have hj2 : (ds.map Sl.val ++ List.replicate k Sl.emp)[i]? = some (Sl.own y d) := hi
      by_cases h : i < ds.length
      · rw [List.getElem?_append_left (by rw [List.length_map]; exact h), List.getElem?_map] at hj2
        cases hd : ds[i]? with
        | none => rw [hd] at hj2; cases hj2
        | some e => rw [hd] at hj2; cases hj2
      · rw [List.getElem?_append_right (by rw [List.length_map]; omega), List.getElem?_replicate] at hj2
        split at hj2 <;> cases hj2
theorem init_D {N : List Str} (hs : SndS Γ (fun _ => E) ts ms) (hk : n + 1 + k = N.length) (h : spI Γ c n (mInit c k ms) vs H Q E) : ts { nx := fun _ H' => Q .non H', rt := Q } (L2.start N vs) H := by
  obtain ⟨q, A, x, dx, ds, s, ws, rfl, e, nA, hx, r, hn, p⟩ := h
  rw [start_eq (k := k) (by rw [List.length_cons, r.length, hn]; exact hk)]
  show ts _ (some (.ref x) :: (ws.map some ++ List.replicate k none)) H
  refine hs q A (x :: A) H _ _ s _ (fun _ h => List.mem_cons_of_mem _ h) e (init_str hx nA r) ?_
  have gr : ∀ {A' H'}, Step A (x :: A) H A' H' → Grow (msk [x] H) H' := fun {A' H'} t => ⟨fun a o h n1 n2 => by
    obtain ⟨h1, h2⟩ := of_msk h
    have h1' : a ≠ x := by simpa using h1
    exact t.keep a o (by by_cases z : a ∈ A; exact .inr z; exact .inl (by simp only [List.mem_cons, not_or]; exact ⟨h1', z⟩)) h2 n1 n2, fun a h => t.dom a (by
      by_cases z : a ∈ [x]
      · rw [msk_in z] at h; exact absurd rfl h
      · rw [msk_out z] at h; exact h)⟩
  unfold mInit at p
  cases hr : ms (.own (some x) (.obj c []) :: (ds.map .val ++ List.replicate k .emp)) s with
  | nx τ' s' =>
    rw [hr] at p
    dsimp only at p
    split at p
    · rename_i y c' gs h0
      split at p
      · rename_i hyc
        obtain ⟨rfl, rfl⟩ := hyc
        intro A' H' σ' t e' st
        obtain ⟨a, h1, h2, ⟨dx', fs', h3, h4⟩, h5, _⟩ := st.own 0 _ _ h0
        obtain rfl := h5 _ rfl
        have sub : ∀ b ∈ a :: A, b ∈ A' := fun b hb => by
          rcases List.mem_cons.mp hb with z | z
          · rw [z]; exact h2.1
          · exact t.sub b z
        exact p.2 H' dx' fs' (gr t) (e'.less sub) h3 (h4.mono (.ex (msk_sub sub)))
      · exact p.elim
    · exact p.elim
  | bk τ' s' => rw [hr] at p; exact p.elim
  | ct τ' s' => rw [hr] at p; exact p.elim
  | rt d s' => rw [hr] at p; exact p.elim
  | er c' fs τ' s' =>
    rw [hr] at p
    intro A' H' σ' xo t e' st xr
    refine p xo H' (gr t) (e'.less t.sub) ?_
    cases fs with
    | nil => exact xr
    | cons f fs =>
      obtain ⟨a, ws', h1, h2, h3⟩ := xr
      exact ⟨a, ws', h1, h2, h3.mono (.ex (msk_sub t.sub))⟩
  | bad => rw [hr] at p; exact p.elim
end
end DN

set_option Elab.async false
set_option linter.all false
set_option maxRecDepth 100000
set_option maxHeartbeats 4000000
/-! Readings and what they compute: what a def owns, own errors that are raised, items, lengths, slices, kinds. -/
namespace DN
open PySem PySem.Spec PyProof.Rows L2 Evl LamX EV2
section
variable {Γ : Gam} {E : XS} {te tk : TE} {me mk : ME} {t : TT} {mt : MT} {tr : TA} {mr : MA} {ts tu : TS} {ms mu : MS} {i c : Nat}
/-! ### what is owned -/
theorem own_step {q : Option Addr} {B A : List Addr} {H1 : Hp} {s : PS} {p : Addr} {o : HO} (e : EI Γ q A H1 s) (hB : ∀ a ∈ B, a ∈ A) (hp : H1 p = none) (ho : Ownb (upd H1 p o) p) : Step B A H1 (p :: A) (upd H1 p o) ∧ EI Γ q (p :: A) (upd H1 p o) s := by
  refine ⟨⟨fun a u _ h _ _ => by rw [upd_ne (ne_of_none h hp)]; exact h, fun a h => ?_, fun a h => List.mem_cons_of_mem _ (hB a h), fun a h => ?_⟩, fun a ha => ?_, e.tab.ext (Ex.new hp), fun a ha => ?_⟩
  · by_cases z : a = p
    · rw [z, upd_same]; simp
    · rw [upd_ne z]; exact h
  · rcases List.mem_cons.mp h with z | z
    · exact .inr (z ▸ hp)
    · exact .inl z
  · obtain ⟨c0, h1, h2, h3⟩ := e.pen a ha
    refine ⟨c0, fun z => ?_, h2.keep fun b o z => Ex.new hp b o z, h3⟩
    rcases List.mem_cons.mp z with z | z
    · rw [z] at h2
      have := h2.hc
      rw [hp] at this
      cases this
    · exact h1 z
  · rcases List.mem_cons.mp ha with z | z
    · rw [z]; exact ho
    · exact (e.new hp).own a z
def sOwnL (i : Nat) (a : MA) : MS := fun τ s => bndS (a τ s) τ fun ds s1 => if ds.length ≤ 100000 then .nx (τ.set i (.own none (.lst ds))) s1 else .bad
theorem ss_ownL (h : SndA Γ E tr mr) : SndS Γ E (tAsg (tLst tr) (gName i)) (sOwnL i mr) := fun q B A H σ τ s De hB ei st p =>
  h q B A H σ τ s _ ei st (post_S hB st p fun ds s1 _ vs H1 g1 e1 rr p1 => by
    split at p1
    · rename_i hl
      refine ⟨sz_of (by rw [rr.length]; exact hl), fun a ha => ?_⟩
      obtain ⟨t1, e2⟩ := own_step (B := B) (o := .lst vs) e1 hB ha (.inl ⟨vs, upd_same⟩)
      refine p1 (a :: A) _ _ t1 e2 ((st.grow g1).take ha (e1.out ha) hB (fun b hb => upd_ne fun z => hb (z ▸ ha)) ⟨vs, upd_same, rr.mono (t1.msk)⟩)
    · exact p1.elim)
theorem put_step {q : Option Addr} {B A : List Addr} {H : Hp} {s : PS} {a : Addr} {o : HO} (e : EI Γ q A H s) (hB : ∀ a ∈ B, a ∈ A) (ha : a ∈ A) (hb : a ∉ B) (ho : Ownb (upd H a o) a) : Step B A H A (upd H a o) ∧ EI Γ q A (upd H a o) s := by
  have hw := e.own a ha
  have hn : H a ≠ none := by rcases hw with ⟨vs, w⟩ | ⟨C, dx, fs, w⟩ <;> (rw [w]; simp)
  refine ⟨⟨fun b u hx h _ _ => ?_, fun b h => ?_, hB, fun b h => .inl h⟩, fun b hb' => ?_, fun x hx => ?_, fun b hb' => ?_⟩
  · have : b ≠ a := fun z => by
      subst z
      rcases hx with w | w
      · exact w ha
      · exact hb w
    rw [upd_ne this]; exact h
  · by_cases z : b = a
    · rw [z, upd_same]; simp
    · rw [upd_ne z]; exact h
  · obtain ⟨c0, h1, h2, h3⟩ := e.pen b hb'
    have n1 : b ≠ a := fun z => by
      subst z
      have := h2.hp
      rcases hw with ⟨vs, w⟩ | ⟨C, dx, fs, w⟩ <;> (rw [w] at this; cases this)
    have n2 : c0 ≠ a := fun z => h1 (z ▸ ha)
    exact ⟨c0, h1, ⟨by rw [upd_ne n1]; exact h2.hp, by rw [upd_ne n2]; exact h2.hc, h2.hl, h2.h0, h2.h1⟩, h3⟩
  · have hx' := e.tab x hx
    obtain ⟨ps, h1, h2, h3⟩ := hx'
    refine ⟨ps, ?_, h2, fun pos cv hc => ?_⟩
    · rw [upd_ne (fun z => by rcases hw with ⟨vs, w⟩ | ⟨C, dx, fs, w⟩ <;> (rw [← z, h1] at w; cases w))]; exact h1
    · obtain ⟨c1, e1, e2⟩ := h3 pos cv hc
      exact ⟨c1, e1, by rw [upd_ne (fun z => by rcases hw with ⟨vs, w⟩ | ⟨C, dx, fs, w⟩ <;> (rw [← z, e2] at w; unfold CodeO at w; cases w))]; exact e2⟩
  · by_cases z : b = a
    · rw [z]; exact ho
    · rcases e.own b hb' with ⟨vs, w⟩ | ⟨C, dx, fs, w⟩
      · exact .inl ⟨vs, by rw [upd_ne z]; exact w⟩
      · exact .inr ⟨C, dx, fs, by rw [upd_ne z]; exact w⟩
def sApp (i : Nat) (a : ME) : MS := fun τ s => match τ[i]? with
  | some (.own z (.lst ds)) => bndS (a τ s) τ fun d s1 => if ds.length < 100000 then .nx (τ.set i (.own z (.lst (ds ++ [d])))) s1 else .bad
  | _ => .bad
theorem ss_app (h : SndE Γ E te me) : SndS Γ E (tDrop (tBM Γ.K "list" rAppend (tVar i) (tCons te tNil))) (sApp i me) := fun q B A H σ τ s De hB ei st p => by
  unfold sApp at p
  split at p
  · rename_i z ds hi
    obtain ⟨a, h1, h2, ⟨vs, h3, h4⟩, h5, h6⟩ := st.own i z _ hi
    refine ⟨_, h1, .inl ⟨rfl, vs, sq_of h3⟩, h q B A H σ τ s _ ei st (post_S hB st p fun d s1 _ v H1 g1 e1 rr p1 => ?_)⟩
    split at p1
    · rename_i hl
      have h3' := g1.keep _ _ h3 (fun _ _ z => by cases z) fun _ z => by cases z
      refine ⟨a, vs, v, rfl, rfl, h3', sz_lt (by rw [h4.length]; exact hl), ?_⟩
      obtain ⟨t1, e2⟩ := put_step (B := B) (o := .lst (vs ++ [v])) e1 hB h2.1 h2.2 (.inl ⟨_, upd_same⟩)
      exact p1 A _ σ t1 e2 ((st.grow g1).put hi h1 ⟨_, upd_same, by rw [msk_upd h2.1]; exact (h4.mono g1.msk).append (.cons rr .nil)⟩)
    · exact p1.elim
  · exact p.elim
def sFldS (c : Nat) (f : Str) (i : Nat) (a : ME) : MS := fun τ s => match τ[i]? with
  | some (.own z (.obj c' gs)) => if c' = c then bndS (a τ s) τ fun d s1 => (if gs.length < 1000 then .nx (τ.set i (.own z (.obj c (putD f d gs)))) s1 else .bad) else .bad
  | _ => .bad
theorem ss_fldO {f : Str} (hc : Cls Γ.K (Γ.cls c)) (hn : NoAttr Γ.K (Γ.cls c) f) (h : SndE Γ E te me) : SndS Γ E (sFld Γ.K (tVar i) te f) (sFldS c f i me) := fun q B A H σ τ s De hB ei st p => by
  unfold sFldS at p
  split at p
  · rename_i z c' gs hi
    split at p
    · rename_i hcc
      subst hcc
      obtain ⟨a, h1, h2, ⟨dx, fs, h3, h4⟩, h5, h6⟩ := st.own i z _ hi
      refine h q B A H σ τ s _ ei st (post_S hB st p fun d s1 _ v H1 g1 e1 rr p1 => ?_)
      split at p1
      · rename_i hl
        have h3' := g1.keep _ _ h3 (fun _ _ z => by cases z) fun _ z => by cases z
        refine ⟨_, h1, a, _, dx, fs, rfl, h3', hc, hn, by rw [h4.length]; exact hl, ?_⟩
        obtain ⟨t1, e2⟩ := put_step (B := B) (o := .ins (Γ.cls c') dx (putF f v fs)) e1 hB h2.1 h2.2 (.inr ⟨_, _, _, upd_same⟩)
        exact p1 A _ σ t1 e2 ((st.grow g1).put hi h1 ⟨_, _, upd_same, by rw [msk_upd h2.1]; exact (h4.mono g1.msk).put rr⟩)
      · exact p1.elim
    · exact p.elim
  · exact p.elim
/-- what was owned is handed on -/
def relS (i : Nat) (τ : Sto) : Sto := match τ[i]? with | some (.own _ d) => τ.set i (.val d) | _ => τ
def sRel (i : Nat) (m : MS) : MS := fun τ s => m (relS i τ) s
theorem ss_rel (h : SndS Γ E ts ms) : SndS Γ E ts (sRel i ms) := fun q B A H σ τ s De hB ei st p => by
  unfold sRel relS at p
  split at p
  · rename_i z d hi
    obtain ⟨a, h1, h2, h3, h4, h5⟩ := st.own i z d hi
    have sb : ∀ b ∈ A.filter (fun b => decide (b ≠ a)), b ∈ A := fun b hb => (List.mem_filter.mp hb).1
    have sB : ∀ b ∈ B, b ∈ A.filter (fun b => decide (b ≠ a)) := fun b hb => List.mem_filter.mpr ⟨hB b hb, decide_eq_true fun z => h2.2 (z ▸ hb)⟩
    have nA : a ∉ A.filter (fun b => decide (b ≠ a)) := fun z => by simpa using (List.mem_filter.mp z).2
    have t1 : Step B A H (A.filter fun b => decide (b ≠ a)) H := ⟨fun _ _ _ h _ _ => h, fun _ h => h, sB, fun b hb => .inl (sb b hb)⟩
    have hx := Grow.ex (msk_sub (H := H) sb)
    have hr : Rep Γ q (msk (A.filter fun b => decide (b ≠ a)) H) (.ref a) d := by
      cases d with
      | lst ds => obtain ⟨vs, w1, w2⟩ := h3; exact .lst (vs := vs) (sq_of (by rw [msk_out nA]; exact w1)) (w2.mono hx)
      | obj c gs => obtain ⟨dx, fs, w1, w2⟩ := h3; exact .obj (by rw [msk_out nA]; exact w1) (w2.mono hx)
      | _ => exact h3.elim
    refine h q B _ H σ _ s De sB (ei.less sb) ?_ (p.step t1)
    refine ⟨by rw [List.length_set]; exact st.len, fun j e hj => ?_, fun j y e hj => ?_⟩
    · rcases get_set hj with ⟨rfl, g1, g2⟩ | ⟨g1, g2⟩
      · cases g1
        exact ⟨_, h1, hr⟩
      · obtain ⟨v, w1, w2⟩ := st.val j e g2
        exact ⟨v, w1, w2.mono hx⟩
    · rcases get_set hj with ⟨rfl, g1, g2⟩ | ⟨g1, g2⟩
      · cases g1
      · obtain ⟨b, w1, w2, w3, w4, w5⟩ := st.own j y e g2
        have nb : b ≠ a := fun z => by
          subst z
          exact g1 (h5 j y e g2 w1).symm
        refine ⟨b, w1, ⟨List.mem_filter.mpr ⟨w2.1, decide_eq_true nb⟩, w2.2⟩, ?_, w4, fun k x f hk hs => ?_⟩
        · cases e with
          | lst ds => obtain ⟨vs, x1, x2⟩ := w3; exact ⟨vs, x1, x2.mono hx⟩
          | obj c gs => obtain ⟨dx, fs, x1, x2⟩ := w3; exact ⟨dx, fs, x1, x2.mono hx⟩
          | _ => exact w3.elim
        · rcases get_set hk with ⟨rfl, g3, _⟩ | ⟨g3, g4⟩
          · cases g3
          · exact w5 k x f g4 hs
  · exact h q B A H σ τ s De hB ei st p
/-- a new object that the def owns -/
def sOwnM (i c n : Nat) (mf : MF) (dd : List D) (a : MA) : MS := fun τ s => bndS (a τ s) τ fun ds s1 => if (ds ++ dd).length = n then (match mf (ds ++ dd) s1 with
    | .ok (.obj c' gs) s2 => if c' = c then .nx (τ.set i (.own none (.obj c gs))) s2 else .bad
    | .err e fs s2 => .er e fs τ s2
    | _ => .bad) else .bad
/-! ### own errors, raised -/
def sRaise (c : Nat) (f : Str) (a : MA) : MS := fun τ s => bndS (a τ s) τ fun ds s1 => match ds with | [d] => .er c [(f, d)] τ s1 | _ => .bad
theorem ss_raise {W : WX} {gV : List V → List V → List V} {f : Str} (hW : ∀ cls d σ H, E σ cls d H → W cls d σ H) (hg : ∀ a v : V, gV [a, v] [] = [a, v]) (h : SndA Γ E tr mr) : SndS Γ E (fun _ σ H => tMkR (Γ.cls c) 1 0 (spI1 (Γ.cls c) f) gV tr tNil σ H fun cls d H' => W cls d σ H') (sRaise c f mr) := fun q B A H σ τ s De hB ei st p =>
  h q B A H σ τ s _ ei st (post_S hB st p fun ds s1 _ vs H1 g1 e1 rr p1 => by
    split at p1
    · rename_i d
      cases rr with
      | cons r1 rr =>
        cases rr
        refine ⟨rfl, rfl, by decide, fun a ha => ?_⟩
        rw [hg]
        exact rr_e1 (Q := fun cls d H' => W cls d σ H') (fun x H' hd sm hx => hW _ _ _ _ (p1 A H' σ (some x) (Step.grow hB (.ex sm)) (e1.ex sm) ((st.grow g1).grow (.ex sm)) ⟨x, _, rfl, hx, .cons (r1.mono (Grow.ex sm).msk) .nil⟩)) a ha
    · exact p1.elim)
def sRaise0 (c : Nat) : MS := fun τ s => .er c [] τ s
theorem ss_raise0 {W : WX} (hW : ∀ cls d σ H, E σ cls d H → W cls d σ H) : SndS Γ E (fun _ σ H => W (.ref (Γ.cls c)) none σ H) (sRaise0 c) := fun q B A H σ τ s De hB ei st p =>
  hW _ _ _ _ (p A H σ none (.refl hB) ei st rfl)
/-! ### items, lengths, slices -/
theorem ixN_len {n m : Nat} {k : Int} (h : n = m) : ixN n k = ixN m k := by rw [h]
theorem RepL.atI {q : Option Addr} {H : Hp} {vs : List V} {ds : List D} {k : Int} {d : D} (r : RepL Γ q H vs ds) (h : L2.atI ds k = some d) : ∃ v, L2.atI vs k = some v ∧ Rep Γ q H v d := by
  unfold L2.atI at h ⊢
  rw [r.length]
  cases hk : ixN ds.length k with
  | none => rw [hk] at h; cases h
  | some j =>
    rw [hk] at h
    obtain ⟨v, h1, h2⟩ := r.get (i := j) h
    exact ⟨v, h1, h2⟩
def dIxL : D → D → M D := fun x y s => match x, y with | .lst ds, .int k => (match L2.atI ds k with | some d => .ok d s | none => .bad) | _, _ => .bad
def dIxT : D → D → M D := fun x y s => match x, y with | .tup ds, .int k => (match L2.atI ds k with | some d => .ok d s | none => .bad) | _, _ => .bad
theorem so_ixL : SndO Γ E (rIxL Γ.K) dIxL := fun q A H σ s v u x y Q ei rx ry p => by
  cases rx with
  | lst h r =>
    cases ry with
    | int k =>
      unfold dIxL at p
      dsimp only at p
      split at p
      · rename_i d hd
        obtain ⟨w, h1, h2⟩ := r.atI hd
        exact ⟨_, _, k, w, rfl, rfl, (Grow.ex ex_nil).sqL h, h1, p w H (Grow.refl _) ei h2⟩
      · exact p.elim
    | _ => exact p.elim
  | _ => cases ry <;> exact p.elim
theorem so_ixT : SndO Γ E (rIxT Γ.K) dIxT := fun q A H σ s v u x y Q ei rx ry p => by
  cases rx with
  | tup h r =>
    cases ry with
    | int k =>
      unfold dIxT at p
      dsimp only at p
      split at p
      · rename_i d hd
        obtain ⟨w, h1, h2⟩ := r.atI hd
        exact ⟨_, _, k, w, rfl, rfl, (Grow.ex ex_nil).sqT h, h1, p w H (Grow.refl _) ei h2⟩
      · exact p.elim
    | _ => exact p.elim
  | _ => cases ry <;> exact p.elim
def dIxS : D → D → M D := fun x y s => match x, y with | .str w, .int k => if w.length ≤ 100000 then (match L2.atI w.cps.toList k with | some c => .ok (.str ⟨#[c]⟩) s | none => .bad) else .bad | _, _ => .bad
theorem so_ixS : SndO Γ E rIxS dIxS := fun q A H σ s v u x y Q ei rx ry p => by
  cases rx with
  | str w =>
    cases ry with
    | int k =>
      unfold dIxS at p
      dsimp only at p
      split at p
      · rename_i hl
        split at p
        · rename_i c hc
          exact ⟨w, k, c, rfl, rfl, sz_of hl, hc, p _ H (Grow.refl _) ei (.str _)⟩
        · exact p.elim
      · exact p.elim
    | _ => exact p.elim
  | _ => cases ry <;> exact p.elim
/-- an item of a list that the def owns -/
def mIxO (i : Nat) (a : ME) : ME := fun τ s => match τ[i]? with
  | some (.own _ (.lst ds)) => bnd (a τ s) fun y s1 => match y with | .int k => (match L2.atI ds k with | some d => .ok d s1 | none => .bad) | _ => .bad
  | _ => .bad
theorem se_ixO (h : SndE Γ E te me) : SndE Γ E (tOp (rIxL Γ.K) (tVar i) te) (mIxO i me) := fun q B A H σ τ s Q ei st p => by
  unfold mIxO at p
  split at p
  · rename_i z ds hi
    obtain ⟨a, h1, h2, ⟨vs, h3, h4⟩, h5, h6⟩ := st.own i z _ hi
    refine ⟨_, h1, h q B A H σ τ s _ ei st (post_bnd p fun y s1 _ u H1 g1 e1 ry p1 => ?_)⟩
    cases ry with
    | int k =>
      dsimp only at p1
      split at p1
      · rename_i d hd
        obtain ⟨w, w1, w2⟩ := (h4.mono g1.msk).atI hd
        exact ⟨a, vs, k, w, rfl, rfl, sq_of (g1.keep _ _ h3 (fun _ _ z => by cases z) fun _ z => by cases z), w1, p1 w H1 (Grow.refl _) e1 w2⟩
      · exact p1.elim
    | _ => exact p1.elim
  · exact p.elim
/-- len -/
def dLen : List D → M D := fun xs s => match xs with
  | [.lst ds] => .ok (.int ds.length) s
  | [.tup ds] => .ok (.int ds.length) s
  | [.str w] => if w.length ≤ 100000 then .ok (.int w.length) s else .bad
  | _ => .bad
theorem sc_len : SndC Γ E (fun xs H Q => ∃ x n, xs = [x] ∧ LenV Γ.K x H n ∧ Q (.int n) H) dLen := fun q A H σ s vs ds Q ei r p => by
  unfold dLen at p
  split at p
  · cases r with
    | cons r1 r => cases r; cases r1 with
      | lst h rl => exact ⟨_, _, rfl, .inl ⟨_, (Grow.ex ex_nil).sqL h, rfl⟩, by rw [rl.length]; exact p _ H (Grow.refl _) ei (.int _)⟩
  · cases r with
    | cons r1 r => cases r; cases r1 with
      | tup h rl => exact ⟨_, _, rfl, .inr ⟨_, (Grow.ex ex_nil).sqT h, rfl⟩, by rw [rl.length]; exact p _ H (Grow.refl _) ei (.int _)⟩
  · cases r with
    | cons r1 r => cases r; cases r1 with
      | str w =>
        split at p
        · rename_i hl
          exact ⟨_, _, rfl, ⟨sz_of hl, rfl⟩, p _ H (Grow.refl _) ei (.int _)⟩
        · exact p.elim
  · exact p.elim
/-- len of a list that the def owns -/
def mLenO (i : Nat) : ME := fun τ s => match τ[i]? with | some (.own _ (.lst ds)) => .ok (.int ds.length) s | _ => .bad
theorem se_lenO : SndE Γ E (tCB (fun xs H Q => ∃ x n, xs = [x] ∧ LenV Γ.K x H n ∧ Q (.int n) H) (tCons (tVar i) tNil)) (mLenO i) := fun q B A H σ τ s Q ei st p => by
  unfold mLenO at p
  split at p
  · rename_i z ds hi
    obtain ⟨a, h1, h2, ⟨vs, h3, h4⟩, h5, h6⟩ := st.own i z _ hi
    exact ⟨_, h1, _, _, rfl, .inl ⟨vs, sq_of h3, rfl⟩, by rw [h4.length]; exact p _ H (Grow.refl _) ei (.int _)⟩
  · exact p.elim
end
end DN

set_option Elab.async false
set_option linter.all false
set_option maxRecDepth 100000
set_option maxHeartbeats 4000000
/-! Readings and what they compute: kinds, None, data that is compared, slices, comprehensions, built-ins. -/
namespace DN
open PySem PySem.Spec PyProof.Rows L2 Evl LamX EV2
section
variable {Γ : Gam} {E : XS} {te tk : TE} {me mk : ME} {t : TT} {mt : MT} {tr : TA} {mr : MA} {ts tu : TS} {ms mu : MS} {i c : Nat}
/-! ### kinds -/
inductive Ty where
  | non | bool | int | str | tuple | list | dict
  deriving DecidableEq
def Ty.nm : Ty → String
  | .non => "NoneType" | .bool => "bool" | .int => "int" | .str => "str" | .tuple => "tuple" | .list => "list" | .dict => "dict"
def tyIs (a b : Ty) : Bool := decide (a = b) || (decide (a = .bool) && decide (b = .int))
theorem kit_Ty : ∀ a b : Ty, b ≠ .non → kitB a.nm b.nm = some (tyIs a b) := by
  intro a b h
  cases a <;> cases b <;> first
    | exact absurd rfl h
    | decide +kernel
/-- the kind of a value: a built-in one, the number of an own class -/
def kindD : D → Option (Sum Ty Nat)
  | .non => some (.inl .non) | .bl _ => some (.inl .bool) | .int _ => some (.inl .int) | .str _ => some (.inl .str)
  | .tup _ => some (.inl .tuple) | .tpf _ => some (.inl .tuple) | .lst _ => some (.inl .list) | .dct => some (.inl .dict)
  | .obj c _ => some (.inr c)
  | _ => none
/-- what is known of an own class for its objects' kind -/
structure OC (K : PySem.W.Frag) (C : Addr) : Prop where
  cl : Cls K C
  ha : PySem.W.findIn K (.ref C) "__class__" = some (some (.builtin "object.__class__"))
  hn : PySem.W.specialIn K (.builtin "object.__class__") "__get__" = some (some (.builtin "getset_descriptor.__get__"))
  ht : PySem.W.takesIn K (.builtin "object.__class__") = some true
  hm : PySem.W.mroIn K C (.type "object") = some true
theorem tyx_L {K : PySem.W.Frag} {H : Hp} {a : Addr} {vs : List V} (h : SqL K H a vs) : TyX K H (.ref a) (.type "list") := by
  rcases h with (h | ⟨o, h⟩) | ⟨o, its, n, h1, h2, _⟩
  · exact .base (.lst h)
  · exact .base (.frz h)
  · exact .kList h1 h2
theorem tyx_T {K : PySem.W.Frag} {H : Hp} {a : Addr} {vs : List V} (h : SqT K H a vs) : TyX K H (.ref a) (.type "tuple") := by
  rcases h with (h | ⟨o, h⟩) | ⟨o, its, n, h1, h2, _⟩
  · exact .base (.tup h)
  · exact .fTuple h
  · exact .kTuple h1 h2
theorem tyx_B {q : Option Addr} {A : List Addr} {H : Hp} {v : V} {d : D} {b : Ty} (r : Rep Γ q (msk A H) v d) (h : kindD d = some (.inl b)) : TyX Γ.K H v (.type b.nm) := by
  cases r <;> simp only [kindD, Option.some.injEq, Sum.inl.injEq, reduceCtorEq] at h <;> first
    | (subst h; first
        | exact .base .non
        | exact .base (.bl _)
        | exact .base (.int _)
        | exact .base (.str _)
        | exact tyx_T ((Grow.ex ex_nil).sqT (by assumption))
        | exact tyx_L ((Grow.ex ex_nil).sqL (by assumption))
        | exact .base (.dK (of_msk (by assumption)).2)
        | exact .fTuple (of_msk (by assumption)).2)
    | exact h.elim
theorem tyx_O {q : Option Addr} {A : List Addr} {H : Hp} {v : V} {d : D} (r : Rep Γ q (msk A H) v d) (h : kindD d = some (.inr c)) (oc : OC Γ.K (Γ.cls c)) : TyX Γ.K H v (.ref (Γ.cls c)) := by
  cases r <;> simp only [kindD, Option.some.injEq, Sum.inr.injEq, reduceCtorEq] at h
  subst h
  exact .base (.ins (of_msk (by assumption)).2 oc.cl oc.ha oc.hn oc.ht oc.hm)
/-- isinstance(x, T), T built-in; os: the own classes that may come -/
def mIsT (b : Ty) (os : List Nat) (a : ME) : ME := fun τ s => bnd (a τ s) fun d s1 => match kindD d with
  | some (.inl k) => .ok (.bl (tyIs k b)) s1
  | some (.inr c) => if c ∈ os then .ok (.bl false) s1 else .bad
  | none => .bad
theorem se_isT {b : Ty} {os : List Nat} (hb : b ≠ .non) (ho : ∀ c ∈ os, OC Γ.K (Γ.cls c) ∧ PySem.W.kitOne Γ.K (.ref (Γ.cls c)) (.type b.nm) = some false) (h : SndE Γ E te me) : SndE Γ E (tCB (rIsi Γ.K) (tCons te (tCons (tC (.ty b.nm)) tNil))) (mIsT b os me) := fun q B A H σ τ s Q ei st p =>
  h q B A H σ τ s _ ei st (post_bnd p fun d s1 _ v H1 g1 e1 rr p1 => by
    split at p1
    · rename_i k hk
      exact ⟨v, .ty b.nm, .type k.nm, .type b.nm, _, rfl, .ty _, tyx_B rr hk, kit_ty (kit_Ty k b hb), p1 _ H1 (Grow.refl _) e1 (.bl _)⟩
    · rename_i c hk
      split at p1
      · rename_i hc
        obtain ⟨oc, hk2⟩ := ho c hc
        exact ⟨v, .ty b.nm, .ref (Γ.cls c), .type b.nm, _, rfl, .ty _, tyx_O rr hk oc, hk2, p1 _ H1 (Grow.refl _) e1 (.bl _)⟩
      · exact p1.elim
    · exact p1.elim)
/-- isinstance(x, C), C an own class; os: other own classes that may come -/
def mIsO (c : Nat) (os : List Nat) (a : ME) : ME := fun τ s => bnd (a τ s) fun d s1 => match kindD d with
  | some (.inl _) => .ok (.bl false) s1
  | some (.inr c') => if c' = c then .ok (.bl true) s1 else if c' ∈ os then .ok (.bl false) s1 else .bad
  | none => .bad
theorem se_isO {os : List Nat} (oc : OC Γ.K (Γ.cls c)) (hb : ∀ b : Ty, PySem.W.kitOne Γ.K (.type b.nm) (.ref (Γ.cls c)) = some false) (ho : ∀ c' ∈ os, OC Γ.K (Γ.cls c') ∧ PySem.W.kitOne Γ.K (.ref (Γ.cls c')) (.ref (Γ.cls c)) = some false) (h : SndE Γ E te me) : SndE Γ E (tCB (rIsi Γ.K) (tCons te (tCons (tC (.ref (Γ.cls c))) tNil))) (mIsO c os me) := fun q B A H σ τ s Q ei st p =>
  h q B A H σ τ s _ ei st (post_bnd p fun d s1 _ v H1 g1 e1 rr p1 => by
    split at p1
    · rename_i k hk
      exact ⟨v, .ref (Γ.cls c), .type k.nm, .ref (Γ.cls c), _, rfl, .own _, tyx_B rr hk, hb k, p1 _ H1 (Grow.refl _) e1 (.bl _)⟩
    · rename_i c' hk
      split at p1
      · rename_i hcc
        subst hcc
        exact ⟨v, .ref (Γ.cls c'), .ref (Γ.cls c'), .ref (Γ.cls c'), true, rfl, .own _, tyx_O rr hk oc, by unfold PySem.W.kitOne; rw [if_pos (by simp)], p1 _ H1 (Grow.refl _) e1 (.bl _)⟩
      · split at p1
        · rename_i hc
          obtain ⟨oc', hk2⟩ := ho c' hc
          exact ⟨v, .ref (Γ.cls c), .ref (Γ.cls c'), .ref (Γ.cls c), _, rfl, .own _, tyx_O rr hk oc', hk2, p1 _ H1 (Grow.refl _) e1 (.bl _)⟩
        · exact p1.elim
    · exact p1.elim)
/-! ### None -/
def isNon : D → Bool | .non => true | _ => false
theorem rep_non {q : Option Addr} {H : Hp} {v : V} {d : D} (r : Rep Γ q H v d) : decide (v = .non) = isNon d := by
  cases r <;> simp [isNon]
def dIsN : D → D → M D := fun x y s => match y with | .non => .ok (.bl (isNon x)) s | _ => .bad
def dNotN : D → D → M D := fun x y s => match y with | .non => .ok (.bl (!isNon x)) s | _ => .bad
theorem so_isN : SndO Γ E rIsN dIsN := fun q A H σ s v u x y Q ei rx ry p => by
  cases ry with
  | non => exact ⟨rfl, by rw [rep_non rx]; exact p _ H (Grow.refl _) ei (.bl _)⟩
  | _ => exact p.elim
theorem so_notN : SndO Γ E rNotN dNotN := fun q A H σ s v u x y Q ei rx ry p => by
  cases ry with
  | non => exact ⟨rfl, by rw [rep_non rx]; exact p _ H (Grow.refl _) ei (.bl _)⟩
  | _ => exact p.elim
/-! ### data that is compared -/
mutual
def toPd : D → Option PyData
  | .non => some .none | .bl b => some (.bool b) | .int i => some (.int i) | .str x => some (.str x)
  | .tup ds => (toPds ds).map .tuple
  | .lst ds => (toPds ds).map .list
  | .tpf ds => (toPds ds).map .tuple
  | _ => none
def toPds : List D → Option (List PyData)
  | [] => some []
  | d :: ds => (toPd d).bind fun e => (toPds ds).map (e :: ·)
end
mutual
theorem dp_rep {q : Option Addr} {A : List Addr} {H : Hp} : ∀ {v : V} {d : D} {e : PyData}, Rep Γ q (msk A H) v d → toPd d = some e → Dp Γ.K H v e
  | _, _, _, .non, h => by simp only [toPd, Option.some.injEq] at h; subst h; exact .non
  | _, _, _, .bl b, h => by simp only [toPd, Option.some.injEq] at h; subst h; exact .bl b
  | _, _, _, .int i, h => by simp only [toPd, Option.some.injEq] at h; subst h; exact .int i
  | _, _, _, .str x, h => by simp only [toPd, Option.some.injEq] at h; subst h; exact .str x
  | _, _, _, .ty n, h => by simp [toPd] at h
  | _, _, _, .adr a, h => by simp [toPd] at h
  | _, _, _, .pen _, h => by simp [toPd] at h
  | _, _, _, .dct _, h => by simp [toPd] at h
  | _, _, _, .obj _ _, h => by simp [toPd] at h
  | _, _, _, .tup hs r, h => by
    simp only [toPd, Option.map_eq_some_iff] at h
    obtain ⟨es, h1, h2⟩ := h
    subst h2
    exact .tup ((Grow.ex ex_nil).sqT hs) (dps_rep r h1)
  | _, _, _, .tpf hs _ r, h => by
    simp only [toPd, Option.map_eq_some_iff] at h
    obtain ⟨es, h1, h2⟩ := h
    subst h2
    exact .tup (.inl (.inr ⟨_, (of_msk hs).2⟩)) (dps_rep r h1)
  | _, _, _, .lst hs r, h => by
    simp only [toPd, Option.map_eq_some_iff] at h
    obtain ⟨es, h1, h2⟩ := h
    subst h2
    exact .lst ((Grow.ex ex_nil).sqL hs) (dps_rep r h1)
theorem dps_rep {q : Option Addr} {A : List Addr} {H : Hp} : ∀ {vs : List V} {ds : List D} {es : List PyData}, RepL Γ q (msk A H) vs ds → toPds ds = some es → DpAll Γ.K H vs es
  | _, _, _, .nil, h => by simp only [toPds, Option.some.injEq] at h; subst h; exact .nil
  | _, _, _, .cons r rs, h => by
    simp only [toPds, Option.bind_eq_some_iff, Option.map_eq_some_iff] at h
    obtain ⟨e, h1, es, h2, h3⟩ := h
    subst h3
    exact .cons (dp_rep r h1) (dps_rep rs h2)
end
def dEqD (neg : Bool) : D → D → M D := fun x y s => match toPd x, toPd y with
  | some d, some e => if SeqAt.shaped d = true ∧ SeqAt.shaped e = true then .ok (.bl (if neg then !PyData.eqv d e else PyData.eqv d e)) s else .bad
  | _, _ => .bad
theorem so_eqD : SndO Γ E (rEqD Γ.K) (dEqD false) := fun q A H σ s v u x y Q ei rx ry p => by
  unfold dEqD at p
  split at p
  · rename_i d e h1 h2
    split at p
    · rename_i hs
      exact ⟨d, e, dp_rep rx h1, dp_rep ry h2, hs.1, hs.2, p _ H (Grow.refl _) ei (.bl _)⟩
    · exact p.elim
  · exact p.elim
theorem so_neD : SndO Γ E (rNeD Γ.K) (dEqD true) := fun q A H σ s v u x y Q ei rx ry p => by
  unfold dEqD at p
  split at p
  · rename_i d e h1 h2
    split at p
    · rename_i hs
      exact ⟨d, e, dp_rep rx h1, dp_rep ry h2, hs.1, hs.2, p _ H (Grow.refl _) ei (.bl _)⟩
    · exact p.elim
  · exact p.elim
/-! ### slices -/
abbrev MO := Sto → M (Option Int)
def SndP (Γ : Gam) (E : XS) (to : TO) (mo : MO) : Prop := ∀ q B A H σ τ s (Q : Option Int → Hp → Prop), EI Γ q A H s → StR Γ q B A H σ τ → PostG Γ q A H (fun _ v d => v = d) (mo τ s) Q (E σ) → to σ H Q
def mNoP : MO := fun _ s => .ok none s
def mPart (a : ME) : MO := fun τ s => bnd (a τ s) fun x s1 => match x with | .int i => .ok (some i) s1 | _ => .bad
theorem sp_no : SndP Γ E tNoPart mNoP := fun q B A H σ τ s Q ei st p => p none H (Grow.refl H) ei rfl
theorem sp_part (h : SndE Γ E te me) : SndP Γ E (tPart te) (mPart me) := fun q B A H σ τ s Q ei st p =>
  h q B A H σ τ s _ ei st (post_bnd p fun x s1 _ v H1 g1 e1 rx p1 => by
    cases rx with
    | int i => exact ⟨i, rfl, p1 _ H1 (Grow.refl _) e1 rfl⟩
    | _ => exact p1.elim)
def SndSl (Γ : Gam) (E : XS) (r : V → Option Int → Option Int → Hp → VK → Prop) (f : D → Option Int → Option Int → M D) : Prop := ∀ q A H σ s v x lo hi (Q : VK), EI Γ q A H s → Rep Γ q (msk A H) v x → PostG Γ q A H (RE Γ q A) (f x lo hi s) Q (E σ) → r v lo hi H Q
def mSl (f : D → Option Int → Option Int → M D) (a : ME) (l h : MO) : ME := fun τ s => bnd (a τ s) fun x s1 => bnd (l τ s1) fun lo s2 => bnd (h τ s2) fun hi s3 => f x lo hi s3
theorem se_sl {r : V → Option Int → Option Int → Hp → VK → Prop} {f : D → Option Int → Option Int → M D} {tl th : TO} {ml mh : MO} (hr : SndSl Γ E r f) (h : SndE Γ E te me) (hl : SndP Γ E tl ml) (hh : SndP Γ E th mh) : SndE Γ E (tSl r te tl th) (mSl f me ml mh) := fun q B A H σ τ s Q ei st p =>
  h q B A H σ τ s _ ei st (post_bnd p fun x s1 _ v H1 g1 e1 rx p1 => hl q B A H1 σ τ s1 _ e1 (st.grow g1) (post_bnd p1 fun lo s2 _ lo' H2 g2 e2 rl p2 => hh q B A H2 σ τ s2 _ e2 ((st.grow g1).grow g2) (post_bnd p2 fun hi s3 _ hi' H3 g3 e3 rh p3 => by
    subst rl rh
    exact hr q A H3 σ s3 v x lo' hi' Q e3 ((rx.mono g2.msk).mono g3.msk) p3)))
def cutD (xs : List D) (lo hi : Option Int) : List D := (xs.drop (HT.sIx xs.length 0 lo)).take (HT.sIx xs.length xs.length hi - HT.sIx xs.length 0 lo)
theorem cut_rep {q : Option Addr} {H : Hp} {vs : List V} {ds : List D} {lo hi : Option Int} (r : RepL Γ q H vs ds) : RepL Γ q H (cutV vs lo hi) (cutD ds lo hi) := by
  unfold cutV cutD
  rw [r.length]
  exact (r.drop _).take _
def dSlL : D → Option Int → Option Int → M D := fun x lo hi s => match x with | .lst ds => .ok (.lst (cutD ds lo hi)) s | _ => .bad
theorem ssl_L : SndSl Γ E (rSlL Γ.K) dSlL := fun q A H σ s v x lo hi Q ei rx p => by
  cases rx with
  | lst h r => exact ⟨_, _, rfl, (Grow.ex ex_nil).sqL h, fun a ha => p _ _ (Grow.new ha) (ei.new ha) (rep_lst ei ha (cut_rep r))⟩
  | _ => exact p.elim
def dSlS : D → Option Int → Option Int → M D := fun x lo hi s => match x with | .str w => if w.length ≤ 100000 then .ok (.str (cutS w lo hi)) s else .bad | _ => .bad
theorem ssl_S : SndSl Γ E rSlS dSlS := fun q A H σ s v x lo hi Q ei rx p => by
  cases rx with
  | str w =>
    unfold dSlS at p
    dsimp only at p
    split at p
    · rename_i hl
      exact ⟨w, rfl, sz_of hl, p _ H (Grow.refl _) ei (.str _)⟩
    · exact p.elim
  | _ => exact p.elim
/-! ### comprehensions -/
def lcD (j : Nat) (c : MT) (e : ME) : List D → List D → ME
  | [], acc, _, s => if acc.length ≤ 100000 then .ok (.lst acc) s else .bad
  | d :: ds, acc, τ, s => match c (τ.set j (.val d)) s with
    | .ok true s1 => (match e (τ.set j (.val d)) s1 with
      | .ok x s2 => if acc.length < 100000 then lcD j c e ds (acc ++ [x]) τ s2 else .bad
      | _ => .bad)
    | .ok false s1 => lcD j c e ds acc τ s1
    | _ => .bad
theorem wipe_set {σ : L2.St} {j : Nat} {x : Option V} : wipe ((wipe σ [j]).set j x) [j] = wipe σ [j] := by
  show ((σ.set j none).set j x).set j none = σ.set j none
  rw [List.set_set, List.set_set]
theorem str_wipe {q : Option Addr} {B A : List Addr} {H : Hp} {σ : L2.St} {τ : Sto} {j : Nat} {v : V} {d : D} (st : StR Γ q B A H σ τ) (r : Rep Γ q (msk A H) v d) : StR Γ q B A H ((wipe σ [j]).set j (some v)) (τ.set j (.val d)) := by
  have e : (wipe σ [j]).set j (some v) = σ.set j (some v) := by
    show (σ.set j none).set j (some v) = σ.set j (some v)
    rw [List.set_set]
  rw [e]
  exact st.set r
theorem side_ex {A : List Addr} {H H' : Hp} {p : Addr} (g : Grow H H') (hp : H p = none) : Grow (msk A H) (msk (p :: A) H') := ⟨fun a o h n1 n2 => by
  obtain ⟨h1, h2⟩ := of_msk h
  rw [msk_out (by simp only [List.mem_cons, not_or]; exact ⟨ne_of_none h2 hp, h1⟩)]
  exact g.keep a o h2 n1 n2, fun a h => by
  by_cases z : a ∈ A
  · rw [msk_in z] at h; exact absurd rfl h
  · rw [msk_out z] at h
    have : a ≠ p := fun w => h (w ▸ hp)
    rw [msk_out (by simp only [List.mem_cons, not_or]; exact ⟨this, z⟩)]
    exact g.dom a h⟩
theorem StR.side {q : Option Addr} {B A : List Addr} {H H' : Hp} {σ : L2.St} {τ : Sto} {p : Addr} (st : StR Γ q B A H σ τ) (g : Grow H H') (hp : H p = none) : StR Γ q B (p :: A) H' σ τ :=
  ⟨st.len, fun i d h => let ⟨v, h1, h2⟩ := st.val i d h; ⟨v, h1, h2.mono (side_ex g hp)⟩, fun i z d h => by
    obtain ⟨a, h1, h2, h3, h4, h5⟩ := st.own i z d h
    refine ⟨a, h1, ⟨List.mem_cons_of_mem _ h2.1, h2.2⟩, ?_, h4, h5⟩
    cases d with
    | lst ds => obtain ⟨vs, x1, x2⟩ := h3; exact ⟨vs, g.keep _ _ x1 (fun _ _ z => by cases z) (fun _ z => by cases z), x2.mono (side_ex g hp)⟩
    | obj c gs => obtain ⟨dx, fs, x1, x2⟩ := h3; exact ⟨dx, fs, g.keep _ _ x1 (fun _ _ z => by cases z) (fun _ z => by cases z), x2.mono (side_ex g hp)⟩
    | _ => exact h3.elim⟩
/-- the block's list is owned while it grows -/
theorem lc_core2 {q : Option Addr} {B A1 : List Addr} {H1 : Hp} {σ : L2.St} {τ : Sto} {s : PS} {J : It} {tt : TT} {ds : List D} {j : Nat} {Q : VK} {D0 : Addr} (hc : SndT Γ (fun _ _ _ _ => False) tt mt) (he : SndE Γ (fun _ _ _ _ => False) te me) (hB : ∀ a ∈ B, a ∈ A1) (ei : EI Γ q A1 H1 s) (st : StR Γ q B A1 H1 σ τ) (hD : H1 D0 = none)
    (hJ : ∀ H' i, Grow H1 H' → (∀ d, ds[i]? = some d → J.go i H' ∧ ∀ x H'', J.yld i H' x H'' → H'' = H' ∧ Rep Γ q (msk A1 H1) x d) ∧ (i = ds.length → J.stop i H')) (p : PostG Γ q A1 H1 (RE Γ q A1) (lcD j mt me ds [] τ s) Q (fun _ _ _ => False)) :
    ∃ W : Nat → Nat → Hp → Prop, (∃ m, W 0 m (upd H1 D0 (.lst []))) ∧ ∀ i m H, W i m H →
      (J.stop i H ∧ Q (.ref D0) H) ∨ (J.go i H ∧ ∃ Nx : Hp → Prop, (∀ H', Nx H' → ∃ m', m' < m ∧ W (i + 1) m' H') ∧ ∀ x H', J.yld i H x H' → gName j x (wipe σ [j]) H' fun σ2 H2 => wipe σ2 [j] = wipe σ [j] ∧ tt σ2 H2 fun b H3 =>
        if b = true then te σ2 H3 fun y H4 => ∃ acc, H4 D0 = some (.lst acc) ∧ acc.length < sizeLine ∧ Nx (upd H4 D0 (.lst (acc ++ [y]))) else Nx H3) := by
  have nA : D0 ∉ A1 := ei.out hD
  refine ⟨fun i m H => ∃ acc vacc s', m = ds.length - i ∧ i ≤ ds.length ∧ Grow H1 H ∧ EI Γ q (D0 :: A1) H s' ∧ H D0 = some (.lst vacc) ∧ RepL Γ q (msk (D0 :: A1) H) vacc acc ∧ PostG Γ q A1 H1 (RE Γ q A1) (lcD j mt me (ds.drop i) acc τ s') Q (fun _ _ _ => False), ?_, ?_⟩
  · obtain ⟨t1, e2⟩ := own_step (B := B) (o := .lst []) ei hB hD (.inl ⟨[], upd_same⟩)
    exact ⟨ds.length, [], [], s, by simp, Nat.zero_le _, Grow.new hD, e2, upd_same, .nil, by simpa using p⟩
  rintro i m H ⟨acc, vacc, s', rfl, hi, g, e, hd, ra, p'⟩
  have sub : ∀ b ∈ A1, b ∈ D0 :: A1 := fun b hb => List.mem_cons_of_mem _ hb
  have e' := e.less sub
  by_cases hlt : i < ds.length
  · have hdi : ds[i]? = some ds[i] := List.getElem?_eq_getElem hlt
    obtain ⟨hgo, hy⟩ := (hJ H i g).1 _ hdi
    have hdr : ds.drop i = ds[i] :: ds.drop (i + 1) := List.drop_eq_getElem_cons hlt
    rw [hdr] at p'
    unfold lcD at p'
    refine .inr ⟨hgo, fun H2 => ∃ acc vacc s', Grow H1 H2 ∧ EI Γ q (D0 :: A1) H2 s' ∧ H2 D0 = some (.lst vacc) ∧ RepL Γ q (msk (D0 :: A1) H2) vacc acc ∧ PostG Γ q A1 H1 (RE Γ q A1) (lcD j mt me (ds.drop (i + 1)) acc τ s') Q (fun _ _ _ => False), ?_, ?_⟩
    · rintro H2 ⟨acc2, vacc2, s2, g2, e2, hd2, ra2, p2⟩
      exact ⟨ds.length - (i + 1), by omega, acc2, vacc2, s2, rfl, by omega, g2, e2, hd2, ra2, p2⟩
    intro x H' hx
    obtain ⟨rfl, hr⟩ := hy x H' hx
    -- the element's value does not lean on the list
    have hr' : Rep Γ q (msk (D0 :: A1) H') x ds[i] := hr.mono (side_ex g hD)
    have st' : StR Γ q B (D0 :: A1) H' σ τ := st.side g hD
    refine ⟨wipe_set, ?_⟩
    refine hc q B (D0 :: A1) H' _ (τ.set j (.val ds[i])) s' _ e (str_wipe st' hr') ?_
    cases hcr : mt (τ.set j (.val ds[i])) s' with
    | bad => rw [hcr] at p'; exact p'.elim
    | err c fs s1 => rw [hcr] at p'; exact p'.elim
    | ok b s1 =>
      rw [hcr] at p'
      intro b' H3 g3 e3 hb
      obtain rfl : b' = b := hb
      cases b' with
      | false =>
        dsimp only at p'
        rw [if_neg Bool.false_ne_true]
        exact ⟨acc, vacc, s1, g.trans g3, e3, g3.keep _ _ hd (fun _ _ z => by cases z) (fun _ z => by cases z), ra.mono g3.msk, p'⟩
      | true =>
        dsimp only at p'
        rw [if_pos rfl]
        refine he q B (D0 :: A1) H3 _ (τ.set j (.val ds[i])) s1 _ e3 ((str_wipe st' hr').grow g3) ?_
        cases her : me (τ.set j (.val ds[i])) s1 with
        | bad => rw [her] at p'; exact p'.elim
        | err c fs s2 => rw [her] at p'; exact p'.elim
        | ok y s2 =>
          rw [her] at p'
          intro v H4 g4 e4 rv
          dsimp only at p'
          split at p'
          · rename_i hl
            have hd4 := (g3.trans g4).keep _ _ hd (fun _ _ z => by cases z) (fun _ z => by cases z)
            have ra4 := (ra.mono g3.msk).mono g4.msk
            refine ⟨vacc, hd4, sz_lt (by rw [ra4.length]; exact hl), ?_⟩
            obtain ⟨t1, e5⟩ := put_step (B := A1) (o := .lst (vacc ++ [v])) e4 sub (List.mem_cons_self ..) nA (.inl ⟨_, upd_same⟩)
            have g14 : Grow H1 H4 := (g.trans g3).trans g4
            have gg : Grow H1 (upd H4 D0 (.lst (vacc ++ [v]))) := ⟨fun a o ha n1 n2 => by rw [upd_ne (ne_of_none ha hD)]; exact g14.keep a o ha n1 n2, fun a ha => by
              by_cases z : a = D0
              · rw [z, upd_same]; simp
              · rw [upd_ne z]; exact g14.dom a ha⟩
            refine ⟨acc ++ [y], vacc ++ [v], s2, gg, e5, upd_same, by rw [msk_upd (List.mem_cons_self ..)]; exact ra4.append (.cons rv .nil), p'⟩
          · exact p'.elim
  · have hie : i = ds.length := by omega
    subst hie
    rw [List.drop_length] at p'
    unfold lcD at p'
    split at p'
    · refine .inl ⟨(hJ H _ g).2 rfl, p' (.ref D0) H g e' ?_⟩
      exact .lst (vs := vacc) (sq_of (by rw [msk_out nA]; exact hd)) (ra.mono (.ex msk_more))
    · exact p'.elim
def mLcL (j : Nat) (a : ME) (c : MT) (e : ME) : ME := fun τ s => bnd (a τ s) fun d s1 => match d with | .lst ds => lcD j c e ds [] τ s1 | _ => .bad
def mLcT (j : Nat) (a : ME) (c : MT) (e : ME) : ME := fun τ s => bnd (a τ s) fun d s1 => match d with | .tup ds => lcD j c e ds [] τ s1 | _ => .bad
def mLcR1 (j : Nat) (a : MA) (c : MT) (e : ME) : ME := fun τ s => bnd (a τ s) fun ds s1 => match ds with | [.int k] => if -(2 ^ 62) ≤ k ∧ k < 2 ^ 62 then lcD j c e (rngD 0 k.toNat) [] τ s1 else .bad | _ => .bad
def mYes : MT := fun _ s => .ok true s
theorem st_yes : SndT Γ E tYes mYes := fun q B A H σ τ s Q ei st p => p true H (Grow.refl H) ei rfl
theorem ex_no {q : Option Addr} {A : List Addr} {H : Hp} {r : Res D} {Q : VK} {σ : L2.St} {ds acc : List D} {j : Nat} {τ : Sto} {s : PS} (p : PostG Γ q A H (RE Γ q A) (lcD j mt me ds acc τ s) Q (E σ)) : PostG Γ q A H (RE Γ q A) (lcD j mt me ds acc τ s) Q (fun _ _ _ => False) := by
  induction ds generalizing acc s with
  | nil =>
    unfold lcD at p ⊢
    split at p
    · rename_i h
      rw [if_pos h]
      exact p
    · exact p.elim
  | cons d ds ih =>
    unfold lcD at p ⊢
    cases h1 : mt (τ.set j (.val d)) s with
    | bad => rw [h1] at p; exact p.elim
    | err c fs s1 => rw [h1] at p; exact p.elim
    | ok b s1 =>
      rw [h1] at p
      cases b with
      | false => exact ih p
      | true =>
        dsimp only at p ⊢
        cases h2 : me (τ.set j (.val d)) s1 with
        | bad => rw [h2] at p; exact p.elim
        | err c fs s2 => rw [h2] at p; exact p.elim
        | ok x s2 =>
          rw [h2] at p
          dsimp only at p ⊢
          split at p
          · rename_i h
            rw [if_pos h]
            exact ih p
          · exact p.elim
theorem se_lcL {tl : TE} {ml : ME} {j : Nat} (h : SndE Γ E tl ml) (hc : SndT Γ (fun _ _ _ _ => False) t mt) (he : SndE Γ (fun _ _ _ _ => False) te me) : SndE Γ E (tLc (iList Γ.K tl) (gName j) t te [j]) (mLcL j ml mt me) := fun q B A H σ τ s Q ei st p =>
  h q B A H σ τ s _ ei st (post_bnd p fun d s1 _ v H1 g1 e1 rr p1 => by
    cases rr with
    | lst hl rl =>
      rename_i a vs ds _
      have hl0 : SqL Γ.K H1 a vs := (Grow.ex ex_nil).sqL hl
      refine ⟨a, rfl, ⟨vs, hl0⟩, fun D0 hD => lc_core2 (B := []) (ds := ds) hc he (fun _ z => by cases z) e1 (?_) hD (fun H' i g => ?_) (ex_no (r := .bad) p1)⟩
      · exact ⟨(st.grow g1).len, (st.grow g1).val, fun i z d h => let ⟨a, h1, h2, h3⟩ := (st.grow g1).own i z d h; ⟨a, h1, ⟨h2.1, fun w => by cases w⟩, h3⟩⟩
      · have hl' : SqL Γ.K H' a vs := g.sqL hl0
        refine ⟨fun d hd => ?_, fun hi => ⟨vs, hl', by rw [rl.length, hi]; exact Nat.le_refl _⟩⟩
        obtain ⟨w, hw, rw'⟩ := rl.get hd
        refine ⟨⟨vs, w, hl', hw⟩, fun x H'' hx => ⟨hx.1, ?_⟩⟩
        have := hx.2 vs hl'
        rw [hw] at this
        cases this
        exact rw'
    | _ => exact p1.elim)
theorem se_lcT {tl : TE} {ml : ME} {j : Nat} (h : SndE Γ E tl ml) (hc : SndT Γ (fun _ _ _ _ => False) t mt) (he : SndE Γ (fun _ _ _ _ => False) te me) : SndE Γ E (tLc (iTup Γ.K tl) (gName j) t te [j]) (mLcT j ml mt me) := fun q B A H σ τ s Q ei st p =>
  h q B A H σ τ s _ ei st (post_bnd p fun d s1 _ v H1 g1 e1 rr p1 => by
    cases rr with
    | tup hl rl =>
      rename_i a vs ds _
      have hl0 : SqT Γ.K H1 a vs := (Grow.ex ex_nil).sqT hl
      refine ⟨a, rfl, ⟨vs, hl0⟩, fun D0 hD => lc_core2 (B := []) (ds := ds) hc he (fun _ z => by cases z) e1 (?_) hD (fun H' i g => ?_) (ex_no (r := .bad) p1)⟩
      · exact ⟨(st.grow g1).len, (st.grow g1).val, fun i z d h => let ⟨a, h1, h2, h3⟩ := (st.grow g1).own i z d h; ⟨a, h1, ⟨h2.1, fun w => by cases w⟩, h3⟩⟩
      · have hl' : SqT Γ.K H' a vs := g.sqT hl0
        refine ⟨fun d hd => ?_, fun hi => ⟨vs, hl', by rw [rl.length, hi]; exact Nat.le_refl _⟩⟩
        obtain ⟨w, hw, rw'⟩ := rl.get hd
        refine ⟨⟨vs, w, hl', hw⟩, fun x H'' hx => ⟨hx.1, ?_⟩⟩
        have := hx.2 vs hl'
        rw [hw] at this
        cases this
        exact rw'
    | _ => exact p1.elim)
theorem se_lcR1 {j : Nat} (h : SndA Γ E tr mr) (hc : SndT Γ (fun _ _ _ _ => False) t mt) (he : SndE Γ (fun _ _ _ _ => False) te me) : SndE Γ E (tLc (iRng1 tr) (gName j) t te [j]) (mLcR1 j mr mt me) := fun q B A H σ τ s Q ei st p =>
  h q B A H σ τ s _ ei st (post_bnd p fun ds s1 _ vs H1 g1 e1 rr p1 => by
    split at p1
    · cases rr with
      | cons r1 rr =>
        cases rr
        cases r1
        split at p1
        · rename_i k _ hj
          refine ⟨_, rfl, hj.1, hj.2, fun D0 hD => lc_core2 (B := []) (ds := rngD 0 k.toNat) hc he (fun _ z => by cases z) e1 ?_ hD (fun H' i g => ?_) (ex_no (r := .bad) p1)⟩
          · exact ⟨(st.grow g1).len, (st.grow g1).val, fun i z d h => let ⟨a, h1, h2, h3⟩ := (st.grow g1).own i z d h; ⟨a, h1, ⟨h2.1, fun w => by cases w⟩, h3⟩⟩
          · have z := rng_core (Γ := Γ) (q := q) (B := []) (A1 := A) (H1 := H1) (lo := 0) (n := k.toNat) A H' i (Step.grow (fun _ z => by cases z) g)
            refine ⟨fun d hd => ?_, z.2⟩
            obtain ⟨z1, z2⟩ := z.1 d hd
            refine ⟨z1, fun x H'' hx => ⟨(z2 x H'' hx).1, ?_⟩⟩
            have z3 := (z2 x H'' hx).2
            have z4 := hx.2
            rw [z4] at z3 ⊢
            cases z3
            exact .int _
        · exact p1.elim
    · exact p1.elim)
/-! ### built-ins -/
def dInt : List D → M D := fun xs s => match xs with
  | [.int i] => .ok (.int i) s
  | [.bl b] => .ok (.int (if b then 1 else 0)) s
  | _ => .bad
theorem sc_int : SndC Γ E (fun xs H Q => (∃ i, xs = [V.int i] ∧ Q (.int i) H) ∨ ∃ k, xs = [V.bl k] ∧ Q (.int (if k then 1 else 0)) H) dInt := fun q A H σ s vs ds Q ei r p => by
  unfold dInt at p
  split at p
  · cases r with
    | cons r1 r => cases r; cases r1; exact .inl ⟨_, rfl, p _ H (Grow.refl _) ei (.int _)⟩
  · cases r with
    | cons r1 r => cases r; cases r1; exact .inr ⟨_, rfl, p _ H (Grow.refl _) ei (.int _)⟩
  · exact p.elim
def c1I (g : Int → D) : List D → M D := fun xs s => match xs with | [.int i] => .ok (g i) s | _ => .bad
def c2I (g : Int → Int → D) : List D → M D := fun xs s => match xs with | [.int i, .int j] => .ok (g i j) s | _ => .bad
theorem sc_1I {gV : Int → V} {g : Int → D} (h : ∀ i q H, Rep Γ q H (gV i) (g i)) : SndC Γ E (fun xs H Q => ∃ i, xs = [.int i] ∧ Q (gV i) H) (c1I g) := fun q A H σ s vs ds Q ei r p => by
  unfold c1I at p
  split at p
  · cases r with
    | cons r1 r => cases r; cases r1; exact ⟨_, rfl, p _ H (Grow.refl _) ei (h _ _ _)⟩
  · exact p.elim
theorem sc_2I {gV : Int → Int → V} {g : Int → Int → D} (h : ∀ i j q H, Rep Γ q H (gV i j) (g i j)) : SndC Γ E (fun xs H Q => ∃ i j, xs = [.int i, .int j] ∧ Q (gV i j) H) (c2I g) := fun q A H σ s vs ds Q ei r p => by
  unfold c2I at p
  split at p
  · cases r with
    | cons r1 r => cases r with
      | cons r2 r => cases r; cases r1; cases r2; exact ⟨_, _, rfl, p _ H (Grow.refl _) ei (h _ _ _ _)⟩
  · exact p.elim
end
end DN

set_option Elab.async false
set_option linter.all false
set_option maxRecDepth 100000
set_option maxHeartbeats 4000000
/-! Readings and what they compute: great numbers, truth, texts joined. -/
namespace DN
open PySem PySem.Spec PyProof.Rows L2 Evl LamX EV2
def CFd (i j : Int) : Prop := j ≠ 0 ∧ j.natAbs.log2 < 9000
theorem op_fdX {X : Cx} : OpR X (binaryOp .FloorDiv) (rI CFd fun i j => .int (i.fdiv j)) := opI fun i j _ _ _ _ _ hc q => floordiv_int hc.1 q (.inl (PyProof.noPylong_of_log2 hc.2))
section
variable {Γ : Gam} {E : XS} {te tk : TE} {me mk : ME} {t : TT} {mt : MT} {tr : TA} {mr : MA} {i c : Nat}
def dMul := o2C (fun i j => decide (i.natAbs.log2 + j.natAbs.log2 < 1000000)) fun i j => .int (i * j)
def dFd := o2C (fun i j => decide (j ≠ 0 ∧ j.natAbs.log2 < 9000)) fun i j => .int (i.fdiv j)
def dMod := o2C (fun _ j => decide (j ≠ 0)) fun i j => .int (i.fmod j)
def dPow := o2C (fun i j => decide (0 ≤ j ∧ j ≤ 1000000 ∧ i.natAbs < 2 ^ 64)) fun i j => .int (i ^ j.toNat)
def dShl := o2C (fun i j => decide (0 ≤ j ∧ j ≤ 1000000 ∧ i.natAbs < 2 ^ 64)) fun i j => .int (i * 2 ^ j.toNat)
def dShr := o2C (fun _ j => decide (0 ≤ j)) fun i j => .int (i / 2 ^ j.toNat)
def dBand := o2I fun i j => .int (Builtin.bitAnd i j)
theorem so_mul : SndO Γ E (rI CMulW fun i j => .int (i * j)) dMul := so_I (fun i j h => by unfold CMulW; simpa using h) fun _ _ _ _ => .int _
theorem so_fd : SndO Γ E (rI CFd fun i j => .int (i.fdiv j)) dFd := so_I (fun i j h => by unfold CFd; simpa using h) fun _ _ _ _ => .int _
theorem so_mod : SndO Γ E (rI (fun _ j => j ≠ 0) fun i j => .int (i.fmod j)) dMod := so_I (fun i j h => by simpa using h) fun _ _ _ _ => .int _
theorem so_pow : SndO Γ E (rI CPow fun i j => .int (i ^ j.toNat)) dPow := so_I (fun i j h => by unfold CPow; simpa using h) fun _ _ _ _ => .int _
theorem so_shr : SndO Γ E (rI (fun _ j => 0 ≤ j) fun i j => .int (i / 2 ^ j.toNat)) dShr := so_I (fun i j h => by simpa using h) fun _ _ _ _ => .int _
theorem so_band : SndO Γ E (rI0 fun i j => .int (Builtin.bitAnd i j)) dBand := so_I0 fun _ _ _ _ => .int _
theorem so_lt : SndO Γ E (rI0 fun i j => .bl (decide (i < j))) dLt := so_I0 fun _ _ _ _ => .bl _
theorem so_le : SndO Γ E (rI0 fun i j => .bl (decide (i ≤ j))) dLe := so_I0 fun _ _ _ _ => .bl _
theorem so_gt : SndO Γ E (rI0 fun i j => .bl (decide (i > j))) dGt := so_I0 fun _ _ _ _ => .bl _
theorem so_ge : SndO Γ E (rI0 fun i j => .bl (decide (i ≥ j))) dGe := so_I0 fun _ _ _ _ => .bl _
def dNeg := u1I fun i => .int (-i)
theorem su_neg : SndU Γ E (rU fun i => .int (-i)) dNeg := su_I fun _ _ _ => .int _
/-- truth of a value -/
def truD : D → Option Bool
  | .non => some false | .bl b => some b | .int i => some (i != 0)
  | .str x => if x.length ≤ 100000 then some ((x.length : Int) != 0) else none
  | .lst ds => some (!ds.isEmpty) | .tup ds => some (!ds.isEmpty)
  | _ => none
def mTru (a : ME) : MT := fun τ s => bnd (a τ s) fun d s1 => match truD d with | some b => .ok b s1 | none => .bad
def dGcd : List D → M D := fun xs s => match xs with | [.int i, .int j] => .ok (.int ((Nat.gcd i.natAbs j.natAbs : Nat) : Int)) s | _ => .bad
theorem sc_gcd : SndC Γ E rGcd dGcd := fun q A H σ s vs ds Q ei r p => by
  unfold dGcd at p
  split at p
  · cases r with
    | cons r1 r => cases r with
      | cons r2 r => cases r; cases r1; cases r2; exact ⟨_, _, rfl, p _ H (Grow.refl _) ei (.int _)⟩
  · exact p.elim
def dAbs := c1I fun i => .int (if i < 0 then -i else i)
theorem sc_abs : SndC Γ E (fun xs H Q => ∃ i, xs = [.int i] ∧ Q (.int (if i < 0 then -i else i)) H) dAbs := sc_1I fun _ _ _ => .int _
def dMax2 := c2I fun i j => .int (if j > i then j else i)
def dMin2 := c2I fun i j => .int (if j < i then j else i)
theorem sc_max2 : SndC Γ E (fun xs H Q => ∃ i j, xs = [.int i, .int j] ∧ Q (.int (if j > i then j else i)) H) dMax2 := sc_2I fun _ _ _ _ => .int _
theorem sc_min2 : SndC Γ E (fun xs H Q => ∃ i j, xs = [.int i, .int j] ∧ Q (.int (if j < i then j else i)) H) dMin2 := sc_2I fun _ _ _ _ => .int _
/-- bit_length -/
def mBits (a : ME) : ME := fun τ s => bnd (a τ s) fun d s1 => match d with | .int i => .ok (.int (Builtin.Int.intBits i : Nat)) s1 | _ => .bad
theorem se_bits (h : SndE Γ E te me) : SndE Γ E (tBits te) (mBits me) := fun q B A H σ τ s Q ei st p =>
  h q B A H σ τ s _ ei st (post_bnd p fun d s1 _ v H1 g1 e1 rr p1 => by
    cases rr with
    | int i => exact ⟨i, rfl, p1 _ H1 (Grow.refl _) e1 (.int _)⟩
    | _ => exact p1.elim)
theorem st_tru (h : SndE Γ E te me) : SndT Γ E (fun σ H Q => te σ H fun x H' => ∃ k, TruV Γ.K x H' k ∧ Q k H') (mTru me) := fun q B A H σ τ s Q ei st p =>
  h q B A H σ τ s _ ei st (post_bnd p fun d s1 _ v H1 g1 e1 rr p1 => by
    split at p1
    · rename_i b hb
      have hq := p1 b H1 (Grow.refl _) e1 rfl
      cases rr with
      | non => cases hb; exact ⟨_, rfl, hq⟩
      | bl b => cases hb; exact ⟨_, rfl, hq⟩
      | int i => cases hb; exact ⟨_, rfl, hq⟩
      | str x =>
        by_cases hl : x.length ≤ 100000
        · have hb2 : some ((x.length : Int) != 0) = some b := by
            rw [← hb]; simp only [truD, if_pos hl]
          cases hb2
          exact ⟨_, ⟨sz_of hl, rfl⟩, hq⟩
        · simp only [truD, if_neg hl] at hb
          cases hb
      | lst h r =>
        cases hb
        refine ⟨_, .inl ⟨_, (Grow.ex ex_nil).sqL h, ?_⟩, hq⟩
        cases r <;> rfl
      | tup h r =>
        cases hb
        refine ⟨_, .inr (.inl ⟨_, (Grow.ex ex_nil).sqT h, ?_⟩), hq⟩
        cases r <;> rfl
      | _ => cases hb
    · exact p1.elim)
end
end DN

set_option Elab.async false
set_option linter.all false
set_option maxRecDepth 100000
set_option maxHeartbeats 4000000
/-! == and != by an own __eq__, whatever it answers and whatever stands at the right. -/
namespace TX
open PySem PySem.Spec PyProof.Rows L2 Evl
/-- x == y, x an instance of the class at C whose __eq__ keeps the promise sp -/
def rEqO (K : PySem.W.Frag) (C : Addr) (sp : Sp) (E : XK) : R2 := fun x y H Q => ∃ (a dx : Addr) (fs : List (Str × V)) (t : Value), x = .ref a ∧ H a = some (.ins C dx fs) ∧ TyX K H y t ∧ PySem.W.notFirst K C t = true ∧ sp [x, y] H (fun v H' => (∃ b, v = .bl b) ∧ Q v H') E
theorem op_eqO {X : Cx} {CX : CXT} {n : Nat} {C f : Addr} {fd : FuncData} {ps : List Str} {sp : Sp} {E : XK} (F : FnOk X.prog X.w X.K X.mg X.base CX n f fd ps sp) (hs : PySem.W.findIn X.K (.ref C) "__eq__" = some (some (.ref f))) (hf : PySem.W.isFn X.K (.ref f) = true)
    (hb : Binds X.K fd ps []) (hx : Passes CX X E) (hr : Room n X.A) : OpR X (compareOp .Eq) (rEqO X.K C sp E) := by
  intro pins s σ H x y v u Q I rx ry hq
  obtain ⟨a, dx, fs, t, rfl, ha, ty, hn, hsp⟩ := hq
  obtain rfl : v = Value.ref a := rx
  obtain ⟨mA, J, _⟩ := ins_get I.hok ha
  obtain ⟨od, J, _⟩ := J.look
  obtain ⟨Pz, Z, pz, _⟩ := kit_of I ry ty
  obtain ⟨m, hF⟩ := I.fr
  show wpAny (model X.prog X.w) X.A (richCompare .Eq (.ref a) u) (EP X pins σ Q) X.xe s
  refine PySem.W.cmp_K (op := .Eq) (tb := t) hr.units0 hF I.ok.mod.kin J (Z.ty _ _ I.kIn pz) hn hs hf ?_
  refine wpAny_mono (run_fn (vs := [V.ref a, y]) (dvs := []) F hr hb .nil hx I (show Vals [V.ref a, y] [Value.ref a, u] from .cons rfl (.cons ry .nil)) hsp) (fun w s1 o => ?_) fun _ _ q => q
  obtain ⟨z, H1, I1, rz, ⟨b, ez⟩, q⟩ := o
  subst ez
  obtain rfl : w = Value.bool b := rz
  exact ⟨.bl b, H1, I1, rfl, q⟩
end TX
namespace TX
open PySem PySem.Spec PyProof.Rows L2 Evl
theorem ns_some_of {K : PySem.W.Frag} {h : Heap} {N : Addr} {mg : Str → Option Value} {n : Str} {v : Value} (X : K.In h) (G : h.Ns N mg) (e : PySem.W.nsIn K N n = some (some v)) : mg n = some v := by
  obtain ⟨o, es, ep, ho, hd, _, hf⟩ := G
  unfold PySem.W.nsIn at e
  split at e
  · rename_i q
    have z := X _ _ q
    rw [ho] at z
    cases z
    cases hd
    split at e
    · rename_i en he
      rw [← hf]
      unfold nsFind findBy
      rw [← Array.find?_toList, he]
      exact Option.some.inj e
    · split at e <;> cases e
  · cases e
/-- a plain class with an own __eq__ and no __ne__: N its names' table -/
structure EqC (K : PySem.W.Frag) (C N f : Addr) : Prop where
  line : ∃ (nm q : Str) (bs : List Value) (hdct : Bool) (sn : List Str) (sub : List Value) (ab : Bool) (col : Option Bool) (dd : Option Addr) (k0 k1 k2 k3 k5 : Option Value) (newId : String), K.lookup C = some (excClassObj nm q C N bs [.type "object"] hdct sn sub ab col dd k0 k1 k2 k3 k5 newId)
  ok : PySem.W.nsOkIn K N = true
  eq : PySem.W.nsIn K N "__eq__" = some (some (.ref f))
  ne : PySem.W.nsIn K N "__ne__" = some none
  fn : ∃ of, K.lookup f = some of ∧ of.cls = .type "function"
/-- x != y, both instances of that class -/
def rNeO (C : Addr) (sp : Sp) (E : XK) : R2 := fun x y H Q => ∃ (a b dx dy : Addr) (fs gs : List (Str × V)), x = .ref a ∧ y = .ref b ∧ H a = some (.ins C dx fs) ∧ H b = some (.ins C dy gs) ∧ sp [x, y] H (fun v H' => ∃ b, v = .bl b ∧ Q (.bl (!b)) H') E
theorem op_neO {X : Cx} {CX : CXT} {n : Nat} {C N f : Addr} {fd : FuncData} {ps : List Str} {sp : Sp} {E : XK} {yB : Option Value} (F : FnOk X.prog X.w X.K X.mg X.base CX n f fd ps sp) (e : EqC X.K C N f) (hB : typeLookup (.type "object") ("__eq__" : Str) = pure yB)
    (hb : Binds X.K fd ps []) (hx : Passes CX X E) (hr : Room (n + 1) X.A) : OpR X (compareOp .NotEq) (rNeO C sp E) := by
  intro pins s σ H x y v u Q I rx ry hq
  obtain ⟨a, b, dx, dy, fs, gs, rfl, rfl, ha, hb2, hsp⟩ := hq
  obtain rfl : v = Value.ref a := rx
  obtain rfl : u = Value.ref b := ry
  obtain ⟨mA, J, _⟩ := ins_get I.hok ha
  obtain ⟨mB, J2, _⟩ := ins_get I.hok hb2
  obtain ⟨od, J, _⟩ := J.look
  obtain ⟨od2, J2, _⟩ := J2.look
  obtain ⟨nm, q, bs, hdct, sn, sub, ab, col, dd, k0, k1, k2, k3, k5, newId, hC⟩ := e.line
  obtain ⟨of, hof, hfc⟩ := e.fn
  have KX := I.kIn
  have G : s.heap.Ns N (s.heap.nsMap N) := .of_isNs (PySem.W.isNs_of_in KX e.ok)
  have Y : s.heap.OwnEqNoNe a C f "object" [.type "object"] :=
    ⟨_, of, nm, q, N, bs, hdct, sn, sub, ab, col, dd, k0, k1, k2, k3, k5, newId, s.heap.nsMap N, yB, J.at_, J.cls, KX _ _ hC, G, ns_some_of KX G e.eq, KX _ _ hof, hfc, PySem.F.mro_object, hB, PySem.W.ns_none_of KX G e.ne⟩
  have i0 := I.env0
  have e0 : Env0 X.prog X.w X.K X.mg X.base X.A.in1 X.stack s H := ⟨i0.frames, i0.mod, i0.bs, i0.bsz, i0.funs, i0.frf, i0.hok, i0.bare⟩
  have r2 : Vals [V.ref a, V.ref b] [Value.ref a, Value.ref b] := .cons rfl (.cons rfl .nil)
  have hl := F.len _ _ _ _ hsp
  have hcall : wpAny (model X.prog X.w) X.A.in1 (call (.ref f) [.ref a, .ref b]) (fun v s' => ∃ b, v = .bool b ∧ EP X pins σ Q (.bool (!b)) s') X.xe s := by
    refine wpAny_call (codeAny_mono (F.run X.A.in1 X.stack s H ⟨[.ref a, .ref b], []⟩ [.ref a, .ref b] [.ref a, .ref b] _ E hr.in1 e0 (by
      have z := hb s [.ref a, .ref b] I.kIn (by simpa using hl)
      simpa using z) r2 hsp) fun r s1 o => ?_)
    cases r with
    | error ex => exact hx pins σ H s ex s1 I o
    | ok fl =>
      cases fl with
      | ret w =>
        obtain ⟨z, H1, I1, rz, ⟨b, ez, q⟩⟩ := I.after o
        subst ez
        obtain rfl : w = Value.bool b := rz
        exact ⟨b, rfl, .bl (!b), H1, I1, rfl, q⟩
      | next => exact o.elim
      | brk => exact o.elim
      | cont => exact o.elim
  have hu : X.A.units + 1 < cLine := hu_of hr
  obtain ⟨hp, g, d, t, os⟩ := s
  exact compareOp_ne_ownEq PySem.F.cmp_object Y J2.at_ J2.cls hu hcall
end TX

set_option Elab.async false
set_option linter.all false
set_option maxRecDepth 100000
set_option maxHeartbeats 4000000
/-! What is known of a law's errors and classes. -/
namespace DN
open PySem PySem.Spec PyProof.Rows L2 Evl LamX EV2
theorem hx0 {X : Cx} : Passes CX0 X fun _ _ _ => False := fun _ _ _ _ _ _ _ h => h.elim
/-- an error with one field -/
structure Er (K : PySem.W.Frag) (mg : Str → Option Value) (x q : Str) (st : Stmt) (f : Str) (S C fI : Addr) (fd : FuncData) : Prop where
  gC : mg x = some (.ref C)
  ec : ErrC K C fI
  xf : XfC K C
  no : PySem.W.findIn K (.ref C) f = some none
  F : Fun K "__init__" q st fI fd
  ln : LineOf K S C
  nS : C ≠ S
/-- one without -/
structure ErN (K : PySem.W.Frag) (mg : Str → Option Value) (x : Str) (S C : Addr) : Prop where
  gC : mg x = some (.ref C)
  xC : PySem.W.excIn K C [.type "ValueError", .type "Exception", .type "BaseException", .type "object"] "ValueError.__new__" = true
  kC : PySem.W.keepIn K (.ref C) = true
  ln : LineOf K S C
  nS : C ≠ S
section
variable {Γ : Gam} {n k i c : Nat} {mf mf' : MF} {E : XK} {tr : TA} {mr : MA}
theorem StR.takeG {q : Option Addr} {B A : List Addr} {H H' : Hp} {σ : L2.St} {τ : Sto} {p : Addr} {d : D} (st : StR Γ q B A H σ τ) (g : Grow H H') (hn : H p = none) (hp : p ∉ A) (hB : ∀ a ∈ B, a ∈ A) (ho : OwnAt Γ q (p :: A) H' p d) : StR Γ q B (p :: A) H' (σ.set i (some (.ref p))) (τ.set i (.own none d)) := by
  have s2 := st.side g hn
  refine ⟨by rw [List.length_set, List.length_set, st.len], fun j e hj => ?_, fun j y e hj => ?_⟩
  · rcases get_set hj with ⟨rfl, h1, h2⟩ | ⟨h1, h2⟩
    · cases h1
    · obtain ⟨u, h3, h4⟩ := s2.val j e h2
      exact ⟨u, by rw [List.getElem?_set_ne (fun z => h1 z.symm)]; exact h3, h4⟩
  · rcases get_set hj with ⟨rfl, h1, h2⟩ | ⟨h1, h2⟩
    · cases h1
      refine ⟨p, by rw [List.getElem?_set_self (by rw [st.len]; exact h2)], ⟨List.mem_cons_self .., fun z => hp (hB p z)⟩, ho, fun _ z => (by cases z), fun k x f hk hs => ?_⟩
      rcases get_set hk with ⟨rfl, _, _⟩ | ⟨h7, h8⟩
      · rfl
      · obtain ⟨a, h9, h10, _⟩ := st.own k x f h8
        rw [List.getElem?_set_ne (fun z => h7 z.symm), h9] at hs
        cases hs
        exact absurd h10.1 hp
    · obtain ⟨a, h3, h4, h5, h5', h6⟩ := s2.own j y e h2
      obtain ⟨a', w3, w4, _⟩ := st.own j y e h2
      rw [h3] at w3
      cases w3
      refine ⟨a, by rw [List.getElem?_set_ne (fun z => h1 z.symm)]; exact h3, h4, h5, h5', fun k x f hk hs => ?_⟩
      rcases get_set hk with ⟨rfl, h7, h8⟩ | ⟨h7, h8⟩
      · cases h7
        rw [List.getElem?_set_self (by rw [st.len]; exact h8)] at hs
        cases hs
        exact absurd w4.1 hp
      · exact h6 k x f h8 (by rw [List.getElem?_set_ne (fun z => h7 z.symm)] at hs; exact hs)
/-- what stands ahead of a new object's __init__ -/
theorem make_pre {q : Option Addr} {A : List Addr} {H1 : Hp} {s : PS} {x dx : Addr} (e : EI Γ q A H1 s) (hx : H1 x = none) (hdx : H1 dx = none) (hne : dx ≠ x) :
    EI Γ q (x :: A) (upd (upd H1 dx (.own x)) x (.ins (Γ.cls c) dx [])) s ∧ Grow (msk A H1) (msk (x :: A) (upd (upd H1 dx (.own x)) x (.ins (Γ.cls c) dx []))) ∧ ∀ H', Grow (msk [x] (upd (upd H1 dx (.own x)) x (.ins (Γ.cls c) dx []))) H' → Grow H1 H' := by
  have hx1 : (upd H1 dx (.own x)) x = none := by rw [upd_ne (fun z => hne z.symm)]; exact hx
  have ex : Ex H1 (upd (upd H1 dx (.own x)) x (.ins (Γ.cls c) dx [])) := (Ex.new hdx).trans (Ex.new hx1)
  refine ⟨?_, side_ex (.ex ex) hx, fun H' g => ?_⟩
  · have e1 := e.ex ex
    refine ⟨fun a ha => ?_, e1.tab, fun a ha => ?_⟩
    · obtain ⟨c0, h1, h2, h3⟩ := e.pen a ha
      refine ⟨c0, fun z => ?_, h2.keep fun b o z => ex b o z, h3⟩
      rcases List.mem_cons.mp z with z | z
      · rw [z] at h2
        have := h2.hc
        rw [hx] at this
        cases this
      · exact h1 z
    · rcases List.mem_cons.mp ha with z | z
      · rw [z]; exact .inr ⟨_, _, _, upd_same⟩
      · exact e1.own a z
  · refine Grow.trans (.ex (fun b o hb => ?_)) g
    rw [msk_out (by simp only [List.mem_singleton]; exact ne_of_none hb hx)]
    exact ex b o hb
theorem ss_ownM {mi : Addr → MF} {dvs : List V} {dd : List D} (hm : ∀ x ds s, ds.length = n → mi x ds s = mf ds s) (hd : RepC Γ dvs dd) (h : SndA Γ (fun _ => E) tr mr) : SndS Γ (fun _ => E) (tAsg (tMake (Γ.cls c) (spI Γ c n mi) dvs E tr) (gName i)) (sOwnM i c n mf dd mr) := fun q B A H σ τ s De hB ei st p =>
  h q B A H σ τ s _ ei st (post_S hB st p fun ds s1 _ vs H1 g1 e1 rr p1 => by
    split at p1
    · rename_i hl
      intro x dx hx hdx hne
      obtain ⟨e2, gm, gk⟩ := make_pre (c := c) e1 hx hdx hne
      have nA : x ∉ A := e1.out hx
      refine ⟨q, A, x, dx, ds ++ dd, s1, _, rfl, e2, nA, upd_same, (rr.append (hd q _)).mono gm, hl, ?_⟩
      rw [hm _ _ _ hl]
      cases hr : mf (ds ++ dd) s1 with
      | bad => rw [hr] at p1; exact p1.elim
      | err e fs s2 =>
        rw [hr] at p1
        exact fun xo H' g e' xr => p1 A H' σ xo (Step.grow hB (gk H' g)) e' ((st.grow g1).grow (gk H' g)) xr
      | ok d s2 =>
        rw [hr] at p1
        cases d with
        | obj c' gs =>
          dsimp only at p1
          split at p1
          · rename_i hcc
            refine ⟨hcc, fun H' dx' fs' g e' hx' rf => ⟨rfl, ?_⟩⟩
            have g2 := gk H' g
            refine p1 (x :: A) H' _ ⟨fun a o _ ha n1 n2 => g2.keep a o ha n1 n2, g2.dom, fun a ha => List.mem_cons_of_mem _ (hB a ha), fun a ha => ?_⟩ e' ((st.grow g1).takeG g2 hx nA hB ⟨dx', fs', hx', rf⟩)
            rcases List.mem_cons.mp ha with z | z
            · exact .inr (z ▸ hx)
            · exact .inl z
          · exact p1.elim
        | _ => exact p1.elim
    · exact p1.elim)
end
end DN

set_option Elab.async false
set_option linter.all false
set_option maxRecDepth 100000
set_option maxHeartbeats 4000000
/-! own + - *: the left one own, the right one of any kind; the left one built-in, the right one own. -/
namespace PySem.W
open Lean Elab Tactic Meta PySem PySem.Calls PyProof.Rows
section
variable {prog : Program} {w : World} {A : Around} {E : Value → Shared → Prop} {s : Shared} {K : Frag} {x C L f g : Addr} {h₀ : Heap} {m : Str → Option Value} {ox : Obj} {od : Option Obj} {nm T : String}
/-- own left, built-in right -/
theorem bin_ownT {op : Operator} {b : Value} {fo ro rc : Option Value} {Q : Value → Shared → Prop} (F : Fr h₀ L s.heap m) (X₀ : K.In h₀) (I : InstAt s.heap x ox C od) (hb : Looks (model prog w) s.heap (typeOf b) (.type T)) (hc : selfFirst K C = true)
    (hs : findIn K (.ref C) (PySem.dunder op.info.2) = some (some (.ref f))) (hf : isFn K (.ref f) = true) (hr : findIn K (.ref C) (dunderR op.info.2) = some rc) (hp : rc = none ∨ ∃ g : Addr, rc = some (.ref g))
    (h1 : findIn K (.type T) (PySem.dunder op.info.2) = some fo) (h2 : findIn K (.type T) (dunderR op.info.2) = some ro) (hsub : subIn K (.type T) (.ref C) = some false)
    (h : wpAny (model prog w) A (call (.ref f) [.ref x, b]) (CmpBack Q) E s) : wpAny (model prog w) A (binaryOp op (.ref x) b) Q E s := by
  have X := X₀.keeps F.keep
  obtain ⟨cd, rest, hcd, hm⟩ := ksp_first hc
  rcases hi : op.info with ⟨sym, nm'⟩
  rw [hi] at hs hr h1 h2
  dsimp only at hs hr h1 h2
  have one := ksp_try X I hs hf h
  obtain ⟨hh, g, d, tt, os⟩ := s
  have L1 : Looks (model prog w) hh (typeOf (.ref x)) (.ref C) := I.type
  have L2 : Looks (model prog w) hh (typeOf b) (.type T) := hb
  have L3 : Looks (model prog w) hh (fillsNumberSlot (.ref C) nm') true := fills_K X hcd hm hs
  have L4 : Looks (model prog w) hh (fillsNumberSlot (.type T) nm') ((fo.isSome && !isSeqSlot fo) || (ro.isSome && !isSeqSlot ro)) := ksp_fillsT X h1 h2
  have L5 : Looks (model prog w) hh (isSubtype (.type T) (.ref C)) false := looks_subIn X hsub
  have L6 : Looks (model prog w) hh (numberSlotInPython (.ref C) nm') true := ksp_inPy X hs hr hp
  have L7 : Looks (model prog w) hh (numberSlotInPython (.type T) nm') false := Looks.of_pure rfl
  have L8 : Looks (model prog w) hh (typeLookup (.type T) (dunderR nm')) ro := looks_findIn X h2
  generalize ((fo.isSome && !isSeqSlot fo) || (ro.isSome && !isSeqSlot ro)) = right at L4
  have hne : (Value.ref C == Value.type T) = false := Bool.eq_false_iff.mpr fun q => by cases beq_iff_eq.mp q
  simp only [binaryOp, hi]
  refine wpAny_holding (wpAny_bind ?_)
  unfold binaryOp1
  refine wpAny_bind (L1.at (wpAny_bind (L2.at (wpAny_bind (L3.at ?_)))))
  simp only [hne, Bool.false_eq_true, if_false]
  cases right with
  | false =>
    ksp_lk
    refine wpAny_mono one (fun r s' hr' => ?_) fun _ _ e => e
    obtain ⟨v, rfl, hq⟩ := hr'
    ksp_lk
    exact hq
  | true =>
    ksp_lk
    refine wpAny_mono one (fun r s' hr' => ?_) fun _ _ e => e
    obtain ⟨v, rfl, hq⟩ := hr'
    ksp_lk
    exact hq
/-- own left, the same class right -/
theorem bin_ownS {op : Operator} {b : Value} {Q : Value → Shared → Prop} (F : Fr h₀ L s.heap m) (X₀ : K.In h₀) (I : InstAt s.heap x ox C od) (hb : Looks (model prog w) s.heap (typeOf b) (.ref C)) (hc : selfFirst K C = true)
    (hs : findIn K (.ref C) (PySem.dunder op.info.2) = some (some (.ref f))) (hf : isFn K (.ref f) = true)
    (h : wpAny (model prog w) A (call (.ref f) [.ref x, b]) (CmpBack Q) E s) : wpAny (model prog w) A (binaryOp op (.ref x) b) Q E s := by
  have X := X₀.keeps F.keep
  obtain ⟨cd, rest, hcd, hm⟩ := ksp_first hc
  rcases hi : op.info with ⟨sym, nm'⟩
  rw [hi] at hs
  dsimp only at hs
  have one := ksp_try X I hs hf h
  obtain ⟨hh, g, d, tt, os⟩ := s
  have L1 : Looks (model prog w) hh (typeOf (.ref x)) (.ref C) := I.type
  have L2 : Looks (model prog w) hh (typeOf b) (.ref C) := hb
  have L3 : Looks (model prog w) hh (fillsNumberSlot (.ref C) nm') true := fills_K X hcd hm hs
  simp only [binaryOp, hi]
  refine wpAny_holding (wpAny_bind ?_)
  unfold binaryOp1
  refine wpAny_bind (L1.at (wpAny_bind (L2.at (wpAny_bind (L3.at ?_)))))
  simp only [beq_self_eq_true, if_true]
  ksp_lk
  refine wpAny_mono one (fun r s' hr' => ?_) fun _ _ e => e
  obtain ⟨v, rfl, hq⟩ := hr'
  ksp_lk
  exact hq
/-- built-in left whose slot is not there, or declines; own right -/
theorem bin_ownR {op : Operator} {b : Value} {fo ro : Option Value} {Q : Value → Shared → Prop} (F : Fr h₀ L s.heap m) (X₀ : K.In h₀) (I : InstAt s.heap x ox C od) (hb : Looks (model prog w) s.heap (typeOf b) (.type T)) (hc : selfFirst K C = true)
    (hs : findIn K (.ref C) (PySem.dunder op.info.2) = some (some (.ref f))) (hr : findIn K (.ref C) (dunderR op.info.2) = some (some (.ref g))) (hg : isFn K (.ref g) = true)
    (h1 : findIn K (.type T) (PySem.dunder op.info.2) = some fo) (h2 : findIn K (.type T) (dunderR op.info.2) = some ro) (hsub : subIn K (.ref C) (.type T) = some false)
    (hd : ((fo.isSome && !isSeqSlot fo) || (ro.isSome && !isSeqSlot ro)) = true → ∀ Q1 : Option Value → Shared → Prop, Q1 none s → wpAny (model prog w) A (tryMethod b (PySem.dunder op.info.2) (.ref x)) Q1 E s)
    (h : wpAny (model prog w) A (call (.ref g) [.ref x, b]) (CmpBack Q) E s) : wpAny (model prog w) A (binaryOp op b (.ref x)) Q E s := by
  have X := X₀.keeps F.keep
  obtain ⟨cd, rest, hcd, hm⟩ := ksp_first hc
  rcases hi : op.info with ⟨sym, nm'⟩
  rw [hi] at hs hr h1 h2 hd
  dsimp only at hs hr h1 h2 hd
  have one := ksp_try X I hr hg h
  obtain ⟨hh, g, d, tt, os⟩ := s
  have L1 : Looks (model prog w) hh (typeOf (.ref x)) (.ref C) := I.type
  have L2 : Looks (model prog w) hh (typeOf b) (.type T) := hb
  have L3 : Looks (model prog w) hh (fillsNumberSlot (.ref C) nm') true := fills_K X hcd hm hs
  have L4 : Looks (model prog w) hh (fillsNumberSlot (.type T) nm') ((fo.isSome && !isSeqSlot fo) || (ro.isSome && !isSeqSlot ro)) := ksp_fillsT X h1 h2
  have L5 : Looks (model prog w) hh (isSubtype (.ref C) (.type T)) false := looks_subIn X hsub
  have L7 : Looks (model prog w) hh (numberSlotInPython (.type T) nm') false := Looks.of_pure rfl
  generalize ((fo.isSome && !isSeqSlot fo) || (ro.isSome && !isSeqSlot ro)) = left at L4 hd
  have hne : (Value.type T == Value.ref C) = false := Bool.eq_false_iff.mpr fun q => by cases beq_iff_eq.mp q
  simp only [binaryOp, hi]
  refine wpAny_holding (wpAny_bind ?_)
  unfold binaryOp1
  refine wpAny_bind (L2.at (wpAny_bind (L1.at (wpAny_bind (L4.at ?_)))))
  simp only [hne, Bool.false_eq_true, if_false]
  cases left with
  | false =>
    ksp_lk
    refine wpAny_mono one (fun r s' hr' => ?_) fun _ _ e => e
    obtain ⟨v, rfl, hq⟩ := hr'
    ksp_lk
    exact hq
  | true =>
    ksp_lk
    refine hd rfl _ ?_
    ksp_lk
    refine wpAny_mono one (fun r s' hr' => ?_) fun _ _ e => e
    obtain ⟨v, rfl, hq⟩ := hr'
    ksp_lk
    exact hq
end
end PySem.W

set_option Elab.async false
set_option linter.all false
set_option maxRecDepth 100000
set_option maxHeartbeats 4000000
namespace DN
open PySem PySem.Spec PyProof.Rows L2 Evl LamX EV2
/-- own + (and its like), forward f, reflected g -/
structure OpC (K : PySem.W.Frag) (C : Addr) (nm : String) (f g : Addr) : Prop where
  first : PySem.W.selfFirst K C = true
  at_ : PySem.W.findIn K (.ref C) (PySem.dunder nm) = some (some (.ref f))
  fn : PySem.W.isFn K (.ref f) = true
  atR : PySem.W.findIn K (.ref C) (PySem.dunderR nm) = some (some (.ref g))
  fnR : PySem.W.isFn K (.ref g) = true
/-- what a built-in kind has under such a name -/
def slB (b : Ty) (nm : String) : Option (Option Value × Option Value) := (fastLookup b.nm (PySem.dunder nm)).bind fun x => (fastLookup b.nm (PySem.dunderR nm)).map fun y => (x, y)
def fillsB (p : Option Value × Option Value) : Bool := (p.1.isSome && !isSeqSlot p.1) || (p.2.isSome && !isSeqSlot p.2)
theorem slB_some {b : Ty} {nm : String} (h : (slB b nm).isSome = true) : ∃ p, slB b nm = some p ∧ fastLookup b.nm (PySem.dunder nm) = some p.1 ∧ fastLookup b.nm (PySem.dunderR nm) = some p.2 := by
  obtain ⟨p, hp⟩ := Option.isSome_iff_exists.mp h
  refine ⟨p, hp, ?_⟩
  unfold slB at hp
  simp only [Option.bind_eq_some_iff, Option.map_eq_some_iff] at hp
  obtain ⟨x, h1, y, h2, rfl⟩ := hp
  exact ⟨h1, h2⟩
theorem sub_ty (b : Ty) (K : PySem.W.Frag) (C : Addr) : PySem.W.subIn K (.type b.nm) (.ref C) = some false := by
  have h : (fastBuiltinMro b.nm).isSome = true := by cases b <;> decide +kernel
  obtain ⟨l, hl⟩ := Option.isSome_iff_exists.mp h
  show (fastBuiltinMro b.nm).map (·.contains (.ref C)) = some false
  rw [hl]
  unfold fastBuiltinMro at hl
  obtain ⟨q, _, rfl⟩ := Option.map_eq_some_iff.mp hl
  show some ((q.mro.map Value.type).contains (.ref C)) = some false
  congr 1
  induction q.mro with
  | nil => rfl
  | cons a r ih => rw [List.map_cons, List.contains_cons, ih]; rfl
theorem cmpback {X : Cx} {pins : List (Addr × Obj)} {σ : L2.St} {Q : VK} {A : Around} {E : Value → Shared → Prop} {m : Sem Value} {s : Shared} (h : wpAny (model X.prog X.w) A m (EP X pins σ Q) E s) : wpAny (model X.prog X.w) A m (PySem.W.CmpBack (EP X pins σ Q)) E s :=
  wpAny_mono h (fun u s' hu => by
    obtain ⟨v, H1, I1, r, q⟩ := hu
    have hu : EP X pins σ Q u s' := ⟨v, H1, I1, r, q⟩
    cases v with
    | non => cases (show u = Value.none from r); exact hu
    | bl b => cases (show u = Value.bool b from r); exact hu
    | int i => obtain ⟨t, z⟩ := (show ∃ t, u = Value.int i t from r); cases z; exact hu
    | str i => obtain ⟨t, z⟩ := (show ∃ t, u = Value.str i t from r); cases z; exact hu
    | byt i => obtain ⟨t, z⟩ := (show ∃ t, u = Value.bytes i t from r); cases z; exact hu
    | flt i => obtain ⟨t, z⟩ := (show ∃ t, u = Value.float i t from r); cases z; exact hu
    | ref a => cases (show u = Value.ref a from r); exact hu
    | ty n => cases (show u = Value.type n from r); exact hu) fun _ _ e => e
/-- x + y, x own, y built-in or of the same class -/
def rOwnL (K : PySem.W.Frag) (C : Addr) (sp : Sp) (E : XK) : R2 := fun x y H Q => ∃ (a dx : Addr) (fs : List (Str × V)), x = .ref a ∧ H a = some (.ins C dx fs) ∧ ((∃ b : Ty, TyX K H y (.type b.nm)) ∨ TyX K H y (.ref C)) ∧ sp [x, y] H Q E
theorem op_ownL {X : Cx} {CX : CXT} {n : Nat} {C f g : Addr} {op : Operator} {fd : FuncData} {ps : List Str} {sp : Sp} {E : XK} (F : FnOk X.prog X.w X.K X.mg X.base CX n f fd ps sp) (o : OpC X.K C op.info.2 f g) (hB : ∀ b : Ty, (slB b op.info.2).isSome = true)
    (hb : Binds X.K fd ps []) (hx : Passes CX X E) (hr : Room n X.A) : OpR X (binaryOp op) (rOwnL X.K C sp E) := by
  intro pins s σ H x y v u Q I rx ry hq
  obtain ⟨a, dx, fs, rfl, ha, ty, hsp⟩ := hq
  obtain rfl : v = Value.ref a := rx
  obtain ⟨mA, J, _⟩ := ins_get I.hok ha
  obtain ⟨od, J, _⟩ := J.look
  obtain ⟨m, hF⟩ := I.fr
  have run := cmpback (run_fn (vs := [V.ref a, y]) (dvs := []) F hr hb .nil hx I (show Vals [V.ref a, y] [Value.ref a, u] from .cons rfl (.cons ry .nil)) hsp)
  rcases ty with ⟨b, ty⟩ | ty
  · obtain ⟨Pz, Z, pz, _⟩ := kit_of I ry ty
    obtain ⟨p, _, h1, h2⟩ := slB_some (hB b)
    exact PySem.W.bin_ownT (T := b.nm) hF I.ok.mod.kin J (Z.ty _ _ I.kIn pz) o.first o.at_ o.fn o.atR (.inr ⟨_, rfl⟩) h1 h2 (sub_ty b _ _) run
  · obtain ⟨Pz, Z, pz, _⟩ := kit_of I ry ty
    exact PySem.W.bin_ownS hF I.ok.mod.kin J (Z.ty _ _ I.kIn pz) o.first o.at_ o.fn run
/-- x + y, x built-in, y own -/
inductive Lft where | non | bl | int | str
  deriving DecidableEq
def Lft.ty : Lft → Ty | .non => .non | .bl => .bool | .int => .int | .str => .str
/-- what declines -/
def Dec (nm : String) : Prop := ∀ (prog : Program) (w : World) (A : Around) (E : Value → Shared → Prop) (s : Shared) (b : Lft) (v : V) (u : Value) (x : Addr) (ox : Obj) (p : Option Value × Option Value) (Q : Option Value → Shared → Prop), RelV v u → s.heap.get? x = some ox → (∀ i t, ox.data ≠ .prim (.int i t)) →
  (match b, v with | .non, .non => True | .bl, .bl _ => True | .int, .int _ => True | .str, .str _ => True | _, _ => False) → slB b.ty nm = some p → fillsB p = true → Q none s → wpAny (model prog w) A (tryMethod u (PySem.dunder nm) (.ref x)) Q E s
def lftV (b : Lft) (v : V) : Prop := match b, v with | .non, .non => True | .bl, .bl _ => True | .int, .int _ => True | .str, .str _ => True | _, _ => False
def rOwnR (C : Addr) (sp : Sp) (E : XK) : R2 := fun x y H Q => ∃ (a dx : Addr) (fs : List (Str × V)) (b : Lft), y = .ref a ∧ H a = some (.ins C dx fs) ∧ lftV b x ∧ sp [y, x] H Q E
theorem op_ownR {X : Cx} {CX : CXT} {n : Nat} {C f g : Addr} {op : Operator} {fd : FuncData} {ps : List Str} {sp : Sp} {E : XK} (F : FnOk X.prog X.w X.K X.mg X.base CX n g fd ps sp) (o : OpC X.K C op.info.2 f g) (hB : ∀ b : Ty, (slB b op.info.2).isSome = true) (hD : Dec op.info.2)
    (hm : ∀ b : Lft, PySem.W.mroIn X.K C (.type b.ty.nm) = some false) (hb : Binds X.K fd ps []) (hx : Passes CX X E) (hr : Room n X.A) : OpR X (binaryOp op) (rOwnR C sp E) := by
  intro pins s σ H x y v u Q I rx ry hq
  obtain ⟨a, dx, fs, b, rfl, ha, lb, hsp⟩ := hq
  obtain rfl : u = Value.ref a := ry
  obtain ⟨mA, J, _⟩ := ins_get I.hok ha
  obtain ⟨od, J, _⟩ := J.look
  obtain ⟨m, hF⟩ := I.fr
  have run := cmpback (run_fn (vs := [V.ref a, x]) (dvs := []) F hr hb .nil hx I (show Vals [V.ref a, x] [Value.ref a, v] from .cons rfl (.cons rx .nil)) hsp)
  have ty : TyX X.K H x (.type b.ty.nm) := by
    cases b <;> cases x <;> first | exact lb.elim | exact .base .non | exact .base (.bl _) | exact .base (.int _) | exact .base (.str _)
  obtain ⟨Pz, Z, pz, _⟩ := kit_of I rx ty
  obtain ⟨p, hp, h1, h2⟩ := slB_some (hB b.ty)
  exact PySem.W.bin_ownR (T := b.ty.nm) hF I.ok.mod.kin J (Z.ty _ _ I.kIn pz) o.first o.at_ o.atR o.fnR h1 h2 (hm b) (fun hf Q1 q1 => hD _ _ _ _ _ b x v a _ p Q1 rx J.at_ (fun i t z => by cases z) lb hp hf q1) run
theorem sl_add : ∀ b : Ty, (slB b "add").isSome = true := by intro b; cases b <;> decide +kernel
theorem sl_sub : ∀ b : Ty, (slB b "sub").isSome = true := by intro b; cases b <;> decide +kernel
theorem sl_mul : ∀ b : Ty, (slB b "mul").isSome = true := by intro b; cases b <;> decide +kernel
end DN

set_option Elab.async false
set_option linter.all false
set_option maxRecDepth 100000
set_option maxHeartbeats 4000000
namespace DN
open PySem PySem.Spec PyProof.Rows L2 Evl LamX EV2 PySem.W
/-- an int's slot declines an own instance -/
theorem decl_body {M : Model} {A : Around} {E : Value → Shared → Prop} {s : Shared} {nm : String} {f : Int → Int → Sem Fin} {u : Value} {i : Int} {x : Addr} {ox : Obj} {Q : Option Value → Shared → Prop}
    (hi : asInt? u = pure (some i)) (hx : s.heap.get? x = some ox) (hd : ∀ i t, ox.data ≠ .prim (.int i t)) (q : Q none s) :
    wpAny M A (Builtin.Int.intBinary nm f false ⟨[u, .ref x], []⟩) (fun fin s' => ∃ v, fin = .done (.ret v) ∧ v = .notImplemented ∧ Q none s') E s := by
  have L : Looks M s.heap (load x) ox := Looks.ld hx
  have L2 : Looks M s.heap (asInt? (.ref x)) none := by
    show Looks M s.heap (load x >>= fun o => match o.data with | .prim (.int i _) => pure (some i) | _ => pure none) none
    refine L.andThen ?_
    obtain ⟨c, d, dt, sl⟩ := ox
    dsimp only at hd ⊢
    cases dt with
    | prim v => cases v with
      | int i t => exact absurd rfl (hd i t)
      | _ => exact .now
    | _ => exact .now
  unfold Builtin.Int.intBinary
  refine wpAny_bind (wpAny_of_eq (a := (u, [Value.ref x])) rfl ?_)
  dsimp only
  refine wpAny_bind ?_
  unfold Builtin.Int.intOfSelf
  rw [hi]
  refine wpAny_pure ?_
  obtain ⟨hp, g, d, tk, os⟩ := s
  refine wpAny_bind (L2.at ?_)
  dsimp only
  refine wpAny_bind (wpAny_rule ?_)
  exact wpAny_pure ⟨_, rfl, rfl, q⟩
theorem dec_of {nm id : String} {f : Int → Int → Sem Fin} {B : Builtin} (hs1 : Slot "int" (PySem.dunder nm) id) (hs2 : Slot "bool" (PySem.dunder nm) id) (he : entryFor table id = some B) (hB : B = Builtin.Int.intBinary ("__" ++ nm ++ "__") f false) (ha : ∀ a b, argsOk id ⟨[a, b], []⟩)
    (h1 : (slB .non nm).map fillsB = some false) (h2 : (slB .str nm).map fillsB = some false) : Dec nm := by
  intro prog w A E s b v u x ox p Q rv hx hd hb hp hf q
  have T1 : ∀ i t, s.TypeIs (.int i t) "int" := fun _ _ => rfl
  have T2 : ∀ b, s.TypeIs (.bool b) "bool" := fun _ => rfl
  cases b with
  | non =>
    rw [show Lft.ty .non = .non from rfl] at hp
    rw [hp] at h1
    simp only [Option.map_some, Option.some.injEq] at h1
    rw [h1] at hf; cases hf
  | str =>
    rw [show Lft.ty .str = .str from rfl] at hp
    rw [hp] at h2
    simp only [Option.map_some, Option.some.injEq] at h2
    rw [h2] at hf; cases hf
  | int =>
    cases v <;> first | exact hb.elim | skip
    obtain ⟨t, rfl⟩ := rv
    refine wpAny_tryMethod_declines (T1 _ _) hs1 (wpAny_call_entry hs1 (T1 _ _) he ?_ (ha _ _))
    rw [hB]
    exact decl_body rfl hx hd q
  | bl =>
    cases v <;> first | exact hb.elim | skip
    cases rv
    refine wpAny_tryMethod_declines (T2 _) hs2 (wpAny_call_entry hs2 (T2 _) he ?_ (ha _ _))
    rw [hB]
    exact decl_body rfl hx hd q
theorem dec_add : Dec "add" := dec_of PySem.F.slot_int_add PySem.F.slot_bool_add PySem.F.entry_int_add rfl PySem.F.args_int_add_2 (by decide +kernel) (by decide +kernel)
theorem dec_sub : Dec "sub" := dec_of PySem.F.slot_int_sub PySem.F.slot_bool_sub PySem.F.entry_int_sub rfl PySem.F.args_int_sub_2 (by decide +kernel) (by decide +kernel)
theorem dec_mul : Dec "mul" := dec_of PySem.F.slot_int_mul PySem.F.slot_bool_mul PySem.F.entry_int_mul rfl PySem.F.args_int_mul_2 (by decide +kernel) (by decide +kernel)
end DN

set_option Elab.async false
set_option linter.all false
set_option maxRecDepth 100000
set_option maxHeartbeats 4000000
namespace DN
open PySem PySem.Spec PyProof.Rows L2 Evl LamX EV2
def tTupF (t : L2.TA) : TE := fun σ H Q => t σ H fun xs H1 => xs.length ≤ sizeLine ∧ ∀ p o, H1 p = none → o.dict = none → Q (.ref p) (upd H1 p (.frz o (.tup xs)))
theorem pe_tupF {X : Cx} {es : List Expr} {t : L2.TA} {pos : Pos} {x1} (h : PA X es t) : PE X (.Tuple es x1 pos) (tTupF t) := by
  refine ⟨fun pins s σ H Q I hq => ?_⟩
  refine wpAny_Tuple_spliced (thn (h.run pos pins s σ H _ I hq) fun us s1 ⟨xs, H1, I1, r, z, q⟩ => ⟨by rw [← r.length]; exact z, ?_⟩)
  have hf : H1 s1.heap.objs.size = none := I1.hok.fresh (Nat.le_refl _)
  refine ⟨.ref s1.heap.objs.size, upd H1 s1.heap.objs.size (.frz { cls := .type "tuple", data := .seq us.toArray } (.tup xs)), I1.laid (t' := s1.toks) (fun b u e => Heap.get?_push_of_some _ e) (Nat.le_refl _) ?_, rfl, q _ _ hf rfl⟩
  exact ⟨Heap.get?_push_size _ rfl, z, us, r, ⟨_, Heap.get?_push_size _ rfl, rfl, _, rfl⟩⟩
section
variable {Γ : Gam} {E : XS} {te : TE} {me : ME} {tr : L2.TA} {mr : MA}
def mTupF (a : MA) : ME := fun τ s => bnd (a τ s) fun xs s1 => if xs.length ≤ 100000 then .ok (.tpf xs) s1 else .bad
theorem se_tupF (h : SndA Γ E tr mr) : SndE Γ E (tTupF tr) (mTupF mr) := fun q B A H σ τ s Q ei st p =>
  h q B A H σ τ s _ ei st (post_bnd p fun xs s1 _ vs H1 g1 e1 rxs p1 => by
    split at p1
    · rename_i hl
      exact ⟨sz_of (by rw [rxs.length]; exact hl), fun a o ha ho => p1 _ _ (Grow.new ha) (e1.new ha) (.tpf (by rw [msk_out (e1.out ha)]; exact upd_same) ho (rxs.mono (Grow.new ha).msk))⟩
    · exact p1.elim)
end
end DN

set_option Elab.async false
set_option linter.all false
set_option maxRecDepth 100000
set_option maxHeartbeats 4000000
namespace DN
open PySem PySem.Spec PyProof.Rows L2 Evl LamX EV2 TX
/-- -x, x own -/
def rNegO (C : Addr) (sp : Sp) (E : XK) : V → Hp → VK → Prop := fun x H Q => ∃ (a dx : Addr) (fs : List (Str × V)), x = .ref a ∧ H a = some (.ins C dx fs) ∧ sp [x] H Q E
theorem op_negO {X : Cx} {CX : CXT} {n : Nat} {C f : Addr} {fd : FuncData} {ps : List Str} {sp : Sp} {E : XK} (F : FnOk X.prog X.w X.K X.mg X.base CX n f fd ps sp) (hs : PySem.W.findIn X.K (.ref C) "__neg__" = some (some (.ref f))) (hf : PySem.W.isFn X.K (.ref f) = true)
    (hb : Binds X.K fd ps []) (hx : Passes CX X E) (hr : Room n X.A) : UnR X (unaryOp .USub) (rNegO C sp E) := by
  intro pins s σ H x v Q I rx hq
  obtain ⟨a, dx, fs, rfl, ha, hsp⟩ := hq
  obtain rfl : v = Value.ref a := rx
  obtain ⟨mA, J, _⟩ := ins_get I.hok ha
  obtain ⟨od, J, _⟩ := J.look
  obtain ⟨m, hF⟩ := I.fr
  exact PySem.W.ksp_neg hF I.ok.mod.kin J hs hf (run_fn (vs := [V.ref a]) (dvs := []) F hr hb .nil hx I (show Vals [V.ref a] [Value.ref a] from .cons rfl .nil) hsp)
/-- a built-in kind, the class c or one of os -/
def kOk (c : Nat) (os : List Nat) (y : D) : Bool := match kindD y with | some (.inl _) => true | some (.inr k) => decide (k = c ∨ k ∈ os) | none => false
theorem kOk_of {c : Nat} {os : List Nat} {y : D} (h : kOk c os y = true) : (∃ b, kindD y = some (.inl b)) ∨ ∃ k, kindD y = some (.inr k) ∧ (k = c ∨ k ∈ os) := by
  unfold kOk at h
  split at h
  · rename_i b hb; exact .inl ⟨b, hb⟩
  · rename_i k hk; exact .inr ⟨k, hk, of_decide_eq_true h⟩
  · cases h
section
variable {Γ : Gam} {E : XK} {c : Nat} {mf : MF}
def dOwnL (c : Nat) (mf : MF) : D → D → M D := fun x y s => match x with
  | .obj c' _ => if c' = c ∧ kOk c [] y = true then mf [x, y] s else .bad
  | _ => .bad
theorem so_ownL (oc : OC Γ.K (Γ.cls c)) : SndO Γ (fun _ => E) (rOwnL Γ.K (Γ.cls c) (spD Γ 2 mf) E) (dOwnL c mf) := fun q A H σ s v u x y Q ei rx ry p => by
  cases rx with
  | obj ho rf =>
    unfold dOwnL at p
    dsimp only at p
    split at p
    · rename_i hcc
      obtain ⟨rfl, hk⟩ := hcc
      refine ⟨_, _, _, rfl, (of_msk ho).2, ?_, q, A, [_, y], s, ei, .cons (.obj ho rf) (.cons ry .nil), rfl, p⟩
      rcases kOk_of hk with ⟨b, hb⟩ | ⟨k, hb, rfl | hm⟩
      · exact .inl ⟨b, tyx_B ry hb⟩
      · exact .inr (tyx_O ry hb oc)
      · cases hm
    · exact p.elim
  | _ => exact p.elim
def isLft : D → Bool | .non => true | .bl _ => true | .int _ => true | .str _ => true | _ => false
def dOwnR (c : Nat) (mf : MF) : D → D → M D := fun x y s => match y with
  | .obj c' _ => if c' = c ∧ isLft x = true then mf [y, x] s else .bad
  | _ => .bad
theorem so_ownR : SndO Γ (fun _ => E) (rOwnR (Γ.cls c) (spD Γ 2 mf) E) (dOwnR c mf) := fun q A H σ s v u x y Q ei rx ry p => by
  cases ry with
  | obj ho rf =>
    unfold dOwnR at p
    dsimp only at p
    split at p
    · rename_i hcc
      obtain ⟨rfl, hk⟩ := hcc
      have lb : ∃ b, lftV b v := by
        cases rx <;> first | cases hk; done | exact ⟨.non, trivial⟩ | exact ⟨.bl, trivial⟩ | exact ⟨.int, trivial⟩ | exact ⟨.str, trivial⟩
      obtain ⟨b, lb⟩ := lb
      exact ⟨_, _, _, b, rfl, (of_msk ho).2, lb, q, A, [_, x], s, ei, .cons (.obj ho rf) (.cons rx .nil), rfl, p⟩
    · exact p.elim
  | _ => exact p.elim
def boolR (r : Res D) (neg : Bool) : Res D := bnd r fun d s1 => match d with | .bl b => .ok (.bl (if neg then !b else b)) s1 | _ => .bad
/-- x == y, x own -/
def dEqO (c : Nat) (os : List Nat) (mf : MF) : D → D → M D := fun x y s => match x with
  | .obj c' _ => if c' = c ∧ kOk c os y = true then boolR (mf [x, y] s) false else .bad
  | _ => .bad
theorem so_eqO {os : List Nat} (oc : OC Γ.K (Γ.cls c)) (ho : ∀ k ∈ os, OC Γ.K (Γ.cls k) ∧ PySem.W.notFirst Γ.K (Γ.cls c) (.ref (Γ.cls k)) = true) : SndO Γ (fun _ => E) (rEqO Γ.K (Γ.cls c) (spD Γ 2 mf) E) (dEqO c os mf) := fun q A H σ s v u x y Q ei rx ry p => by
  cases rx with
  | @obj a0 dx0 c0 fs0 gs0 hob rf =>
    unfold dEqO at p
    dsimp only at p
    split at p
    · rename_i hcc
      obtain ⟨rfl, hk⟩ := hcc
      have hty : ∃ t, TyX Γ.K H u t ∧ PySem.W.notFirst Γ.K (Γ.cls c0) t = true := by
        rcases kOk_of hk with ⟨b, hb⟩ | ⟨k, hb, rfl | hm⟩
        · refine ⟨_, tyx_B ry hb, ?_⟩
          unfold PySem.W.notFirst
          rw [sub_ty]
          simp
        · exact ⟨_, tyx_O ry hb oc, by unfold PySem.W.notFirst; simp⟩
        · exact ⟨_, tyx_O ry hb (ho k hm).1, (ho k hm).2⟩
      obtain ⟨t, ht, hn⟩ := hty
      refine ⟨_, _, _, t, rfl, (of_msk hob).2, ht, hn, q, A, [_, y], s, ei, .cons (.obj hob rf) (.cons ry .nil), rfl, ?_⟩
      unfold boolR at p
      refine post_bnd p fun d s1 _ w H1 g1 e1 rr p1 => ?_
      cases rr with
      | bl b => exact ⟨⟨b, rfl⟩, p1 _ H1 (Grow.refl _) e1 (.bl _)⟩
      | _ => exact p1.elim
    · exact p.elim
  | _ => exact p.elim
/-- x != y, both own of one class -/
def dNeO (c : Nat) (mf : MF) : D → D → M D := fun x y s => match x, y with
  | .obj c' _, .obj c'' _ => if c' = c ∧ c'' = c then boolR (mf [x, y] s) true else .bad
  | _, _ => .bad
theorem so_neO : SndO Γ (fun _ => E) (rNeO (Γ.cls c) (spD Γ 2 mf) E) (dNeO c mf) := fun q A H σ s v u x y Q ei rx ry p => by
  cases rx with
  | obj hob rf =>
    cases ry with
    | obj hoy rg =>
      unfold dNeO at p
      dsimp only at p
      split at p
      · rename_i hcc
        obtain ⟨rfl, rfl⟩ := hcc
        refine ⟨_, _, _, _, _, _, rfl, rfl, (of_msk hob).2, (of_msk hoy).2, q, A, [_, _], s, ei, .cons (.obj hob rf) (.cons (.obj hoy rg) .nil), rfl, ?_⟩
        unfold boolR at p
        refine post_bnd p fun d s1 _ w H1 g1 e1 rr p1 => ?_
        cases rr with
        | bl b => exact ⟨b, rfl, p1 _ H1 (Grow.refl _) e1 (.bl _)⟩
        | _ => exact p1.elim
      · exact p.elim
    | _ => exact p.elim
  | _ => cases ry <;> exact p.elim
def dNegO (c : Nat) (mf : MF) : D → M D := fun x s => match x with | .obj c' _ => if c' = c then mf [x] s else .bad | _ => .bad
theorem su_negO : SndU Γ (fun _ => E) (rNegO (Γ.cls c) (spD Γ 1 mf) E) (dNegO c mf) := fun q A H σ s v x Q ei rx p => by
  cases rx with
  | obj ho rf =>
    unfold dNegO at p
    dsimp only at p
    split at p
    · rename_i hcc
      subst hcc
      exact ⟨_, _, _, rfl, (of_msk ho).2, q, A, [_], s, ei, .cons (.obj ho rf) .nil, rfl, p⟩
    · exact p.elim
  | _ => exact p.elim
/-- what is never reached -/
def sBad : MS := fun _ _ => .bad
theorem ss_bad {EX : XS} : SndS Γ EX (fun _ _ _ => False) sBad := fun q B A H σ τ s De hB ei st p => p.elim
theorem ps_bad {X : Cx} {st : Stmt} : L2.PS X st (fun _ _ _ => False) := ⟨fun _ _ _ _ _ _ h => h.elim⟩
end
end DN

set_option Elab.async false
set_option linter.all false
set_option maxRecDepth 100000
set_option maxHeartbeats 4000000
/-! Lambdas as values: the function object of a lambda is told in the abstract heap; who gets it may call it later. -/
namespace DN
open PySem PySem.Spec PyProof.Rows L2 Evl LamX EV2 TX
/-- what a lambda's function object is made of -/
structure LamD where
  qual : Str
  params : Arguments
  body : Expr
  scope : Scope
  clo : List (Str × Addr)
abbrev LamD.obj (L : LamD) (pm : Value) (c : Addr) (ct : Value) : Obj := PySem.W.kla_obj "<lambda>" L.qual L.params L.body L.scope L.clo pm c ct
/-- the function object at f, its code object at c -/
def LamO (f c : Addr) (L : LamD) : HO := .ext fun h => ∃ pm ct, h.get? f = some (L.obj pm c ct)
/-- the lambda of a def whose context is X -/
abbrev lamD (X : Cx) (params : Arguments) (body : Expr) (scope : Scope) : LamD := ⟨X.env.qual ++ "<lambda>", params, body, scope, cloFrom X.env.cells scope.names []⟩
theorem lamO_ok {P : Program} {w : World} {H : Hp} {h : Heap} {f c : Addr} {L : LamD} (e : ∃ pm ct, h.get? f = some (L.obj pm c ct)) : ObjOk P w H h f (LamO f c L) :=
  ⟨e, e.elim fun _ z => z.elim fun _ q => ⟨_, q⟩, fun _ _ ⟨pm, ct, q⟩ k => ⟨pm, ct, k _ q⟩⟩
theorem lamO_tbl {f c : Addr} {L : LamD} (ps : Array Value) : LamO f c L ≠ .tbl ps := fun z => by unfold LamO at z; cases z
section
variable {X : Cx} {pins : List (Addr × Obj)} {σ : L2.St} {H : Hp} {s : Shared}
theorem lam_new {T : List (Addr × Str)} {c P : Addr} {params : Arguments} {body : Expr} {scope : Scope} {pos : Pos} {E Q : Value → Shared → Prop} (I : Inv X pins σ H s) (B : TabB X.base X.mg c P) (ec : X.env.code = .ref c)
    (mT : (P, X.env.qual ++ "<lambda>") ∈ T) (uT : ∀ p ∈ T, p.1 = P → p.2 = X.env.qual ++ "<lambda>") (tT : Tabs T H) (dn : defaultsOf params X.env = ([], [])) (fr : ∀ y ∈ scope.names, y.2 = .free → ∃ c, X.env.cells.lookup y.1 = some c)
    (k : ∀ (f c' : Addr) (H1 : Hp) (s' : Shared), (Grow H H1 ∧ ExtN H H1) → Tabs T H1 → H1 f = none → f ∉ frs X.stack → H1 c' = some (CodeO c' (X.env.qual ++ "<lambda>")) → Inv X pins σ (upd H1 f (LamO f c' (lamD X params body scope))) s' → Q (.ref f) s') :
    wpAny (model X.prog X.w) X.A (eval (.Lambda params body scope pos) X.env) Q E s := by
  obtain ⟨ps, a1, a2, a3⟩ := tT _ mT
  have pm := (X.mg "__name__").getD .none
  have oP : s.heap.get? P = some { cls := .none, data := .fields ps } := I.hok P _ a1
  have up : ∀ f, s.heap.objs.size ≤ f → f ∉ frs X.stack := fun f lf z => (List.mem_cons.mp (I.stkSub _ z)).elim (fun e => Nat.lt_irrefl _ (Nat.lt_of_lt_of_le I.lt (e ▸ lf))) (I.nofs lf)
  refine PySem.W.kla_eval dn ?_
  rcases am : codeAmong pos ps.toList with _ | cv
  · refine PySem.W.kla_makeFunction (c := c) (P := P) (ps := ps) (mg := X.mg) (closure_ok fr) I.ok.glob (I.mod.glob.keeps I.bk) ec (B.code.keeps I.bk) oP a2 am B.gP (B.bm.keeps I.bk) fun c' ct h1 tk hold hge hlt hr ht => ?_
    obtain ⟨c2, oc, vs, t, e2, w1, w2, w3⟩ := hr
    cases e2
    have nc : H c' = none := I.hok.fresh hge
    have J := inv_table (t' := tk) (more := #[rawInt pos.line, rawInt pos.col, .ref c']) I a1 hold ht hge ⟨oc, vs, t, w1, w2, w3⟩
    have ext : ExtN H (upd (upd H P (.tbl (ps ++ #[rawInt pos.line, rawInt pos.col, .ref c']))) c' (CodeO c' (X.env.qual ++ "<lambda>"))) := fun b o eb nb => by
      have b1 : b ≠ c' := ne_of_none eb nc
      have b2 : b ≠ P := fun z => nb ps (by rw [z, a1] at eb; exact (Option.some.inj eb).symm)
      rw [upd_ne b1, upd_ne b2]
      exact eb
    have tabs : Tabs T (upd (upd H P (.tbl (ps ++ #[rawInt pos.line, rawInt pos.col, .ref c']))) c' (CodeO c' (X.env.qual ++ "<lambda>"))) := fun p hp => by
      by_cases hb : p.1 = P
      · rw [uT p hp hb, hb]
        refine ⟨ps ++ #[rawInt pos.line, rawInt pos.col, .ref c'], ?_, ?_, fun p' cv hcv => ?_⟩
        · rw [upd_ne (ne_of_none a1 nc)]
          exact upd_same
        · rw [Array.toList_append]
          exact PySem.TriplesOk_snoc _ _ _ _ a2
        · rw [Array.toList_append] at hcv
          rcases among_app _ a2 hcv with z | z
          · obtain ⟨c0, e1, e3⟩ := a3 p' cv z
            exact ⟨c0, e1, ext _ _ e3 codeO_ne⟩
          · exact ⟨c', z, upd_same⟩
      · obtain ⟨qs, b1, b2, b3⟩ := tT p hp
        refine ⟨qs, ?_, b2, fun p' cv hcv => ?_⟩
        · rw [upd_ne (ne_of_none b1 nc), upd_ne hb]
          exact b1
        · obtain ⟨c0, e1, e3⟩ := b3 p' cv hcv
          exact ⟨c0, e1, ext _ _ e3 codeO_ne⟩
    have gr : Grow H (upd (upd H P (.tbl (ps ++ #[rawInt pos.line, rawInt pos.col, .ref c']))) c' (CodeO c' (X.env.qual ++ "<lambda>"))) := .extN ext fun b qs eb => by
      by_cases b1 : b = c'
      · rw [b1, upd_same]; simp
      · rw [upd_ne b1]
        by_cases b2 : b = P
        · rw [b2, upd_same]; simp
        · rw [upd_ne b2, eb]; simp
    exact k h1.objs.size c' _ _ ⟨gr, ext⟩ tabs (J.hok.fresh (Nat.le_refl _)) (up _ (Nat.le_trans hge (Nat.le_of_lt hlt))) upd_same
      (J.laid (t' := tk) (fun b o e => Heap.get?_push_of_some _ e) (Nat.le_refl _) (lamO_ok ⟨_, _, Heap.get?_push_size _ rfl⟩))
  · obtain ⟨c', rfl, co⟩ := a3 pos cv am
    refine PySem.W.kla_makeFunctionHit (c := c) (P := P) (ps := ps) (mg := X.mg) (closure_ok fr) I.ok.glob (I.mod.glob.keeps I.bk) ec (B.code.keeps I.bk) oP a2 am (B.bm.keeps I.bk) fun ct h1 tk hold hsz => ?_
    have J : Inv X pins σ H { s with heap := h1, toks := tk } := I.kept hold
    exact k h1.objs.size c' H _ ⟨Grow.refl H, ExtN.refl H⟩ tT (J.hok.fresh (Nat.le_refl _)) (up _ hsz) co
      (J.laid (t' := tk) (fun b o e => Heap.get?_push_of_some _ e) (Nat.le_refl _) (lamO_ok ⟨_, _, Heap.get?_push_size _ rfl⟩))
end
end DN

set_option Elab.async false
set_option linter.all false
set_option maxRecDepth 100000
set_option maxHeartbeats 4000000
namespace DN
open PySem PySem.Spec PyProof.Rows L2 Evl LamX EV2 TX
/-- the context of a law's def that is called from X in the state s -/
abbrev ctxG (X : Cx) (Ng : List Str) (x : Str) (sg : Scope) (g : Addr) (cdg : Value) (s : Shared) (H : Hp) : Cx := cxOf (fun _ _ _ _ _ _ => False) X.prog X.w X.K X.mg X.base Ng x sg g cdg X.A X.stack s H (fun _ _ _ => False)
/-- what the call of a lambda asks in the def that got it -/
def rdLam (i : Nat) (f c : Addr) (L : LamD) (tl : Hp → VK → Prop) : TE := fun σ H Q => σ[i]? = some (some (.ref f)) ∧ H f = some (LamO f c L) ∧ H c = some (CodeO c L.qual) ∧ tl H Q
section
variable {X : Cx} {pins : List (Addr × Obj)} {σ : L2.St} {H : Hp} {s : Shared}
/-- a() in the def that got the lambda as its name a -/
theorem pe_runLam {Ng : List Str} {x a : Str} {sg scope : Scope} {g f c : Addr} {cdg : Value} {params : Arguments} {body : Expr} {k i : Nat} {pn : List (Addr × Obj)} {xe : Value → Shared → Prop} {W : WX} {E : XK} {tb : TE} {p1 p2 : Pos}
    (I : Inv X pins σ H s) (S : LamS X.env.scope scope) (nb : ∀ (q : Str) (cl : List (Str × Addr)) (pm cv ctv : Value), bindArgs (PySem.W.kla_fn "<lambda>" q params body scope cl pm cv ctv) ⟨[], []⟩ = pure [])
    (tk : Takes ((ctxG X Ng x sg g cdg s H).tr pn xe) W) (hW : ∀ cls d σ' H', E cls d H' → W cls d σ' H') (hr : Room (k + 1) (X.A.deeper (envOfC x sg s.heap.objs.size g cdg)))
    (hb : ∀ (A : Around) (outer : List Env) (s : Shared) (H : Hp), Room k (A.deeper (lamEnv X scope s.heap.objs.size f c)) → PE (lamCx X A outer s H E scope f c) body tb)
    (iN : Ng[i]? = some a) (va : Vis sg a) (d1 : (a == ("__debug__" : Str)) = false := by decide) (d2 : (a == ("__classdict__" : Str)) = false := by decide) :
    PE ((ctxG X Ng x sg g cdg s H).tr pn xe) (.Call (.Name a p1) [] [] p2) (rdLam i f c (lamD X params body scope) fun H' Q => tb σ H' Q) := by
  refine ⟨fun pz sz σz Hz Q J ⟨e1, e2, e3, e4⟩ => wpAny_Call_Name_kw (thn ((pe_var (i := i) (pos := p1) iN va d1 d2).run pz sz σz Hz (fun v H1 => v = .ref f ∧ H1 = Hz) J ⟨_, e1, rfl, rfl⟩) ?_)⟩
  rintro u s1 ⟨v, H1, J1, rv, rfl, rfl⟩
  cases (show u = Value.ref f from rv)
  obtain ⟨⟨pm, ct, of⟩, _, _⟩ := J1.hok f _ e2
  obtain ⟨⟨oc, vs, t, o1, o2, o3⟩, _, _⟩ := J1.hok c _ e3
  refine PySem.W.callWith_F0 ⟨_, _, _, _, of⟩ (wpAny_call ?_)
  have U : Un (frs X.stack) [] H H1 s.heap s1.heap := J1.base
  have run : codeAny (model X.prog X.w) (X.A.deeper (envOfC x sg s.heap.objs.size g cdg)) (.call (.ref f) ⟨[], []⟩) (CR (L2.CX X.prog X.w) (envOfC x sg s.heap.objs.size g cdg :: X.stack) X.prog X.w H1 s1 Q E) s1 := by
    refine PySem.W.kla_callFunE hr.depth of rfl S.co S.gen rfl ⟨c, oc, vs, t, rfl, o1, o2, o3⟩ ?_
    rw [nb]
    refine wpAny_pure (wpAny_newFunctionEnv (fun y hy => (S.own y hy).2) (fun y hy => absurd hy (List.not_mem_nil)) (fun h1 hn hx => ⟨J1.nolimit.fresh _ hx, ?_⟩) S.kind)
    have old : ∀ b o, s1.heap.get? b = some o → h1.get? b = some o := fun b o q => hx.extBut b o (Nat.ne_of_lt (Heap.lt_size q)) (Heap.get?_push_of_some _ q)
    have L := lam_start2 (E := E) (f := f) (c' := c) (tk := s1.toks + ([] : List (Str × Value)).length) I S J1.env0 hr.hd U hn old
    exact PySem.W.kla_codeExpr (wpAny_mono ((hb _ _ s1 H1 (hr.deeper _)).run [] _ _ H1 Q L e4) (fun z s2 ⟨y, H2, L2, ry, qy⟩ => ⟨y, H2, L2.os, L2.bare, L2.base, L2.hok, ry, qy⟩) fun _ _ q => q)
  have pass : Passes (L2.CX X.prog X.w) ((ctxG X Ng x sg g cdg s H).tr pn xe) E := passes_call tk hW
  refine codeAny_mono run fun r s2 hq => ?_
  rcases r with e | fl
  · exact pass pz σz H1 s1 e s2 J1 hq
  · cases fl with
    | ret z => exact J1.after hq
    | next => exact hq.elim
    | brk => exact hq.elim
    | cont => exact hq.elim
end
/-- the def g (its parameters: a lambda a, and others) keeps its word TT of any lambda's reading -/
def GivesV (X : Cx) (Ng : List Str) (x : Str) (sg : Scope) (g : Addr) (cdg : Value) (bg : List Stmt) (a : Str) (TT : (XK → Hp → VK → Prop) → List V → Hp → VK → Prop) : Prop :=
  ∀ (f c : Addr) (L : LamD) (s : Shared) (H : Hp) (ws : List V) (Q : VK) (tl : XK → Hp → VK → Prop),
    (∀ (W : WX) (pn : List (Addr × Obj)) (xe : Value → Shared → Prop) (E : XK) (p1 p2 : Pos), Takes ((ctxG X Ng x sg g cdg s H).tr pn xe) W → (∀ cls d σ' H', E cls d H' → W cls d σ' H') →
      PE ((ctxG X Ng x sg g cdg s H).tr pn xe) (.Call (.Name a p1) [] [] p2) (rdLam 0 f c L (tl E))) →
    H f = some (LamO f c L) → H c = some (CodeO c L.qual) → TT tl ws H Q →
    ∃ t, PSs (ctxG X Ng x sg g cdg s H).nox bg t ∧ t { nx := fun _ H' => Q .non H', rt := Q } (L2.start Ng (.ref f :: ws)) H
section
variable {X : Cx} {pins : List (Addr × Obj)} {σ : L2.St} {H : Hp} {s : Shared}
/-- the call of such a def -/
theorem code_lam {TT : (XK → Hp → VK → Prop) → List V → Hp → VK → Prop} {x a : Str} {qs : List Str} {g f c : Addr} {k : Nat} {pg : Arguments} {bg : List Stmt} {sg scope : Scope} {dV kV doc pm cdv ct oc : Value} {an od : Option Addr} {osl : Array (Option Value)} {Ng : List Str}
    {params : Arguments} {body : Expr} {t : XK → TE} {ws : List V} {us : List Value} {Q : VK}
    (lk : X.K.lookup g = some ⟨oc, od, .func (PySem.W.fnOf x x pg bg sg dV kV doc pm an cdv ct), osl⟩) (hcg : PySem.W.codeIn X.K cdv x = true) (hb : L2.Binds X.K (PySem.W.fnOf x x pg bg sg dV kV doc pm an cdv ct) (a :: qs) []) (Sg : FnScope Ng (a :: qs) sg) (iN : Ng[0]? = some a) (va : Vis sg a)
    (G : GivesV X Ng x sg g cdv bg a TT) (hr : Room (k + 2) X.A) (S : LamS X.env.scope scope)
    (nb : ∀ (q : Str) (cl : List (Str × Addr)) (pm cv ctv : Value), bindArgs (PySem.W.kla_fn "<lambda>" q params body scope cl pm cv ctv) ⟨[], []⟩ = pure [])
    (hbody : ∀ (A : Around) (outer : List Env) (s : Shared) (H : Hp) (E : XK), Room k (A.deeper (lamEnv X scope s.heap.objs.size f c)) → PE (lamCx X A outer s H E scope f c) body (t E))
    (d1 : (a == ("__debug__" : Str)) = false := by decide) (d2 : (a == ("__classdict__" : Str)) = false := by decide)
    (I : Inv X pins σ H s) (hf : H f = some (LamO f c (lamD X params body scope))) (hc : H c = some (CodeO c (X.env.qual ++ "<lambda>"))) (rw : Vals ws us) (hl : ws.length = qs.length) (h : TT (fun E H' Q' => t E σ H' Q') ws H Q) :
    codeAny (model X.prog X.w) X.A (.call (.ref g) ⟨.ref f :: us, []⟩) (CR (fun _ _ _ _ _ _ => False) X.stack X.prog X.w H s Q (fun _ _ _ => False)) s := by
  have rv : Vals (V.ref f :: ws) (Value.ref f :: us) := .cons rfl rw
  have hbd := hb s (.ref f :: us) I.kIn (by rw [List.append_nil, ← rv.length, List.length_cons, List.length_cons, hl])
  rw [List.append_nil] at hbd
  refine run_ofS (N := Ng) (ps := a :: qs) (us := .ref f :: us) (vs := .ref f :: ws) lk hcg Sg hr I.env0 hbd rv (by rw [List.length_cons, List.length_cons, hl]) fun hr' => ?_
  obtain ⟨t', h1, h2⟩ := G f c (lamD X params body scope) s H ws Q (fun E H' Q' => t E σ H' Q') (fun W pn xe E p1 p2 tk hW => pe_runLam (i := 0) I S nb tk hW hr' (fun A outer s H hr2 => hbody A outer s H E hr2) iN va d1 d2) hf hc h
  exact ⟨t', h1.nox, h2⟩
end
end DN

set_option Elab.async false
set_option linter.all false
set_option maxRecDepth 100000
set_option maxHeartbeats 4000000
namespace DN
open PySem PySem.Spec PyProof.Rows L2 Evl LamX EV2 TX
/-- a lambda is made -/
def tLamN (X : Cx) (T : List (Addr × Str)) (params : Arguments) (body : Expr) (scope : Scope) : TE := fun σ H Q => Tabs T H ∧ ∀ (f c : Addr) (H1 : Hp), (Grow H H1 ∧ ExtN H H1) → Tabs T H1 → H1 f = none → H1 c = some (CodeO c (X.env.qual ++ "<lambda>")) → Q (.ref f) (upd H1 f (LamO f c (lamD X params body scope)))
/-- x(lambda: body) -/
def tLamC (X : Cx) (T : List (Addr × Str)) (TT : (XK → Hp → VK → Prop) → List V → Hp → VK → Prop) (params : Arguments) (body : Expr) (scope : Scope) (t : XK → TE) : TE := fun σ H Q => tLamN X T params body scope σ H fun _ H1 => TT (fun E H' Q' => t E σ H' Q') [] H1 Q
section
variable {X : Cx} {pins : List (Addr × Obj)} {σ : L2.St} {H : Hp} {s : Shared}
theorem pe_lam {T : List (Addr × Str)} {c P : Addr} {params : Arguments} {body : Expr} {scope : Scope} {pos : Pos} (B : TabB X.base X.mg c P) (ec : X.env.code = .ref c) (mT : (P, X.env.qual ++ "<lambda>") ∈ T) (uT : ∀ p ∈ T, p.1 = P → p.2 = X.env.qual ++ "<lambda>")
    (dn : defaultsOf params X.env = ([], [])) (S : LamS X.env.scope scope) : PE X (.Lambda params body scope pos) (tLamN X T params body scope) :=
  ⟨fun pins s σ H Q I ⟨tT, k⟩ => lam_new I B ec mT uT tT dn (S.has I.ok) fun f c' H1 s' e1 e2 e3 e4 e5 J => ⟨.ref f, _, J, rfl, k f c' H1 e1 e2 e3 e5⟩⟩
theorem lam_ext {H H1 : Hp} {f c : Addr} {L : LamD} (e : ExtN H H1) (n : H1 f = none) : ExtN H (upd H1 f (LamO f c L)) := fun b o h nt => by
  have h1 := e b o h nt
  rw [upd_ne (ne_of_none h1 n)]
  exact h1
theorem lam_tabs {T : List (Addr × Str)} {H1 : Hp} {f c : Addr} {L : LamD} (t : Tabs T H1) (n : H1 f = none) : Tabs T (upd H1 f (LamO f c L)) := t.ext fun b o h => by
  rw [upd_ne (ne_of_none h n)]
  exact h
theorem pe_callLam {TT : (XK → Hp → VK → Prop) → List V → Hp → VK → Prop} {T : List (Addr × Str)} {x a : Str} {g c P : Addr} {k : Nat} {pg : Arguments} {bg : List Stmt} {sg scope : Scope} {dV kV doc pm cdv ct oc : Value} {an od : Option Addr} {osl : Array (Option Value)} {Ng : List Str}
    {params : Arguments} {body : Expr} {t : XK → TE} {p lpos pos : Pos} (hg : Gl X x) (hm : X.mg x = some (.ref g)) (hk : PySem.W.keepIn X.K (.ref g) = true)
    (lk : X.K.lookup g = some ⟨oc, od, .func (PySem.W.fnOf x x pg bg sg dV kV doc pm an cdv ct), osl⟩) (hcg : PySem.W.codeIn X.K cdv x = true) (hb : L2.Binds X.K (PySem.W.fnOf x x pg bg sg dV kV doc pm an cdv ct) [a] []) (Sg : FnScope Ng [a] sg) (iN : Ng[0]? = some a) (va : Vis sg a)
    (G : GivesV X Ng x sg g cdv bg a TT) (B : TabB X.base X.mg c P) (ec : X.env.code = .ref c) (mT : (P, X.env.qual ++ "<lambda>") ∈ T) (uT : ∀ p ∈ T, p.1 = P → p.2 = X.env.qual ++ "<lambda>") (hr : Room (k + 2) X.A) (S : LamS X.env.scope scope) (dn : defaultsOf params X.env = ([], []))
    (nb : ∀ (q : Str) (cl : List (Str × Addr)) (pm cv ctv : Value), bindArgs (PySem.W.kla_fn "<lambda>" q params body scope cl pm cv ctv) ⟨[], []⟩ = pure [])
    (hbody : ∀ (A : Around) (outer : List Env) (s : Shared) (H : Hp) (E : XK) (f c : Addr), Room k (A.deeper (lamEnv X scope s.heap.objs.size f c)) → PE (lamCx X A outer s H E scope f c) body (t E))
    (d0 : (x == ("__debug__" : Str)) = false := by decide) (d1 : (a == ("__debug__" : Str)) = false := by decide) (d2 : (a == ("__classdict__" : Str)) = false := by decide) :
    PE X (.Call (.Name x p) [.Lambda params body scope lpos] [] pos) (tLamC X T TT params body scope t) := by
  refine ⟨fun pins s σ H Q I ⟨tT, h⟩ => wpAny_Call_Name_kw (ld_glob I hg hm ?_ d0)⟩
  refine PySem.W.callWith_K (h₀ := X.base) I.ok.mod.kin hk ?_ (by rfl) (by rfl)
  show wpAny _ _ (spliced ((false, eval (.Lambda params body scope lpos) X.env) :: backTo pos (starEach [] X.env))) _ _ s
  refine Calls.spliced_cons (lam_new I B ec mT uT tT dn (S.has I.ok) fun f c' H1 s' e1 e2 e3 e4 e5 J => Calls.spliced_nil ⟨J.kIn, wpAny_call ?_⟩)
  have hc : (upd H1 f (LamO f c' (lamD X params body scope))) c' = some (CodeO c' (X.env.qual ++ "<lambda>")) := by
    rw [upd_ne (ne_of_none e5 e3)]
    exact e5
  refine codeAny_mono (code_lam lk hcg hb Sg iN va G hr S nb (fun A outer s H E hr2 => hbody A outer s H E f c' hr2) d1 d2 J upd_same hc .nil rfl (h f c' H1 e1 e2 e3 e5)) fun r s2 hq => ?_
  rcases r with e | fl
  · exact hq.elim
  · cases fl with
    | ret z => exact J.after hq
    | next => exact hq.elim
    | brk => exact hq.elim
    | cont => exact hq.elim
end
end DN

set_option Elab.async false
set_option linter.all false
set_option maxRecDepth 100000
set_option maxHeartbeats 4000000
/-! A list comprehension whose element is read with what is known of the def at the block's start: lambdas of the def may be called in it. -/
namespace DN
open PySem PySem.Spec PyProof.Rows L2 Evl LamX EV2 TX
section
variable {X : Cx}
/-- what an element of the block may know: the def's own state at every moment of the block -/
def BlkIn (X : Cx) (pins : List (Addr × Obj)) (σ : L2.St) (B : Cx) : Prop := B.stack = X.stack ∧ B.outer = X.stack ∧ B.A = X.A ∧ B.prog = X.prog ∧ B.w = X.w ∧ ∀ {pz σz H s}, Inv B pz σz H s → Inv X pins σ H s
theorem pe_lcI {elt tg iter : Expr} {scope : Scope} {own : List (Str × Nat)} {pos : Pos} {wi : TI} {g : TG} {te : L2.St → TE} (calm : X.calm = true) (nd : X.N.Nodup) (hi : PI X tg iter wi) (ok : BlkOk X.N X.env.scope scope own)
    (hg : ∀ (s : Shared) (H : Hp) (C : Addr) (cl : List (Str × Addr)) (fp : List Addr), PG (X.blk s H scope (compEnvC scope cl C X.env) fp) tg g)
    (he : ∀ (pins : List (Addr × Obj)) (σ : L2.St) (s : Shared) (H : Hp) (C : Addr) (cl : List (Str × Addr)) (fp : List Addr), BlkIn X pins σ (X.blk s H scope (compEnvC scope cl C X.env) fp) → PE (X.blk s H scope (compEnvC scope cl C X.env) fp) elt (te σ))
    (hs : ∀ x, foldedSetIterable iter X.env x = pure x := by intro _; rfl) :
    PE X (.ListComp elt [⟨tg, iter, [], 0⟩] scope pos) (fun σ H Q => tLc wi g tYes (te σ) (own.map (·.2)) σ H Q) := by
  refine ⟨fun pins s σ H Q I h => ?_⟩
  have cap : ∀ y ∈ scope.names, y.2 = .free → ∃ c, X.env.cells.lookup y.1 = some c := fun y hy e => (ok.free y hy e).elim (fun z => I.ok.has _ (.inl z)) fun z => I.ok.has _ (.inr z)
  rw [eval_ListComp]
  refine wpAny_comprehension_free (use := none) rfl hs (closure_ok cap) ok.kind (fun y hy e => e ▸ ok.uniq y hy) (thn (hi.run pins s σ H _ I h) fun _ sa ha => thn ha fun _ sb hb => ?_)
  obtain ⟨it, fp, tn, J, Hb, rfl, Ib, T, tb, fb, turn⟩ := hb
  -- the new list at D
  let D := sb.heap.objs.size
  let sc : Shared := { sb with heap := sb.heap.push { cls := .type "list", data := .seq ([] : List Value).toArray } }
  have nD : Hb D = none := Ib.hok.fresh (Nat.le_refl _)
  obtain ⟨W, ⟨m0, w0⟩, step⟩ := turn D nD
  have Ic : Inv X pins σ (upd Hb D (.lst [])) sc := Ib.laid (t' := sb.toks) (fun b o e => Heap.get?_push_of_some _ e) (Nat.le_refl _) ⟨Nat.zero_le _, [], 0, .nil, Heap.get?_push_size _ rfl⟩
  have old : ∀ b ∈ fp, b < D := fun b m => let ⟨_, e, _⟩ := T.obj _ _ tb b m; Heap.lt_size e
  have fc : ∀ b ∈ fp, FpOk X pins (upd Hb D (.lst [])) b ∧ b < sc.heap.objs.size := fun b m => ⟨⟨(upd_ne (Nat.ne_of_lt (old b m))).trans (fb b m).1, (fb b m).2⟩, Nat.lt_of_lt_of_eq (Nat.lt_succ_of_lt (old b m)) (Heap.size_push ..).symm⟩
  have tc : tn 0 sc.heap := T.keep _ _ _ tb fun b _ o e => Heap.get?_push_of_some _ e
  refine wpAny_newObj_type (newEnv_comp ?_) (Nat.zero_le _)
  show codeAny _ _ (.compStart (.ListComp elt [⟨tg, iter, [], 0⟩] scope pos) 0 (.ref it) (.ref D) (compEnvC scope (cellsFrom (sc.heap.objs.size + 1) scope.names (cloFrom X.env.cells scope.names [])) sc.heap.objs.size X.env)) (compPost (model X.prog X.w) X.A X.xe none _ (.ref D) sc.heap.objs.size) { sc with heap := pushCells (sc.heap.push { cls := .type "dict", data := .dict #[] }) scope.names }
  have Id := block_start Ic ok nd fc
  have td : tn 0 (pushCells (sc.heap.push { cls := .type "dict", data := .dict #[] }) scope.names) := T.keep _ _ _ tc fun b _ o e => pushCells_keeps _ _ _ _ (Heap.get?_push_of_some _ e)
  generalize ec : compEnvC scope (cellsFrom (sc.heap.objs.size + 1) scope.names (cloFrom X.env.cells scope.names [])) sc.heap.objs.size X.env = ce at Id ⊢
  have eL : ce.locals = sc.heap.objs.size := by rw [← ec]; rfl
  have home : ∀ {pz σz H' s'}, Inv (X.blk sc (upd Hb D (.lst [])) scope ce fp) pz σz H' s' → Inv X pins σ H' s' := fun {pz σz H' s'} z =>
    Ic.call' (ch := fp) z.os z.base z.hok z.bare fun b m => ⟨(fc b m).1.2.2.2.1, (fc b m).1.2.1, (fc b m).1.2.2.2.2.1, (fc b m).1.2.2.2.2.2⟩
  have pg : PG (X.blk sc (upd Hb D (.lst [])) scope ce fp) tg g := by rw [← ec]; exact hg _ _ _ _ _
  have pe : PE (X.blk sc (upd Hb D (.lst [])) scope ce fp) elt (te σ) := by
    rw [← ec] at home ⊢
    exact he pins σ _ _ _ _ _ ⟨rfl, rfl, rfl, rfl, rfl, home⟩
  have held : ∀ {σz H' s'}, Inv (X.blk sc (upd Hb D (.lst [])) scope ce fp) [] σz H' s' → (∀ b ∈ fp, H' b = none) → ∀ b ∈ fp, FpOk (X.blk sc (upd Hb D (.lst [])) scope ce fp) [] H' b := fun {σz H' s'} z n b m =>
    ⟨n b m, (z.ok.exf b m).1, z.ok.exfs b m, .inl m, fun y c e => (z.ok.exf b m).2 y c e, fun p hp => absurd hp (by simp)⟩
  have loop : codeAny (model X.prog X.w) X.A (.compLoop (.ListComp elt [⟨tg, iter, [], 0⟩] scope pos) 0 (.ref it) (.ref D) ce) (compPost (model X.prog X.w) X.A X.xe none (fun v s' => EP X pins σ Q v s') (.ref D) sc.heap.objs.size) { sc with heap := pushCells (sc.heap.push { cls := .type "dict", data := .dict #[] }) scope.names } := by
    refine compLoop_any (fun n z => ∃ i Hz, (W i n Hz ∧ tn i z.heap) ∧ (∀ b ∈ fp, Hz b = none) ∧ Inv (X.blk sc (upd Hb D (.lst [])) scope ce fp) [] (wipe σ (own.map (·.2))) Hz z) ?_ m0 ⟨0, _, ⟨w0, td⟩, fun b m => (fc b m).1.1, Id⟩
    rintro n z ⟨i, Hz, ⟨wz, tz⟩, nz, Iz⟩
    rcases step i n Hz wz with ⟨stop, fin⟩ | ⟨go, Nx, back, body⟩
    · refine thnF (T.done (X.blk sc (upd Hb D (.lst [])) scope ce fp) rfl rfl rfl calm i [] z _ Hz (fun _ _ => False) Iz (held Iz nz) tz stop) ?_
      rintro r y ⟨rfl, Iy⟩
      have hC : Hz sc.heap.objs.size = none := by rw [← eL]; exact Iy.free
      obtain ⟨m, ns, _⟩ := Iy.loc
      have ns : y.heap.Ns sc.heap.objs.size m := by rw [← eL]; exact ns
      have hf := Ic.fpOk (H' := Hz) (Nat.le_refl _) hC
      refine ⟨m, ns, fun h2 sb2 => ⟨.ref D, Hz, (home Iy).turned (t' := y.toks) (fun b o hb e => (sb2.2 b hb).trans e) hf.1 hf.2.1 hf.2.2.2.1 hf.2.2.2.2.1 hf.2.2.2.2.2, rfl, fin⟩⟩
    · refine thnF (T.item (X.blk sc (upd Hb D (.lst [])) scope ce fp) rfl rfl rfl calm i [] z _ Hz (fun _ _ => False) Iz (held Iz nz) tz go) ?_
      rintro r y ⟨u, rfl, hy⟩
      refine thnF hy ?_
      rintro _ y ⟨x, Hy, Iy, rx, yl, ty, ny⟩
      have Ip := Iy.pinned (held Iy ny) (T.obj _ _ ty)
      refine thnF (pg.run _ y _ Hy x u _ Ip rx (body x Hy yl)) ?_
      rintro _ v ⟨σv, Hv, Iv, wv, tv⟩
      refine thnF (pts_nil (X := X.blk sc (upd Hb D (.lst [])) scope ce fp) |>.run _ v σv Hv _ Iv tv) ?_
      rintro b v2 ⟨Hw, Iw, qw⟩
      have done : ∀ {z2 H2}, Inv (X.blk sc (upd Hb D (.lst [])) scope ce fp) ([] ++ pinsAt fp y.heap) σv H2 z2 → Nx H2 → ∃ m, m < n ∧ ∃ i Hz, (W i m Hz ∧ tn i z2.heap) ∧ (∀ b ∈ fp, Hz b = none) ∧ Inv (X.blk sc (upd Hb D (.lst [])) scope ce fp) [] (wipe σ (own.map (·.2))) Hz z2 := fun {z2 H2} Iq nx => by
        obtain ⟨m, lt, w2⟩ := back H2 nx
        have kept : ∀ b ∈ fp, ∀ o, y.heap.get? b = some o → z2.heap.get? b = some o ∧ H2 b = none := fun b mb o e =>
          let ⟨k1, k2, _⟩ := Iq.pin (b, o) (List.mem_append_right _ (List.mem_append_right _ (mem_pinsAt mb e)))
          ⟨k1, k2⟩
        refine ⟨m, lt, i + 1, H2, ⟨w2, T.keep _ _ _ ty fun b mb o e => (kept b mb o e).1⟩, fun b mb => ?_, (Iq.unpinned (pins := [])).weak ?_ fun j v e => ?_⟩
        · obtain ⟨o, e, _⟩ := T.obj _ _ ty b mb
          exact (kept b mb o e).2
        · rw [← wv, wipe_length]
        · rw [← wv] at e
          exact (wipe_some e).1
      cases b with
      | false =>
        rw [if_neg (by decide)] at qw ⊢
        exact done Iw qw
      | true =>
        rw [if_pos rfl] at qw ⊢
        refine thnF (pe.run _ v2 σv Hw _ Iw qw) ?_
        rintro q v3 ⟨yv, H3, I3, r3, acc, l3, z3, nx⟩
        exact app_ok (X := X.blk sc (upd Hb D (.lst [])) scope ce fp) I3 l3 z3 r3 fun _ I4 => done I4 nx
  exact codeAny_compStart_list loop (T.self X.A 0 _ _ _ td loop)
end
end DN

set_option Elab.async false
set_option linter.all false
set_option maxRecDepth 100000
set_option maxHeartbeats 4000000
namespace DN
open PySem PySem.Spec PyProof.Rows L2 Evl LamX EV2 TX
/-- a written lambda and its body's reading -/
structure LamR where
  params : Arguments
  body : Expr
  scope : Scope
  t : XK → TE
/-- what is known of it in the def whose context is X -/
structure LamOk (X : Cx) (k : Nat) (l : LamR) : Prop where
  S : LamS X.env.scope l.scope
  nb : ∀ (q : Str) (cl : List (Str × Addr)) (pm cv ctv : Value), bindArgs (PySem.W.kla_fn "<lambda>" q l.params l.body l.scope cl pm cv ctv) ⟨[], []⟩ = pure []
  dn : defaultsOf l.params X.env = ([], [])
  body : ∀ (A : Around) (outer : List Env) (s : Shared) (H : Hp) (E : XK) (f c : Addr), Room k (A.deeper (lamEnv X l.scope s.heap.objs.size f c)) → PE (lamCx X A outer s H E l.scope f c) l.body (l.t E)
/-- the def g that gets lambdas -/
structure GotLam (X : Cx) (k : Nat) (x a : Str) (g : Addr) (Ng : List Str) (qs : List Str) (TT : (XK → Hp → VK → Prop) → List V → Hp → VK → Prop) : Prop where
  mg : X.mg x = some (.ref g)
  kp : PySem.W.keepIn X.K (.ref g) = true
  ex : ∃ (pg : Arguments) (bg : List Stmt) (sg : Scope) (dV kV doc pm cdv ct oc : Value) (an od : Option Addr) (osl : Array (Option Value)), X.K.lookup g = some ⟨oc, od, .func (PySem.W.fnOf x x pg bg sg dV kV doc pm an cdv ct), osl⟩ ∧ PySem.W.codeIn X.K cdv x = true ∧
    L2.Binds X.K (PySem.W.fnOf x x pg bg sg dV kV doc pm an cdv ct) (a :: qs) [] ∧ FnScope Ng (a :: qs) sg ∧ Vis sg a ∧ GivesV X Ng x sg g cdv bg a TT
  iN : Ng[0]? = some a
  hr : Room (k + 2) X.A
/-- x(v) in a block of the def: v stands for one of the def's lambdas -/
def rdBlk (X : Cx) (i : Nat) (ls : List LamR) (TT : (XK → Hp → VK → Prop) → List V → Hp → VK → Prop) (σ : L2.St) : TE := fun σB H Q => ∃ (f c : Addr) (l : LamR), l ∈ ls ∧ σB[i]? = some (some (.ref f)) ∧ H f = some (LamO f c (lamD X l.params l.body l.scope)) ∧ H c = some (CodeO c (X.env.qual ++ "<lambda>")) ∧ TT (fun E H' Q' => l.t E σ H' Q') [] H Q
section
variable {X : Cx} {pins : List (Addr × Obj)} {σ : L2.St} {H : Hp} {s : Shared} {k : Nat} {x a : Str} {g : Addr} {Ng : List Str} {TT : (XK → Hp → VK → Prop) → List V → Hp → VK → Prop}
theorem pe_blkLam {s : Shared} {H : Hp} {scope : Scope} {cenv : Env} {fp : List Addr} {v : Str} {i : Nat} {ls : List LamR} {p p1 pos : Pos} (G : GotLam X k x a g Ng [] TT) (hl : ∀ l ∈ ls, LamOk X k l) (bi : BlkIn X pins σ (X.blk s H scope cenv fp))
    (hg : Gl (X.blk s H scope cenv fp) x) (pv : PE (X.blk s H scope cenv fp) (.Name v p1) (tVar i)) (d0 : (x == ("__debug__" : Str)) = false := by decide) (d1 : (a == ("__debug__" : Str)) = false := by decide) (d2 : (a == ("__classdict__" : Str)) = false := by decide) :
    PE (X.blk s H scope cenv fp) (.Call (.Name x p) [.Name v p1] [] pos) (rdBlk X i ls TT σ) := by
  refine ⟨fun pz sz σz Hz Q J ⟨f, c, l, hm, e1, e2, e3, h⟩ => wpAny_Call_Name_kw (ld_glob J hg G.mg ?_ d0)⟩
  obtain ⟨pg, bg, sg, dV, kV, doc, pm, cdv, ct, oc, an, od, osl, lk, hcg, hb, Sg, va, GV⟩ := G.ex
  have L := hl l hm
  refine PySem.W.callWith_K (h₀ := X.base) J.ok.mod.kin G.kp (thn ((pa_cons pv pa_nil).run pos pz sz σz Hz (fun vs H1 => vs = [.ref f] ∧ H1 = Hz) J ⟨_, e1, rfl, rfl⟩) ?_) (by rfl) (by rfl)
  rintro us s1 ⟨vs, H1, J1, rv, rfl, rfl⟩
  refine ⟨J1.kIn, ?_⟩
  cases rv with
  | cons r1 rv =>
    cases rv
    cases r1
    have I1 : Inv X pins σ H1 s1 := bi.2.2.2.2.2 J1
    have run := code_lam lk hcg hb Sg G.iN va GV G.hr L.S L.nb (fun A outer s H E hr2 => L.body A outer s H E f c hr2) d1 d2 I1 e2 e3 .nil rfl h
    refine wpAny_call (codeAny_mono run fun r s2 hq => ?_)
    rcases r with e | fl
    · exact hq.elim
    · cases fl with
      | ret z => exact J1.after hq
      | next => exact hq.elim
      | brk => exact hq.elim
      | cont => exact hq.elim
/-- x(lambda: ..) -/
theorem pe_callLam2 {T : List (Addr × Str)} {c P : Addr} {l : LamR} {p lpos pos : Pos} (G : GotLam X k x a g Ng [] TT) (L : LamOk X k l) (hg : Gl X x) (B : TabB X.base X.mg c P) (ec : X.env.code = .ref c) (mT : (P, X.env.qual ++ "<lambda>") ∈ T) (uT : ∀ p ∈ T, p.1 = P → p.2 = X.env.qual ++ "<lambda>")
    (d0 : (x == ("__debug__" : Str)) = false := by decide) (d1 : (a == ("__debug__" : Str)) = false := by decide) (d2 : (a == ("__classdict__" : Str)) = false := by decide) :
    PE X (.Call (.Name x p) [.Lambda l.params l.body l.scope lpos] [] pos) (tLamC X T TT l.params l.body l.scope l.t) := by
  obtain ⟨pg, bg, sg, dV, kV, doc, pm, cdv, ct, oc, an, od, osl, lk, hcg, hb, Sg, va, GV⟩ := G.ex
  exact pe_callLam hg G.mg G.kp lk hcg hb Sg G.iN va GV B ec mT uT G.hr L.S L.dn L.nb L.body d0 d1 d2
end
end DN

set_option Elab.async false
set_option linter.all false
set_option maxRecDepth 100000
set_option maxHeartbeats 4000000
/-! Defs whose caller has no repr under way; a law told by such a def. -/
namespace DN
open PySem PySem.Spec PyProof.Rows L2 Evl LamX EV2 TX
/-- FnOk where no repr is under way -/
structure FnG (P : Program) (w : World) (K : PySem.W.Frag) (mg : Str → Option Value) (base : Heap) (CX : CXT) (k : Nat) (f : Addr) (fd : FuncData) (ps : List Str) (sp : Sp) : Prop where
  len : ∀ vs H Q E, sp vs H Q E → vs.length = ps.length
  run : ∀ (A : Around) (outer : List Env) (s : Shared) (H : Hp) (args : Args) (us : List Value) (vs : List V) (Q : VK) (E : XK), A.guards = some [] → Room k A → Env0 P w K mg base A outer s H → BindsTo s fd args (ps.zip us) → Vals vs us → sp vs H Q E →
    codeAny (model P w) A (.call (.ref f) args) (CR CX outer P w H s Q E) s
section
variable {P : Program} {w : World} {K : PySem.W.Frag} {mg : Str → Option Value} {base : Heap} {x qual : Str} {st : Stmt} {f c : Addr} {fd : FuncData}
theorem FnOk.toG {CX : CXT} {k : Nat} {ps : List Str} {sp : Sp} (F : FnOk P w K mg base CX k f fd ps sp) : FnG P w K mg base CX k f fd ps sp := ⟨F.len, fun A outer s H args us vs Q E _ => F.run A outer s H args us vs Q E⟩
theorem funC_okG {N ps : List Str} {k : Nat} {sp : Sp} (F : FunC K x qual st f c fd) (Sc : FnScope N ps (defScope st)) (len : ∀ vs H Q E, sp vs H Q E → vs.length = ps.length)
    (hb : ∀ (A : Around) (outer : List Env) (s : Shared) (H : Hp) (vs : List V) (Q : VK) (E : XK), A.guards = some [] → Room k (A.deeper (envOfC qual (defScope st) s.heap.objs.size f (.ref c))) → sp vs H Q E →
      ∃ t, PSs (cxOf CX0 P w K mg base N qual (defScope st) f (.ref c) A outer s H E).nox (defBody st) t ∧ t { nx := fun _ H' => Q .non H', rt := Q } (L2.start N vs) H) : FnG P w K mg base CX0 (k + 1) f fd ps sp := by
  obtain ⟨oc, od, kV, doc, pm, an, ct, osl, rfl, l, q⟩ := F.ex
  refine ⟨len, fun A outer s H args us vs Q E hg hr e0 hbd rv hs => run_ofS l q Sc hr e0 hbd rv (len _ _ _ _ hs) fun hr' => ?_⟩
  obtain ⟨t, a, b⟩ := hb A outer s H vs Q E hg hr' hs
  exact ⟨t, a.nox, b⟩
end
section
variable {X : Cx} {CX : CXT} {k : Nat} {f : Addr} {fd : FuncData} {ps : List Str} {sp : Sp} {ds : List Value} {dvs : List V} {E : XK} {e : Expr} {es : List Expr} {t : L2.TA} {x : Str} {p pos : Pos}
/-- x(e, ..) where no repr is under way -/
theorem pe_callG (F : FnG X.prog X.w X.K X.mg X.base CX k f fd ps sp) (gd : X.A.guards = some []) (hr : Room k X.A) (hg : Gl X x) (hm : X.mg x = some (.ref f)) (hk : PySem.W.keepIn X.K (.ref f) = true) (hb : Binds X.K fd ps ds) (hd : Vals dvs ds) (hx : Passes CX X E)
    (ha : PA X (e :: es) t) (d0 : (x == ("__debug__" : Str)) = false := by decide) (he : starEach (e :: es) X.env = (false, eval e X.env) :: starEach es X.env := by rfl) (hpl : (backTo pos (starEach es X.env)).any (·.1) = false := by rfl) :
    PE X (.Call (.Name x p) (e :: es) [] pos) (tCall sp dvs E t) := by
  refine ⟨fun pins s σ H Q I h => wpAny_Call_Name_kw (ld_glob I hg hm (PySem.W.callWith_K (h₀ := X.base) I.ok.mod.kin hk (thn (ha.run pos pins s σ H _ I h) ?_) he hpl) d0)⟩
  rintro us s1 ⟨vs, H1, I1, r, q⟩
  have rv : Vals (vs ++ dvs) (us ++ ds) := r.append hd
  have len := F.len _ _ _ _ q
  refine ⟨I1.kIn, wpAny_call (codeAny_mono (F.run X.A X.stack s1 H1 _ (us ++ ds) (vs ++ dvs) Q E gd hr I1.env0 (hb s1 us I1.kIn (by rw [← rv.length]; exact len)) rv q) ?_)⟩
  intro z s2 hz
  rcases z with u | fl
  · exact hx pins σ H1 s1 u s2 I1 hz
  · cases fl with
    | ret u => exact I1.after hz
    | next => exact hz.elim
    | brk => exact hz.elim
    | cont => exact hz.elim
end
/-! ### the law's end -/
section
variable {P : Program} {w : World} {K : PySem.W.Frag} {mg mb : Str → Option Value} {a : Addr} {cs : List (Addr × Addr)} {s : Shared} {vs : List Value} {ns : List Int}
/-- the abstract heap at a law's entry: its tables, its script where the text doesn't hold it -/
def HpE (K : PySem.W.Frag) (cs : List (Addr × Addr)) (a : Addr) (vs : List Value) (ns : List Int) : Hp := fun b =>
  if b ∈ cs.map Prod.snd then some (.tbl #[]) else if b = a ∧ (K.lookup a).isNone = true then some (.frz { cls := .type "list", data := .seq vs.toArray } (.lst (ns.map V.int))) else none
theorem hpE_cases (b : Addr) : (b ∈ cs.map Prod.snd ∧ HpE K cs a vs ns b = some (.tbl #[])) ∨ (b ∉ cs.map Prod.snd ∧ b = a ∧ K.lookup a = none ∧ HpE K cs a vs ns b = some (.frz { cls := .type "list", data := .seq vs.toArray } (.lst (ns.map V.int)))) ∨ HpE K cs a vs ns b = none := by
  unfold HpE
  by_cases h1 : b ∈ cs.map Prod.snd
  · exact .inl ⟨h1, if_pos h1⟩
  · rw [if_neg h1]
    by_cases h2 : b = a ∧ (K.lookup a).isNone = true
    · exact .inr (.inl ⟨h1, h2.1, Option.isNone_iff_eq_none.mp h2.2, if_pos h2⟩)
    · exact .inr (.inr (if_neg h2))
structure Entry (P : Program) (w : World) (K : PySem.W.Frag) (mg mb : Str → Option Value) (a : Addr) (cs : List (Addr × Addr)) (s : Shared) (vs : List Value) (ns : List Int) : Prop where
  kin : K.In s.heap
  glob : s.heap.Ns mainGlobals mg
  blt : s.heap.Ns builtinsNs mb
  boot : ∀ x : Str, x ≠ "__name__" → mb x = bootBuiltins x
  lim : s.heap.NoLimit
  gens : s.gens = #[]
  tabs : ∀ p ∈ cs, s.heap.get? p.2 = some { cls := .none, data := .fields #[] }
  notK : ∀ p ∈ cs, K.lookup p.2 = none
  code : ∀ p ∈ cs, PySem.W.CodeHd s.heap p.1 p.2
  bmod : ∃ (bm : Addr) (ob : Obj), mg "__builtins__" = some (.ref bm) ∧ bm ≠ builtinsNs ∧ s.heap.get? bm = some ob ∧ ob.cls = .type "module" ∧ ob.dict = some builtinsNs ∧ ob.data = .plain
  script : s.heap.get? a = some { cls := .type "list", data := .seq vs.toArray }
  nums : IntsAre vs ns
  len : ns.length ≤ sizeLine
theorem Entry.tab (e : Entry P w K mg mb a cs s vs ns) {b : Addr} (h : b ∈ cs.map Prod.snd) : s.heap.get? b = some { cls := .none, data := .fields #[] } := by
  obtain ⟨p, m, rfl⟩ := List.mem_map.mp h
  exact e.tabs p m
/-- what is neither a list nor an empty table isn't told -/
theorem Entry.free (e : Entry P w K mg mb a cs s vs ns) {b : Addr} {o : Obj} (h : s.heap.get? b = some o) (n1 : ∀ us n, o.data ≠ .seq us n) (n2 : o.data ≠ .fields #[]) : HpE K cs a vs ns b = none := by
  rcases hpE_cases (K := K) (cs := cs) (a := a) (vs := vs) (ns := ns) b with ⟨m, _⟩ | ⟨_, rfl, _, _⟩ | z
  · rw [e.tab m] at h
    cases h
    exact absurd rfl n2
  · rw [e.script] at h
    cases h
    exact absurd rfl (n1 _ _)
  · exact z
theorem Entry.sub (e : Entry P w K mg mb a cs s vs ns) {b : Addr} {m : Str → Option Value} (h : s.heap.Ns b m) : (hidT s.heap (HpE K cs a vs ns)).Ns b m := by
  obtain ⟨o, es, ep, h1, h2, h3⟩ := h
  exact ⟨o, es, ep, hidT_get h1 (e.free h1 (fun us n z => by rw [h2] at z; cases z) fun z => by rw [h2] at z; cases z), h2, h3⟩
theorem Entry.kbase (e : Entry P w K mg mb a cs s vs ns) : K.In (hidT s.heap (HpE K cs a vs ns)) := fun b o h => hidT_get (e.kin b o h) (by
  rcases hpE_cases (K := K) (cs := cs) (a := a) (vs := vs) (ns := ns) b with ⟨m, _⟩ | ⟨_, rfl, z, _⟩ | z
  · obtain ⟨p, hp, rfl⟩ := List.mem_map.mp m
    rw [e.notK p hp] at h
    cases h
  · rw [z] at h
    cases h
  · exact z)
theorem Entry.hok (e : Entry P w K mg mb a cs s vs ns) : HOk P w (HpE K cs a vs ns) s.heap := fun b o h => by
  rcases hpE_cases (K := K) (cs := cs) (a := a) (vs := vs) (ns := ns) b with ⟨m, z⟩ | ⟨_, rfl, _, z⟩ | z
  · rw [z] at h
    cases h
    exact e.tab m
  · rw [z] at h
    cases h
    exact ⟨e.script, by rw [List.length_map]; exact e.len, vs, _, vals_ints e.nums, e.script⟩
  · rw [z] at h
    cases h
theorem Entry.env (e : Entry P w K mg mb a cs s vs ns) : Env0 P w K mg (hidT s.heap (HpE K cs a vs ns)) callerA [] s (HpE K cs a vs ns) :=
  ⟨rfl, ⟨e.kbase, e.sub e.glob, ⟨mb, e.sub e.blt, e.boot⟩, e.lim.elim fun mc h => ⟨mc, e.sub h.1, h.2⟩⟩, fun _ _ h => of_hidT h, Nat.le_of_eq (hidT_size _ _), trivial, fun _ h => absurd h List.not_mem_nil, e.hok, .of_eq e.gens⟩
theorem Entry.tabB (e : Entry P w K mg mb a cs s vs ns) : ∀ p ∈ cs, TabB (hidT s.heap (HpE K cs a vs ns)) mg p.1 p.2 := fun p hp => by
  have tp := e.tabs p hp
  obtain ⟨og, es, ep, g1, g2, _⟩ := e.glob
  refine ⟨?_, ?_, fun z => ?_⟩
  · obtain ⟨o, us, fl, tf, fg, tg, nF, tx, tt, h1, h2, h3, h4, r⟩ := e.code p hp
    refine ⟨o, us, fl, tf, fg, tg, nF, tx, tt, hidT_get h1 (e.free h1 (fun q n z => ?_) fun z => ?_), h2, h3, h4, r⟩
    · rw [h3] at z
      cases z
    · rw [h3] at z
      cases z
      cases h4
  · obtain ⟨bm, ob, h1, h2, h3, h4, h5, h6⟩ := e.bmod
    refine ⟨bm, ob, h1, h2, fun z => ?_, fun z => ?_, hidT_get h3 (e.free h3 (fun q n z => ?_) fun z => ?_), h4, h5, h6⟩
    · rw [z, g1] at h3
      cases h3
      rw [g2] at h6
      cases h6
    · rw [z, tp] at h3
      cases h3
      cases h6
    · rw [h6] at z
      cases z
    · rw [h6] at z
      cases z
  · rw [z, tp] at g1
    cases g1
    cases g2
theorem Entry.seq (e : Entry P w K mg mb a cs s vs ns) : SqL K (HpE K cs a vs ns) a (ns.map V.int) := by
  have l1 := e.nums.length
  cases hk : K.lookup a with
  | some o =>
    have h := e.kin a o hk
    rw [e.script] at h
    cases h
    exact .inr ⟨_, vs.toArray, _, hk, rfl, rfl, rfl, by rw [List.size_toArray, l1]; exact e.len, by simpa using vals_ints e.nums⟩
  | none =>
    have na : a ∉ cs.map Prod.snd := fun z => by
      have q := e.tab z
      rw [e.script] at q
      cases q
    refine .inl (.inr ⟨{ cls := .type "list", data := .seq vs.toArray }, ?_⟩)
    unfold HpE
    rw [if_neg na, if_pos ⟨rfl, by rw [hk]; rfl⟩]
/-- all stands as it was, but for the tables that grew -/
theorem Entry.stays (e : Entry P w K mg mb a cs s vs ns) {H' : Hp} {s' : Shared} (u : Un (frs []) [] (HpE K cs a vs ns) H' s.heap s'.heap) (ok : HOk P w H' s'.heap) : OldK s.heap s'.heap := by
  have out : ∀ b o, b ∉ cs.map Prod.snd → s.heap.get? b = some o → s'.heap.get? b = some o := fun b o nb h => by
    rcases hpE_cases (K := K) (cs := cs) (a := a) (vs := vs) (ns := ns) b with ⟨m, _⟩ | ⟨_, _, _, z⟩ | z
    · exact absurd m nb
    · have q1 := (e.hok b _ z).1
      have q2 := (ok b _ (u.frzs b _ _ z)).1
      rw [h] at q1
      cases q1
      exact q2
    · exact u.keep b o h z List.not_mem_nil List.not_mem_nil
  have grown : ∀ b, b ∈ cs.map Prod.snd → ∃ more : Array Value, s'.heap.get? b = some { cls := .none, data := .fields more } := fun b m => by
    rcases hpE_cases (K := K) (cs := cs) (a := a) (vs := vs) (ns := ns) b with ⟨_, z⟩ | ⟨n, _⟩ | z
    · obtain ⟨more, q⟩ := u.tbls b _ z
      exact ⟨_, ok b _ q⟩
    · exact absurd m n
    · unfold HpE at z
      rw [if_pos m] at z
      cases z
  refine ⟨fun b o h => ?_, fun b o h => ?_⟩
  · by_cases m : b ∈ cs.map Prod.snd
    · obtain ⟨more, q⟩ := grown b m
      rw [e.tab m] at h
      cases h
      obtain ⟨p, hp, rfl⟩ := List.mem_map.mp m
      exact .inr (.inl ⟨((e.code p hp).tab (e.tabs p hp)).isCodeTable, rfl, #[], more, rfl, by rw [Array.empty_append]; exact q⟩)
    · exact .inl (out b o m h)
  · by_cases m : b ∈ cs.map Prod.snd
    · exact (grown b m).elim fun _ q => ⟨_, q⟩
    · exact ⟨o, out b o m h⟩
end
/-- what a law's def is to keep: LamX's LawAtS where no repr is under way -/
def LawAtG (l : PySem.W.OpenLaw) (w : World) (K : PySem.W.Frag) (CX : CXT) (k n : Nat) (x : Str) (mg : Str → Option Value) (fa : Addr) (h : Heap) : Prop :=
  ∃ (fd : FuncData) (cs : List (Addr × Addr)) (sp : Sp), (∀ p ∈ cs, h.get? p.2 = some { cls := .none, data := .fields #[] }) ∧ (∀ p ∈ cs, K.lookup p.2 = none) ∧ (∀ p ∈ cs, PySem.W.CodeHd h p.1 p.2) ∧ (∀ (s : Shared) (u : Value), BindsTo s fd ⟨[u], []⟩ [(x, u)]) ∧
    (∀ (H : Hp) (a : Addr) (ns : List Int), ns.length ≤ n → (∀ z ∈ ns, Builtin.Int.intBits z ≤ 1048576) → (∀ p ∈ cs, H p.2 = some (.tbl #[])) → SqL K H a (ns.map V.int) → sp [.ref a] H (fun v _ => v = .bl true) fun _ _ _ => False) ∧
    ∀ base : Heap, K.In base → base.Ns mainGlobals mg → (∀ p ∈ cs, TabB base mg p.1 p.2) → FnG l.prog w K mg base CX k fa fd [x] sp
theorem walk_G {l : PySem.W.OpenLaw} {n k : Nat} {q : Program} {loose : List Str} {XP : (Str → Option Value) → Heap → Prop} {YP : World → Heap → Prop} {d : DefRec} {CX : World → CXT} {x : Str} (hn : l.most = some n) (hn2 : n ≤ sizeLine) (hdf : d.params.defaults = []) (hr : Room k callerA)
    (F : ∀ (w : World) (mg : Str → Option Value) (fa : Addr) (h : Heap), YP w h → h.Ns mainGlobals mg → mg d.name = some (.ref fa) → ∃ K : PySem.W.Frag, K.In h ∧ LawAtG l w K (CX w) k n x mg fa h)
    (hCX : ∀ (w : World) (H : Hp) (s : Shared) (e : Value) (s' : Shared), CX w [] H s (fun _ _ _ => False) e s' → False) : PySem.W.WalkO q loose XP YP l.row.toRowW d [] (fun f vs => PySem.call f vs) := by
  refine Att.attach_callB hn hdf fun w s0 s1 mg mb fa o pm cd doc a vs ns G Y ho hd hcd hmg hobj hints hlen hbits hg => ?_
  obtain ⟨K, KX, fd, cs, sp, hT, nT, C, hb, hsp, hF⟩ := F w mg fa _ Y G.T.g hmg
  have e : Entry l.prog w K mg mb a cs s1 vs ns := ⟨KX, G.T.g, G.T.b, G.T.builtins, G.T.nolimit, hg, hT, nT, C, G.T.bmain, hobj, hints, Nat.le_trans hlen hn2⟩
  have law := (hF _ e.kbase (e.sub e.glob) e.tabB).run callerA [] s1 _ _ [.ref a] [.ref a] _ _ rfl hr e.env (hb s1 (.ref a)) (.cons rfl .nil) (hsp _ a ns hlen hbits (fun p hp => (hpE_cases (K := K) (cs := cs) (a := a) (vs := vs) (ns := ns) p.2).elim And.right fun z => z.elim (fun z => absurd (List.mem_map.mpr ⟨p, hp, rfl⟩) z.1) fun z => by
    unfold HpE at z
    rw [if_pos (List.mem_map.mpr ⟨p, hp, rfl⟩)] at z
    cases z) e.seq)
  refine codeAny_mono law fun r s' h => ?_
  rcases r with x | fl
  · exact (hCX w _ s1 x s' h).elim
  · cases fl with
    | ret u =>
      obtain ⟨v, H', os, bare, un, ok, rv, rfl⟩ := h
      cases rv
      exact ⟨rfl, e.stays un ok, os, bare⟩
    | next => exact h.elim
    | brk => exact h.elim
    | cont => exact h.elim
end DN

set_option Elab.async false
set_option linter.all false
set_option maxRecDepth 100000
set_option maxHeartbeats 4000000
/-! repr(x), x data or an empty dict, where no repr is under way. -/
namespace DN
open PySem PySem.Spec PyProof.Rows L2 Evl LamX EV2 TX
/-- x is told by d, at a depth that fits -/
def Shw (K : PySem.W.Frag) (H : Hp) (x : V) (d : PyData) : Prop := (Dp K H x d ∨ ∃ a, x = .ref a ∧ H a = some (.dK []) ∧ d = .dict []) ∧ d.showable = true ∧ d.depth ≤ 20 ∧ d.shown.length ≤ sizeLine
def rRepr (K : PySem.W.Frag) (g : Prop) : List V → Hp → VK → Prop := fun xs H Q => g ∧ ∃ x d, xs = [x] ∧ Shw K H x d ∧ Q (.str d.shown) H
theorem dp_noDict : ∀ {K : PySem.W.Frag} {H : Hp}, (∀ {d : PyData} {v : V}, Dp K H v d → d.hasDict = false) := by
  intro K H
  have both : ∀ n, (∀ (d : PyData) (v : V), sizeOf d ≤ n → Dp K H v d → d.hasDict = false) ∧ ∀ (ds : List PyData) (vs : List V), sizeOf ds ≤ n → DpAll K H vs ds → PyData.hasDictAll ds = false := by
    intro n
    induction n with
    | zero => exact ⟨fun d v h => by cases d <;> simp at h, fun ds vs h => by cases ds <;> simp at h⟩
    | succ n ih =>
      refine ⟨fun d v h p => ?_, fun ds vs h p => ?_⟩
      · cases p with
        | non => rfl
        | bl _ => rfl
        | int _ => rfl
        | str _ => rfl
        | lst _ r => simp only [PyData.hasDict]; exact ih.2 _ _ (by simp at h; omega) r
        | tup _ r => simp only [PyData.hasDict]; exact ih.2 _ _ (by simp at h; omega) r
      · cases p with
        | nil => rfl
        | cons a b =>
          simp only [PyData.hasDictAll, Bool.or_eq_false_iff]
          exact ⟨ih.1 _ _ (by simp at h; omega) a, ih.2 _ _ (by simp at h; omega) b⟩
  intro d v p
  exact (both (sizeOf d)).1 d v (Nat.le_refl _) p
theorem call_repr {X : Cx} (hu : X.A.units + 64 < cLine) : CallR X (.builtin "repr") (rRepr X.K (X.A.guards = some [])) := by
  intro pins s σ H xs us Q I r hq
  obtain ⟨gd, x, d, rfl, ⟨hd, hs, hdp, hz⟩, q⟩ := hq
  cases r with
  | cons rx r =>
    rename_i u us
    cases r
    have fin : ∀ (h' : Heap) (t : Tok) (tk : Nat), (∀ b o, s.heap.get? b = some o → h'.get? b = some o) → EP X pins σ Q (.str d.shown t) { s with heap := h', toks := tk } := fun h' t tk k => ⟨.str d.shown, H, I.kept k, ⟨_, rfl⟩, q⟩
    have un : X.A.units + (d.depth + 1) < cLine := by omega
    rcases hd with hd | ⟨a, rfl, ha, rfl⟩
    · obtain ⟨as, rd⟩ := Dp.reads I d x u hd rx
      cases hd with
      | non => cases rx; exact PySem.P.repr_of_none (fin s.heap _ _ fun _ _ z => z)
      | bl b => cases rx; exact PySem.P.repr_of_bool (by have := fin s.heap s.toks (s.toks + 1) fun _ _ z => z; cases b <;> exact this)
      | int i => obtain ⟨t, rfl⟩ := rx; exact PySem.P.repr_of_int (by simpa [PyData.showable] using hs) (fin s.heap _ _ fun _ _ z => z)
      | str y => obtain ⟨t, rfl⟩ := rx; exact PySem.P.repr_of_str (fin s.heap _ _ fun _ _ z => z) hz
      | lst h1 h2 => cases rx; exact PySem.repr_of_reads' rd hs (fun z => by rw [dp_noDict (.lst h1 h2)] at z; cases z) gd un (fun _ _ z => z) (fun h' t tk k => fin h' t tk k) hz
      | tup h1 h2 => cases rx; exact PySem.repr_of_reads' rd hs (fun z => by rw [dp_noDict (.tup h1 h2)] at z; cases z) gd un (fun _ _ z => z) (fun h' t tk k => fin h' t tk k) hz
    · cases rx
      obtain ⟨_, ns, vs, kv, o, es, ep, e, ⟨c, _, _⟩, dt, _, pr, _⟩ := I.hok a _ ha
      cases kv
      have ee : es.toList = [] := by
        generalize es.toList = l at pr
        cases pr
        rfl
      have rd : Reads s.heap (.ref a) (.dict []) (a :: [] ++ []) := .dict e c dt (by rw [ee]; exact .nil) (by rw [ee]; exact .nil)
      exact PySem.repr_of_reads' rd hs (fun _ z => by simp at z; rw [← z] at ns; simp at ns) gd un (fun _ _ z => z) (fun h' t tk k => fin h' t tk k) hz
section
variable {Γ : Gam} {E : XS}
/-- a value's text, where it has one that is short and not deep -/
def reprD (d : D) : Option Str := (match d with | .dct => some (PyData.dict []) | d => toPd d).bind fun e => if e.showable = true ∧ e.depth ≤ 20 ∧ e.shown.length ≤ 100000 then some e.shown else none
def dRepr : List D → M D := fun xs s => match xs with | [d] => (match reprD d with | some x => .ok (.str x) s | none => .bad) | _ => .bad
theorem sc_repr {g : Prop} (hg : g) : SndC Γ E (rRepr Γ.K g) dRepr := fun q A H σ s vs ds Q ei r p => by
  unfold dRepr at p
  split at p
  · rename_i d
    split at p
    · rename_i x hx
      cases r with
      | cons r1 r =>
        cases r
        unfold reprD at hx
        obtain ⟨e, h1, h2⟩ := Option.bind_eq_some_iff.mp hx
        split at h2
        · rename_i hc
          cases h2
          refine ⟨hg, _, e, rfl, ⟨?_, hc.1, hc.2.1, sz_of hc.2.2⟩, p _ H (Grow.refl _) ei (.str _)⟩
          split at h1
          · cases h1
            cases r1 with
            | dct h => exact .inr ⟨_, rfl, (of_msk h).2, rfl⟩
          · exact .inl (dp_rep r1 h1)
        · cases h2
    · exact p.elim
  · exact p.elim
end
end DN

set_option Elab.async false
set_option linter.all false
set_option maxRecDepth 100000
set_option maxHeartbeats 4000000
/-! Texts joined and repeated, numbers' texts, own texts, lists that are new, f-strings, all. -/
namespace DN
open PySem PySem.Spec PyProof.Rows L2 Evl LamX EV2 TX
def repS (x : Str) (n : Int) : Str := if n < 1 then Str.empty else if (n == 1 || x.length == 0) = true then x else ⟨(List.replicate n.toNat x.cps).foldl (· ++ ·) #[]⟩
def rRepS : R2 := fun x y H Q => ∃ (a : Str) (n : Int), x = .str a ∧ y = .int n ∧ 0 ≤ n ∧ n ≤ 100000 ∧ a.length * n.toNat ≤ 100000 ∧ Q (.str (repS a n)) H
theorem op_repS {X : Cx} : OpR X (binaryOp .Mult) rRepS := by
  intro pins s σ H x y v u Q I rx ry h
  obtain ⟨a, n, rfl, rfl, h0, h1, hl, q⟩ := h
  obtain ⟨t, rfl⟩ := rx
  obtain ⟨t', rfl⟩ := ry
  have f1 : (decide (n < -(2 ^ 63 : Int)) || decide (n ≥ 2 ^ 63)) = false := by
    rw [decide_eq_false (by omega), decide_eq_false (by omega)]
    rfl
  have nl : Builtin.Str.tooLong (a.length * n.toNat) = false := decide_eq_false (Nat.not_lt.mpr (sz_of hl))
  refine PySem.P.mul_str f1 (fun p1 p2 => ?_) (fun p1 p2 => nl) ?_
  · have hn : (0 : Int) < n := by omega
    intro hc
    have : (2 ^ 63 - 1) / n < a.length := hc
    have e : ((a.length * n.toNat : Nat) : Int) = a.length * n := by
      rw [Int.natCast_mul, Int.toNat_of_nonneg h0]
    have h3 := (Int.ediv_lt_iff_lt_mul hn).mp this
    omega
  · unfold repS at q
    by_cases c1 : n < 1
    · rw [if_pos c1] at q ⊢
      exact ⟨Nat.zero_le _, .str _, H, I.tok _, ⟨_, rfl⟩, q⟩
    · rw [if_neg c1] at q ⊢
      by_cases c2 : (n == 1 || a.length == 0) = true
      · rw [if_pos c2] at q ⊢
        exact ⟨.str _, H, I, ⟨_, rfl⟩, q⟩
      · rw [if_neg c2] at q ⊢
        exact ⟨fits_reps nl, .str _, H, I.tok _, ⟨_, rfl⟩, q⟩
/-- str(x), x own with an own __str__ that tells a text -/
def rStrO (C : Addr) (sp : Sp) (E : XK) : List V → Hp → VK → Prop := fun xs H Q => ∃ (a dx : Addr) (fs : List (Str × V)), xs = [.ref a] ∧ H a = some (.ins C dx fs) ∧ sp [.ref a] H (fun v H' => (∃ x : Str, v = .str x) ∧ Q v H') E
theorem call_strO {X : Cx} {CX : CXT} {n : Nat} {C f : Addr} {fd : FuncData} {ps : List Str} {sp : Sp} {E : XK} (F : FnOk X.prog X.w X.K X.mg X.base CX n f fd ps sp) (hs : PySem.W.findIn X.K (.ref C) "__str__" = some (some (.ref f))) (hf : PySem.W.isFn X.K (.ref f) = true)
    (hb : Binds X.K fd ps []) (hx : Passes CX X E) (hr : Room (n + 2) X.A) : CallR X (.type "str") (rStrO C sp E) := by
  intro pins s σ H xs us Q I r h
  obtain ⟨a, dx, fs, rfl, ha, hsp⟩ := h
  cases r with
  | cons r1 r =>
    cases r
    cases r1
    obtain ⟨mA, J, _⟩ := ins_get I.hok ha
    obtain ⟨od, J, _⟩ := J.look
    have i0 := I.env0
    have e0 : Env0 X.prog X.w X.K X.mg X.base X.A.in1.in1 X.stack s H := ⟨i0.frames, i0.mod, i0.bs, i0.bsz, i0.funs, i0.frf, i0.hok, i0.bare⟩
    have hl := F.len _ _ _ _ hsp
    have r2 : Vals [V.ref a] [Value.ref a] := .cons rfl .nil
    refine PySem.W.kso_call (by have := hr.un; show X.A.units + 1 + 1 < cLine; omega) I.kIn J hs hf ?_
    refine wpAny_call (codeAny_mono (F.run X.A.in1.in1 X.stack s H ⟨[.ref a], []⟩ [.ref a] [.ref a] _ E hr.in1.in1 e0 (by
      have z := hb s [.ref a] I.kIn (by simpa using hl)
      simpa using z) r2 hsp) fun r s1 o => ?_)
    cases r with
    | error ex => exact hx pins σ H s ex s1 I o
    | ok fl =>
      cases fl with
      | ret w =>
        obtain ⟨z, H1, I1, rz, ⟨x, rfl⟩, q⟩ := I.after o
        obtain ⟨t, rfl⟩ := rz
        exact ⟨.str x, H1, I1, ⟨_, rfl⟩, q⟩
      | next => exact o.elim
      | brk => exact o.elim
      | cont => exact o.elim
section
variable {Γ : Gam} {E : XS} {te tk : TE} {me mk : ME} {t : TT} {mt : MT} {tr : L2.TA} {mr : MA} {ts tu : TS} {ms mu : MS} {i c : Nat}
/-! ### texts -/
def dCat : D → D → M D := fun x y s => match x, y with | .str a, .str b => if a.length + b.length ≤ 100000 then .ok (.str (a ++ b)) s else .bad | _, _ => .bad
theorem so_cat : SndO Γ E (fun x y H Q => ∃ i j, x = .str i ∧ y = .str j ∧ i.length + j.length ≤ sizeLine ∧ Q (.str (i ++ j)) H) dCat := fun q A H σ s v u x y Q ei rx ry p => by
  cases rx with
  | str a =>
    cases ry with
    | str b =>
      unfold dCat at p
      dsimp only at p
      split at p
      · rename_i h
        exact ⟨a, b, rfl, rfl, sz_of h, p _ H (Grow.refl _) ei (.str _)⟩
      · exact p.elim
    | _ => exact p.elim
  | _ => cases ry <;> exact p.elim
def dRepS : D → D → M D := fun x y s => match x, y with | .str a, .int n => if 0 ≤ n ∧ n ≤ 100000 ∧ a.length * n.toNat ≤ 100000 then .ok (.str (repS a n)) s else .bad | _, _ => .bad
theorem so_repS : SndO Γ E rRepS dRepS := fun q A H σ s v u x y Q ei rx ry p => by
  cases rx with
  | str a =>
    cases ry with
    | int n =>
      unfold dRepS at p
      dsimp only at p
      split at p
      · rename_i h
        exact ⟨a, n, rfl, rfl, h.1, h.2.1, h.2.2, p _ H (Grow.refl _) ei (.str _)⟩
      · exact p.elim
    | _ => exact p.elim
  | _ => cases ry <;> exact p.elim
/-- int(x), x a text -/
def dIntS : List D → M D := fun xs s => match xs with | [.str a] => if a.length ≤ 640 then (match PySem.intText? a with | some n => .ok (.int n) s | none => .bad) else .bad | _ => .bad
theorem sc_intS : SndC Γ E (fun xs H Q => ∃ a n, xs = [.str a] ∧ PySem.intText? a = some n ∧ a.length ≤ 640 ∧ Q (.int n) H) dIntS := fun q A H σ s vs ds Q ei r p => by
  unfold dIntS at p
  split at p
  · cases r with
    | cons r1 r =>
      cases r
      cases r1
      split at p
      · rename_i h
        split at p
        · rename_i n hn
          exact ⟨_, n, rfl, hn, h, p _ H (Grow.refl _) ei (.int _)⟩
        · exact p.elim
      · exact p.elim
  · exact p.elim
/-- str(x), x an int -/
def dStrI : List D → M D := fun xs s => match xs with | [.int i] => if i.natAbs.log2 < 1920 then .ok (.str (toString i)) s else .bad | _ => .bad
theorem sc_strI : SndC Γ E (fun xs H Q => ∃ i, xs = [.int i] ∧ i.natAbs.log2 < 1920 ∧ Q (.str (toString i)) H) dStrI := fun q A H σ s vs ds Q ei r p => by
  unfold dStrI at p
  split at p
  · cases r with
    | cons r1 r =>
      cases r
      cases r1
      split at p
      · rename_i h
        exact ⟨_, rfl, h, p _ H (Grow.refl _) ei (.str _)⟩
      · exact p.elim
  · exact p.elim
/-- str(x), x own -/
def dStrO (c : Nat) (mf : MF) : List D → M D := fun xs s => match xs with | [.obj c' gs] => if c' = c then bnd (mf [.obj c' gs] s) (fun d s1 => match d with | .str x => .ok (.str x) s1 | _ => .bad) else .bad | _ => .bad
theorem sc_strO {mf : MF} {E : XK} : SndC Γ (fun _ => E) (rStrO (Γ.cls c) (spD Γ 1 mf) E) (dStrO c mf) := fun q A H σ s vs ds Q ei r p => by
  unfold dStrO at p
  split at p
  · split at p
    · rename_i hcc
      subst hcc
      cases r with
      | cons r1 r =>
        cases r
        cases r1 with
        | obj ho rf =>
          refine ⟨_, _, _, rfl, (of_msk ho).2, q, A, [_], s, ei, .cons (.obj ho rf) .nil, rfl, ?_⟩
          refine post_bnd p fun d s1 _ w H1 g1 e1 rr p1 => ?_
          cases rr with
          | str x => exact ⟨⟨x, rfl⟩, p1 _ H1 (Grow.refl _) e1 (.str _)⟩
          | _ => exact p1.elim
    · exact p.elim
  · exact p.elim
/-- {x} in an f-string -/
def mFmt (a : ME) : ME := fun τ s => bnd (a τ s) fun d s1 => match d with | .str x => if x.length ≤ 100000 then .ok (.str x) s1 else .bad | .int i => if i.natAbs.log2 < 1920 then .ok (.str (toString i)) s1 else .bad | _ => .bad
theorem se_fmt (h : SndE Γ E te me) : SndE Γ E (tFmt te) (mFmt me) := fun q B A H σ τ s Q ei st p =>
  h q B A H σ τ s _ ei st (post_bnd p fun d s1 _ v H1 g1 e1 rr p1 => by
    cases rr with
    | str x =>
      dsimp only at p1
      split at p1
      · rename_i h
        exact .inl ⟨x, rfl, sz_of h, p1 _ H1 (Grow.refl _) e1 (.str _)⟩
      · exact p1.elim
    | int i =>
      dsimp only at p1
      split at p1
      · rename_i h
        exact .inr ⟨i, rfl, h, p1 _ H1 (Grow.refl _) e1 (.str _)⟩
      · exact p1.elim
    | _ => exact p1.elim)
/-- an f-string's parts -/
abbrev MJ := Str → Sto → M Str
inductive SndJ (Γ : Gam) (E : XS) : List TE → List ME → Prop
  | nil : SndJ Γ E [] []
  | cons {t : TE} {m : ME} {ts : List TE} {ms : List ME} (h : SndE Γ E t m) (r : SndJ Γ E ts ms) : SndJ Γ E (t :: ts) (m :: ms)
def joinD : List ME → Str → Sto → M Str
  | [], acc, _, s => .ok acc s
  | m :: ms, acc, τ, s => bnd (m τ s) fun d s1 => match d with | .str y => if (acc ++ y).length ≤ 100000 then joinD ms (acc ++ y) τ s1 else .bad | _ => .bad
theorem join_core {ts : List TE} {ms : List ME} (h : SndJ Γ E ts ms) : ∀ {q B A H σ τ s acc} (Q : Str → Hp → Prop), EI Γ q A H s → StR Γ q B A H σ τ → PostG Γ q A H (fun _ (v : Str) d => v = d) (joinD ms acc τ s) Q (E σ) → tJs ts acc σ H Q := by
  induction h with
  | nil => intro q B A H σ τ s acc Q ei st p; exact p acc H (Grow.refl _) ei rfl
  | cons h r ih =>
    intro q B A H σ τ s acc Q ei st p
    refine h q B A H σ τ s _ ei st (post_bnd p fun d s1 _ v H1 g1 e1 rr p1 => ?_)
    cases rr with
    | str y =>
      dsimp only at p1
      split at p1
      · rename_i hl
        exact ⟨y, rfl, sz_of hl, ih Q e1 (st.grow g1) p1⟩
      · exact p1.elim
    | _ => exact p1.elim
def mJoin (ms : List ME) : ME := fun τ s => bnd (joinD ms Str.empty τ s) fun x s1 => .ok (.str x) s1
theorem se_join {ts : List TE} {ms : List ME} (h : SndJ Γ E ts ms) : SndE Γ E (fun σ H Q => tJs ts Str.empty σ H fun out H1 => Q (.str out) H1) (mJoin ms) := fun q B A H σ τ s Q ei st p =>
  join_core h _ ei st (post_bnd p fun x s1 _ y H1 g1 e1 rr p1 => by
    subst rr
    exact p1 _ H1 (Grow.refl _) e1 (.str _))
/-- all(x), x a list of truths -/
def boolsD : List D → Option (List Bool)
  | [] => some []
  | .bl b :: ds => (boolsD ds).map (b :: ·)
  | _ => none
theorem bools_rep {q : Option Addr} {H : Hp} : ∀ {ds : List D} {vs : List V} {bs : List Bool}, RepL Γ q H vs ds → boolsD ds = some bs → vs = bs.map V.bl
  | [], _, _, .nil, h => by cases h; rfl
  | .bl b :: ds, _, _, .cons (.bl _) r, h => by
    obtain ⟨cs, h1, rfl⟩ := Option.map_eq_some_iff.mp h
    rw [bools_rep r h1]
    rfl
  | .non :: _, _, _, _, h => by cases h
  | .int _ :: _, _, _, _, h => by cases h
  | .str _ :: _, _, _, _, h => by cases h
  | .ty _ :: _, _, _, _, h => by cases h
  | .adr _ :: _, _, _, _, h => by cases h
  | .pen :: _, _, _, _, h => by cases h
  | .tup _ :: _, _, _, _, h => by cases h
  | .tpf _ :: _, _, _, _, h => by cases h
  | .lst _ :: _, _, _, _, h => by cases h
  | .dct :: _, _, _, _, h => by cases h
  | .obj _ _ :: _, _, _, _, h => by cases h
def dAll : List D → M D := fun xs s => match xs with | [.lst ds] => (match boolsD ds with | some bs => .ok (.bl (bs.all id)) s | none => .bad) | _ => .bad
theorem sc_all : SndC Γ E (rAll Γ.K) dAll := fun q A H σ s vs ds Q ei r p => by
  unfold dAll at p
  split at p
  · split at p
    · rename_i bs hb
      cases r with
      | cons r1 r =>
        cases r
        cases r1 with
        | lst h rl =>
          have e := bools_rep rl hb
          subst e
          exact ⟨_, bs, rfl, (Grow.ex ex_nil).sqL h, p _ H (Grow.refl _) ei (.bl _)⟩
    · exact p.elim
  · exact p.elim
/-! ### lists that are new -/
def SndF (Γ : Gam) (E : XS) (te : TE) (me : ME) : Prop := ∀ q B A H σ τ s (Q : VK), EI Γ q A H s → StR Γ q B A H σ τ → PostG Γ q A H (fun H v d => ∃ a vs ds, v = .ref a ∧ d = .lst ds ∧ a ∉ A ∧ H a = some (.lst vs) ∧ RepL Γ q (msk A H) vs ds) (me τ s) Q (E σ) → te σ H Q
theorem sf_lst (h : SndA Γ E tr mr) : SndF Γ E (tLst tr) (mLst mr) := fun q B A H σ τ s Q ei st p =>
  h q B A H σ τ s _ ei st (post_bnd p fun xs s1 _ vs H1 g1 e1 rxs p1 => by
    split at p1
    · rename_i hl
      exact ⟨sz_of (by rw [rxs.length]; exact hl), fun a ha => p1 _ _ (Grow.new ha) (e1.new ha) ⟨a, vs, _, rfl, rfl, e1.out ha, upd_same, rxs.mono (Grow.new ha).msk⟩⟩
    · exact p1.elim)
def repL (xs : List D) (n : Nat) : List D := (List.replicate n xs).flatten
theorem RepL.rep {q : Option Addr} {H : Hp} {vs : List V} {ds : List D} (r : RepL Γ q H vs ds) : ∀ n, RepL Γ q H (List.replicate n vs).flatten (repL ds n)
  | 0 => .nil
  | n + 1 => by
    show RepL Γ q H (List.replicate (n + 1) vs).flatten (List.replicate (n + 1) ds).flatten
    rw [List.replicate_succ, List.replicate_succ, List.flatten_cons, List.flatten_cons]
    exact r.append (RepL.rep r n)
/-- [..] * n -/
def mRepL (a : ME) (b : ME) : ME := fun τ s => bnd (a τ s) fun d s1 => match d with | .lst ds => bnd (b τ s1) (fun y s2 => match y with | .int k => if 0 ≤ k ∧ k ≤ 100000 ∧ ds.length * k.toNat ≤ 100000 then .ok (.lst (repL ds k.toNat)) s2 else .bad | _ => .bad) | _ => .bad
theorem sf_rep (ha : SndF Γ E te me) (hb : SndE Γ E tk mk) : SndF Γ E (tOp rRep te tk) (mRepL me mk) := fun q B A H σ τ s Q ei st p =>
  ha q B A H σ τ s _ ei st (post_bnd p fun d s1 _ v H1 g1 e1 rr p1 => by
    obtain ⟨a, vs, ds, rfl, rfl, na, hv, rv⟩ := rr
    refine hb q B A H1 σ τ s1 _ e1 (st.grow g1) (post_bnd p1 fun y s2 _ u H2 g2 e2 ry p2 => ?_)
    cases ry with
    | int k =>
      dsimp only at p2
      split at p2
      · rename_i hk
        have hv2 := g2.keep _ _ hv (fun _ _ z => by cases z) fun _ z => by cases z
        refine ⟨a, k, vs, rfl, rfl, hv2, by omega, by omega, sz_of (by rw [rv.length]; exact hk.2.2), fun p0 hp => p2 _ _ (Grow.new hp) (e2.new hp) ⟨p0, _, _, rfl, rfl, e2.out hp, upd_same, ?_⟩⟩
        exact (RepL.rep (rv.mono g2.msk) _).mono (Grow.new hp).msk
      · exact p2.elim
    | _ => exact p2.elim)
theorem se_F (h : SndF Γ E te me) : SndE Γ E te me := fun q B A H σ τ s Q ei st p =>
  h q B A H σ τ s Q ei st (by
    cases hr : me τ s with
    | bad => rw [hr] at p; exact p
    | err c fs s1 => rw [hr] at p; exact p
    | ok d s1 =>
      rw [hr] at p
      rintro v H' g e ⟨a, vs, ds, rfl, rfl, na, hv, rv⟩
      exact p _ H' g e (.lst (vs := vs) (sq_of (by rw [msk_out na]; exact hv)) rv))
/-- list(x) -/
def dListOf : List D → M D := fun xs s => match xs with | [.lst ds] => .ok (.lst ds) s | [.tup ds] => .ok (.lst ds) s | _ => .bad
theorem sf_listOf (h : SndA Γ E tr mr) : SndF Γ E (tCB (fun xs H Q => ∃ p ys, xs = [.ref p] ∧ (SqL Γ.K H p ys ∨ SqT Γ.K H p ys) ∧ ∀ l, H l = none → Q (.ref l) (upd H l (.lst ys))) tr) (mCB dListOf mr) := fun q B A H σ τ s Q ei st p =>
  h q B A H σ τ s _ ei st (post_bnd p fun xs s1 _ vs H1 g1 e1 rxs p1 => by
    unfold dListOf at p1
    split at p1
    · cases rxs with
      | cons r1 r =>
        cases r
        cases r1 with
        | lst hl rl => exact ⟨_, _, rfl, .inl ((Grow.ex ex_nil).sqL hl), fun l hn => p1 _ _ (Grow.new hn) (e1.new hn) ⟨l, _, _, rfl, rfl, e1.out hn, upd_same, rl.mono (Grow.new hn).msk⟩⟩
    · cases rxs with
      | cons r1 r =>
        cases r
        cases r1 with
        | tup hl rl => exact ⟨_, _, rfl, .inr ((Grow.ex ex_nil).sqT hl), fun l hn => p1 _ _ (Grow.new hn) (e1.new hn) ⟨l, _, _, rfl, rfl, e1.out hn, upd_same, rl.mono (Grow.new hn).msk⟩⟩
    · exact p1.elim)
/-- a + b, both new -/
def mCatL (a b : ME) : ME := fun τ s => bnd (a τ s) fun d s1 => match d with | .lst ds => bnd (b τ s1) (fun y s2 => match y with | .lst es => if ds.length + es.length ≤ 100000 then .ok (.lst (ds ++ es)) s2 else .bad | _ => .bad) | _ => .bad
theorem sf_cat (ha : SndF Γ E te me) (hb : SndF Γ E tk mk) : SndF Γ E (tOp rCat te tk) (mCatL me mk) := fun q B A H σ τ s Q ei st p =>
  ha q B A H σ τ s _ ei st (post_bnd p fun d s1 _ v H1 g1 e1 rr p1 => by
    obtain ⟨a, vs, ds, rfl, rfl, na, hv, rv⟩ := rr
    refine hb q B A H1 σ τ s1 _ e1 (st.grow g1) (post_bnd p1 fun y s2 _ u H2 g2 e2 ry p2 => ?_)
    obtain ⟨b, us, es, rfl, rfl, nb, hu, ru⟩ := ry
    dsimp only at p2
    split at p2
    · rename_i hk
      have hv2 := g2.keep _ _ hv (fun _ _ z => by cases z) fun _ z => by cases z
      refine ⟨a, b, vs, us, rfl, rfl, hv2, hu, sz_of (by rw [rv.length, ru.length]; exact hk), fun p0 hp => p2 _ _ (Grow.new hp) (e2.new hp) ⟨p0, _, _, rfl, rfl, e2.out hp, upd_same, ?_⟩⟩
      exact ((rv.mono g2.msk).append ru).mono (Grow.new hp).msk
    · exact p2.elim)
/-! ### great products -/
end
def CMulE (i j : Int) : Prop := CMul i j ∨ CMulW i j
theorem op_mulE {X : Cx} : OpR X (binaryOp .Mult) (rI CMulE fun i j => .int (i * j)) := by
  intro pins s σ H x y v u Q I rx ry h
  obtain ⟨i, j, rfl, rfl, hc, q⟩ := h
  rcases hc with hc | hc
  · exact op_mul pins s σ H _ _ v u Q I rx ry ⟨i, j, rfl, rfl, hc, q⟩
  · exact op_mulW pins s σ H _ _ v u Q I rx ry ⟨i, j, rfl, rfl, hc, q⟩
def mulOk (i j : Int) : Bool := decide ((-(2 ^ 64) < i ∧ i < 2 ^ 64) ∨ (-(2 ^ 64) < j ∧ j < 2 ^ 64)) || decide (i.natAbs.log2 + j.natAbs.log2 < 1000000)
def dMulE := o2C mulOk fun i j => .int (i * j)
theorem so_mulE {Γ : Gam} {E : XS} : SndO Γ E (rI CMulE fun i j => .int (i * j)) dMulE := so_I (fun i j h => by
  unfold mulOk at h
  rw [Bool.or_eq_true, decide_eq_true_eq, decide_eq_true_eq] at h
  exact h) fun _ _ _ _ => .int _
end DN

set_option Elab.async false
set_option linter.all false
set_option maxRecDepth 100000
set_option maxHeartbeats 4000000
/-! Pens, read and written. -/
namespace DN
open PySem PySem.Spec PyProof.Rows L2 Evl LamX EV2 TX
section
variable {Γ : Gam} {E : XS} {te tk : TE} {me mk : ME} {t : TT} {mt : MT} {tr : L2.TA} {mr : MA} {ts tu : TS} {ms mu : MS} {i j : Nat}
/-- the keys are apart -/
structure Keys (Γ : Gam) : Prop where
  h12 : Γ.k1 ≠ Γ.k2
  h13 : Γ.k1 ≠ Γ.k3
  h23 : Γ.k2 ≠ Γ.k3
theorem pen_of {q : Option Addr} {B A : List Addr} {H : Hp} {σ : L2.St} {τ : Sto} {s : DN.PS} (ei : EI Γ q A H s) (st : StR Γ q B A H σ τ) (h : τ[i]? = some (.val .pen)) : ∃ a c, σ[i]? = some (some (.ref a)) ∧ q = some a ∧ (c ∉ A ∧ c = s.c) ∧ Pen.At Γ.k1 Γ.k2 Γ.k3 H a c s.cs s.i s.r := by
  obtain ⟨v, h1, h2⟩ := st.val i _ h
  cases h2 with
  | pen hq =>
    obtain ⟨c, h3, h4, h5⟩ := ei.pen _ hq
    exact ⟨_, c, h1, hq, ⟨h3, h5⟩, h4⟩
def isPen (o : Option Sl) : Bool := match o with | some (.val .pen) => true | _ => false
theorem isPen_of {o : Option Sl} (h : isPen o = true) : o = some (.val .pen) := by
  unfold isPen at h
  split at h
  · rfl
  · cases h
def mPen1 (i : Nat) : ME := fun τ s => if isPen τ[i]? = true then .ok (.lst (s.cs.map .int)) s else .bad
def mPen2 (i : Nat) : ME := fun τ s => if isPen τ[i]? = true then .ok (.int s.i) s else .bad
def mPen3 (i : Nat) : ME := fun τ s => if isPen τ[i]? = true then .ok (.int s.r) s else .bad
theorem se_pen1 : SndE Γ E (tDGet (tVar i) (tC (.str Γ.k1))) (mPen1 i) := fun q B A H σ τ s Q ei st p => by
  unfold mPen1 at p
  split at p
  · rename_i h
    obtain ⟨a, c, h1, h2, h3, h4⟩ := pen_of ei st (isPen_of h)
    exact ⟨_, h1, a, _, rfl, Pen.get1 h4, p _ H (Grow.refl _) ei (.lst (vs := s.cs.map V.int) (sq_of (by rw [msk_out h3.1]; exact h4.hc)) (RepL.ints _))⟩
  · exact p.elim
theorem se_pen2 (k : Keys Γ) : SndE Γ E (tDGet (tVar i) (tC (.str Γ.k2))) (mPen2 i) := fun q B A H σ τ s Q ei st p => by
  unfold mPen2 at p
  split at p
  · rename_i h
    obtain ⟨a, c, h1, h2, h3, h4⟩ := pen_of ei st (isPen_of h)
    exact ⟨_, h1, a, _, rfl, Pen.get2 h4 k.h12, p _ H (Grow.refl _) ei (.int _)⟩
  · exact p.elim
theorem se_pen3 (k : Keys Γ) : SndE Γ E (tDGet (tVar i) (tC (.str Γ.k3))) (mPen3 i) := fun q B A H σ τ s Q ei st p => by
  unfold mPen3 at p
  split at p
  · rename_i h
    obtain ⟨a, c, h1, h2, h3, h4⟩ := pen_of ei st (isPen_of h)
    exact ⟨_, h1, a, _, rfl, Pen.get3 h4 k.h13 k.h23, p _ H (Grow.refl _) ei (.int _)⟩
  · exact p.elim
theorem pen_grow {H : Hp} {a : Addr} {p : Key × V} {kv : List (Key × V)} {u : HO} (h : H a = some (.dK (p :: kv))) : Grow H (upd H a u) := ⟨fun b o e n1 n2 => by
  rw [upd_ne (fun z => by subst z; rw [h] at e; cases e; exact n1 _ _ rfl)]
  exact e, fun b e => by
  by_cases z : b = a
  · rw [z, upd_same]; simp
  · rw [upd_ne z]; exact e⟩
theorem pen_ei {q : Option Addr} {A : List Addr} {H : Hp} {s : DN.PS} {a c : Addr} {z r : Int} (ei : EI Γ q A H s) (hq : q = some a) (hc : c ∉ A ∧ c = s.c) (P : Pen.At Γ.k1 Γ.k2 Γ.k3 H a c s.cs s.i s.r) (h0 : 0 ≤ z) (h1 : z < 2 ^ 40) :
    EI Γ q A (upd H a (.dK (Pen.kvs Γ.k1 Γ.k2 Γ.k3 c z r))) { s with i := z, r := r } := by
  refine ⟨fun b hb => ?_, fun x hx => ?_, fun b hb => ?_⟩
  · rw [hq] at hb
    cases hb
    exact ⟨c, hc.1, P.to upd_same Pen.Sib.put h0 h1, hc.2⟩
  · obtain ⟨ps, e1, e2, e3⟩ := ei.tab x hx
    refine ⟨ps, by rw [upd_ne (ne_of e1 P.hp (by intro w; cases w))]; exact e1, e2, fun pos cv hcv => ?_⟩
    obtain ⟨d, d1, d2⟩ := e3 pos cv hcv
    exact ⟨d, d1, by rw [upd_ne (ne_of d2 P.hp (by intro w; unfold CodeO at w; cases w))]; exact d2⟩
  · rcases ei.own b hb with ⟨vs, w⟩ | ⟨C, dx, fs, w⟩
    · exact .inl ⟨vs, by rw [upd_ne (ne_of w P.hp (by intro w; cases w))]; exact w⟩
    · exact .inr ⟨C, dx, fs, by rw [upd_ne (ne_of w P.hp (by intro w; cases w))]; exact w⟩
/-- p[k2] = v, p[k3] = v -/
def sPen2 (i : Nat) (a : ME) : MS := fun τ s => if isPen τ[i]? = true then bndS (a τ s) τ (fun d s1 => match d with | .int z => if 0 ≤ z ∧ z < 2 ^ 40 then .nx τ { s1 with i := z } else .bad | _ => .bad) else .bad
def sPen3 (i : Nat) (a : ME) : MS := fun τ s => if isPen τ[i]? = true then bndS (a τ s) τ (fun d s1 => match d with | .int z => .nx τ { s1 with r := z } | _ => .bad) else .bad
theorem ss_pen2 (k : Keys Γ) (h : SndE Γ E te me) : SndS Γ E (sDPut (tVar i) (tC (.str Γ.k2)) te) (sPen2 i me) := fun q B A H σ τ s De hB ei st p => by
  unfold sPen2 at p
  split at p
  · rename_i hp
    refine h q B A H σ τ s _ ei st (post_S hB st p fun d s1 _ v H1 g1 e1 rr p1 => ?_)
    cases rr with
    | int z =>
      dsimp only at p1
      split at p1
      · rename_i hz
        obtain ⟨a, c, h1, h2, h3, h4⟩ := pen_of e1 (st.grow g1) (isPen_of hp)
        have g := pen_grow (u := .dK (Pen.kvs Γ.k1 Γ.k2 Γ.k3 c z s1.r)) h4.hp
        exact ⟨_, h1, a, _, rfl, Pen.put2 h4 k.h12 k.h23 z, p1 A _ σ (Step.grow hB g) (pen_ei e1 h2 h3 h4 hz.1 hz.2) ((st.grow g1).grow g)⟩
      · exact p1.elim
    | _ => exact p1.elim
  · exact p.elim
theorem ss_pen3 (k : Keys Γ) (h : SndE Γ E te me) : SndS Γ E (sDPut (tVar i) (tC (.str Γ.k3)) te) (sPen3 i me) := fun q B A H σ τ s De hB ei st p => by
  unfold sPen3 at p
  split at p
  · rename_i hp
    refine h q B A H σ τ s _ ei st (post_S hB st p fun d s1 _ v H1 g1 e1 rr p1 => ?_)
    cases rr with
    | int z =>
      obtain ⟨a, c, h1, h2, h3, h4⟩ := pen_of e1 (st.grow g1) (isPen_of hp)
      have g := pen_grow (u := .dK (Pen.kvs Γ.k1 Γ.k2 Γ.k3 c s1.i z)) h4.hp
      exact ⟨_, h1, a, _, rfl, Pen.put3 h4 k.h13 k.h23 z, p1 A _ σ (Step.grow hB g) (pen_ei e1 h2 h3 h4 h4.h0 h4.h1) ((st.grow g1).grow g)⟩
    | _ => exact p1.elim
  · exact p.elim
/-- x, p[k2] = e, f and its like -/
def sPenP (two : Bool) (j i : Nat) (a : MA) : MS := fun τ s => if isPen τ[i]? = true ∧ j ≠ i then bndS (a τ s) τ (fun ds s1 => match ds with
  | [d, .int z] => if two = true then (if 0 ≤ z ∧ z < 2 ^ 40 then .nx (τ.set j (.val d)) { s1 with i := z } else .bad) else .nx (τ.set j (.val d)) { s1 with r := z }
  | _ => .bad) else .bad
theorem ss_penP {two : Bool} {ky : Str} (k : Keys Γ) (hk : ky = if two = true then Γ.k2 else Γ.k3) (h : SndA Γ E tr mr) : SndS Γ E (tAsg (tTup tr) (gTup Γ.K 2 (gCons (gName j) (gCons (gSub (tVar i) (tC (.str ky)) rSetD) gNil)))) (sPenP two j i mr) := fun q B A H σ τ s De hB ei st p => by
  unfold sPenP at p
  split at p
  · rename_i hp
    refine h q B A H σ τ s _ ei st (post_S hB st p fun ds s1 _ vs H1 g1 e1 rr p1 => ?_)
    split at p1
    · rename_i d z _
      have hl : vs.length = 2 := rr.length
      refine ⟨sz_of (by omega), fun t0 ht => ⟨t0, vs, rfl, st_of upd_same, hl, ?_⟩⟩
      cases rr with
      | cons r1 rr => cases rr with
        | cons r2 rr =>
          cases rr
          cases r2
          rename_i vd
          have e2 := e1.new (o := .tup [vd, V.int z]) ht
          have g2 : Grow H1 (upd H1 t0 (.tup [vd, V.int z])) := Grow.new ht
          have st2 := ((st.grow g1).grow g2).set (i := j) (r1.mono g2.msk)
          have hpen : (τ.set j (.val d))[i]? = some (.val .pen) := by
            rw [List.getElem?_set_ne hp.2]
            exact isPen_of hp.1
          obtain ⟨a, c, h1, h2, h3, h4⟩ := pen_of e2 st2 hpen
          refine ⟨_, _, rfl, _, _, rfl, _, h1, ?_⟩
          cases two with
          | true =>
            rw [if_pos rfl] at p1 hk
            split at p1
            · rename_i hz
              have g := pen_grow (u := .dK (Pen.kvs Γ.k1 Γ.k2 Γ.k3 c z s1.r)) h4.hp
              refine ⟨a, _, rfl, by rw [hk]; exact Pen.put2 h4 k.h12 k.h23 z, rfl, p1 A _ _ (Step.grow hB (g2.trans g)) (pen_ei e2 h2 h3 h4 hz.1 hz.2) (st2.grow g)⟩
            · exact p1.elim
          | false =>
            rw [if_neg (by decide)] at p1 hk
            have g := pen_grow (u := .dK (Pen.kvs Γ.k1 Γ.k2 Γ.k3 c s1.i z)) h4.hp
            exact ⟨a, _, rfl, by rw [hk]; exact Pen.put3 h4 k.h13 k.h23 z, rfl, p1 A _ _ (Step.grow hB (g2.trans g)) (pen_ei e2 h2 h3 h4 h4.h0 h4.h1) (st2.grow g)⟩
    · exact p1.elim
  · exact p.elim
end
end DN

set_option Elab.async false
set_option linter.all false
set_option maxRecDepth 100000
set_option maxHeartbeats 4000000
/-! Three names at once, truths by `is`, defs that are not called. -/
namespace DN
open PySem PySem.Spec PyProof.Rows L2 Evl LamX EV2 TX
section
variable {Γ : Gam} {E : XS} {tr : L2.TA} {mr : MA} {i j l : Nat}
def sPar3 (i j l : Nat) (a : MA) : MS := fun τ s => bndS (a τ s) τ fun ds s1 => match ds with | [d, e, f] => .nx (((τ.set i (.val d)).set j (.val e)).set l (.val f)) s1 | _ => .bad
theorem ss_par3 (h : SndA Γ E tr mr) : SndS Γ E (tPar3 i j l tr) (sPar3 i j l mr) := fun q B A H σ τ s De hB ei st p =>
  h q B A H σ τ s _ ei st (post_S hB st p fun ds s1 _ vs H1 g1 e rr p1 => by
    (first | dsimp only at p1 | skip)
    split at p1
    · cases rr with
      | cons r1 rr => cases rr with
        | cons r2 rr => cases rr with
          | cons r3 rr =>
            cases rr
            exact ⟨_, _, _, rfl, p1 A H1 _ (.refl hB) e ((((st.grow g1).set r1).set r2).set r3)⟩
    · exact p1.elim)
def dIsB : D → D → M D := fun x y s => match x, y with | .bl a, .bl b => .ok (.bl (decide (a = b))) s | _, _ => .bad
theorem so_isB : SndO Γ E rIsB dIsB := fun q A H σ s v u x y Q ei rx ry p => by
  cases rx with
  | bl a =>
    cases ry with
    | bl b => exact ⟨a, b, rfl, rfl, p _ H (Grow.refl _) ei (.bl _)⟩
    | _ => exact p.elim
  | _ => cases ry <;> exact p.elim
end
section
variable {Γ : Gam} {E : XS}
def mDct0 : ME := fun _ s => .ok .dct s
theorem se_dct0 : SndE Γ E tDNewK mDct0 := fun q B A H σ τ s Q ei st p a ha => p _ _ (Grow.new ha) (ei.new ha) (.dct (by rw [msk_out (ei.out ha)]; exact upd_same))
end
def badF : MF := fun _ _ => .bad
/-- a def that is never called -/
theorem fn_bad {P : Program} {w : World} {K : PySem.W.Frag} {mg : Str → Option Value} {base : Heap} {CX : CXT} {k n : Nat} {f : Addr} {fd : FuncData} {ps : List Str} {Γ : Gam} : FnOk P w K mg base CX k f fd ps (spD Γ n badF) :=
  ⟨fun vs H Q E h => by obtain ⟨q, A, ds, s, _, _, _, h⟩ := h; exact h.elim, fun A outer s H args us vs Q E _ _ _ _ h => by obtain ⟨q, A, ds, s, _, _, _, h⟩ := h; exact h.elim⟩
end DN
namespace DN
open PySem PySem.Spec PyProof.Rows L2 Evl LamX EV2 TX
theorem eqObjE : ∃ y, typeLookup (.type "object") ("__eq__" : Str) = pure y := ⟨_, rfl⟩
theorem eqObj : typeLookup (.type "object") ("__eq__" : Str) = pure eqObjE.choose := eqObjE.choose_spec
theorem room_u1 {k : Nat} {A : Around} (r : Room k A) : A.units + 1 < cLine := by have := r.un; omega
end DN
namespace DN
open PySem PySem.Spec PyProof.Rows L2 Evl LamX EV2 TX
/-- any reading that is enough for the one asked -/
theorem pe_weak {X : Cx} {e : Expr} {te : TE} (h : PE X e te) : PE X e (fun σ H Q => ∃ Q0 : VK, te σ H Q0 ∧ ∀ v H', Q0 v H' → Q v H') := by
  refine ⟨fun pins s σ H Q I ⟨Q0, h0, hq⟩ => ?_⟩
  exact thn (h.run pins s σ H Q0 I h0) fun v s1 ⟨x, H1, I1, r1, q1⟩ => ⟨x, H1, I1, r1, hq _ _ q1⟩
/-- the slots of the def that is left are as many as its names -/
theorem takes_len {X : Cx} {W : WX} {n : Nat} (tk : Takes X W) (hn : X.N.length = n) : Takes X (fun cls d σ H => σ.length = n → W cls d σ H) := fun u s' ⟨a, B, sI, pins, σ, H, cls, d, e, I, nb, up, sky, na, os, ag, w⟩ =>
  tk u s' ⟨a, B, sI, pins, σ, H, cls, d, e, I, nb, up, sky, na, os, ag, w (I.len.trans hn)⟩
theorem pss_ex {X : Cx} {body : List Stmt} {α : Type} {C : α → Prop} {t : α → TS} (h : ∀ a, C a → PSs X body (t a)) : PSs X body (fun D σ H => ∃ a, C a ∧ t a D σ H) :=
  ⟨fun pins s σ H D I ⟨a, c, q⟩ => (h a c).run pins s σ H D I q⟩
end DN

set_option Elab.async false
set_option linter.all false
set_option maxRecDepth 100000
set_option maxHeartbeats 4000000
/-! enumerate(t), t a tuple; divmod of any two integers. -/
namespace DN
open PySem PySem.Spec PyProof.Rows L2 Evl LamX EV2 TX
abbrev enumO (a : Addr) : Obj := { cls := .type "enumerate", data := .fields #[.none, .bool false, .ref a, rawInt 0, .none, .none] }
set_option maxHeartbeats 1000000 in
theorem enumT_new {v : Value} {o : Obj} {C : Heap → Prop} (B : Begins v o C) : Meets (Builtin.«enumerate.__new__» ⟨[.type "enumerate", v], []⟩) (fun _ R s => C s.heap ∧ R (.ok (.ret (.ref (s.heap.push o).objs.size))) { s with heap := (s.heap.push o).push (enumO s.heap.objs.size) }) :=
  .of_wp fun prog w A R s ⟨c, r⟩ => by
    have hsub := sub_enumerate
    have k1 : ∀ {A' : Around} {E : Value → Shared → Prop} {Q : Value → Shared → Prop}, Q (.ref s.heap.objs.size) { s with heap := s.heap.push o } → wpAny (model prog w) A' (pyIter v) Q E s := fun q => B.iter prog w _ _ s _ c q
    obtain ⟨hp, g, d, tk, os⟩ := s
    wp_walk using k1
    refine wpAny_stack_any fun st2 => wpAny_pure ?_; split
    · rename_i c2 _ _ _ _ _
      cases (c2 == Value.type "enumerate") <;> (wp_walk using k1; exact ⟨_, rfl, r⟩)
    · wp_walk using k1
      exact ⟨_, rfl, r⟩
section
variable {prog : Program} {w : World} {A : Around} {E : Value → Shared → Prop} {s : Shared}
theorem call_enumT {a : Addr} {items : Array Value} {Q : Value → Shared → Prop} (ht : s.heap.IsTuple a items)
    (h : ∀ h', IsEnum h' (s.heap.objs.size + 1) s.heap.objs.size 0 .none → h'.IsTupleIter s.heap.objs.size a 0 → (∀ b o, s.heap.get? b = some o → h'.get? b = some o) → Q (.ref (s.heap.objs.size + 1)) { s with heap := h' }) :
    wpAny (model prog w) A (call (.type "enumerate") [.ref a]) Q E s := by
  refine callType_new F.called_enumerate (by decide) (F.typeCall_enumerate_1 _) (F.newCall_enumerate_1 _) (fun ob => F.args_object_init_2 ob _) F.entry_enumerate_new (enumT_new (begins_tuple a items)) ⟨ht, ?_⟩
  generalize ho : ({ cls := .type "tuple_iterator", data := .fields #[.ref a, .int 0 0] } : Obj) = o
  have fo : o.isFreed = false := by rw [← ho]; rfl
  have z : (s.heap.push o).objs.size = s.heap.objs.size + 1 := Heap.size_push ..
  show _ ∧ _; rw [z]
  have e : IsEnum ((s.heap.push o).push (enumO s.heap.objs.size)) (s.heap.objs.size + 1) s.heap.objs.size 0 .none := by
    have w1 := Heap.get?_push_size (s.heap.push o) (o := enumO s.heap.objs.size) rfl
    rw [z] at w1; exact w1
  exact ⟨⟨_, e, rfl⟩, h _ e ⟨o, Heap.get?_push_of_some _ (Heap.get?_push_size _ fo), by rw [← ho], by rw [← ho]; rfl⟩ fun b o2 x => Heap.get?_push_of_some _ (Heap.get?_push_of_some _ x)⟩
end
/-- the tuple at a, its items in new pairs -/
def IteT (K : PySem.W.Frag) (a : Addr) : It :=
  ⟨fun i H => ∃ (xs : List V) (x : V), SqT K H a xs ∧ xs[i]? = some x,
   fun i H v H' => ∃ N x, v = .ref N ∧ H N = none ∧ H' = upd H N (.tup [.int (i : Nat), x]) ∧ ∀ xs, SqT K H a xs → xs[i]? = some x,
   fun i H => ∃ xs : List V, SqT K H a xs ∧ xs.length ≤ i⟩
theorem turn_enumT {P : Program} {w : World} {K : PySem.W.Frag} {elts : List Expr} {kk : Nat} {tpos : Pos} (a e it : Addr) (hae : a ≠ e) (hai : a ≠ it) :
    Turn P w K (.Tuple elts kk tpos) (IteT K a) [e, it] e (fun i h => (∃ old, IsEnum h e it ((i : Nat) : Int) old) ∧ h.IsTupleIter it a i ∧ e ≠ it) where
  mem := List.mem_cons_self ..
  obj := fun i h ⟨⟨old, q1⟩, ⟨o, q2, q3, q4⟩, _⟩ b hb => by
    rcases (show b = e ∨ b = it by simpa using hb) with z | z
    · subst z; exact ⟨_, q1, fun v w => nomatch w⟩
    · subst z; exact ⟨o, q2, fun v w => by rw [q4] at w; cases w⟩
  keep := fun i h h' ⟨⟨old, q1⟩, q2, q3⟩ k => ⟨⟨old, k e (by simp) _ q1⟩, q2.at fun o q => k it (by simp) o q, q3⟩
  item := by
    intro X hP hw hK hc i pins s σ H E I hf ⟨⟨old, q1⟩, q2, q3⟩ ⟨xs, x, hq, hx⟩
    subst hP hw hK
    obtain ⟨its, rv, pt, hz⟩ := I.tuple hq
    obtain ⟨u, hu, ru⟩ := rv.get hx
    have pt' : s.heap.IsTuple a its.toArray := pt
    have le : e < s.heap.objs.size := Heap.lt_size q1
    have li : it < s.heap.objs.size := by obtain ⟨_, q, _⟩ := q2; exact Heap.lt_size q
    have D := Draws.tuple (prog := X.prog) (w := X.w) (A := X.A.in1) (I.ok.hd hc) it a hai its.toArray
    have hlt : i < its.toArray.size := by
      have := (List.getElem?_eq_some_iff.mp hu).1
      simpa using this
    refine wpAny_pyNext_enum_itemD D q1 ⟨q2, pt'⟩ hlt q3 (by simp only [List.mem_cons, List.not_mem_nil, or_false, not_or]; exact ⟨q3, fun z => hae z.symm⟩) fun y h1 tk hy g1 g2 g3 g4 g5 => ?_
    have hyu : y = u := by
      have h2 : its.toArray[i]? = some u := by simpa using hu
      rw [h2] at hy; exact (Option.some.inj hy).symm
    subst hyu
    refine ⟨_, rfl, wpAny_letOwnedTupleGo_enum (s := { s with heap := h1, toks := tk + 1 }) g1 fun h2 q5 sb => ?_⟩
    have nw : h2.get? s.heap.objs.size = some { cls := .type "tuple", data := .seq #[.int i tk, y] } := (sb.2 _ (Nat.ne_of_gt le)).trans g3
    have ok : ObjOk X.prog X.w (upd H s.heap.objs.size (.tup [.int (i : Nat), x])) h2 s.heap.objs.size (.tup [.int (i : Nat), x]) := ⟨by show 2 ≤ sizeLine; decide, [.int i tk, y], .cons ⟨_, rfl⟩ (.cons ru .nil), ⟨_, nw, rfl, _, rfl⟩⟩
    have I2 : Inv X pins σ (upd H s.heap.objs.size (.tup [.int (i : Nat), x])) { s with heap := h2, toks := tk + 1 } :=
      I.turnedNew (ch := [e, it]) (fun b ob hb q => (sb.2 b (fun z => hb (by simp [z]))).trans (g5 b ob (fun z => hb (by simp [z])) (fun z => hb (by simp [z])) q)) hf (Nat.le_refl _) ok
    refine ⟨.ref s.heap.objs.size, _, I2, rfl, ⟨_, x, rfl, I.hok.fresh (Nat.le_refl _), rfl, fun ys hy2 => by rw [I.tuple_inj hy2 hq]; exact hx⟩, ⟨⟨y, ?_⟩, g2.1.at fun o q => (sb.2 it (Ne.symm q3)).trans q, q3⟩, fun b hb => ?_⟩
    · rw [show ((i + 1 : Nat) : Int) = (i : Int) + 1 by omega]; exact q5
    · have lb : b < s.heap.objs.size := by
        rcases (show b = e ∨ b = it by simpa using hb) with z | z <;> (rw [z]; assumption)
      rw [upd_ne (Nat.ne_of_lt lb)]; exact (hf b hb).1
  done := by
    intro X hP hw hK hc i pins s σ H E I hf ⟨⟨old, q1⟩, q2, q3⟩ ⟨xs, hq, hx⟩
    subst hP hw hK
    obtain ⟨its, rv, pt, hz⟩ := I.tuple hq
    have pt' : s.heap.IsTuple a its.toArray := pt
    obtain ⟨f0, f1, f2, f3, f4, f5⟩ := hf it (by simp)
    have hl := rv.length
    unfold pyNext
    refine wpAny_bind (wpAny_attempt (wpAny_callSpecial?_slot (name := Str.ofString "__next__") (⟨_, q1, rfl⟩ : s.TypeIs (.ref e) "enumerate") F.slot_enumerate_next (wpAny_call_entry F.slot_enumerate_next (⟨_, q1, rfl⟩ : s.TypeIs (.ref e) "enumerate") F.entry_enumerate_next ?_ (F.args_enumerate_next_1 _))))
    show wpAny _ _ (field (.ref e) 2 >>= _) _ _ _; refine wpAny_bind (wpAny_field q1 rfl (x := .ref it) rfl ?_)
    refine wpAny_bind (wpAny_nextOf_tuple_end (I.ok.hd hc) q2 pt' (by simp; omega) fun h1 ex eb ⟨o, ho, hco⟩ => ?_)
    refine wpAny_bind (wpAny_isInstance (T := "StopIteration") (b := true) ⟨o, ho, hco⟩ isSubtype_stop ?_)
    exact wpAny_pure ⟨rfl, I.turned (t' := s.toks) (fun b o hb e => eb b o hb e) f0 f1 f3 f4 f5⟩
  self := fun A i s Q E ⟨⟨_, q1⟩, _⟩ h => wpAny_pyIter_enum q1 h
def iEnumT (K : PySem.W.Frag) (ta : L2.TA) : TI := fun σ H R => ta σ H fun vs H1 => ∃ a xs, vs = [.ref a] ∧ SqT K H1 a xs ∧ R (IteT K a) H1
theorem pi_enumT {X : Cx} {e : Expr} {ta : L2.TA} {p pos tpos : Pos} {elts : List Expr} {kk : Nat} (hg : Gl X "enumerate") (hm : X.mg "enumerate" = none) (ha : PA X [e] ta) (hs : starEach [e] X.env = [(false, eval e X.env)] := by rfl) :
    PI X (.Tuple elts kk tpos) (.Call (.Name "enumerate" p) [e] [] pos) (iEnumT X.K ta) := by
  refine ⟨fun pins s σ H R I h => Call_ (ld_blt I hg hm boot_enumerate (PyProof.Rows.callWith_type1 (thn (ha.run pos pins s σ H _ I h) fun us s1 ⟨vs, H1, I1, r1, a, xs, ex, hq, k⟩ => ?_) hs rfl))⟩
  subst ex
  cases r1 with
  | cons r rr =>
    cases rr
    cases r
    obtain ⟨its, rv, pt, hz⟩ := I1.tuple hq
    have pt' : s1.heap.IsTuple a its.toArray := pt
    have la : a < s1.heap.objs.size := by obtain ⟨_, q, _⟩ := pt'; exact Heap.lt_size q
    refine call_enumT pt' fun h1 g1 g2 g3 => wpAny_pyIter_enum g1 ?_
    have I2 : Inv X pins σ H1 { s1 with heap := h1 } := I1.kept (t' := s1.toks) g3
    refine ⟨s1.heap.objs.size + 1, [s1.heap.objs.size + 1, s1.heap.objs.size], _, _, H1, rfl, I2, turn_enumT a _ _ (Nat.ne_of_lt (Nat.lt_succ_of_lt la)) (Nat.ne_of_lt la), ⟨⟨.none, g1⟩, g2, Nat.succ_ne_self _⟩, fun b hb => ?_, k⟩
    have hle : s1.heap.objs.size ≤ b := by
      rcases (show b = s1.heap.objs.size + 1 ∨ b = s1.heap.objs.size by simpa using hb) with z | z <;> rw [z]
      · exact Nat.le_add_right _ _
      · exact Nat.le_refl _
    exact I1.fpOk hle (I1.hok.fresh hle)
/-- divmod -/
def CDm (i j : Int) : Prop := j ≠ 0 ∧ j.natAbs.log2 < 9000
theorem call_divmodX {X : Cx} : CallR X (.builtin "divmod") (fun xs H Q => ∃ i j, xs = [.int i, .int j] ∧ CDm i j ∧ ∀ p, H p = none → Q (.ref p) (upd H p (.tup [.int (i.fdiv j), .int (i.fmod j)]))) := by
  intro pins s σ H xs us Q I r ⟨i, j, e, hc, q⟩
  subst e
  obtain ⟨u, w, rfl, ⟨t1, rfl⟩, ⟨t2, rfl⟩⟩ := vals2 r
  refine divmod_int hc.1 ?_ (.inl (PyProof.noPylong_of_log2 hc.2))
  refine ⟨.ref s.heap.objs.size, _, ?_, rfl, q _ (I.hok.fresh (Nat.le_refl _))⟩
  exact I.laid (fun b o z => Heap.get?_push_of_some _ z) (Nat.le_refl _) ⟨by show 2 ≤ sizeLine; decide, [.int (i.fdiv j) s.toks, .int (i.fmod j) (s.toks + 1)], .cons ⟨_, rfl⟩ (.cons ⟨_, rfl⟩ .nil), ⟨_, Heap.get?_push_size s.heap rfl, rfl, 0, rfl⟩⟩
end DN

set_option Elab.async false
set_option linter.all false
set_option maxRecDepth 100000
set_option maxHeartbeats 4000000
/-! Lists or tuples: kinds, items, slices, tuple(), walks; enumerate, range with a step, reversed; divmod. -/
namespace DN
open PySem PySem.Spec PyProof.Rows L2 Evl LamX EV2 TX
section
variable {Γ : Gam} {E : XS} {te tk : TE} {me mk : ME} {t : TT} {mt : MT} {tr : L2.TA} {mr : MA} {ts tu : TS} {ms mu : MS} {i c : Nat}
/-! ### kinds -/
def mIsT2 (b1 b2 : Ty) (os : List Nat) (a : ME) : ME := fun τ s => bnd (a τ s) fun d s1 => match kindD d with
  | some (.inl k) => .ok (.bl (tyIs k b1 || tyIs k b2)) s1
  | some (.inr c) => if c ∈ os then .ok (.bl false) s1 else .bad
  | none => .bad
theorem kit_any2 {K : PySem.W.Frag} {t u1 u2 : Value} {a b : Bool} (h1 : PySem.W.kitOne K t u1 = some a) (h2 : PySem.W.kitOne K t u2 = some b) : PySem.W.kitAny K t [u1, u2] = some (a || b) := by
  unfold PySem.W.kitAny
  rw [h1]
  cases a with
  | true => rfl
  | false =>
    show PySem.W.kitAny K t [u2] = some b
    unfold PySem.W.kitAny
    rw [h2]
    cases b <;> rfl
theorem se_isT2 {b1 b2 : Ty} {os : List Nat} (n1 : b1 ≠ .non) (n2 : b2 ≠ .non) (ho : ∀ c ∈ os, OC Γ.K (Γ.cls c) ∧ PySem.W.kitOne Γ.K (.ref (Γ.cls c)) (.type b1.nm) = some false ∧ PySem.W.kitOne Γ.K (.ref (Γ.cls c)) (.type b2.nm) = some false) (h : SndE Γ E te me) :
    SndE Γ E (tCB (rIsiT Γ.K) (tCons te (tCons (tTup (tCons (tC (.ty b1.nm)) (tCons (tC (.ty b2.nm)) tNil))) tNil))) (mIsT2 b1 b2 os me) := fun q B A H σ τ s Q ei st p =>
  h q B A H σ τ s _ ei st (post_bnd p fun d s1 _ v H1 g1 e1 rr p1 => by
    refine ⟨sz_of (show 2 ≤ 100000 by decide), fun a ha => ?_⟩
    have rr' := rr.mono (Grow.new (o := .tup [.ty b1.nm, .ty b2.nm]) ha).msk
    split at p1
    · rename_i k hk
      exact ⟨v, a, [.ty b1.nm, .ty b2.nm], .type k.nm, [.type b1.nm, .type b2.nm], _, rfl, upd_same, .cons (.ty _) (.cons (.ty _) .nil), tyx_B rr' hk, kit_any2 (kit_ty (kit_Ty k b1 n1)) (kit_ty (kit_Ty k b2 n2)), p1 _ _ (Grow.new ha) (e1.new ha) (.bl _)⟩
    · rename_i c hk
      split at p1
      · rename_i hc
        obtain ⟨oc, k1, k2⟩ := ho c hc
        exact ⟨v, a, [.ty b1.nm, .ty b2.nm], .ref (Γ.cls c), [.type b1.nm, .type b2.nm], _, rfl, upd_same, .cons (.ty _) (.cons (.ty _) .nil), tyx_O rr' hk oc, kit_any2 k1 k2, p1 _ _ (Grow.new ha) (e1.new ha) (.bl _)⟩
      · exact p1.elim
    · exact p1.elim)
/-! ### a list or a tuple -/
def rIxE (K : PySem.W.Frag) : R2 := fun x y H Q => rIxL K x y H Q ∨ rIxT K x y H Q
theorem ix_seq {X : Cx} : IxR X (rIxE X.K) := by
  intro value slice pins s σ H x y v u Q I rx ry h hs
  rcases h with h | h
  · exact ix_list value slice pins s σ H x y v u Q I rx ry h hs
  · exact ix_tup value slice pins s σ H x y v u Q I rx ry h hs
def dIxE : D → D → M D := fun x y s => match x, y with
  | .lst ds, .int k => (match L2.atI ds k with | some d => .ok d s | none => .bad)
  | .tup ds, .int k => (match L2.atI ds k with | some d => .ok d s | none => .bad)
  | _, _ => .bad
theorem so_ixE : SndO Γ E (rIxE Γ.K) dIxE := fun q A H σ s v u x y Q ei rx ry p => by
  cases rx with
  | lst h r =>
    cases ry with
    | int k => exact .inl (so_ixL q A H σ s _ _ _ _ Q ei (.lst h r) (.int k) p)
    | _ => exact p.elim
  | tup h r =>
    cases ry with
    | int k => exact .inr (so_ixT q A H σ s _ _ _ _ Q ei (.tup h r) (.int k) p)
    | _ => exact p.elim
  | _ => cases ry <;> exact p.elim
def rSlE (K : PySem.W.Frag) : V → Option Int → Option Int → Hp → VK → Prop := fun x lo hi H Q => rSlL K x lo hi H Q ∨ rSlA K x lo hi H Q
theorem sl_seq {X : Cx} : SlR X (rSlE X.K) := by
  intro pins s σ H x v vl vu lo hi sl Q I rx hs pl pu h
  rcases h with h | h
  · exact sl_list pins s σ H x v vl vu lo hi sl Q I rx hs pl pu h
  · exact sl_tupA pins s σ H x v vl vu lo hi sl Q I rx hs pl pu h
def dSlE : D → Option Int → Option Int → M D := fun x lo hi s => match x with | .lst ds => .ok (.lst (cutD ds lo hi)) s | .tup ds => .ok (.tup (cutD ds lo hi)) s | _ => .bad
theorem ssl_E : SndSl Γ E (rSlE Γ.K) dSlE := fun q A H σ s v x lo hi Q ei rx p => by
  cases rx with
  | lst h r => exact .inl ⟨_, _, rfl, (Grow.ex ex_nil).sqL h, fun a ha => p _ _ (Grow.new ha) (ei.new ha) (rep_lst ei ha (cut_rep r))⟩
  | tup h r =>
    refine .inr ⟨_, _, rfl, (Grow.ex ex_nil).sqT h, fun hw => ?_, fun hw a ha => p _ _ (Grow.new ha) (ei.new ha) (rep_tup ei ha (cut_rep r))⟩
    refine p _ H (Grow.refl _) ei ?_
    rename_i b vs ds
    have e : cutD ds lo hi = ds := by
      unfold cutD
      rw [r.length] at hw
      rw [hw.1, hw.2]
      simp
    rw [e]
    exact .tup h r
  | _ => exact p.elim
/-- tuple(x) -/
def dTupOf : List D → M D := fun xs s => match xs with | [.lst ds] => .ok (.tup ds) s | [.tup ds] => .ok (.tup ds) s | _ => .bad
theorem sc_tupOf : SndC Γ E (fun xs H Q => ∃ p ys, xs = [.ref p] ∧ ((SqL Γ.K H p ys ∧ ∀ l, H l = none → Q (.ref l) (upd H l (.tup ys))) ∨ (SqT Γ.K H p ys ∧ Q (.ref p) H))) dTupOf := fun q A H σ s vs ds Q ei r p => by
  unfold dTupOf at p
  split at p
  · cases r with
    | cons r1 r =>
      cases r
      cases r1 with
      | lst h rl => exact ⟨_, _, rfl, .inl ⟨(Grow.ex ex_nil).sqL h, fun a ha => p _ _ (Grow.new ha) (ei.new ha) (rep_tup ei ha rl)⟩⟩
  · cases r with
    | cons r1 r =>
      cases r
      cases r1 with
      | tup h rl => exact ⟨_, _, rfl, .inr ⟨(Grow.ex ex_nil).sqT h, p _ H (Grow.refl _) ei (.tup h rl)⟩⟩
  · exact p.elim
def dDm : List D → M D := fun xs s => match xs with | [.int i, .int j] => if j ≠ 0 ∧ j.natAbs.log2 < 9000 then .ok (.tup [.int (i.fdiv j), .int (i.fmod j)]) s else .bad | _ => .bad
theorem sc_dm : SndC Γ E (fun xs H Q => ∃ i j, xs = [.int i, .int j] ∧ CDm i j ∧ ∀ p, H p = none → Q (.ref p) (upd H p (.tup [.int (i.fdiv j), .int (i.fmod j)]))) dDm := fun q A H σ s vs ds Q ei r p => by
  unfold dDm at p
  split at p
  · cases r with
    | cons r1 r => cases r with
      | cons r2 r =>
        cases r; cases r1; cases r2
        split at p
        · rename_i h
          exact ⟨_, _, rfl, h, fun a ha => p _ _ (Grow.new ha) (ei.new ha) (rep_tup ei ha (.cons (.int _) (.cons (.int _) .nil)))⟩
        · exact p.elim
  · exact p.elim
/-! ### what a for walks -/
def iSeq (K : PySem.W.Frag) (te : TE) : TI := fun σ H R => te σ H fun x H1 => ∃ a, x = .ref a ∧ (((∃ xs, SqL K H1 a xs) ∧ R (Itl K a) H1) ∨ ((∃ xs, SqT K H1 a xs) ∧ R (Itt K a) H1))
theorem pi_seq {X : Cx} {tg l : Expr} {tl : TE} (hl : PE X l tl) : PI X tg l (iSeq X.K tl) := by
  refine ⟨fun pins s σ H R I h => thn (hl.run pins s σ H _ I h) fun v s1 ⟨x, H1, I1, r1, a, ex, hk⟩ => ?_⟩
  subst ex
  cases r1
  have fz : ∀ (o : Obj) (fo : o.isFreed = false), ∀ b ∈ [s1.heap.objs.size], FpOk X pins H1 b := fun o fo b hb => by
    rw [List.mem_singleton.mp hb]
    exact I1.fpOk (Nat.le_refl _) (I1.hok.fresh (Nat.le_refl _))
  rcases hk with ⟨⟨xs, hq⟩, k⟩ | ⟨⟨xs, hq⟩, k⟩
  · obtain ⟨its, rv, p, hz⟩ := I1.list hq
    exact wpAny_pyIter_list p.isList ⟨s1.heap.objs.size, [s1.heap.objs.size], _, _, H1, rfl, I1.kept (t' := s1.toks) (fun b o e => Heap.get?_push_of_some _ e), turn_list a _, ⟨_, Heap.get?_push_size _ rfl, rfl, rfl⟩, fz { cls := .type "list_iterator", data := .fields #[.ref a, .int 0 0] } rfl, k⟩
  · obtain ⟨its, rv, p, hz⟩ := I1.tuple hq
    exact wpAny_pyIter_tuple (show s1.heap.IsTuple a its.toArray from p) ⟨s1.heap.objs.size, [s1.heap.objs.size], _, _, H1, rfl, I1.kept (t' := s1.toks) (fun b o e => Heap.get?_push_of_some _ e), turn_tuple a _, ⟨_, Heap.get?_push_size _ rfl, rfl, rfl⟩, fz { cls := .type "tuple_iterator", data := .fields #[.ref a, .int 0 0] } rfl, k⟩
def sForE (a : ME) (g : D → Sto → Option Sto) (b : MS) : MS := fun τ s => bndS (a τ s) τ fun d s1 => match d with | .lst ds => forD g b ds τ s1 | .tup ds => forD g b ds τ s1 | _ => .bad
theorem ss_forE {g : TG} {mg : D → Sto → Option Sto} (h : SndE Γ E te me) (hg : SndG Γ g mg) (hb : SndS Γ E ts ms) : SndS Γ E (tFor (iSeq Γ.K te) g ts) (sForE me mg ms) := fun q B A H σ τ s De hB ei st p =>
  h q B A H σ τ s _ ei st (post_S hB st p fun d s1 _ v H1 g1 e rr p1 => by
    cases rr with
    | lst hl rl =>
      rename_i a vs ds _
      refine ⟨a, rfl, .inl ⟨⟨vs, (Grow.ex ex_nil).sqL hl⟩, for_core hg hb hB e (st.grow g1) (fun A' H' i t => ?_) p1⟩⟩
      have hl' : SqL Γ.K H' a vs := (Grow.ex ex_nil).sqL (t.msk.sqL hl)
      refine ⟨fun d hd => ?_, fun hi => ⟨vs, hl', by rw [rl.length, hi]; exact Nat.le_refl _⟩⟩
      obtain ⟨w, hw, rw'⟩ := rl.get hd
      refine ⟨⟨vs, w, hl', hw⟩, fun x H'' hx => ⟨hx.1, ?_⟩⟩
      have := hx.2 vs hl'
      rw [hw] at this
      cases this
      exact rw'.mono t.msk
    | tup hl rl =>
      rename_i a vs ds _
      refine ⟨a, rfl, .inr ⟨⟨vs, (Grow.ex ex_nil).sqT hl⟩, for_core hg hb hB e (st.grow g1) (fun A' H' i t => ?_) p1⟩⟩
      have hl' : SqT Γ.K H' a vs := (Grow.ex ex_nil).sqT (t.msk.sqT hl)
      refine ⟨fun d hd => ?_, fun hi => ⟨vs, hl', by rw [rl.length, hi]; exact Nat.le_refl _⟩⟩
      obtain ⟨w, hw, rw'⟩ := rl.get hd
      refine ⟨⟨vs, w, hl', hw⟩, fun x H'' hx => ⟨hx.1, ?_⟩⟩
      have := hx.2 vs hl'
      rw [hw] at this
      cases this
      exact rw'.mono t.msk
    | _ => exact p1.elim)
/-- what is walked lays something new at each turn -/
theorem for_coreX {q : Option Addr} {B A1 : List Addr} {H1 : Hp} {σ : L2.St} {τ : Sto} {s : PS} {J : It} {g : TG} {mg : D → Sto → Option Sto} {tb : TS} {b : MS} {ds : List D} {De : Ends} (hg : SndG Γ g mg) (hb : SndS Γ E tb b) (hB : ∀ a ∈ B, a ∈ A1) (ei : EI Γ q A1 H1 s) (st : StR Γ q B A1 H1 σ τ)
    (hJ : ∀ A' H' s' i, Step B A1 H1 A' H' → EI Γ q A' H' s' → (∀ d, ds[i]? = some d → J.go i H' ∧ ∀ x H'', J.yld i H' x H'' → (∃ p o, H' p = none ∧ H'' = upd H' p o) ∧ Rep Γ q (msk A' H'') x d) ∧ (i = ds.length → J.stop i H')) (p : PostS Γ q B A1 H1 (forD mg b ds τ s) De E) :
    ∃ W : Nat → Nat → L2.St → Hp → Prop, (∃ m, W 0 m σ H1) ∧ ∀ i m σ H, W i m σ H →
      (J.stop i H ∧ De.nx σ H) ∨ (J.go i H ∧ ∃ N : L2.St → Hp → Prop, (∀ σ' H', N σ' H' → ∃ m', m' < m ∧ W (i + 1) m' σ' H') ∧ ∀ x H', J.yld i H x H' → g x σ H' fun σ2 H2 => tb { De with nx := N, ct := N, bk := De.nx } σ2 H2) := by
  refine ⟨fun i m σ H => ∃ A' τ' s', m = ds.length - i ∧ i ≤ ds.length ∧ Step B A1 H1 A' H ∧ EI Γ q A' H s' ∧ StR Γ q B A' H σ τ' ∧ PostS Γ q B A' H (forD mg b (ds.drop i) τ' s') De E, ⟨ds.length, A1, τ, s, by simp, Nat.zero_le _, .refl hB, ei, st, by simpa using p⟩, ?_⟩
  rintro i m σ H ⟨A', τ', s', rfl, hi, t, e, st', p'⟩
  by_cases hlt : i < ds.length
  · have hd : ds[i]? = some ds[i] := List.getElem?_eq_getElem hlt
    obtain ⟨hgo, hy⟩ := (hJ A' H s' i t e).1 _ hd
    have hdr : ds.drop i = ds[i] :: ds.drop (i + 1) := List.drop_eq_getElem_cons hlt
    rw [hdr] at p'
    unfold forD at p'
    split at p'
    · exact p'.elim
    · rename_i τ1 ht
      refine .inr ⟨hgo, fun σ2 H2 => ∃ A2 τ2 s2, Step B A1 H1 A2 H2 ∧ EI Γ q A2 H2 s2 ∧ StR Γ q B A2 H2 σ2 τ2 ∧ PostS Γ q B A2 H2 (forD mg b (ds.drop (i + 1)) τ2 s2) De E, ?_, ?_⟩
      · rintro σ2 H2 ⟨A2, τ2, s2, t2, e2, st2, p2⟩
        exact ⟨ds.length - (i + 1), by omega, A2, τ2, s2, rfl, by omega, t2, e2, st2, p2⟩
      · intro x H' hx
        obtain ⟨⟨p0, o, hp, rfl⟩, hr⟩ := hy x H' hx
        have tn : Step B A' H A' (upd H p0 o) := Step.grow t.sub (Grow.new hp)
        refine hg q B A' _ s' σ τ' x _ τ1 _ (e.new hp) (st'.grow (Grow.new hp)) hr ht fun σ' st1 => ?_
        refine hb q B A' _ σ' τ1 s' _ t.sub (e.new hp) st1 ?_
        cases hbr : b τ1 s' with
        | nx τ2 s2 => rw [hbr] at p'; exact fun A2 H2 σ2 t2 e2 st2 => ⟨A2, τ2, s2, t.trans (tn.trans t2), e2, st2, p'.step (tn.trans t2)⟩
        | ct τ2 s2 => rw [hbr] at p'; exact fun A2 H2 σ2 t2 e2 st2 => ⟨A2, τ2, s2, t.trans (tn.trans t2), e2, st2, p'.step (tn.trans t2)⟩
        | bk τ2 s2 => rw [hbr] at p'; exact PostS.step (r := .nx τ2 s2) p' tn
        | rt d s2 => rw [hbr] at p'; exact PostS.step (r := .rt d s2) p' tn
        | er c fs τ2 s2 => rw [hbr] at p'; exact PostS.step (r := .er c fs τ2 s2) p' tn
        | bad => rw [hbr] at p'; exact p'
  · have he : i = ds.length := by omega
    subst he
    rw [List.drop_length] at p'
    exact .inl ⟨(hJ A' H s' _ t e).2 rfl, p' A' H σ (.refl t.sub) e st'⟩
def enD : Nat → List D → List D | _, [] => [] | n, d :: ds => .tup [.int (n : Nat), d] :: enD (n + 1) ds
theorem enD_len : ∀ (ds : List D) (n : Nat), (enD n ds).length = ds.length
  | [], _ => rfl
  | d :: ds, n => by unfold enD; rw [List.length_cons, List.length_cons, enD_len ds]
theorem enD_get : ∀ (ds : List D) (n i : Nat) (e : D), (enD n ds)[i]? = some e → ∃ d, ds[i]? = some d ∧ e = .tup [.int ((n + i : Nat) : Int), d]
  | [], _, _, _, h => by simp [enD] at h
  | d :: ds, n, 0, e, h => by
    simp only [enD, List.getElem?_cons_zero, Option.some.injEq] at h
    exact ⟨d, rfl, h.symm⟩
  | d :: ds, n, i + 1, e, h => by
    simp only [enD, List.getElem?_cons_succ] at h
    obtain ⟨x, h1, h2⟩ := enD_get ds (n + 1) i e h
    exact ⟨x, by simpa using h1, by rw [h2, show n + 1 + i = n + (i + 1) by omega]⟩
def sForEn (a : MA) (g : D → Sto → Option Sto) (b : MS) : MS := fun τ s => bndS (a τ s) τ fun xs s1 => match xs with | [.tup ds] => forD g b (enD 0 ds) τ s1 | _ => .bad
theorem ss_forEn {g : TG} {mg : D → Sto → Option Sto} (h : SndA Γ E tr mr) (hg : SndG Γ g mg) (hb : SndS Γ E ts ms) : SndS Γ E (tFor (iEnumT Γ.K tr) g ts) (sForEn mr mg ms) := fun q B A H σ τ s De hB ei st p =>
  h q B A H σ τ s _ ei st (post_S hB st p fun xs s1 _ vs H1 g1 e rr p1 => by
    (first | dsimp only at p1 | skip)
    split at p1
    · cases rr with
      | cons r1 rr =>
        cases rr
        cases r1 with
        | tup hl rl =>
          rename_i ds _ a us
          refine ⟨a, us, rfl, (Grow.ex ex_nil).sqT hl, for_coreX hg hb hB e (st.grow g1) (fun A' H' s' i t e' => ?_) p1⟩
          have hl' : SqT Γ.K H' a us := (Grow.ex ex_nil).sqT (t.msk.sqT hl)
          refine ⟨fun d hd => ?_, fun hi => ⟨us, hl', by rw [rl.length, hi, enD_len]; exact Nat.le_refl _⟩⟩
          obtain ⟨d0, h0, rfl⟩ := enD_get _ _ _ _ hd
          obtain ⟨w, hw, rw'⟩ := rl.get h0
          refine ⟨⟨us, w, hl', hw⟩, fun x H'' hx => ?_⟩
          obtain ⟨N, y, rfl, hN, rfl, hy⟩ := hx
          have hyw := hy us hl'
          rw [hw] at hyw
          cases hyw
          refine ⟨⟨N, _, hN, rfl⟩, rep_tup e' hN (.cons ?_ (.cons (rw'.mono t.msk) .nil))⟩
          rw [Nat.zero_add]
          exact .int _
    · exact p1.elim)
/-- range(i, j, -1) -/
def dwnD (i : Int) (n : Nat) : List D := (List.range n).map fun (k : Nat) => D.int (i + (k : Int) * (-1))
def sForR3 (a : MA) (g : D → Sto → Option Sto) (b : MS) : MS := fun τ s => bndS (a τ s) τ fun ds s1 => match ds with | [.int i, .int j, .int c] => if c = -1 ∧ (-(2 ^ 62) ≤ i ∧ i < 2 ^ 62) ∧ -(2 ^ 62) ≤ j ∧ j < 2 ^ 62 then forD g b (dwnD i (i - j).toNat) τ s1 else .bad | _ => .bad
theorem ss_forR3 {g : TG} {mg : D → Sto → Option Sto} (h : SndA Γ E tr mr) (hg : SndG Γ g mg) (hb : SndS Γ E ts ms) : SndS Γ E (tFor (iRng3 tr) g ts) (sForR3 mr mg ms) := fun q B A H σ τ s De hB ei st p =>
  h q B A H σ τ s _ ei st (post_S hB st p fun ds s1 _ vs H1 g1 e rr p1 => by
    (first | dsimp only at p1 | skip)
    split at p1
    · cases rr with
      | cons r1 rr => cases rr with
        | cons r2 rr => cases rr with
          | cons r3 rr =>
            cases rr; cases r1; cases r2; cases r3
            split at p1
            · rename_i hj
              obtain ⟨rfl, ⟨b1, b2⟩, b3, b4⟩ := hj
              refine ⟨_, _, _, _, rfl, RgC.neg b1 b2 b3 b4, for_core hg hb hB e (st.grow g1) (fun A' H' i t => ?_) p1⟩
              unfold dwnD
              refine ⟨fun d hd => ?_, fun hi => by rw [hi]; simp [Itc]; omega⟩
              rw [List.getElem?_map] at hd
              obtain ⟨k, hk, rfl⟩ := Option.map_eq_some_iff.mp hd
              obtain ⟨hlt, hk2⟩ := List.getElem?_eq_some_iff.mp hk
              have hki : k = i := by rw [← hk2]; simp
              subst hki
              rw [List.length_range] at hlt
              exact ⟨hlt, fun x H'' hx => ⟨hx.1, by rw [hx.2]; exact .int _⟩⟩
            · exact p1.elim
    · exact p1.elim)
/-- reversed(x), x a list or a tuple -/
def sForRv (a : ME) (g : D → Sto → Option Sto) (b : MS) : MS := fun τ s => bndS (a τ s) τ fun d s1 => match d with | .lst ds => forD g b ds.reverse τ s1 | .tup ds => forD g b ds.reverse τ s1 | _ => .bad
theorem rev_get {α : Type} {l : List α} {i : Nat} {x : α} (h : l.reverse[i]? = some x) : i < l.length ∧ l[l.length - 1 - i]? = some x := by
  have hl : i < l.length := by
    have := (List.getElem?_eq_some_iff.mp h).1
    simpa using this
  rw [List.getElem?_reverse hl] at h
  exact ⟨hl, h⟩
theorem ss_forRv {g : TG} {mg : D → Sto → Option Sto} (h : SndE Γ E te me) (hg : SndG Γ g mg) (hb : SndS Γ E ts ms) : SndS Γ E (tFor (RT.iRevA Γ.K te) g ts) (sForRv me mg ms) := fun q B A H σ τ s De hB ei st p =>
  h q B A H σ τ s _ ei st (post_S hB st p fun d s1 _ v H1 g1 e rr p1 => by
    cases rr with
    | lst hl rl =>
      rename_i a vs ds _
      refine ⟨a, vs, rfl, .inl ⟨(Grow.ex ex_nil).sqL hl, for_core hg hb hB e (st.grow g1) (fun A' H' i t => ?_) p1⟩⟩
      have hl' : SqL Γ.K H' a vs := (Grow.ex ex_nil).sqL (t.msk.sqL hl)
      refine ⟨fun d hd => ?_, fun hi => by rw [hi, List.length_reverse, ← rl.length]; exact Nat.le_refl _⟩
      obtain ⟨w1, w2⟩ := rev_get hd
      rw [← rl.length] at w1 w2
      obtain ⟨w, hw, rw'⟩ := rl.get w2
      refine ⟨⟨w1, vs, w, hl', hw⟩, fun x H'' hx => ⟨hx.1, ?_⟩⟩
      have := hx.2 vs hl'
      rw [hw] at this
      cases this
      exact rw'.mono t.msk
    | tup hl rl =>
      rename_i a vs ds _
      refine ⟨a, vs, rfl, .inr ⟨(Grow.ex ex_nil).sqT hl, for_core hg hb hB e (st.grow g1) (fun A' H' i t => ?_) p1⟩⟩
      have hl' : SqT Γ.K H' a vs := (Grow.ex ex_nil).sqT (t.msk.sqT hl)
      refine ⟨fun d hd => ?_, fun hi => by rw [hi, List.length_reverse, ← rl.length]; exact Nat.le_refl _⟩
      obtain ⟨w1, w2⟩ := rev_get hd
      rw [← rl.length] at w1 w2
      obtain ⟨w, hw, rw'⟩ := rl.get w2
      refine ⟨⟨w1, vs, w, hl', hw⟩, fun x H'' hx => ⟨hx.1, ?_⟩⟩
      have := hx.2 vs hl'
      rw [hw] at this
      cases this
      exact rw'.mono t.msk
    | _ => exact p1.elim)
end
end DN

set_option Elab.async false
set_option linter.all false
set_option maxRecDepth 100000
set_option maxHeartbeats 4000000
/-! Lists that are new and then owned; items stored, taken off the end; comprehensions over pairs. -/
namespace DN
open PySem PySem.Spec PyProof.Rows L2 Evl LamX EV2 TX
abbrev MN := Sto → M (List D)
def PostN (Γ : Gam) (q : Option Addr) (A : List Addr) (H : Hp) (r : Res (List D)) (Q : VK) (E : XK) : Prop := match r with
  | .ok ds s => ∀ a vs H', H a = none → Grow H H' → EI Γ q (a :: A) H' s → H' a = some (.lst vs) → RepL Γ q (msk (a :: A) H') vs ds → Q (.ref a) H'
  | .err c fs s => ∀ x H', Grow H H' → EI Γ q A H' s → XRep Γ q A H' x fs → E (.ref (Γ.cls c)) x H'
  | .bad => False
/-- a reading that lays a new list -/
def SndN (Γ : Gam) (E : XS) (te : TE) (mn : MN) : Prop := ∀ q B A H σ τ s (Q : VK), EI Γ q A H s → StR Γ q B A H σ τ → PostN Γ q A H (mn τ s) Q (E σ) → te σ H Q
theorem PostN.grow {Γ : Gam} {q : Option Addr} {A : List Addr} {H H1 : Hp} {r : Res (List D)} {Q : VK} {E : XK} (p : PostN Γ q A H r Q E) (g : Grow H H1) : PostN Γ q A H1 r Q E := by
  cases r with
  | ok d s => exact fun a vs H' h1 h2 h3 h4 h5 => p a vs H' (g.fresh h1) (g.trans h2) h3 h4 h5
  | err c fs s => exact fun x H' h1 h2 h3 => p x H' (g.trans h1) h2 h3
  | bad => exact p
def mLstN (n : MN) : ME := fun τ s => bnd (n τ s) fun ds s1 => .ok (.lst ds) s1
section
variable {Γ : Gam} {E : XS} {te tk : TE} {me mk : ME} {mn : MN} {t : TT} {mt : MT} {tr : L2.TA} {mr : MA} {ts tu : TS} {ms mu : MS} {i j c : Nat}
/-- from a step into a new list -/
theorem postN_bnd {α β : Type} {q : Option Addr} {A : List Addr} {H : Hp} {R : Hp → β → α → Prop} {r : Res α} {f : α → M (List D)} {Q : VK} {Q2 : β → Hp → Prop} {E : XK} (p : PostN Γ q A H (bnd r f) Q E)
    (k : ∀ a s, r = .ok a s → ∀ b H1, Grow H H1 → EI Γ q A H1 s → R H1 b a → PostN Γ q A H1 (f a s) Q E → Q2 b H1) : PostG Γ q A H R r Q2 E := by
  cases r with
  | ok d s => exact fun v H' g e rr => k d s rfl v H' g e rr (PostN.grow p g)
  | err c fs s => exact fun x H' g e xr => p x H' g e xr
  | bad => exact p
/-- what is laid now -/
theorem postN_new {q : Option Addr} {A : List Addr} {H : Hp} {ds : List D} {vs : List V} {s : PS} {Q : VK} {E : XK} {a : Addr} (e : EI Γ q A H s) (ha : H a = none) (r : RepL Γ q (msk A H) vs ds) (p : PostN Γ q A H (.ok ds s) Q E) : Q (.ref a) (upd H a (.lst vs)) := by
  obtain ⟨t1, e2⟩ := own_step (B := []) (o := .lst vs) e (fun _ z => by cases z) ha (.inl ⟨vs, upd_same⟩)
  exact p a vs _ ha (Grow.new ha) e2 upd_same (r.mono t1.msk)
theorem se_N (h : SndN Γ E te mn) : SndE Γ E te (mLstN mn) := fun q B A H σ τ s Q ei st p =>
  h q B A H σ τ s Q ei st (by
    unfold mLstN at p
    cases hr : mn τ s with
    | bad => rw [hr] at p; exact p
    | err c fs s1 => rw [hr] at p; exact p
    | ok ds s1 =>
      rw [hr] at p
      exact fun a vs H' h1 h2 h3 h4 h5 => p (.ref a) H' h2 (h3.less fun b hb => List.mem_cons_of_mem _ hb) (.lst (vs := vs) (sq_of (by rw [msk_out (ei.out h1)]; exact h4)) (h5.mono (.ex msk_more))))
def nListOf (a : MA) : MN := fun τ s => bnd (a τ s) fun xs s1 => match xs with | [.lst ds] => .ok ds s1 | [.tup ds] => .ok ds s1 | _ => .bad
theorem sn_listOf (h : SndA Γ E tr mr) : SndN Γ E (tCB (fun xs H Q => ∃ p ys, xs = [.ref p] ∧ (SqL Γ.K H p ys ∨ SqT Γ.K H p ys) ∧ ∀ l, H l = none → Q (.ref l) (upd H l (.lst ys))) tr) (nListOf mr) := fun q B A H σ τ s Q ei st p =>
  h q B A H σ τ s _ ei st (postN_bnd p fun xs s1 _ vs H1 g1 e1 rxs p1 => by
    (first | dsimp only at p1 | skip)
    split at p1
    · cases rxs with
      | cons r1 r =>
        cases r
        cases r1 with
        | lst hl rl => exact ⟨_, _, rfl, .inl ((Grow.ex ex_nil).sqL hl), fun l hn => postN_new e1 hn rl p1⟩
    · cases rxs with
      | cons r1 r =>
        cases r
        cases r1 with
        | tup hl rl => exact ⟨_, _, rfl, .inr ((Grow.ex ex_nil).sqT hl), fun l hn => postN_new e1 hn rl p1⟩
    · exact p1.elim)
/-- a new list times a number -/
def nRep (a : ME) (b : ME) : MN := fun τ s => bnd (a τ s) fun d s1 => match d with | .lst ds => bnd (b τ s1) (fun y s2 => match y with | .int k => if 0 ≤ k ∧ k ≤ 100000 ∧ ds.length * k.toNat ≤ 100000 then .ok (repL ds k.toNat) s2 else .bad | _ => .bad) | _ => .bad
theorem sn_rep (ha : SndF Γ E te me) (hb : SndE Γ E tk mk) : SndN Γ E (tOp rRep te tk) (nRep me mk) := fun q B A H σ τ s Q ei st p =>
  ha q B A H σ τ s _ ei st (postN_bnd p fun d s1 _ v H1 g1 e1 rr p1 => by
    obtain ⟨a, vs, ds, rfl, rfl, na, hv, rv⟩ := rr
    refine hb q B A H1 σ τ s1 _ e1 (st.grow g1) (postN_bnd p1 fun y s2 _ u H2 g2 e2 ry p2 => ?_)
    cases ry with
    | int k =>
      dsimp only at p2
      split at p2
      · rename_i hk
        have hv2 := g2.keep _ _ hv (fun _ _ z => by cases z) fun _ z => by cases z
        exact ⟨a, k, vs, rfl, rfl, hv2, by omega, by omega, sz_of (by rw [rv.length]; exact hk.2.2), fun p0 hp => postN_new e2 hp (RepL.rep (rv.mono g2.msk) _) p2⟩
      · exact p2.elim
    | _ => exact p2.elim)
/-! ### comprehensions -/
/-- the turns' stores are given -/
def lcS (c : MT) (e : ME) : List Sto → List D → M (List D)
  | [], acc, s => if acc.length ≤ 100000 then .ok acc s else .bad
  | τ :: τs, acc, s => match c τ s with
    | .ok true s1 => (match e τ s1 with
      | .ok x s2 => if acc.length < 100000 then lcS c e τs (acc ++ [x]) s2 else .bad
      | _ => .bad)
    | .ok false s1 => lcS c e τs acc s1
    | _ => .bad
theorem lcS_no {q : Option Addr} {A : List Addr} {H : Hp} {Q : VK} {E' E2 : XK} {τs : List Sto} {acc : List D} {s : PS} (p : PostN Γ q A H (lcS mt me τs acc s) Q E') : PostN Γ q A H (lcS mt me τs acc s) Q E2 := by
  induction τs generalizing acc s with
  | nil =>
    unfold lcS at p ⊢
    split at p
    · rename_i h
      rw [if_pos h]
      exact p
    · exact p.elim
  | cons d ds ih =>
    unfold lcS at p ⊢
    cases h1 : mt d s with
    | bad => rw [h1] at p; exact p.elim
    | err c fs s1 => rw [h1] at p; exact p.elim
    | ok b s1 =>
      rw [h1] at p
      cases b with
      | false => exact ih p
      | true =>
        dsimp only at p ⊢
        cases h2 : me d s1 with
        | bad => rw [h2] at p; exact p.elim
        | err c fs s2 => rw [h2] at p; exact p.elim
        | ok x s2 =>
          rw [h2] at p
          dsimp only at p ⊢
          split at p
          · rename_i h
            rw [if_pos h]
            exact ih p
          · exact p.elim
theorem lc_core3 {q : Option Addr} {B A1 : List Addr} {H1 : Hp} {σ : L2.St} {s : PS} {J : It} {g : TG} {τs : List Sto} {own : List Nat} {Q : VK} {D0 : Addr} (hc : SndT Γ (fun _ _ _ _ => False) t mt) (he : SndE Γ (fun _ _ _ _ => False) te me) (ei : EI Γ q A1 H1 s) (hD : H1 D0 = none)
    (hJ : ∀ H' s' i, Grow H1 H' → EI Γ q (D0 :: A1) H' s' → (∀ τ', τs[i]? = some τ' → J.go i H' ∧ ∀ x H'', J.yld i H' x H'' → (H'' = H' ∨ ∃ p o, H' p = none ∧ H'' = upd H' p o) ∧ ∀ (K : L2.St → Hp → Prop), (∀ σ2, wipe σ2 own = wipe σ own → StR Γ q B (D0 :: A1) H'' σ2 τ' → K σ2 H'') → g x (wipe σ own) H'' K) ∧ (i = τs.length → J.stop i H'))
    (p : PostN Γ q A1 H1 (lcS mt me τs [] s) Q (fun _ _ _ => False)) :
    ∃ W : Nat → Nat → Hp → Prop, (∃ m, W 0 m (upd H1 D0 (.lst []))) ∧ ∀ i m H, W i m H →
      (J.stop i H ∧ Q (.ref D0) H) ∨ (J.go i H ∧ ∃ Nx : Hp → Prop, (∀ H', Nx H' → ∃ m', m' < m ∧ W (i + 1) m' H') ∧ ∀ x H', J.yld i H x H' → g x (wipe σ own) H' fun σ2 H2 => wipe σ2 own = wipe σ own ∧ t σ2 H2 fun b H3 =>
        if b = true then te σ2 H3 fun y H4 => ∃ acc, H4 D0 = some (.lst acc) ∧ acc.length < sizeLine ∧ Nx (upd H4 D0 (.lst (acc ++ [y]))) else Nx H3) := by
  have nA : D0 ∉ A1 := ei.out hD
  have sub : ∀ b ∈ A1, b ∈ D0 :: A1 := fun b hb => List.mem_cons_of_mem _ hb
  refine ⟨fun i m H => ∃ acc vacc s', m = τs.length - i ∧ i ≤ τs.length ∧ Grow H1 H ∧ EI Γ q (D0 :: A1) H s' ∧ H D0 = some (.lst vacc) ∧ RepL Γ q (msk (D0 :: A1) H) vacc acc ∧ PostN Γ q A1 H1 (lcS mt me (τs.drop i) acc s') Q (fun _ _ _ => False), ?_, ?_⟩
  · obtain ⟨t1, e2⟩ := own_step (B := []) (o := .lst []) ei (fun _ z => by cases z) hD (.inl ⟨[], upd_same⟩)
    exact ⟨τs.length, [], [], s, by simp, Nat.zero_le _, Grow.new hD, e2, upd_same, .nil, by simpa using p⟩
  rintro i m H ⟨acc, vacc, s', rfl, hi, g0, e, hd, ra, p'⟩
  by_cases hlt : i < τs.length
  · have hdi : τs[i]? = some τs[i] := List.getElem?_eq_getElem hlt
    obtain ⟨hgo, hy⟩ := (hJ H s' i g0 e).1 _ hdi
    have hdr : τs.drop i = τs[i] :: τs.drop (i + 1) := List.drop_eq_getElem_cons hlt
    rw [hdr] at p'
    unfold lcS at p'
    refine .inr ⟨hgo, fun H2 => ∃ acc vacc s', Grow H1 H2 ∧ EI Γ q (D0 :: A1) H2 s' ∧ H2 D0 = some (.lst vacc) ∧ RepL Γ q (msk (D0 :: A1) H2) vacc acc ∧ PostN Γ q A1 H1 (lcS mt me (τs.drop (i + 1)) acc s') Q (fun _ _ _ => False), ?_, ?_⟩
    · rintro H2 ⟨acc2, vacc2, s2, g2, e2, hd2, ra2, p2⟩
      exact ⟨τs.length - (i + 1), by omega, acc2, vacc2, s2, rfl, by omega, g2, e2, hd2, ra2, p2⟩
    intro x H' hx
    obtain ⟨hnew, hK⟩ := hy x H' hx
    have g01 : Grow H H' := by
      rcases hnew with rfl | ⟨p0, o, hp, rfl⟩
      · exact Grow.refl _
      · exact Grow.new hp
    have e' : EI Γ q (D0 :: A1) H' s' := by
      rcases hnew with rfl | ⟨p0, o, hp, rfl⟩
      · exact e
      · exact e.new hp
    have hd' := g01.keep _ _ hd (fun _ _ z => by cases z) (fun _ z => by cases z)
    have ra' := ra.mono g01.msk
    have gA := g0.trans g01
    refine hK _ fun σ2 hw stx => ⟨hw, ?_⟩
    refine hc q B (D0 :: A1) H' _ τs[i] s' _ e' stx ?_
    cases hcr : mt τs[i] s' with
    | bad => rw [hcr] at p'; exact p'.elim
    | err c fs s1 => rw [hcr] at p'; exact p'.elim
    | ok b s1 =>
      rw [hcr] at p'
      intro b' H3 g3 e3 hb
      obtain rfl : b' = b := hb
      cases b' with
      | false =>
        dsimp only at p'
        rw [if_neg Bool.false_ne_true]
        exact ⟨acc, vacc, s1, gA.trans g3, e3, g3.keep _ _ hd' (fun _ _ z => by cases z) (fun _ z => by cases z), ra'.mono g3.msk, p'⟩
      | true =>
        dsimp only at p'
        rw [if_pos rfl]
        refine he q B (D0 :: A1) H3 _ τs[i] s1 _ e3 (stx.grow g3) ?_
        cases her : me τs[i] s1 with
        | bad => rw [her] at p'; exact p'.elim
        | err c fs s2 => rw [her] at p'; exact p'.elim
        | ok y s2 =>
          rw [her] at p'
          intro v H4 g4 e4 rv
          dsimp only at p'
          split at p'
          · rename_i hl
            have hd4 := (g3.trans g4).keep _ _ hd' (fun _ _ z => by cases z) (fun _ z => by cases z)
            have ra4 := (ra'.mono g3.msk).mono g4.msk
            refine ⟨vacc, hd4, sz_lt (by rw [ra4.length]; exact hl), ?_⟩
            obtain ⟨t1, e5⟩ := put_step (B := A1) (o := .lst (vacc ++ [v])) e4 sub (List.mem_cons_self ..) nA (.inl ⟨_, upd_same⟩)
            have g14 : Grow H1 H4 := (gA.trans g3).trans g4
            have gg : Grow H1 (upd H4 D0 (.lst (vacc ++ [v]))) := ⟨fun a o ha n1 n2 => by rw [upd_ne (ne_of_none ha hD)]; exact g14.keep a o ha n1 n2, fun a ha => by
              by_cases z : a = D0
              · rw [z, upd_same]; simp
              · rw [upd_ne z]; exact g14.dom a ha⟩
            exact ⟨acc ++ [y], vacc ++ [v], s2, gg, e5, upd_same, by rw [msk_upd (List.mem_cons_self ..)]; exact ra4.append (.cons rv .nil), p'⟩
          · exact p'.elim
  · have hie : i = τs.length := by omega
    subst hie
    rw [List.drop_length] at p'
    unfold lcS at p'
    split at p'
    · exact .inl ⟨(hJ H s' _ g0 e).2 rfl, p' D0 vacc H hD g0 e hd ra⟩
    · exact p'.elim
theorem StR.noB {q : Option Addr} {B A : List Addr} {H : Hp} {σ : L2.St} {τ : Sto} (st : StR Γ q B A H σ τ) : StR Γ q [] A H σ τ :=
  ⟨st.len, st.val, fun i z d h => let ⟨a, h1, h2, h3⟩ := st.own i z d h; ⟨a, h1, ⟨h2.1, fun w => by cases w⟩, h3⟩⟩
/-- one name -/
theorem lc_name {q : Option Addr} {A1 : List Addr} {H1 H' : Hp} {D0 : Addr} {σ : L2.St} {τ : Sto} {x : V} {d : D} {K : L2.St → Hp → Prop} (st : StR Γ q [] A1 H1 σ τ) (hD : H1 D0 = none) (g : Grow H1 H') (r : Rep Γ q (msk (D0 :: A1) H') x d)
    (k : ∀ σ2, wipe σ2 [j] = wipe σ [j] → StR Γ q [] (D0 :: A1) H' σ2 (τ.set j (.val d)) → K σ2 H') : gName j x (wipe σ [j]) H' K :=
  k _ wipe_set (str_wipe (st.side g hD) r)
def nLcR1 (j : Nat) (a : MA) (c : MT) (e : ME) : MN := fun τ s => bnd (a τ s) fun ds s1 => match ds with | [.int k] => if -(2 ^ 62) ≤ k ∧ k < 2 ^ 62 then lcS c e ((rngD 0 k.toNat).map fun d => τ.set j (.val d)) [] s1 else .bad | _ => .bad
theorem sn_lcR1 (h : SndA Γ E tr mr) (hc : SndT Γ (fun _ _ _ _ => False) t mt) (he : SndE Γ (fun _ _ _ _ => False) te me) : SndN Γ E (tLc (iRng1 tr) (gName j) t te [j]) (nLcR1 j mr mt me) := fun q B A H σ τ s Q ei st p =>
  h q B A H σ τ s _ ei st (postN_bnd p fun ds s1 _ vs H1 g1 e1 rr p1 => by
    (first | dsimp only at p1 | skip)
    split at p1
    · cases rr with
      | cons r1 rr =>
        cases rr
        cases r1
        split at p1
        · rename_i k _ hj
          refine ⟨_, rfl, hj.1, hj.2, fun D0 hD => lc_core3 (B := []) hc he e1 hD (fun H' s' i g e' => ?_) (lcS_no p1)⟩
          have z := rng_core (Γ := Γ) (q := q) (B := []) (A1 := A) (H1 := H1) (lo := 0) (n := k.toNat) A H' i (Step.grow (fun _ z => by cases z) g)
          refine ⟨fun τ' hτ => ?_, fun hi => z.2 (by rw [hi, List.length_map])⟩
          rw [List.getElem?_map] at hτ
          obtain ⟨d, hd, rfl⟩ := Option.map_eq_some_iff.mp hτ
          obtain ⟨z1, z2⟩ := z.1 d hd
          refine ⟨z1, fun x H'' hx => ⟨.inl (z2 x H'' hx).1, fun K k => ?_⟩⟩
          obtain ⟨z3, z4⟩ := z2 x H'' hx
          subst z3
          refine lc_name (st.grow g1).noB hD g ?_ k
          have z5 := hx.2
          rw [z5] at z4 ⊢
          cases z4
          exact .int _
        · exact p1.elim
    · exact p1.elim)
def nLcR2 (j : Nat) (a : MA) (c : MT) (e : ME) : MN := fun τ s => bnd (a τ s) fun ds s1 => match ds with | [.int l, .int k] => if (-(2 ^ 62) ≤ l ∧ l < 2 ^ 62) ∧ -(2 ^ 62) ≤ k ∧ k < 2 ^ 62 then lcS c e ((rngD l (k - l).toNat).map fun d => τ.set j (.val d)) [] s1 else .bad | _ => .bad
theorem sn_lcR2 (h : SndA Γ E tr mr) (hc : SndT Γ (fun _ _ _ _ => False) t mt) (he : SndE Γ (fun _ _ _ _ => False) te me) : SndN Γ E (tLc (iRng2 tr) (gName j) t te [j]) (nLcR2 j mr mt me) := fun q B A H σ τ s Q ei st p =>
  h q B A H σ τ s _ ei st (postN_bnd p fun ds s1 _ vs H1 g1 e1 rr p1 => by
    (first | dsimp only at p1 | skip)
    split at p1
    · cases rr with
      | cons r1 rr => cases rr with
        | cons r2 rr =>
          cases rr
          cases r1
          cases r2
          split at p1
          · rename_i l k _ hj
            refine ⟨_, _, rfl, ⟨hj.1.1, hj.1.2, hj.2.1, hj.2.2⟩, fun D0 hD => lc_core3 (B := []) hc he e1 hD (fun H' s' i g e' => ?_) (lcS_no p1)⟩
            have z := rng_core (Γ := Γ) (q := q) (B := []) (A1 := A) (H1 := H1) (lo := l) (n := (k - l).toNat) A H' i (Step.grow (fun _ z => by cases z) g)
            refine ⟨fun τ' hτ => ?_, fun hi => z.2 (by rw [hi, List.length_map])⟩
            rw [List.getElem?_map] at hτ
            obtain ⟨d, hd, rfl⟩ := Option.map_eq_some_iff.mp hτ
            obtain ⟨z1, z2⟩ := z.1 d hd
            refine ⟨z1, fun x H'' hx => ⟨.inl (z2 x H'' hx).1, fun K k => ?_⟩⟩
            obtain ⟨z3, z4⟩ := z2 x H'' hx
            subst z3
            refine lc_name (st.grow g1).noB hD g ?_ k
            have z5 := hx.2
            rw [z5] at z4 ⊢
            cases z4
            exact .int _
          · exact p1.elim
    · exact p1.elim)
def nLcT (j : Nat) (a : ME) (c : MT) (e : ME) : MN := fun τ s => bnd (a τ s) fun d s1 => match d with | .tup ds => lcS c e (ds.map fun d => τ.set j (.val d)) [] s1 | _ => .bad
theorem sn_lcT {tl : TE} {ml : ME} (h : SndE Γ E tl ml) (hc : SndT Γ (fun _ _ _ _ => False) t mt) (he : SndE Γ (fun _ _ _ _ => False) te me) : SndN Γ E (tLc (iTup Γ.K tl) (gName j) t te [j]) (nLcT j ml mt me) := fun q B A H σ τ s Q ei st p =>
  h q B A H σ τ s _ ei st (postN_bnd p fun d s1 _ v H1 g1 e1 rr p1 => by
    cases rr with
    | tup hl rl =>
      rename_i a vs ds _
      have hl0 : SqT Γ.K H1 a vs := (Grow.ex ex_nil).sqT hl
      refine ⟨a, rfl, ⟨vs, hl0⟩, fun D0 hD => lc_core3 (B := []) hc he e1 hD (fun H' s' i g e' => ?_) (lcS_no p1)⟩
      have hl' : SqT Γ.K H' a vs := g.sqT hl0
      refine ⟨fun τ' hτ => ?_, fun hi => ⟨vs, hl', by rw [rl.length, hi, List.length_map]; exact Nat.le_refl _⟩⟩
      rw [List.getElem?_map] at hτ
      obtain ⟨d, hd, rfl⟩ := Option.map_eq_some_iff.mp hτ
      obtain ⟨w, hw, rw'⟩ := rl.get hd
      refine ⟨⟨vs, w, hl', hw⟩, fun x H'' hx => ⟨.inl hx.1, fun K k => ?_⟩⟩
      obtain ⟨hx1, hx2⟩ := hx
      subst hx1
      have h3 := hx2 vs hl'
      rw [hw] at h3
      cases h3
      exact lc_name (st.grow g1).noB hD g (rw'.mono (side_ex g hD)) k
    | _ => exact p1.elim)
/-- the stores of a walk over pairs -/
def enS (j k : Nat) (τ : Sto) : Nat → List D → List Sto | _, [] => [] | n, d :: ds => ((τ.set j (.val (.int (n : Nat)))).set k (.val d)) :: enS j k τ (n + 1) ds
theorem enS_len {k : Nat} {τ : Sto} : ∀ (ds : List D) (n : Nat), (enS j k τ n ds).length = ds.length
  | [], _ => rfl
  | d :: ds, n => by unfold enS; rw [List.length_cons, List.length_cons, enS_len ds]
theorem enS_get {k : Nat} {τ : Sto} : ∀ (ds : List D) (n i : Nat) (e : Sto), (enS j k τ n ds)[i]? = some e → ∃ d, ds[i]? = some d ∧ e = (τ.set j (.val (.int ((n + i : Nat) : Int)))).set k (.val d)
  | [], _, _, _, h => by simp [enS] at h
  | d :: ds, n, 0, e, h => by
    simp only [enS, List.getElem?_cons_zero, Option.some.injEq] at h
    exact ⟨d, rfl, h.symm⟩
  | d :: ds, n, i + 1, e, h => by
    simp only [enS, List.getElem?_cons_succ] at h
    obtain ⟨x, h1, h2⟩ := enS_get ds (n + 1) i e h
    exact ⟨x, by simpa using h1, by rw [h2, show n + 1 + i = n + (i + 1) by omega]⟩
def nLcEn (j k : Nat) (a : MA) (c : MT) (e : ME) : MN := fun τ s => bnd (a τ s) fun xs s1 => match xs with | [.tup ds] => lcS c e (enS j k τ 0 ds) [] s1 | _ => .bad
theorem sn_lcEn {k : Nat} (hjk : j ≠ k) (h : SndA Γ E tr mr) (hc : SndT Γ (fun _ _ _ _ => False) t mt) (he : SndE Γ (fun _ _ _ _ => False) te me) : SndN Γ E (tLc (iEnumT Γ.K tr) (gTup Γ.K 2 (gCons (gName j) (gCons (gName k) gNil))) t te [j, k]) (nLcEn j k mr mt me) := fun q B A H σ τ s Q ei st p =>
  h q B A H σ τ s _ ei st (postN_bnd p fun xs s1 _ vs H1 g1 e1 rr p1 => by
    (first | dsimp only at p1 | skip)
    split at p1
    · cases rr with
      | cons r1 rr =>
        cases rr
        cases r1 with
        | tup hl rl =>
          rename_i ds _ a us
          have hl0 : SqT Γ.K H1 a us := (Grow.ex ex_nil).sqT hl
          refine ⟨a, us, rfl, hl0, fun D0 hD => lc_core3 (B := []) hc he e1 hD (fun H' s' i g e' => ?_) (lcS_no p1)⟩
          have hl' : SqT Γ.K H' a us := g.sqT hl0
          refine ⟨fun τ' hτ => ?_, fun hi => ⟨us, hl', by rw [rl.length, hi, enS_len]; exact Nat.le_refl _⟩⟩
          obtain ⟨d0, h0, rfl⟩ := enS_get _ _ _ _ hτ
          obtain ⟨w, hw, rw'⟩ := rl.get h0
          refine ⟨⟨us, w, hl', hw⟩, fun x H'' hx => ?_⟩
          obtain ⟨N, y, rfl, hN, rfl, hy⟩ := hx
          have hyw := hy us hl'
          rw [hw] at hyw
          cases hyw
          refine ⟨.inr ⟨N, _, hN, rfl⟩, fun K kk => ?_⟩
          refine ⟨N, [.int (i : Nat), w], rfl, st_of upd_same, rfl, _, _, rfl, ?_⟩
          have gN := Grow.new (o := .tup [.int (i : Nat), w]) hN
          have base := (st.grow g1).noB.side (g.trans gN) hD
          have rw2 : Rep Γ q (msk (D0 :: A) (upd H' N (.tup [.int (i : Nat), w]))) w d0 := rw'.mono (side_ex (g.trans gN) hD)
          have z1 : StR Γ q [] (D0 :: A) (upd H' N (.tup [.int (i : Nat), w])) ((σ.set j (some (.int (i : Nat)))).set k (some w)) ((τ.set j (.val (.int ((0 + i : Nat) : Int)))).set k (.val d0)) := by
            rw [Nat.zero_add]
            exact (base.set (.int _)).set rw2
          have z2 : ((wipe σ [j, k]).set j (some (.int (i : Nat)))).set k (some w) = (σ.set j (some (.int (i : Nat)))).set k (some w) := by
            show ((((σ.set k none).set j none).set j (some (V.int (i : Nat)))).set k (some w)) = _
            rw [List.set_set, List.set_comm none (some (V.int (i : Nat))) (Ne.symm hjk), List.set_set]
          have z3 : wipe ((σ.set j (some (.int (i : Nat)))).set k (some w)) [j, k] = wipe σ [j, k] := by
            show (((σ.set j (some (V.int (i : Nat)))).set k (some w)).set k none).set j none = (σ.set k none).set j none
            rw [List.set_set, List.set_comm (some (V.int (i : Nat))) none hjk, List.set_set]
          have z4 := kk _ z3 z1
          exact ⟨w, [], rfl, rfl, by rw [z2]; exact z4⟩
    · exact p1.elim)
/-! ### what is new is owned -/
theorem StR.take2 {q : Option Addr} {B A : List Addr} {H H1 : Hp} {σ : L2.St} {τ : Sto} {p : Addr} {d : D} (st : StR Γ q B A H σ τ) (g : Grow H H1) (hn : H p = none) (hp : p ∉ A) (hB : ∀ a ∈ B, a ∈ A) (ho : OwnAt Γ q (p :: A) H1 p d) : StR Γ q B (p :: A) H1 (σ.set i (some (.ref p))) (τ.set i (.own none d)) := by
  have r := st.side g hn
  refine ⟨by rw [List.length_set, List.length_set, r.len], fun j e hj => ?_, fun j y e hj => ?_⟩
  · rcases get_set hj with ⟨rfl, h1, h2⟩ | ⟨h1, h2⟩
    · cases h1
    · obtain ⟨u, h3, h4⟩ := r.val j e h2
      exact ⟨u, by rw [List.getElem?_set_ne (fun z => h1 z.symm)]; exact h3, h4⟩
  · rcases get_set hj with ⟨rfl, h1, h2⟩ | ⟨h1, h2⟩
    · cases h1
      refine ⟨p, by rw [List.getElem?_set_self (by rw [r.len]; exact h2)], ⟨List.mem_cons_self .., fun z => hp (hB p z)⟩, ho, fun _ z => (by cases z), fun k x f hk hs => ?_⟩
      rcases get_set hk with ⟨rfl, _, _⟩ | ⟨h7, h8⟩
      · rfl
      · obtain ⟨a, h9, h10, _⟩ := st.own k x f h8
        rw [List.getElem?_set_ne (fun z => h7 z.symm), h9] at hs
        cases hs
        exact absurd h10.1 hp
    · obtain ⟨a0, y3, y4, _⟩ := st.own j y e h2
      obtain ⟨a, h3, h4, h5, h5', h6⟩ := r.own j y e h2
      rw [y3] at h3
      cases h3
      refine ⟨_, by rw [List.getElem?_set_ne (fun z => h1 z.symm)]; exact y3, h4, h5, h5', fun k x f hk hs => ?_⟩
      rcases get_set hk with ⟨rfl, h7, h8⟩ | ⟨h7, h8⟩
      · cases h7
        rw [List.getElem?_set_self (by rw [r.len]; exact h8)] at hs
        cases hs
        exact absurd y4.1 hp
      · exact h6 k x f h8 (by rw [List.getElem?_set_ne (fun z => h7 z.symm)] at hs; exact hs)
def sOwnN (i : Nat) (n : MN) : MS := fun τ s => bndS (n τ s) τ fun ds s1 => .nx (τ.set i (.own none (.lst ds))) s1
theorem ss_ownN (h : SndN Γ E te mn) : SndS Γ E (tAsg te (gName i)) (sOwnN i mn) := fun q B A H σ τ s De hB ei st p =>
  h q B A H σ τ s _ ei st (by
    unfold sOwnN at p
    cases hr : mn τ s with
    | bad => rw [hr] at p; exact p
    | err c fs s1 => rw [hr] at p; exact fun x H' g e xr => p A H' σ x (Step.grow hB g) e (st.grow g) xr
    | ok ds s1 =>
      rw [hr] at p
      intro a vs H' h1 h2 h3 h4 h5
      have nA := ei.out h1
      refine p (a :: A) H' _ ?_ h3 (st.take2 h2 h1 nA hB ⟨vs, h4, h5⟩)
      exact ⟨fun b o hx hb n1 n2 => h2.keep b o hb n1 n2, h2.dom, fun b hb => List.mem_cons_of_mem _ (hB b hb), fun b hb => by
        rcases List.mem_cons.mp hb with z | z
        · exact .inr (z ▸ h1)
        · exact .inl z⟩)
/-! ### items stored, taken -/
def sIxS (i : Nat) (a k : ME) : MS := fun τ s => match τ[i]? with
  | some (.own z (.lst ds)) => bndS (a τ s) τ fun d s1 => bndS (k τ s1) τ fun y s2 => match y with
    | .int n => (match L2.ixN ds.length n with | some j => .nx (τ.set i (.own z (.lst (ds.set j d)))) s2 | none => .bad)
    | _ => .bad
  | _ => .bad
theorem ss_ixS (h : SndE Γ E te me) (hk : SndE Γ E tk mk) : SndS Γ E (tAsg te (gSub (tVar i) tk rSetL)) (sIxS i me mk) := fun q B A H σ τ s De hB ei st p => by
  unfold sIxS at p
  split at p
  · rename_i z ds hi
    obtain ⟨a, h1, h2, ⟨vs, h3, h4⟩, h5, h6⟩ := st.own i z _ hi
    refine h q B A H σ τ s _ ei st (post_S hB st p fun d s1 _ v H1 g1 e1 rr p1 => ?_)
    refine ⟨_, h1, hk q B A H1 σ τ s1 _ e1 (st.grow g1) (post_S hB (st.grow g1) p1 fun y s2 _ u H2 g2 e2 ry p2 => ?_)⟩
    cases ry with
    | int n =>
      dsimp only at p2
      split at p2
      · rename_i j hj
        have g12 := g1.trans g2
        have h3' := g12.keep _ _ h3 (fun _ _ z => by cases z) fun _ z => by cases z
        refine ⟨a, vs, n, j, rfl, rfl, h3', by rw [h4.length]; exact hj, ?_⟩
        obtain ⟨t1, e3⟩ := put_step (B := B) (o := .lst (vs.set j v)) e2 hB h2.1 h2.2 (.inl ⟨_, upd_same⟩)
        exact p2 A _ σ t1 e3 ((st.grow g12).put hi h1 ⟨_, upd_same, by rw [msk_upd h2.1]; exact RepL.set (rr.mono g2.msk) j (h4.mono g12.msk)⟩)
      · exact p2.elim
    | _ => exact p2.elim
  · exact p.elim
theorem RepL.dropLast {q : Option Addr} {H : Hp} {vs : List V} {ds : List D} (r : RepL Γ q H vs ds) : RepL Γ q H vs.dropLast ds.dropLast := by
  rw [List.dropLast_eq_take, List.dropLast_eq_take, r.length]
  exact r.take _
def sPop (i : Nat) : MS := fun τ s => match τ[i]? with
  | some (.own z (.lst ds)) => if ds ≠ [] then .nx (τ.set i (.own z (.lst ds.dropLast))) s else .bad
  | _ => .bad
theorem ss_pop : SndS Γ E (tDrop (tBM0 Γ.K "list" rPop (tVar i))) (sPop i) := fun q B A H σ τ s De hB ei st p => by
  unfold sPop at p
  split at p
  · rename_i z ds hi
    obtain ⟨a, h1, h2, ⟨vs, h3, h4⟩, h5, h6⟩ := st.own i z _ hi
    split at p
    · rename_i hne
      have hl : ds.length - 1 < ds.length := Nat.sub_lt (List.length_pos_iff.mpr hne) Nat.one_pos
      obtain ⟨y, hy, _⟩ := h4.get (List.getElem?_eq_getElem hl)
      obtain ⟨t1, e2⟩ := put_step (B := B) (o := .lst vs.dropLast) ei hB h2.1 h2.2 (.inl ⟨_, upd_same⟩)
      exact ⟨_, h1, .inl ⟨rfl, vs, sq_of h3⟩, a, vs, y, rfl, rfl, h3, by rw [h4.length]; exact hy, p A _ σ t1 e2 (st.put hi h1 ⟨_, upd_same, by rw [msk_upd h2.1]; exact h4.dropLast⟩)⟩
    · exact p.elim
  · exact p.elim
/-- what is owned and what is new, put together -/
def mCatO (i : Nat) (b : ME) : ME := fun τ s => match τ[i]? with
  | some (.own _ (.lst ds)) => bnd (b τ s) fun y s2 => match y with | .lst es => if ds.length + es.length ≤ 100000 then .ok (.lst (ds ++ es)) s2 else .bad | _ => .bad
  | _ => .bad
theorem se_catO (hb : SndF Γ E tk mk) : SndE Γ E (tOp rCat (tVar i) tk) (mCatO i mk) := fun q B A H σ τ s Q ei st p => by
  unfold mCatO at p
  split at p
  · rename_i z ds hi
    obtain ⟨a, h1, h2, ⟨vs, h3, h4⟩, h5, h6⟩ := st.own i z _ hi
    refine ⟨_, h1, hb q B A H σ τ s _ ei st (post_bnd p fun y s2 _ u H2 g2 e2 ry p2 => ?_)⟩
    obtain ⟨b, us, es, rfl, rfl, nb, hu, ru⟩ := ry
    dsimp only at p2
    split at p2
    · rename_i hk
      have hv2 := g2.keep _ _ h3 (fun _ _ z => by cases z) fun _ z => by cases z
      have r2 := h4.mono g2.msk
      exact ⟨a, b, vs, us, rfl, rfl, hv2, hu, sz_of (by rw [r2.length, ru.length]; exact hk), fun p0 hp => p2 _ _ (Grow.new hp) (e2.new hp) (rep_lst e2 hp (r2.append ru))⟩
    · exact p2.elim
  · exact p.elim
/-- an owned list compared -/
def mNeOw (i : Nat) (b : ME) : ME := fun τ s => match τ[i]? with
  | some (.own _ (.lst ds)) => bnd (b τ s) fun y s1 => dEqD true (.lst ds) y s1
  | _ => .bad
theorem se_neOw (hb : SndE Γ E tk mk) : SndE Γ E (tOp (rNeD Γ.K) (tVar i) tk) (mNeOw i mk) := fun q B A H σ τ s Q ei st p => by
  unfold mNeOw at p
  split at p
  · rename_i z ds hi
    obtain ⟨a, h1, h2, ⟨vs, h3, h4⟩, h5, h6⟩ := st.own i z _ hi
    refine ⟨_, h1, hb q B A H σ τ s _ ei st (post_bnd p fun y s1 _ u H1 g1 e1 ry p1 => ?_)⟩
    have h3' := g1.keep _ _ h3 (fun _ _ z => by cases z) fun _ z => by cases z
    unfold dEqD at p1
    split at p1
    · rename_i d e k1 k2
      split at p1
      · rename_i hs
        simp only [toPd, Option.map_eq_some_iff] at k1
        obtain ⟨es, k3, rfl⟩ := k1
        exact ⟨_, e, .lst (sq_of h3') (dps_rep (h4.mono g1.msk) k3), dp_rep ry k2, hs.1, hs.2, p1 _ H1 (Grow.refl _) e1 (.bl _)⟩
      · exact p1.elim
    · exact p1.elim
  · exact p.elim
end
end DN

set_option Elab.async false
set_option linter.all false
set_option maxRecDepth 100000
set_option maxHeartbeats 4000000
/-! An owned list that is lent to a call. -/
namespace DN
open PySem PySem.Spec PyProof.Rows L2 Evl LamX EV2 TX
mutual
/-- nothing in it is a list -/
def noLst : D → Bool
  | .lst _ => false
  | .pen => false
  | .adr _ => false
  | .tup ds => noLsts ds
  | .tpf ds => noLsts ds
  | .obj _ fs => noLstF fs
  | _ => true
def noLsts : List D → Bool | [] => true | d :: ds => noLst d && noLsts ds
def noLstF : List (Str × D) → Bool | [] => true | (_, d) :: ds => noLst d && noLstF ds
end
section
variable {Γ : Gam} {q : Option Addr} {A : List Addr} {H : Hp} {a : Addr} {vs : List V}
theorem sqT_msk {K : PySem.W.Frag} {b : Addr} {xs : List V} (ha : H a = some (.lst vs)) (h : SqT K (msk A H) b xs) : SqT K (msk (a :: A) H) b xs := by
  rcases h with h | h
  · left
    rcases h with h | ⟨o, h⟩
    · obtain ⟨h1, h2⟩ := of_msk h
      have n : b ≠ a := fun z => by subst z; rw [ha] at h2; cases h2
      exact .inl (by rw [msk_out (by simp only [List.mem_cons, not_or]; exact ⟨n, h1⟩)]; exact h2)
    · obtain ⟨h1, h2⟩ := of_msk h
      have n : b ≠ a := fun z => by subst z; rw [ha] at h2; cases h2
      exact .inr ⟨o, by rw [msk_out (by simp only [List.mem_cons, not_or]; exact ⟨n, h1⟩)]; exact h2⟩
  · exact .inr h
theorem msk_keep {b : Addr} {o : HO} (ha : H a = some (.lst vs)) (h : msk A H b = some o) (hn : ∀ ws, o ≠ .lst ws) : msk (a :: A) H b = some o := by
  obtain ⟨h1, h2⟩ := of_msk h
  have n : b ≠ a := fun z => by subst z; rw [ha] at h2; cases h2; exact hn _ rfl
  rw [msk_out (by simp only [List.mem_cons, not_or]; exact ⟨n, h1⟩)]
  exact h2
mutual
theorem rep_noLst (ha : H a = some (.lst vs)) : ∀ {v : V} {d : D}, Rep Γ q (msk A H) v d → noLst d = true → Rep Γ q (msk (a :: A) H) v d
  | _, _, .non, _ => .non
  | _, _, .bl b, _ => .bl b
  | _, _, .int i, _ => .int i
  | _, _, .str x, _ => .str x
  | _, _, .ty n, _ => .ty n
  | _, _, .adr a, h => by simp [noLst] at h
  | _, _, .pen _, h => by simp [noLst] at h
  | _, _, .lst _ _, h => by simp [noLst] at h
  | _, _, .dct h, _ => .dct (msk_keep ha h (by intro ws z; cases z))
  | _, _, .tup hs r, h => .tup (sqT_msk ha hs) (reps_noLst ha r (by simpa only [noLst] using h))
  | _, _, .tpf hs hd r, h => .tpf (msk_keep ha hs (by intro ws z; cases z)) hd (reps_noLst ha r (by simpa only [noLst] using h))
  | _, _, .obj ho r, h => .obj (msk_keep ha ho (by intro ws z; cases z)) (repF_noLst ha r (by simpa only [noLst] using h))
theorem reps_noLst (ha : H a = some (.lst vs)) : ∀ {ws : List V} {ds : List D}, RepL Γ q (msk A H) ws ds → noLsts ds = true → RepL Γ q (msk (a :: A) H) ws ds
  | _, _, .nil, _ => .nil
  | _, _, .cons r rs, h => by
    simp only [noLsts, Bool.and_eq_true] at h
    exact .cons (rep_noLst ha r h.1) (reps_noLst ha rs h.2)
theorem repF_noLst (ha : H a = some (.lst vs)) : ∀ {ws : List (Str × V)} {ds : List (Str × D)}, RepF Γ q (msk A H) ws ds → noLstF ds = true → RepF Γ q (msk (a :: A) H) ws ds
  | _, _, .nil, _ => .nil
  | _, _, .cons r rs, h => by
    simp only [noLstF, Bool.and_eq_true] at h
    exact .cons (rep_noLst ha r h.1) (repF_noLst ha rs h.2)
end
end
section
variable {Γ : Gam} {E : XS} {te : TE} {me : ME} {i k : Nat}
/-- x = f(l), l owned and lent meanwhile; what comes holds no list -/
def sLend (i k : Nat) (m : ME) : MS := fun τ s => match τ[i]? with
  | some (.own _ (.lst ds)) => (match m (τ.set i (.val (.lst ds))) s with
    | .ok d s1 => if noLst d = true ∧ s1.c = s.c then .nx (τ.set k (.val d)) s1 else .bad
    | _ => .bad)
  | _ => .bad
theorem ss_lend (h : SndE Γ E te me) : SndS Γ E (tAsg te (gName k)) (sLend i k me) := fun q B A H σ τ s De hB ei st p => by
  unfold sLend at p
  split at p
  · rename_i z ds hi
    obtain ⟨a, h1, h2, h3, h4, h5⟩ := st.own i z _ hi
    obtain ⟨vs, w1, w2⟩ := h3
    have sb : ∀ b ∈ A.filter (fun b => decide (b ≠ a)), b ∈ A := fun b hb => (List.mem_filter.mp hb).1
    have sB : ∀ b ∈ B, b ∈ A.filter (fun b => decide (b ≠ a)) := fun b hb => List.mem_filter.mpr ⟨hB b hb, decide_eq_true fun z => h2.2 (z ▸ hb)⟩
    have nA : a ∉ A.filter (fun b => decide (b ≠ a)) := fun z => by simpa using (List.mem_filter.mp z).2
    have hx := Grow.ex (msk_sub (H := H) sb)
    have st1 : StR Γ q B (A.filter fun b => decide (b ≠ a)) H σ (τ.set i (.val (.lst ds))) := by
      refine ⟨by rw [List.length_set]; exact st.len, fun j e hj => ?_, fun j y e hj => ?_⟩
      · rcases get_set hj with ⟨rfl, g1, g2⟩ | ⟨g1, g2⟩
        · cases g1
          exact ⟨_, h1, .lst (vs := vs) (sq_of (by rw [msk_out nA]; exact w1)) (w2.mono hx)⟩
        · obtain ⟨v, v1, v2⟩ := st.val j e g2
          exact ⟨v, v1, v2.mono hx⟩
      · rcases get_set hj with ⟨rfl, g1, g2⟩ | ⟨g1, g2⟩
        · cases g1
        · obtain ⟨b, u1, u2, u3, u4, u5⟩ := st.own j y e g2
          have nb : b ≠ a := fun z => by
            subst z
            exact g1 (h5 j y e g2 u1).symm
          refine ⟨b, u1, ⟨List.mem_filter.mpr ⟨u2.1, decide_eq_true nb⟩, u2.2⟩, ?_, u4, fun l x f hk hs => ?_⟩
          · cases e with
            | lst ds => obtain ⟨vs, x1, x2⟩ := u3; exact ⟨vs, x1, x2.mono hx⟩
            | obj c gs => obtain ⟨dx, fs, x1, x2⟩ := u3; exact ⟨dx, fs, x1, x2.mono hx⟩
            | _ => exact u3.elim
          · rcases get_set hk with ⟨rfl, g3, _⟩ | ⟨g3, g4⟩
            · cases g3
            · exact u5 l x f g4 hs
    refine h q B _ H σ _ s _ (ei.less sb) st1 ?_
    cases hr : me (τ.set i (.val (.lst ds))) s with
    | bad => rw [hr] at p; exact p.elim
    | err c fs s1 => rw [hr] at p; exact p.elim
    | ok d s1 =>
      rw [hr] at p
      dsimp only at p
      split at p
      · rename_i hn
        intro v H' g e rv
        have w1' := g.keep _ _ w1 (fun _ _ z => by cases z) fun _ z => by cases z
        -- what was owned is owned again
        have e2 : EI Γ q A H' s1 := by
          refine ⟨fun b hb => ?_, e.tab, fun b hb => ?_⟩
          · obtain ⟨c0, c1, c2, k1⟩ := e.pen b hb
            obtain ⟨c3, c4, c5, k2⟩ := ei.pen b hb
            refine ⟨c0, fun z => c4 ?_, c2, k1⟩
            rw [k2, ← hn.2, ← k1]
            exact z
          · by_cases y : b = a
            · rw [y]; exact .inl ⟨vs, w1'⟩
            · exact e.own b (List.mem_filter.mpr ⟨hb, decide_eq_true y⟩)
        have t1 : Step B A H A H' := ⟨fun b o hx hb n1 n2 => g.keep b o hb n1 n2, g.dom, hB, fun b hb => .inl hb⟩
        have rv2 : Rep Γ q (msk (a :: A.filter fun b => decide (b ≠ a)) H') v d := rep_noLst w1' rv hn.1
        have em : Ex (msk (a :: A.filter fun b => decide (b ≠ a)) H') (msk A H') := msk_sub fun b hb => by
          by_cases y : b = a
          · rw [y]; exact List.mem_cons_self ..
          · exact List.mem_cons_of_mem _ (List.mem_filter.mpr ⟨hb, decide_eq_true y⟩)
        exact p A H' _ t1 e2 ((st.grow g).set (rv2.mono (.ex em)))
      · exact p.elim
  · exact p.elim
end
end DN

set_option Elab.async false
set_option linter.all false
set_option maxRecDepth 100000
set_option maxHeartbeats 4000000
/-! Kinds in a written tuple, tables of texts, tests of texts, the greatest of a list, a list backwards, == of any of several sorts, objects whose __init__ is told where it ends well. -/
namespace DN
open PySem PySem.Spec PyProof.Rows L2 Evl LamX EV2 TX
section
variable {Γ : Gam} {E : XS} {te tk : TE} {me mk : ME} {t : TT} {mt : MT} {tr : L2.TA} {mr : MA} {ts tu : TS} {ms mu : MS} {i c : Nat}
/-! ### kinds in a tuple -/
abbrev Kd := Sum Ty Nat
def valK (Γ : Gam) : Kd → V | .inl b => .ty b.nm | .inr c => .ref (Γ.cls c)
def litK (Γ : Gam) : Kd → Value | .inl b => .type b.nm | .inr c => .ref (Γ.cls c)
def tKs (Γ : Gam) : List Kd → L2.TA | [] => tNil | κ :: r => tCons (tC (valK Γ κ)) (tKs Γ r)
def isK1 : Kd → Kd → Bool | .inl a, .inl b => tyIs a b | .inr a, .inr b => decide (a = b) | _, _ => false
def KitC (Γ : Gam) (os : List Nat) : Kd → Prop
  | .inl b => b ≠ .non ∧ ∀ c ∈ os, PySem.W.kitOne Γ.K (.ref (Γ.cls c)) (.type b.nm) = some false
  | .inr c => (∀ b : Ty, PySem.W.kitOne Γ.K (.type b.nm) (.ref (Γ.cls c)) = some false) ∧ ∀ c' ∈ os, c' ≠ c → PySem.W.kitOne Γ.K (.ref (Γ.cls c')) (.ref (Γ.cls c)) = some false
def inOs (os : List Nat) : Kd → Prop | .inl _ => True | .inr c => c ∈ os
theorem kit_K {os : List Nat} {k κ : Kd} (h : KitC Γ os κ) (hk : inOs os k) : PySem.W.kitOne Γ.K (litK Γ k) (litK Γ κ) = some (isK1 k κ) := by
  cases κ with
  | inl b =>
    cases k with
    | inl a => exact kit_ty (kit_Ty a b h.1)
    | inr c => exact h.2 c hk
  | inr c =>
    cases k with
    | inl a => exact h.1 a
    | inr c' =>
      by_cases e : c' = c
      · subst e
        show PySem.W.kitOne Γ.K (.ref _) (.ref _) = some (decide (c' = c'))
        rw [decide_eq_true rfl]
        unfold PySem.W.kitOne
        rw [if_pos (by simp)]
      · show _ = some (decide (c' = c))
        rw [decide_eq_false e]
        exact h.2 c' hk e
theorem kit_anyL {K : PySem.W.Frag} {t : Value} : ∀ {κs : List Kd} {os : List Nat} {k : Kd}, (∀ κ ∈ κs, PySem.W.kitOne K t (litK Γ κ) = some (isK1 k κ)) → PySem.W.kitAny K t (κs.map (litK Γ)) = some (κs.any (isK1 k))
  | [], _, _, _ => rfl
  | κ :: r, os, k, h => by
    rw [List.map_cons, List.any_cons]
    unfold PySem.W.kitAny
    rw [h κ List.mem_cons_self]
    cases isK1 k κ with
    | true => rfl
    | false => exact kit_anyL (os := os) fun x hx => h x (List.mem_cons_of_mem _ hx)
theorem tKs_run {A : List Addr} {H : Hp} {σ : L2.St} : ∀ (κs : List Kd) (Q : List V → Hp → Prop), Q (κs.map (valK Γ)) H → tKs Γ κs σ H Q
  | [], Q, h => h
  | κ :: r, Q, h => tKs_run (A := A) r (fun vs H1 => Q (valK Γ κ :: vs) H1) h
theorem cls_K : ∀ κs : List Kd, Paired ClsV (κs.map (valK Γ)) (κs.map (litK Γ))
  | [] => .nil
  | .inl b :: r => .cons (.ty _) (cls_K r)
  | .inr c :: r => .cons (.own _) (cls_K r)
/-- isinstance(x, (T, ..)) -/
def mIsK (κs : List Kd) (os : List Nat) (a : ME) : ME := fun τ s => bnd (a τ s) fun d s1 => match kindD d with
  | some (.inl k) => .ok (.bl (κs.any (isK1 (.inl k)))) s1
  | some (.inr c) => if c ∈ os then .ok (.bl (κs.any (isK1 (.inr c)))) s1 else .bad
  | none => .bad
theorem se_isK {κs : List Kd} {os : List Nat} (hl : κs.length ≤ 100000) (hk : ∀ κ ∈ κs, KitC Γ os κ) (ho : ∀ c ∈ os, OC Γ.K (Γ.cls c)) (h : SndE Γ E te me) :
    SndE Γ E (tCB (rIsiT Γ.K) (tCons te (tCons (tTup (tKs Γ κs)) tNil))) (mIsK κs os me) := fun q B A H σ τ s Q ei st p =>
  h q B A H σ τ s _ ei st (post_bnd p fun d s1 _ v H1 g1 e1 rr p1 => by
    show tKs Γ κs σ H1 fun xs H2 => xs.length ≤ sizeLine ∧ ∀ p, H2 p = none → rIsiT Γ.K [v, .ref p] (upd H2 p (.tup xs)) Q
    refine tKs_run (A := A) κs _ ⟨sz_of (by rw [List.length_map]; exact hl), fun a ha => ?_⟩
    have rr' := rr.mono (Grow.new (o := .tup (κs.map (valK Γ))) ha).msk
    split at p1
    · rename_i k hkd
      exact ⟨v, a, _, .type k.nm, _, _, rfl, upd_same, cls_K κs, tyx_B rr' hkd, kit_anyL (os := os) fun κ hκ => kit_K (k := .inl k) (hk κ hκ) trivial, p1 _ _ (Grow.new ha) (e1.new ha) (.bl _)⟩
    · rename_i c hkd
      split at p1
      · rename_i hc
        exact ⟨v, a, _, .ref (Γ.cls c), _, _, rfl, upd_same, cls_K κs, tyx_O rr' hkd (ho c hc), kit_anyL (os := os) fun κ hκ => kit_K (k := .inr c) (hk κ hκ) hc, p1 _ _ (Grow.new ha) (e1.new ha) (.bl _)⟩
      · exact p1.elim
    · exact p1.elim)
/-! ### a module's tuple -/
def KTup (K : PySem.W.Frag) (a : Addr) (xs : List V) : Prop := ∃ (o : Obj) (its : Array Value) (n : Nat), K.lookup a = some o ∧ o.cls = .type "tuple" ∧ o.data = .seq its n ∧ its.size ≤ sizeLine ∧ Vals xs its.toList
theorem se_kT {a : Addr} {vs : List V} {ds : List D} (h : KTup Γ.K a vs) (r : ∀ q H, RepL Γ q H vs ds) : SndE Γ E (tC (.ref a)) (mC (.tup ds)) := se_c fun q H => .tup (.inr h) (r q H)
theorem repL_strs {q : Option Addr} {H : Hp} : ∀ zs : List Str, RepL Γ q H (zs.map V.str) (zs.map D.str)
  | [] => .nil
  | z :: zs => .cons (.str z) (repL_strs zs)
def strsD : List D → Option (List Str)
  | [] => some []
  | .str a :: r => (strsD r).map (a :: ·)
  | _ => none
theorem strs_rep {q : Option Addr} {H : Hp} : ∀ {ds : List D} {vs : List V} {zs : List Str}, RepL Γ q H vs ds → strsD ds = some zs → vs = zs.map V.str
  | [], _, _, .nil, h => by cases h; rfl
  | d :: ds, _, zs, .cons r rs, h => by
    cases r <;> simp only [strsD, Option.map_eq_some_iff, reduceCtorEq] at h
    obtain ⟨ys, h1, rfl⟩ := h
    rw [strs_rep rs h1]
    rfl
theorem inV_strs {a : Str} : ∀ zs : List Str, inV (.str a) (zs.map V.str) = zs.any (fun z => z == a)
  | [] => rfl
  | z :: zs => by
    show (eqV (.str z) (.str a) || inV (.str a) (zs.map V.str)) = _
    rw [inV_strs zs]
    rfl
theorem flat_strs : ∀ zs : List Str, (zs.map V.str).all flatV = true
  | [] => rfl
  | z :: zs => by
    show (true && (zs.map V.str).all flatV) = true
    rw [flat_strs zs]
    rfl
def dInS (neg : Bool) : D → D → M D := fun x y s => match x, y with
  | .str a, .tup ds => (match strsD ds with | some zs => .ok (.bl (if neg then !zs.any (fun z => z == a) else zs.any (fun z => z == a))) s | none => .bad)
  | .str a, .lst ds => (match strsD ds with | some zs => .ok (.bl (if neg then !zs.any (fun z => z == a) else zs.any (fun z => z == a))) s | none => .bad)
  | _, _ => .bad
theorem so_inS {neg : Bool} : SndO Γ E (rIn Γ.K neg) (dInS neg) := fun q A H σ s v u x y Q ei rx ry p => by
  cases rx with
  | str a =>
    cases ry with
    | tup h r =>
      unfold dInS at p
      dsimp only at p
      split at p
      · rename_i zs hz
        have e := strs_rep r hz
        subst e
        refine ⟨_, _, rfl, .inr ((Grow.ex ex_nil).sqT h), rfl, flat_strs zs, ?_⟩
        rw [inV_strs]
        exact p _ H (Grow.refl _) ei (.bl _)
      · exact p.elim
    | lst h r =>
      unfold dInS at p
      dsimp only at p
      split at p
      · rename_i zs hz
        have e := strs_rep r hz
        subst e
        refine ⟨_, _, rfl, .inl ((Grow.ex ex_nil).sqL h), rfl, flat_strs zs, ?_⟩
        rw [inV_strs]
        exact p _ H (Grow.refl _) ei (.bl _)
      · exact p.elim
    | _ => exact p.elim
  | _ => cases ry <;> exact p.elim
/-! ### tests of a text -/
def mStrB (F : Str → Bool) (a : ME) : ME := fun τ s => bnd (a τ s) fun d s1 => match d with | .str x => .ok (.bl (F x)) s1 | _ => .bad
theorem se_strB {F : Str → Bool} (h : SndE Γ E te me) : SndE Γ E (tBM0 Γ.K "str" (fun x xs H Q => ∃ a, x = .str a ∧ xs = [] ∧ True ∧ Q (.bl (F a)) H) te) (mStrB F me) := fun q B A H σ τ s Q ei st p =>
  h q B A H σ τ s _ ei st (post_bnd p fun d s1 _ v H1 g1 e1 rr p1 => by
    cases rr with
    | str a => exact ⟨rfl, a, rfl, rfl, trivial, p1 _ H1 (Grow.refl _) e1 (.bl _)⟩
    | _ => exact p1.elim)
/-! ### the greatest of a list -/
def intsD : List D → Option (List Int)
  | [] => some []
  | .int a :: r => (intsD r).map (a :: ·)
  | _ => none
theorem ints_rep {q : Option Addr} {H : Hp} : ∀ {ds : List D} {vs : List V} {zs : List Int}, RepL Γ q H vs ds → intsD ds = some zs → vs = zs.map V.int
  | [], _, _, .nil, h => by cases h; rfl
  | d :: ds, _, zs, .cons r rs, h => by
    cases r <;> simp only [intsD, Option.map_eq_some_iff, reduceCtorEq] at h
    obtain ⟨ys, h1, rfl⟩ := h
    rw [ints_rep rs h1]
    rfl
def dMaxL : List D → M D := fun xs s => match xs with | [.lst ds] => (match intsD ds with | some ns => (match ns.max? with | some m => .ok (.int m) s | none => .bad) | none => .bad) | _ => .bad
theorem sc_maxL : SndC Γ E (rMax Γ.K) dMaxL := fun q A H σ s vs ds Q ei r p => by
  unfold dMaxL at p
  split at p
  · cases r with
    | cons r1 r =>
      cases r
      cases r1 with
      | lst h rl =>
        split at p
        · rename_i ns hn
          have e := ints_rep rl hn
          subst e
          split at p
          · rename_i m hm
            have hm2 := List.max?_eq_some_iff.mp hm
            refine ⟨_, ns, rfl, (Grow.ex ex_nil).sqL h, List.length_pos_of_mem hm2.1, fun m' h1 h2 => ?_⟩
            obtain rfl : m' = m := Int.le_antisymm (hm2.2 m' h1) (h2 m hm2.1)
            exact p _ H (Grow.refl _) ei (.int _)
          · exact p.elim
        · exact p.elim
  · exact p.elim
/-! ### a list backwards -/
def mRevL (a : ME) : ME := fun τ s => bnd (a τ s) fun d s1 => match d with | .lst ds => .ok (.lst ds.reverse) s1 | _ => .bad
theorem se_revL (h : SndE Γ E te me) : SndE Γ E (tRevL Γ.K te) (mRevL me) := fun q B A H σ τ s Q ei st p =>
  h q B A H σ τ s _ ei st (post_bnd p fun d s1 _ v H1 g1 e1 rr p1 => by
    cases rr with
    | lst h r => exact ⟨_, _, rfl, (Grow.ex ex_nil).sqL h, fun a ha => p1 _ _ (Grow.new ha) (e1.new ha) (rep_lst e1 ha r.reverse)⟩
    | _ => exact p1.elim)
/-! ### one of two operations -/
def dIte (b : D → D → Bool) (f g : D → D → M D) : D → D → M D := fun x y s => if b x y = true then f x y s else g x y s
theorem so_or {r r' : R2} {b : D → D → Bool} {f g : D → D → M D} (h : SndO Γ E r f) (h' : SndO Γ E r' g) : SndO Γ E (fun x y H Q => r x y H Q ∨ r' x y H Q) (dIte b f g) := fun q A H σ s v u x y Q ei rx ry p => by
  unfold dIte at p
  split at p
  · exact .inl (h q A H σ s v u x y Q ei rx ry p)
  · exact .inr (h' q A H σ s v u x y Q ei rx ry p)
def isObj (c : Nat) : D → D → Bool := fun x _ => match x with | .obj c' _ => decide (c' = c) | _ => false
end
/-! ### objects whose __init__ is told where it ends well -/
section
variable {Γ : Gam} {n c : Nat} {mf : MF} {E : XK} {tr : L2.TA} {mr : MA}
def Refines (mi : Addr → MF) (n : Nat) (mf : MF) : Prop := ∀ x ds s, ds.length = n → mf ds s = .bad ∨ mi x ds s = mf ds s
theorem spI_of {mi mi' : Addr → MF} {vs : List V} {H : Hp} {Q : VK} (hm : ∀ x ds s, ds.length = n → mi' x ds s = .bad ∨ mi x ds s = mi' x ds s) (h : spI Γ c n mi' vs H Q E) : spI Γ c n mi vs H Q E := by
  obtain ⟨q, A, x, dx, ds, s, ws, h1, h2, h3, h4, h5, h6, h7⟩ := h
  refine ⟨q, A, x, dx, ds, s, ws, h1, h2, h3, h4, h5, h6, ?_⟩
  rcases hm x ds s h6 with e | e
  · rw [e] at h7; exact h7.elim
  · rw [e]; exact h7
theorem se_makeR {mi : Addr → MF} {dvs : List V} {dd : List D} (hm : Refines mi n mf) (hd : RepC Γ dvs dd) (h : SndA Γ (fun _ => E) tr mr) : SndE Γ (fun _ => E) (tMake (Γ.cls c) (spI Γ c n mi) dvs E tr) (mMake c n mf dd mr) := fun q B A H σ τ s Q ei st p =>
  h q B A H σ τ s _ ei st (post_bnd p fun ds s1 _ vs H1 g1 e1 rr p1 => by
    split at p1
    · rename_i hl
      exact fun x dx hx hdx hne => spI_of (mi' := fun _ => mf) (fun x ds s hn => hm x ds s hn) (make_core (mi := fun _ => mf) (fun _ _ _ _ => rfl) e1 (rr.append (hd q _)) hl hx hdx hne p1)
    · exact p1.elim)
end
end DN

set_option Elab.async false
set_option linter.all false
set_option maxRecDepth 100000
set_option maxHeartbeats 4000000
/-! Comprehensions over a list or a tuple; a list kept beside its copy. -/
namespace DN
open PySem PySem.Spec PyProof.Rows L2 Evl LamX EV2 TX
abbrev rLenK (K : PySem.W.Frag) : List V → Hp → VK → Prop := fun xs H Q => ∃ x n, xs = [x] ∧ LenV K x H n ∧ Q (.int n) H
abbrev rTupK (K : PySem.W.Frag) : List V → Hp → VK → Prop := fun xs H Q => ∃ p ys, xs = [.ref p] ∧ ((SqL K H p ys ∧ ∀ l, H l = none → Q (.ref l) (upd H l (.tup ys))) ∨ (SqT K H p ys ∧ Q (.ref p) H))
section
variable {Γ : Gam} {E : XS} {te tk : TE} {me mk : ME} {t : TT} {mt : MT} {tr : L2.TA} {mr : MA} {ts tu : TS} {ms mu : MS} {i c : Nat}
def mLcE (j : Nat) (a : ME) (c : MT) (e : ME) : ME := fun τ s => bnd (a τ s) fun d s1 => match d with | .lst ds => lcD j c e ds [] τ s1 | .tup ds => lcD j c e ds [] τ s1 | _ => .bad
theorem se_lcE {tl : TE} {ml : ME} {j : Nat} (h : SndE Γ E tl ml) (hc : SndT Γ (fun _ _ _ _ => False) t mt) (he : SndE Γ (fun _ _ _ _ => False) te me) : SndE Γ E (tLc (iSeq Γ.K tl) (gName j) t te [j]) (mLcE j ml mt me) := fun q B A H σ τ s Q ei st p =>
  h q B A H σ τ s _ ei st (post_bnd p fun d s1 _ v H1 g1 e1 rr p1 => by
    cases rr with
    | lst hl rl =>
      rename_i a vs ds _
      have hl0 : SqL Γ.K H1 a vs := (Grow.ex ex_nil).sqL hl
      refine ⟨a, rfl, .inl ⟨⟨vs, hl0⟩, fun D0 hD => lc_core2 (B := []) (ds := ds) hc he (fun _ z => by cases z) e1 (?_) hD (fun H' i g => ?_) (ex_no (r := .bad) p1)⟩⟩
      · exact ⟨(st.grow g1).len, (st.grow g1).val, fun i z d h => let ⟨a, h1, h2, h3⟩ := (st.grow g1).own i z d h; ⟨a, h1, ⟨h2.1, fun w => by cases w⟩, h3⟩⟩
      · have hl' : SqL Γ.K H' a vs := g.sqL hl0
        refine ⟨fun d hd => ?_, fun hi => ⟨vs, hl', by rw [rl.length, hi]; exact Nat.le_refl _⟩⟩
        obtain ⟨w, hw, rw'⟩ := rl.get hd
        refine ⟨⟨vs, w, hl', hw⟩, fun x H'' hx => ⟨hx.1, ?_⟩⟩
        have := hx.2 vs hl'
        rw [hw] at this
        cases this
        exact rw'
    | tup hl rl =>
      rename_i a vs ds _
      have hl0 : SqT Γ.K H1 a vs := (Grow.ex ex_nil).sqT hl
      refine ⟨a, rfl, .inr ⟨⟨vs, hl0⟩, fun D0 hD => lc_core2 (B := []) (ds := ds) hc he (fun _ z => by cases z) e1 (?_) hD (fun H' i g => ?_) (ex_no (r := .bad) p1)⟩⟩
      · exact ⟨(st.grow g1).len, (st.grow g1).val, fun i z d h => let ⟨a, h1, h2, h3⟩ := (st.grow g1).own i z d h; ⟨a, h1, ⟨h2.1, fun w => by cases w⟩, h3⟩⟩
      · have hl' : SqT Γ.K H' a vs := g.sqT hl0
        refine ⟨fun d hd => ?_, fun hi => ⟨vs, hl', by rw [rl.length, hi]; exact Nat.le_refl _⟩⟩
        obtain ⟨w, hw, rw'⟩ := rl.get hd
        refine ⟨⟨vs, w, hl', hw⟩, fun x H'' hx => ⟨hx.1, ?_⟩⟩
        have := hx.2 vs hl'
        rw [hw] at this
        cases this
        exact rw'
    | _ => exact p1.elim)
/-! ### the same items -/
theorem vals_refs : ∀ {as : List Addr} {us : List Value}, Vals (as.map V.ref) us → us = as.map Value.ref
  | [], _, .nil => rfl
  | a :: as, _, .cons r rs => by
    rw [vals_refs rs]
    cases r
    rfl
/-- x != y, two lists of the very same objects -/
def rNeSame (K : PySem.W.Frag) : R2 := fun x y H Q => ∃ (a b : Addr) (as : List Addr), x = .ref a ∧ y = .ref b ∧ SqL K H a (as.map V.ref) ∧ SqL K H b (as.map V.ref) ∧ Q (.bl false) H
theorem op_neSame {X : Cx} (hu : X.A.units + 64 < cLine) : OpR X (compareOp .NotEq) (rNeSame X.K) := by
  intro pins s σ H x y v u Q I rx ry h
  obtain ⟨a, b, as, rfl, rfl, ha, hb, q⟩ := h
  cases rx
  cases ry
  obtain ⟨its, r1, p1, _⟩ := I.list ha
  obtain ⟨its2, r2, p2, _⟩ := I.list hb
  have e1 := vals_refs r1
  have e2 := vals_refs r2
  subst e1
  subst e2
  have hh : SeqAt.RcNeAt X.A s (.ref a) (.ref b) (!(List.range (as.map Value.ref).toArray.size).all (fun _ => true)) := SeqAt.RcNeAt.lists p1.isList p2.isList rfl (by omega) fun j h1 h2 => SeqAt.EqAt.same _
  have e3 : (!(List.range (as.map Value.ref).toArray.size).all (fun _ => true)) = false := by simp
  rw [e3] at hh
  exact hh _ _ _ _ ⟨.bl false, H, I, rfl, q⟩
/-- x == x, a tuple -/
def rEqSelf (K : PySem.W.Frag) : R2 := fun x y H Q => ∃ (a : Addr) (vs : List V), x = .ref a ∧ y = .ref a ∧ SqT K H a vs ∧ Q (.bl true) H
theorem op_eqSelf {X : Cx} (hu : X.A.units + 64 < cLine) : OpR X (compareOp .Eq) (rEqSelf X.K) := by
  intro pins s σ H x y v u Q I rx ry h
  obtain ⟨a, vs, rfl, rfl, ha, q⟩ := h
  cases rx
  cases ry
  obtain ⟨its, r1, p1, _⟩ := I.tuple ha
  refine SeqAt.eq_tupleAt (e := fun _ => true) p1 p1 (by omega) (fun j h1 h2 => SeqAt.EqAt.same _) ?_
  have e3 : ((List.range (min its.toArray.size its.toArray.size)).all (fun _ => true) && its.toArray.size == its.toArray.size) = true := by simp
  rw [e3]
  exact ⟨.bl true, H, I, rfl, q⟩
def isObjD : D → Bool | .obj _ _ => true | _ => false
theorem refs_of {q : Option Addr} {H : Hp} : ∀ {ds : List D} {vs : List V}, RepL Γ q H vs ds → ds.all isObjD = true → ∃ as : List Addr, vs = as.map V.ref
  | [], _, .nil, _ => ⟨[], rfl⟩
  | d :: ds, _, .cons r rs, h => by
    rw [List.all_cons, Bool.and_eq_true] at h
    obtain ⟨as, e⟩ := refs_of rs h.2
    cases r <;> first
      | exact absurd h.1 Bool.false_ne_true
      | (rename_i a dx c fs gs _ _; exact ⟨a :: as, by rw [e]; rfl⟩)
theorem tOr_assoc {A B C : TT} : tOr A (tOr B C) = tOr (tOr A B) C := by
  funext σ H Q
  show A σ H (fun b H1 => if b = true then Q true H1 else B σ H1 fun b2 H2 => if b2 = true then Q true H2 else C σ H2 Q) = A σ H (fun b H1 => if b = true then (if true = true then Q true H1 else C σ H1 Q) else B σ H1 fun b2 H2 => if b2 = true then Q true H2 else C σ H2 Q)
  rfl
theorem asg_bnd {j : Nat} {R : MS} {τ : Sto} {s : PS} : sSeq (sAsg me (gN j)) R τ s = bndS (me τ s) τ fun d s1 => R (τ.set j (.val d)) s1 := by
  unfold sSeq sAsg bndS
  cases me τ s <;> rfl
def sKept (i k j : Nat) (me : ME) (mt : MT) (ms mu : MS) : MS := fun τ s => match τ[i]? with
  | some (.val (.lst ds)) => if ds.all isObjD = true ∧ i ≠ k ∧ j ≠ k ∧ j ≠ i ∧ k < τ.length then sSeq (sAsg me (gN j)) (sSeq (sIf mt ms sNext) mu) (τ.set k .emp) s else .bad
  | _ => .bad
/-- k = list(i); j = ..; if a or b or c or i != k: ..; .. -/
theorem ss_kept {i k j : Nat} {tA tB tC : TT} (h : SndE Γ E te me) (hT : SndT Γ E (tOr tA (tOr tB tC)) mt) (h1 : SndS Γ E ts ms) (h2 : SndS Γ E tu mu) :
    SndS Γ E (tSeq (tAsg (tCB (fun xs H Q => ∃ p ys, xs = [.ref p] ∧ (SqL Γ.K H p ys ∨ SqT Γ.K H p ys) ∧ ∀ l, H l = none → Q (.ref l) (upd H l (.lst ys))) (tCons (tVar i) tNil)) (gName k))
      (tSeq (tAsg te (gName j)) (tSeq (tIfS (tOr tA (tOr tB (tOr tC (tTest (tOp (rNeSame Γ.K) (tVar i) (tVar k)))))) ts tNext) tu))) (sKept i k j me mt ms mu) := fun q B A H σ τ s De hB ei st p => by
  rw [show tOr tA (tOr tB (tOr tC (tTest (tOp (rNeSame Γ.K) (tVar i) (tVar k))))) = tOr (tOr tA (tOr tB tC)) (tTest (tOp (rNeSame Γ.K) (tVar i) (tVar k))) by rw [tOr_assoc (A := tB), tOr_assoc]]
  unfold sKept at p
  split at p
  · rename_i ds hi
    split at p
    · rename_i hc
      obtain ⟨hobj, hik, hjk, hji, hk⟩ := hc
      obtain ⟨v, hv, rv⟩ := st.val i _ hi
      cases rv with
      | lst hl rl =>
        rename_i a vs
        obtain ⟨as, rfl⟩ := refs_of rl hobj
        have hl0 : SqL Γ.K H a (as.map V.ref) := (Grow.ex ex_nil).sqL hl
        refine ⟨_, hv, a, _, rfl, .inl hl0, fun l hn => ?_⟩
        have g1 : Grow H (upd H l (.lst (as.map V.ref))) := Grow.new hn
        have e1 := ei.new (o := .lst (as.map V.ref)) hn
        have st1 := (st.grow g1).emp (i := k) (some (.ref l))
        have p1 := PostS.step p (Step.grow hB g1)
        rw [asg_bnd] at p1
        refine h q B A _ _ _ s _ e1 st1 (post_S hB st1 p1 fun d s1 _ w H2 g2 e2 rr p2 => ?_)
        have st2 := (st1.grow g2).set (i := j) rr
        have g12 := g1.trans g2
        have ha2 := g12.sqL hl0
        have hl2 : H2 l = some (.lst (as.map V.ref)) := g2.keep _ _ upd_same (fun _ _ z => by cases z) fun _ z => by cases z
        have si : ((σ.set k (some (.ref l))).set j (some w))[i]? = some (some (.ref a)) := by
          rw [List.getElem?_set_ne hji, List.getElem?_set_ne (Ne.symm hik)]; exact hv
        have sk : ((σ.set k (some (.ref l))).set j (some w))[k]? = some (some (.ref l)) := by
          rw [List.getElem?_set_ne hjk, List.getElem?_set_self (by rw [st.len]; exact hk)]
        have ex : sSeq (sIf mt ms sNext) mu ((τ.set k .emp).set j (.val d)) s1 = bndS (mt ((τ.set k .emp).set j (.val d)) s1) ((τ.set k .emp).set j (.val d)) fun x s2 => sSeq (if x = true then ms else sNext) mu ((τ.set k .emp).set j (.val d)) s2 := by
          unfold sSeq sIf bndS
          cases mt ((τ.set k .emp).set j (.val d)) s1 with
          | ok x s1 => cases x <;> rfl
          | err c fs s1 => rfl
          | bad => rfl
        rw [ex] at p2
        refine hT q B A H2 _ _ s1 _ e2 st2 (post_S hB st2 p2 fun x s2 _ b H3 g3 e3 rx p3 => ?_)
        obtain rfl : b = x := rx
        cases b with
        | true =>
          rw [if_pos rfl] at p3 ⊢
          exact ss_seq h1 h2 q B A H3 _ _ s2 De hB e3 (st2.grow g3) p3
        | false =>
          rw [if_neg Bool.false_ne_true] at p3 ⊢
          refine ⟨_, si, _, sk, a, l, as, rfl, rfl, g3.sqL ha2, sq_of (g3.keep _ _ hl2 (fun _ _ z => by cases z) fun _ z => by cases z), false, rfl, ?_⟩
          exact ss_seq ss_next h2 q B A H3 _ _ s2 De hB e3 (st2.grow g3) p3
    · exact p.elim
  · exact p.elim
end
end DN

set_option Elab.async false
set_option linter.all false
set_option maxRecDepth 100000
set_option maxHeartbeats 4000000
namespace K43
open PySem PySem.Spec PyProof.Rows L2 Evl LamX TX EV2 DN
def topS (i : Nat) : Stmt := PySem.Challenge.pw_allinputs_k43_places_of_grids.main.body.getD i (.Pass ⟨0, 0, 0, 0⟩)
abbrev s_BadValue_init : Stmt := inClass (topS 5) 0
abbrev N_BadValue_init : List Str := ["self", "value"]
abbrev P_BadValue_init : List Str := ["self", "value"]
theorem sc_BadValue_init : FnScope N_BadValue_init P_BadValue_init (defScope s_BadValue_init) := ⟨rfl, rfl, rfl, by decide +kernel, rfl, by decide +kernel, by decide +kernel⟩
abbrev s_is_integer : Stmt := topS 10
abbrev N_is_integer : List Str := ["value"]
abbrev P_is_integer : List Str := ["value"]
theorem sc_is_integer : FnScope N_is_integer P_is_integer (defScope s_is_integer) := ⟨rfl, rfl, rfl, by decide +kernel, rfl, by decide +kernel, by decide +kernel⟩
abbrev s_is_plain : Stmt := topS 11
abbrev N_is_plain : List Str := ["text"]
abbrev P_is_plain : List Str := ["text"]
theorem sc_is_plain : FnScope N_is_plain P_is_plain (defScope s_is_plain) := ⟨rfl, rfl, rfl, by decide +kernel, rfl, by decide +kernel, by decide +kernel⟩
abbrev s_check_integer : Stmt := topS 12
abbrev N_check_integer : List Str := ["value"]
abbrev P_check_integer : List Str := ["value"]
theorem sc_check_integer : FnScope N_check_integer P_check_integer (defScope s_check_integer) := ⟨rfl, rfl, rfl, by decide +kernel, rfl, by decide +kernel, by decide +kernel⟩
abbrev s_check_list : Stmt := topS 14
abbrev N_check_list : List Str := ["value"]
abbrev P_check_list : List Str := ["value"]
theorem sc_check_list : FnScope N_check_list P_check_list (defScope s_check_list) := ⟨rfl, rfl, rfl, by decide +kernel, rfl, by decide +kernel, by decide +kernel⟩
abbrev s_Ratio_init : Stmt := inClass (topS 48) 0
abbrev N_Ratio_init : List Str := ["self", "top", "bottom", "shared"]
abbrev P_Ratio_init : List Str := ["self", "top", "bottom"]
theorem sc_Ratio_init : FnScope N_Ratio_init P_Ratio_init (defScope s_Ratio_init) := ⟨rfl, rfl, rfl, by decide +kernel, rfl, by decide +kernel, by decide +kernel⟩
abbrev s_Ratio___eq__ : Stmt := inClass (topS 48) 1
abbrev N_Ratio___eq__ : List Str := ["self", "other"]
abbrev P_Ratio___eq__ : List Str := ["self", "other"]
theorem sc_Ratio___eq__ : FnScope N_Ratio___eq__ P_Ratio___eq__ (defScope s_Ratio___eq__) := ⟨rfl, rfl, rfl, by decide +kernel, rfl, by decide +kernel, by decide +kernel⟩
abbrev s_Fault_init : Stmt := inClass (topS 113) 0
abbrev N_Fault_init : List Str := ["self", "kind"]
abbrev P_Fault_init : List Str := ["self", "kind"]
theorem sc_Fault_init : FnScope N_Fault_init P_Fault_init (defScope s_Fault_init) := ⟨rfl, rfl, rfl, by decide +kernel, rfl, by decide +kernel, by decide +kernel⟩
abbrev s_Fault___eq__ : Stmt := inClass (topS 113) 1
abbrev N_Fault___eq__ : List Str := ["self", "other"]
abbrev P_Fault___eq__ : List Str := ["self", "other"]
theorem sc_Fault___eq__ : FnScope N_Fault___eq__ P_Fault___eq__ (defScope s_Fault___eq__) := ⟨rfl, rfl, rfl, by decide +kernel, rfl, by decide +kernel, by decide +kernel⟩
abbrev s_is_number : Stmt := topS 114
abbrev N_is_number : List Str := ["thing"]
abbrev P_is_number : List Str := ["thing"]
theorem sc_is_number : FnScope N_is_number P_is_number (defScope s_is_number) := ⟨rfl, rfl, rfl, by decide +kernel, rfl, by decide +kernel, by decide +kernel⟩
abbrev s_is_text : Stmt := topS 115
abbrev N_is_text : List Str := ["thing"]
abbrev P_is_text : List Str := ["thing"]
theorem sc_is_text : FnScope N_is_text P_is_text (defScope s_is_text) := ⟨rfl, rfl, rfl, by decide +kernel, rfl, by decide +kernel, by decide +kernel⟩
abbrev s_is_value : Stmt := topS 116
abbrev N_is_value : List Str := ["thing"]
abbrev P_is_value : List Str := ["thing"]
theorem sc_is_value : FnScope N_is_value P_is_value (defScope s_is_value) := ⟨rfl, rfl, rfl, by decide +kernel, rfl, by decide +kernel, by decide +kernel⟩
abbrev s_check_grid : Stmt := topS 120
abbrev N_check_grid : List Str := ["value"]
abbrev P_check_grid : List Str := ["value"]
theorem sc_check_grid : FnScope N_check_grid P_check_grid (defScope s_check_grid) := ⟨rfl, rfl, rfl, by decide +kernel, rfl, by decide +kernel, by decide +kernel⟩
abbrev s__is_row : Stmt := topS 121
abbrev N__is_row : List Str := ["row", "value"]
abbrev P__is_row : List Str := ["row"]
theorem sc__is_row : FnScope N__is_row P__is_row (defScope s__is_row) := ⟨rfl, rfl, rfl, by decide +kernel, rfl, by decide +kernel, by decide +kernel⟩
abbrev s__is_table : Stmt := topS 122
abbrev N__is_table : List Str := ["rows", "row"]
abbrev P__is_table : List Str := ["rows"]
theorem sc__is_table : FnScope N__is_table P__is_table (defScope s__is_table) := ⟨rfl, rfl, rfl, by decide +kernel, rfl, by decide +kernel, by decide +kernel⟩
abbrev s_is_corner : Stmt := topS 123
abbrev N_is_corner : List Str := ["corner", "part"]
abbrev P_is_corner : List Str := ["corner"]
theorem sc_is_corner : FnScope N_is_corner P_is_corner (defScope s_is_corner) := ⟨rfl, rfl, rfl, by decide +kernel, rfl, by decide +kernel, by decide +kernel⟩
abbrev s_Grid_init : Stmt := inClass (topS 119) 0
abbrev N_Grid_init : List Str := ["self", "rows", "corner", "row"]
abbrev P_Grid_init : List Str := ["self", "rows", "corner"]
theorem sc_Grid_init : FnScope N_Grid_init P_Grid_init (defScope s_Grid_init) := ⟨rfl, rfl, rfl, by decide +kernel, rfl, by decide +kernel, by decide +kernel⟩
abbrev s__size_of_all : Stmt := topS 127
abbrev N__size_of_all : List Str := ["grids", "grid"]
abbrev P__size_of_all : List Str := ["grids"]
theorem sc__size_of_all : FnScope N__size_of_all P__size_of_all (defScope s__size_of_all) := ⟨rfl, rfl, rfl, by decide +kernel, rfl, by decide +kernel, by decide +kernel⟩
abbrev s_stretched : Stmt := topS 125
abbrev N_stretched : List Str := ["grids", "grid"]
abbrev P_stretched : List Str := ["grids"]
theorem sc_stretched : FnScope N_stretched P_stretched (defScope s_stretched) := ⟨rfl, rfl, rfl, by decide +kernel, rfl, by decide +kernel, by decide +kernel⟩
abbrev s__value_for : Stmt := topS 128
abbrev N__value_for : List Str := ["grid", "row", "column", "down", "right"]
abbrev P__value_for : List Str := ["grid", "row", "column"]
theorem sc__value_for : FnScope N__value_for P__value_for (defScope s__value_for) := ⟨rfl, rfl, rfl, by decide +kernel, rfl, by decide +kernel, by decide +kernel⟩
abbrev s_part_at : Stmt := topS 126
abbrev N_part_at : List Str := ["grid", "row", "column", "number"]
abbrev P_part_at : List Str := ["grid", "row", "column"]
theorem sc_part_at : FnScope N_part_at P_part_at (defScope s_part_at) := ⟨rfl, rfl, rfl, by decide +kernel, rfl, by decide +kernel, by decide +kernel⟩
abbrev s_l_draw : Stmt := topS 131
abbrev N_l_draw : List Str := ["_law_pen", "_law_span", "_law_digit", "_law_at", "_law_cell", "_law_n"]
abbrev P_l_draw : List Str := ["_law_pen", "_law_span"]
theorem sc_l_draw : FnScope N_l_draw P_l_draw (defScope s_l_draw) := ⟨rfl, rfl, rfl, by decide +kernel, rfl, by decide +kernel, by decide +kernel⟩
abbrev s_l_pick : Stmt := topS 132
abbrev N_l_pick : List Str := ["_law_pen", "_law_some"]
abbrev P_l_pick : List Str := ["_law_pen", "_law_some"]
theorem sc_l_pick : FnScope N_l_pick P_l_pick (defScope s_l_pick) := ⟨rfl, rfl, rfl, by decide +kernel, rfl, by decide +kernel, by decide +kernel⟩
abbrev s_l_value : Stmt := topS 133
abbrev N_l_value : List Str := ["_law_pen", "_law_number"]
abbrev P_l_value : List Str := ["_law_pen"]
theorem sc_l_value : FnScope N_l_value P_l_value (defScope s_l_value) := ⟨rfl, rfl, rfl, by decide +kernel, rfl, by decide +kernel, by decide +kernel⟩
abbrev s_l_rows : Stmt := topS 134
abbrev N_l_rows : List Str := ["_law_pen", "_law_height", "_law_width", "_law_row", "_law_column"]
abbrev P_l_rows : List Str := ["_law_pen"]
theorem sc_l_rows : FnScope N_l_rows P_l_rows (defScope s_l_rows) := ⟨rfl, rfl, rfl, by decide +kernel, rfl, by decide +kernel, by decide +kernel⟩
abbrev s_l_given : Stmt := topS 135
abbrev N_l_given : List Str := ["_law_rows_here", "_law_row", "_law_column", "_law_down", "_law_right"]
abbrev P_l_given : List Str := ["_law_rows_here", "_law_row", "_law_column"]
theorem sc_l_given : FnScope N_l_given P_l_given (defScope s_l_given) := ⟨rfl, rfl, rfl, by decide +kernel, rfl, by decide +kernel, by decide +kernel⟩
abbrev s_l_same : Stmt := topS 136
abbrev N_l_same : List Str := ["_law_one", "_law_other"]
abbrev P_l_same : List Str := ["_law_one", "_law_other"]
theorem sc_l_same : FnScope N_l_same P_l_same (defScope s_l_same) := ⟨rfl, rfl, rfl, by decide +kernel, rfl, by decide +kernel, by decide +kernel⟩
section
variable {P : Program} {w : World} {K : PySem.W.Frag} {mg : Str → Option Value} {base : Heap} {f C : Addr} {fd : FuncData}
theorem ok_BadValue_init (F : Fun K "__init__" "BadValue.__init__" s_BadValue_init f fd) (O : OexC K C) (no : PySem.W.findIn K (.ref C) "value" = some none) : FnOk P w K mg base CX0 1 f fd P_BadValue_init (spI1 C "value") := by
  refine F.ok sc_BadValue_init (fun vs H Q E h => ?_) (fun cdv A outer s H vs Q E hr h => ?_)
  · obtain ⟨a, v, rfl, _⟩ := h
    rfl
  · obtain ⟨a, v, rfl, e, k⟩ := h
    exact ⟨_, pss_one (ps_ost (pv 0) (pv 1)), _, rfl, _, rfl, a, C, rfl, O, no, .inl ⟨e, k⟩⟩
theorem kp_BadValue_init (F : Fun K "__init__" "BadValue.__init__" s_BadValue_init f fd) : KBn K fd P_BadValue_init 2 [] (fun us ws => us) (fun vs zs => vs) :=
  kbn_of F (fun _ _ _ _ _ _ us ws l1 l2 => match us, ws, l1, l2 with | [_, _], [], _, _ => rfl) fun r _ => r
end
structure Ad where
  f_l_are_refused : Addr
  d_l_are_refused : FuncData
  c_l_are_refused : Addr
  t_l_are_refused : Addr
  f_law : Addr
  d_law : FuncData
  c_law : Addr
  t_law : Addr
  a_FAULT_KINDS : Addr
  f_l_begin : Addr
  d_l_begin : FuncData
  f_l_refused : Addr
  d_l_refused : FuncData
  f_Grid___eq__ : Addr
  d_Grid___eq__ : FuncData
  S : Addr
  TT : List (Addr × Str)
  C_BadValue : Addr
  i_BadValue : Addr
  e_BadValue : FuncData
  C_NoDivisor : Addr
  C_Ratio : Addr
  C_Fault : Addr
  C_Grid : Addr
  C_Strand : Addr
  C_Member : Addr
  f_is_integer : Addr
  d_is_integer : FuncData
  f_is_plain : Addr
  d_is_plain : FuncData
  f_check_integer : Addr
  d_check_integer : FuncData
  f_check_list : Addr
  d_check_list : FuncData
  f_Ratio_init : Addr
  d_Ratio_init : FuncData
  f_Ratio___eq__ : Addr
  d_Ratio___eq__ : FuncData
  f_Fault_init : Addr
  d_Fault_init : FuncData
  f_Fault___eq__ : Addr
  d_Fault___eq__ : FuncData
  f_is_number : Addr
  d_is_number : FuncData
  f_is_text : Addr
  d_is_text : FuncData
  f_is_value : Addr
  d_is_value : FuncData
  f_check_grid : Addr
  d_check_grid : FuncData
  f__is_row : Addr
  d__is_row : FuncData
  f__is_table : Addr
  d__is_table : FuncData
  f_is_corner : Addr
  d_is_corner : FuncData
  f_Grid_init : Addr
  d_Grid_init : FuncData
  f__size_of_all : Addr
  d__size_of_all : FuncData
  f_stretched : Addr
  d_stretched : FuncData
  f__value_for : Addr
  d__value_for : FuncData
  f_part_at : Addr
  d_part_at : FuncData
  f_l_draw : Addr
  d_l_draw : FuncData
  f_l_pick : Addr
  d_l_pick : FuncData
  f_l_value : Addr
  d_l_value : FuncData
  f_l_rows : Addr
  d_l_rows : FuncData
  f_l_given : Addr
  d_l_given : FuncData
  f_l_same : Addr
  d_l_same : FuncData
def gam (K : PySem.W.Frag) (p : Ad) : Gam := ⟨K, fun n => match n with
  | 0 => p.C_BadValue
  | 1 => p.C_NoDivisor
  | 2 => p.C_Ratio
  | 3 => p.C_Fault
  | 4 => p.C_Grid
  | 5 => p.C_Strand
  | 6 => p.C_Member
  | _ => p.S, "cells", "begun", "left", p.TT⟩
structure Txt (K : PySem.W.Frag) (mg : Str → Option Value) (p : Ad) : Prop where
  n_abs : mg "abs" = none
  n_all : mg "all" = none
  n_bool : mg "bool" = none
  n_int : mg "int" = none
  n_isinstance : mg "isinstance" = none
  n_len : mg "len" = none
  n_list : mg "list" = none
  n_max : mg "max" = none
  n_range : mg "range" = none
  n_repr : mg "repr" = none
  n_str : mg "str" = none
  n_tuple : mg "tuple" = none
  mg_MOST_CHARACTERS : ∃ t, mg "MOST_CHARACTERS" = some (.int 1000 t)
  mg_MOST_VALUES : ∃ t, mg "MOST_VALUES" = some (.int 10000 t)
  mg_gcd : mg "gcd" = some (.builtin "math.gcd")
  e_BadValue : Er K mg "BadValue" "BadValue.__init__" s_BadValue_init "value" p.S p.C_BadValue p.i_BadValue p.e_BadValue
  e_NoDivisor : ErN K mg "NoDivisor" p.S p.C_NoDivisor
  mg_Ratio : mg "Ratio" = some (.ref p.C_Ratio)
  oc_Ratio : OC K p.C_Ratio
  mk_Ratio : Mk K p.C_Ratio p.f_Ratio_init
  nA_Ratio_top : NoAttr K p.C_Ratio "top"
  nA_Ratio_bottom : NoAttr K p.C_Ratio "bottom"
  kb_Ratio : ∀ b : Ty, PySem.W.kitOne K (.type b.nm) (.ref p.C_Ratio) = some false
  kt_Ratio_bool : PySem.W.kitOne K (.ref p.C_Ratio) (.type "bool") = some false
  kt_Ratio_int : PySem.W.kitOne K (.ref p.C_Ratio) (.type "int") = some false
  kt_Ratio_str : PySem.W.kitOne K (.ref p.C_Ratio) (.type "str") = some false
  kt_Ratio_list : PySem.W.kitOne K (.ref p.C_Ratio) (.type "list") = some false
  kt_Ratio_tuple : PySem.W.kitOne K (.ref p.C_Ratio) (.type "tuple") = some false
  kk_Ratio_Fault : PySem.W.kitOne K (.ref p.C_Ratio) (.ref p.C_Fault) = some false
  kk_Ratio_Grid : PySem.W.kitOne K (.ref p.C_Ratio) (.ref p.C_Grid) = some false
  kk_Ratio_Strand : PySem.W.kitOne K (.ref p.C_Ratio) (.ref p.C_Strand) = some false
  kk_Ratio_Member : PySem.W.kitOne K (.ref p.C_Ratio) (.ref p.C_Member) = some false
  mg_Fault : mg "Fault" = some (.ref p.C_Fault)
  oc_Fault : OC K p.C_Fault
  mk_Fault : Mk K p.C_Fault p.f_Fault_init
  nA_Fault_kind : NoAttr K p.C_Fault "kind"
  kb_Fault : ∀ b : Ty, PySem.W.kitOne K (.type b.nm) (.ref p.C_Fault) = some false
  kt_Fault_bool : PySem.W.kitOne K (.ref p.C_Fault) (.type "bool") = some false
  kt_Fault_int : PySem.W.kitOne K (.ref p.C_Fault) (.type "int") = some false
  kt_Fault_str : PySem.W.kitOne K (.ref p.C_Fault) (.type "str") = some false
  kt_Fault_list : PySem.W.kitOne K (.ref p.C_Fault) (.type "list") = some false
  kt_Fault_tuple : PySem.W.kitOne K (.ref p.C_Fault) (.type "tuple") = some false
  kk_Fault_Ratio : PySem.W.kitOne K (.ref p.C_Fault) (.ref p.C_Ratio) = some false
  kk_Fault_Grid : PySem.W.kitOne K (.ref p.C_Fault) (.ref p.C_Grid) = some false
  kk_Fault_Strand : PySem.W.kitOne K (.ref p.C_Fault) (.ref p.C_Strand) = some false
  kk_Fault_Member : PySem.W.kitOne K (.ref p.C_Fault) (.ref p.C_Member) = some false
  mg_Grid : mg "Grid" = some (.ref p.C_Grid)
  oc_Grid : OC K p.C_Grid
  mk_Grid : Mk K p.C_Grid p.f_Grid_init
  nA_Grid_rows : NoAttr K p.C_Grid "rows"
  nA_Grid_height : NoAttr K p.C_Grid "height"
  nA_Grid_width : NoAttr K p.C_Grid "width"
  nA_Grid_corner : NoAttr K p.C_Grid "corner"
  kb_Grid : ∀ b : Ty, PySem.W.kitOne K (.type b.nm) (.ref p.C_Grid) = some false
  kt_Grid_list : PySem.W.kitOne K (.ref p.C_Grid) (.type "list") = some false
  kt_Grid_tuple : PySem.W.kitOne K (.ref p.C_Grid) (.type "tuple") = some false
  kk_Grid_Ratio : PySem.W.kitOne K (.ref p.C_Grid) (.ref p.C_Ratio) = some false
  kk_Grid_Fault : PySem.W.kitOne K (.ref p.C_Grid) (.ref p.C_Fault) = some false
  kk_Grid_Strand : PySem.W.kitOne K (.ref p.C_Grid) (.ref p.C_Strand) = some false
  kk_Grid_Member : PySem.W.kitOne K (.ref p.C_Grid) (.ref p.C_Member) = some false
  mg_Strand : mg "Strand" = some (.ref p.C_Strand)
  oc_Strand : OC K p.C_Strand
  kb_Strand : ∀ b : Ty, PySem.W.kitOne K (.type b.nm) (.ref p.C_Strand) = some false
  kk_Strand_Ratio : PySem.W.kitOne K (.ref p.C_Strand) (.ref p.C_Ratio) = some false
  kk_Strand_Fault : PySem.W.kitOne K (.ref p.C_Strand) (.ref p.C_Fault) = some false
  kk_Strand_Grid : PySem.W.kitOne K (.ref p.C_Strand) (.ref p.C_Grid) = some false
  kk_Strand_Member : PySem.W.kitOne K (.ref p.C_Strand) (.ref p.C_Member) = some false
  mg_Member : mg "Member" = some (.ref p.C_Member)
  oc_Member : OC K p.C_Member
  kb_Member : ∀ b : Ty, PySem.W.kitOne K (.type b.nm) (.ref p.C_Member) = some false
  kk_Member_Ratio : PySem.W.kitOne K (.ref p.C_Member) (.ref p.C_Ratio) = some false
  kk_Member_Fault : PySem.W.kitOne K (.ref p.C_Member) (.ref p.C_Fault) = some false
  kk_Member_Grid : PySem.W.kitOne K (.ref p.C_Member) (.ref p.C_Grid) = some false
  kk_Member_Strand : PySem.W.kitOne K (.ref p.C_Member) (.ref p.C_Strand) = some false
  mg_is_integer : mg "is_integer" = some (.ref p.f_is_integer)
  F_is_integer : Fun K "is_integer" "is_integer" s_is_integer p.f_is_integer p.d_is_integer
  b_is_integer : Binds K p.d_is_integer P_is_integer []
  mg_is_plain : mg "is_plain" = some (.ref p.f_is_plain)
  F_is_plain : Fun K "is_plain" "is_plain" s_is_plain p.f_is_plain p.d_is_plain
  b_is_plain : Binds K p.d_is_plain P_is_plain []
  mg_check_integer : mg "check_integer" = some (.ref p.f_check_integer)
  F_check_integer : Fun K "check_integer" "check_integer" s_check_integer p.f_check_integer p.d_check_integer
  b_check_integer : Binds K p.d_check_integer P_check_integer []
  mg_check_list : mg "check_list" = some (.ref p.f_check_list)
  F_check_list : Fun K "check_list" "check_list" s_check_list p.f_check_list p.d_check_list
  b_check_list : Binds K p.d_check_list P_check_list []
  F_Ratio_init : FunD K "__init__" "Ratio.__init__" (defArgs s_Ratio_init) (defBody s_Ratio_init) (defScope s_Ratio_init) [V.int 1] [] p.f_Ratio_init p.d_Ratio_init
  F_Ratio___eq__ : Fun K "__eq__" "Ratio.__eq__" s_Ratio___eq__ p.f_Ratio___eq__ p.d_Ratio___eq__
  b_Ratio___eq__ : Binds K p.d_Ratio___eq__ P_Ratio___eq__ []
  h_Ratio___eq__ : Meth K p.C_Ratio "__eq__" p.f_Ratio___eq__
  F_Fault_init : Fun K "__init__" "Fault.__init__" s_Fault_init p.f_Fault_init p.d_Fault_init
  b_Fault_init : Binds K p.d_Fault_init P_Fault_init []
  F_Fault___eq__ : Fun K "__eq__" "Fault.__eq__" s_Fault___eq__ p.f_Fault___eq__ p.d_Fault___eq__
  b_Fault___eq__ : Binds K p.d_Fault___eq__ P_Fault___eq__ []
  h_Fault___eq__ : Meth K p.C_Fault "__eq__" p.f_Fault___eq__
  mg_is_number : mg "is_number" = some (.ref p.f_is_number)
  F_is_number : Fun K "is_number" "is_number" s_is_number p.f_is_number p.d_is_number
  b_is_number : Binds K p.d_is_number P_is_number []
  mg_is_text : mg "is_text" = some (.ref p.f_is_text)
  F_is_text : Fun K "is_text" "is_text" s_is_text p.f_is_text p.d_is_text
  b_is_text : Binds K p.d_is_text P_is_text []
  mg_is_value : mg "is_value" = some (.ref p.f_is_value)
  F_is_value : Fun K "is_value" "is_value" s_is_value p.f_is_value p.d_is_value
  b_is_value : Binds K p.d_is_value P_is_value []
  mg_check_grid : mg "check_grid" = some (.ref p.f_check_grid)
  F_check_grid : Fun K "check_grid" "check_grid" s_check_grid p.f_check_grid p.d_check_grid
  b_check_grid : Binds K p.d_check_grid P_check_grid []
  mg__is_row : mg "_is_row" = some (.ref p.f__is_row)
  F__is_row : Fun K "_is_row" "_is_row" s__is_row p.f__is_row p.d__is_row
  b__is_row : Binds K p.d__is_row P__is_row []
  mg__is_table : mg "_is_table" = some (.ref p.f__is_table)
  F__is_table : Fun K "_is_table" "_is_table" s__is_table p.f__is_table p.d__is_table
  b__is_table : Binds K p.d__is_table P__is_table []
  mg_is_corner : mg "is_corner" = some (.ref p.f_is_corner)
  F_is_corner : Fun K "is_corner" "is_corner" s_is_corner p.f_is_corner p.d_is_corner
  b_is_corner : Binds K p.d_is_corner P_is_corner []
  F_Grid_init : FunD K "__init__" "Grid.__init__" (defArgs s_Grid_init) (defBody s_Grid_init) (defScope s_Grid_init) [V.non] [] p.f_Grid_init p.d_Grid_init
  mg__size_of_all : mg "_size_of_all" = some (.ref p.f__size_of_all)
  F__size_of_all : Fun K "_size_of_all" "_size_of_all" s__size_of_all p.f__size_of_all p.d__size_of_all
  b__size_of_all : Binds K p.d__size_of_all P__size_of_all []
  mg_stretched : mg "stretched" = some (.ref p.f_stretched)
  F_stretched : Fun K "stretched" "stretched" s_stretched p.f_stretched p.d_stretched
  b_stretched : Binds K p.d_stretched P_stretched []
  mg__value_for : mg "_value_for" = some (.ref p.f__value_for)
  F__value_for : Fun K "_value_for" "_value_for" s__value_for p.f__value_for p.d__value_for
  b__value_for : Binds K p.d__value_for P__value_for []
  mg_part_at : mg "part_at" = some (.ref p.f_part_at)
  F_part_at : Fun K "part_at" "part_at" s_part_at p.f_part_at p.d_part_at
  b_part_at : Binds K p.d_part_at P_part_at []
  mg_l_draw : mg "_law_draw" = some (.ref p.f_l_draw)
  F_l_draw : Fun K "_law_draw" "_law_draw" s_l_draw p.f_l_draw p.d_l_draw
  b_l_draw : Binds K p.d_l_draw P_l_draw []
  mg_l_pick : mg "_law_pick" = some (.ref p.f_l_pick)
  F_l_pick : Fun K "_law_pick" "_law_pick" s_l_pick p.f_l_pick p.d_l_pick
  b_l_pick : Binds K p.d_l_pick P_l_pick []
  mg_l_value : mg "_law_value" = some (.ref p.f_l_value)
  F_l_value : Fun K "_law_value" "_law_value" s_l_value p.f_l_value p.d_l_value
  b_l_value : Binds K p.d_l_value P_l_value []
  mg_l_rows : mg "_law_rows" = some (.ref p.f_l_rows)
  F_l_rows : Fun K "_law_rows" "_law_rows" s_l_rows p.f_l_rows p.d_l_rows
  b_l_rows : Binds K p.d_l_rows P_l_rows []
  mg_l_given : mg "_law_given" = some (.ref p.f_l_given)
  F_l_given : Fun K "_law_given" "_law_given" s_l_given p.f_l_given p.d_l_given
  b_l_given : Binds K p.d_l_given P_l_given []
  mg_l_same : mg "_law_same" = some (.ref p.f_l_same)
  F_l_same : Fun K "_law_same" "_law_same" s_l_same p.f_l_same p.d_l_same
  b_l_same : Binds K p.d_l_same P_l_same []
  mg_FAULT_KINDS : mg "FAULT_KINDS" = some (.ref p.a_FAULT_KINDS)
  kt_FAULT_KINDS : KTup K p.a_FAULT_KINDS ((["DIV", "VALUE", "REF", "NAME", "NUM", "NA", "SPILL", "RING"] : List Str).map V.str)
theorem keysK {K : PySem.W.Frag} {p : Ad} : Keys (gam K p) := ⟨show ("cells" : Str) ≠ "begun" by decide, show ("cells" : Str) ≠ "left" by decide, show ("begun" : Str) ≠ "left" by decide⟩
def M_is_integer : MF := mDef 0 (sRet (mAndV (mIsT .int [] (mVar 0)) (mNotV (mIsT .bool [] (mVar 0)))))
def M_is_plain : MF := mDef 0 (sRet (mAndV (mStrB Txt.isascii (mVar 0)) (mStrB Txt.isprintable (mVar 0))))
def M_check_integer : MF := mDef 0 (sIf (mNot (mB (mCall 1 M_is_integer [] (mCons (mVar 0) mNil)))) (sRaise 0 "value" (mCons (mVar 0) mNil)) sNext)
def M_check_list : MF := mDef 0 (sIf (mNot (mB (mIsT2 .list .tuple [] (mVar 0)))) (sRaise 0 "value" (mCons (mVar 0) mNil)) sNext)
def MI_Ratio_init : Addr → MF := mInit 2 1 (sSeq (sDrop (mCall 1 M_check_integer [] (mCons (mVar 1) mNil)))
    (sSeq (sDrop (mCall 1 M_check_integer [] (mCons (mVar 2) mNil)))
    (sSeq (sIf (mB (mOp dEq (mVar 2) (mC (.int 0)))) (sRaise0 1) sNext)
    (sSeq (sAsg (mCB dGcd (mCons (mVar 1) (mCons (mVar 2) mNil))) (gN 3))
    (sSeq (sIf (mB (mOp dLt (mVar 2) (mC (.int 0)))) (sAsg (mUn dNeg (mVar 3)) (gN 3)) sNext)
    (sSeq (sFldS 2 "top" 0 (mOp dFd (mVar 1) (mVar 3)))
    (sFldS 2 "bottom" 0 (mOp dFd (mVar 2) (mVar 3)))))))))
def ratioD (t b : Int) : List (Str × D) := [("top", .int (t.fdiv (if b < 0 then -((Nat.gcd t.natAbs b.natAbs : Nat) : Int) else ((Nat.gcd t.natAbs b.natAbs : Nat) : Int)))), ("bottom", .int (b.fdiv (if b < 0 then -((Nat.gcd t.natAbs b.natAbs : Nat) : Int) else ((Nat.gcd t.natAbs b.natAbs : Nat) : Int))))]
def M_Ratio_init : MF := fun ds s => match ds with
  | [.int t, .int b] => if b ≠ 0 ∧ Nat.log2 (Nat.gcd t.natAbs b.natAbs) < 9000 then .ok (.obj 2 (ratioD t b)) s else .bad
  | _ => .bad
def M_Ratio___eq__ : MF := mDef 0 (sRet (mAndV (mIsO 2 [] (mVar 1)) (mAndV (mOp dEq (mFld 2 "top" (mVar 0)) (mFld 2 "top" (mVar 1))) (mOp dEq (mFld 2 "bottom" (mVar 0)) (mFld 2 "bottom" (mVar 1))))))
def MI_Fault_init : Addr → MF := mInit 3 0 (sSeq (sIf (mOr (mNot (mB (mIsT .str [] (mVar 1)))) (mB (mOp (dInS true) (mVar 1) (mC (.tup ((["DIV", "VALUE", "REF", "NAME", "NUM", "NA", "SPILL", "RING"] : List Str).map D.str)))))) (sRaise 0 "value" (mCons (mVar 1) mNil)) sNext)
    (sFldS 3 "kind" 0 (mVar 1)))
def M_Fault_init : MF := fun ds s => match ds with
  | [.str k] => if (["DIV", "VALUE", "REF", "NAME", "NUM", "NA", "SPILL", "RING"] : List Str).any (fun z => z == k) = true then .ok (.obj 3 [("kind", .str k)]) s else .bad
  | _ => .bad
def M_Fault___eq__ : MF := mDef 0 (sRet (mAndV (mIsO 3 [] (mVar 1)) (mOp dEq (mFld 3 "kind" (mVar 0)) (mFld 3 "kind" (mVar 1)))))
def M_is_number : MF := mDef 0 (sRet (mIsK [.inr 2, .inr 5, .inr 6] [2, 3] (mVar 0)))
def M_is_text : MF := mDef 0 (sRet (mAndV (mIsT .str [2, 3] (mVar 0)) (mAndV (mOp dLe (mCB dLen (mCons (mVar 0) mNil)) (mC (.int 1000))) (mCall 1 M_is_plain [] (mCons (mVar 0) mNil)))))
def M_is_value : MF := mDef 0 (sSeq (sIf (mOr (mB (mOp dIsN (mVar 0) (mC .non))) (mB (mIsK [.inl .bool, .inr 3] [2, 3] (mVar 0)))) (sRet (mC (.bl true))) sNext)
    (sRet (mOrV (mCall 1 M_is_number [] (mCons (mVar 0) mNil)) (mCall 1 M_is_text [] (mCons (mVar 0) mNil)))))
def M_check_grid : MF := mDef 0 (sIf (mNot (mB (mIsO 4 [] (mVar 0)))) (sRaise 0 "value" (mCons (mVar 0) mNil)) sNext)
def M__is_row : MF := mDef 1 (sSeq (sIf (mOr (mNot (mB (mIsT2 .list .tuple [] (mVar 0)))) (mB (mOp dEq (mCB dLen (mCons (mVar 0) mNil)) (mC (.int 0))))) (sRet (mC (.bl false))) sNext)
    (sRet (mCB dAll (mCons (mLcE 1 (mVar 0) mYes (mCall 1 M_is_value [] (mCons (mVar 1) mNil))) mNil))))
def M__is_table : MF := mDef 1 (sSeq (sIf (mOr (mB (mOp dEq (mCB dLen (mCons (mVar 0) mNil)) (mC (.int 0)))) (mB (mOp dGt (mOp dMulE (mCB dLen (mCons (mVar 0) mNil)) (mCB dLen (mCons (mOp dIxE (mVar 0) (mC (.int 0))) mNil))) (mC (.int 10000))))) (sRet (mC (.bl false))) sNext)
    (sRet (mCB dAll (mCons (mLcE 1 (mVar 0) mYes (mOp dEq (mCB dLen (mCons (mVar 1) mNil)) (mCB dLen (mCons (mOp dIxE (mVar 0) (mC (.int 0))) mNil)))) mNil))))
def M_is_corner : MF := mDef 1 (sSeq (sIf (mOr (mNot (mB (mIsT2 .list .tuple [] (mVar 0)))) (mB (mOp dNe (mCB dLen (mCons (mVar 0) mNil)) (mC (.int 2))))) (sRet (mC (.bl false))) sNext)
    (sRet (mCB dAll (mCons (mLcE 1 (mVar 0) mYes (mAndV (mCall 1 M_is_integer [] (mCons (mVar 1) mNil)) (mOp dGe (mVar 1) (mC (.int 1))))) mNil))))
def MI_Grid_init : Addr → MF := mInit 4 1 (sSeq (sDrop (mCall 1 M_check_list [] (mCons (mVar 1) mNil)))
    (sSeq (sForE (mVar 1) (gN 3) (sIf (mNot (mB (mCall 1 M__is_row [] (mCons (mVar 3) mNil)))) (sRaise 0 "value" (mCons (mVar 3) mNil)) sNext))
    (sSeq (sIf (mNot (mB (mCall 1 M__is_table [] (mCons (mVar 1) mNil)))) (sRaise 0 "value" (mCons (mVar 1) mNil)) sNext)
    (sSeq (sIf (mAnd (mB (mOp dNotN (mVar 2) (mC .non))) (mNot (mB (mCall 1 M_is_corner [] (mCons (mVar 2) mNil))))) (sRaise 0 "value" (mCons (mVar 2) mNil)) sNext)
    (sSeq (sFldS 4 "rows" 0 (mCB dTupOf (mCons (mLcE 3 (mVar 1) mYes (mCB dTupOf (mCons (mVar 3) mNil))) mNil)))
    (sSeq (sFldS 4 "height" 0 (mCB dLen (mCons (mFldO 4 "rows" 0) mNil)))
    (sSeq (sFldS 4 "width" 0 (mCB dLen (mCons (mOp dIxT (mFldO 4 "rows" 0) (mC (.int 0))) mNil)))
    (sFldS 4 "corner" 0 (mIf (mB (mOp dIsN (mVar 2) (mC .non))) (mC .non) (mCB dTupOf (mCons (mVar 2) mNil)))))))))))
/-- what a Grid of whole rows is -/
def gridD (rows : List (List D)) : List (Str × D) := [("rows", .tup (rows.map .tup)), ("height", .int rows.length), ("width", .int (rows.headD []).length), ("corner", .non)]
def valD : D → Bool | .non => true | .bl _ => true | .str x => decide (x.length ≤ 1000) && Txt.isascii x && Txt.isprintable x | .obj c _ => decide (c = 2) || decide (c = 3) | _ => false
def rowOk (w : Nat) (r : List D) : Bool := decide (r.length = w) && r.all valD
def gridOk (rows : List (List D)) : Bool := decide (0 < rows.length) && decide (0 < (rows.headD []).length) && decide (rows.length * (rows.headD []).length ≤ 10000) && rows.all (rowOk (rows.headD []).length)
def tupsD : List D → Option (List (List D))
  | [] => some []
  | .tup r :: rs => (tupsD rs).map (r :: ·)
  | _ => none
def M_Grid_init : MF := fun ds s => match ds with
  | [.lst rs, .non] => (match tupsD rs with | some rows => if gridOk rows = true then .ok (.obj 4 (gridD rows)) s else .bad | none => .bad)
  | _ => .bad
def M__size_of_all : MF := mDef 1 (sRet (mTup (mCons (mCB dMaxL (mCons (mLcE 1 (mVar 0) mYes (mFld 4 "height" (mVar 1))) mNil)) (mCons (mCB dMaxL (mCons (mLcE 1 (mVar 0) mYes (mFld 4 "width" (mVar 1))) mNil)) mNil))))
def M_stretched : MF := mDef 1 (sSeq (sDrop (mCall 1 M_check_list [] (mCons (mVar 0) mNil)))
    (sSeq (sForE (mVar 0) (gN 1) (sDrop (mCall 1 M_check_grid [] (mCons (mVar 1) mNil))))
    (sSeq (sIf (mNot (mTru (mVar 0))) (sRaise 0 "value" (mCons (mVar 0) mNil)) sNext)
    (sRet (mCall 1 M__size_of_all [] (mCons (mVar 0) mNil))))))
def M__value_for : MF := mDef 2 (sSeq (sAsg (mIf (mB (mOp dEq (mFld 4 "height" (mVar 0)) (mC (.int 1)))) (mC (.int 1)) (mVar 1)) (gN 3))
    (sSeq (sAsg (mIf (mB (mOp dEq (mFld 4 "width" (mVar 0)) (mC (.int 1)))) (mC (.int 1)) (mVar 2)) (gN 4))
    (sSeq (sIf (mOr (mB (mOp dGt (mVar 3) (mFld 4 "height" (mVar 0)))) (mB (mOp dGt (mVar 4) (mFld 4 "width" (mVar 0))))) (sRet (mMake 3 1 M_Fault_init [] (mCons (mC (.str "NA")) mNil))) sNext)
    (sRet (mOp dIxT (mOp dIxT (mFld 4 "rows" (mVar 0)) (mOp dSub (mVar 3) (mC (.int 1)))) (mOp dSub (mVar 4) (mC (.int 1))))))))
def M_part_at : MF := mDef 1 (sSeq (sDrop (mCall 1 M_check_grid [] (mCons (mVar 0) mNil)))
    (sSeq (sForT (mTup (mCons (mVar 1) (mCons (mVar 2) mNil))) (gN 3) (sIf (mOr (mNot (mB (mCall 1 M_is_integer [] (mCons (mVar 3) mNil)))) (mB (mOp dLt (mVar 3) (mC (.int 1))))) (sRaise 0 "value" (mCons (mVar 3) mNil)) sNext))
    (sRet (mCall 3 M__value_for [] (mCons (mVar 0) (mCons (mVar 1) (mCons (mVar 2) mNil)))))))
def M_l_draw : MF := mDef 4 (sSeq (sIf (mB (mOp dGt (mPen3 0) (mC (.int 0)))) (sSeq (sAsg (mOp dMod (mCB dInt (mCons (mPen3 0) mNil)) (mVar 1)) (gN 2))
    (sSeq (sPen3 0 (mOp dFd (mPen3 0) (mVar 1)))
    (sRet (mVar 2)))) sNext)
    (sSeq (sAsg (mPen2 0) (gN 3))
    (sSeq (sPen2 0 (mOp dAdd (mVar 3) (mC (.int 1))))
    (sSeq (sAsg (mOp dAdd (mOp dMulE (mC (.int 83)) (mVar 3)) (mC (.int 59))) (gN 4))
    (sSeq (sIf (mB (mOp (dEqD true) (mPen1 0) (mLst mNil))) (sAsg (mOp dIxL (mPen1 0) (mOp dMod (mCB dInt (mCons (mVar 3) mNil)) (mCB dLen (mCons (mPen1 0) mNil)))) (gN 4)) sNext)
    (sSeq (sIf (mAnd (mB (mOp dLt (mVar 3) (mCB dLen (mCons (mPen1 0) mNil)))) (mB (mOp dGe (mCB dAbs (mCons (mVar 4) mNil)) (mOp dPow (mC (.int 10)) (mC (.int 18)))))) (sSeq (sPen3 0 (mOp dFd (mOp dSub (mCB dAbs (mCons (mVar 4) mNil)) (mOp dPow (mC (.int 10)) (mC (.int 18)))) (mVar 1)))
    (sRet (mOp dMod (mCB dInt (mCons (mOp dSub (mCB dAbs (mCons (mVar 4) mNil)) (mOp dPow (mC (.int 10)) (mC (.int 18)))) mNil)) (mVar 1)))) sNext)
    (sSeq (sAsg (mOp dAdd (mOp dMulE (mOp dMod (mCB dInt (mCons (mVar 4) mNil)) (mC (.int 2147483477))) (mC (.int 50119))) (mOp dMulE (mOp dMulE (mC (.int 31181)) (mVar 3)) (mVar 3))) (gN 5))
    (sSeq (sAsg (mOp dMod (mCB dInt (mCons (mOp dAdd (mOp dAdd (mVar 5) (mOp dMulE (mC (.int 601)) (mVar 3))) (mC (.int 89))) mNil)) (mC (.int 2147483423))) (gN 5))
    (sSeq (sAsg (mOp dMod (mCB dInt (mCons (mOp dAdd (mOp dAdd (mOp dAdd (mOp dMulE (mVar 5) (mVar 5)) (mOp dMulE (mC (.int 43793)) (mVar 5))) (mOp dMulE (mC (.int 61)) (mVar 3))) (mC (.int 29))) mNil)) (mC (.int 2147483399))) (gN 5))
    (sSeq (sAsg (mOp dMod (mCB dInt (mCons (mOp dAdd (mOp dAdd (mOp dMulE (mVar 5) (mVar 5)) (mOp dMulE (mC (.int 29501)) (mVar 5))) (mVar 3)) mNil)) (mC (.int 2147483353))) (gN 5))
    (sRet (mOp dMod (mCB dInt (mCons (mOp dFd (mOp dMod (mCB dInt (mCons (mOp dMulE (mVar 5) (mOp dAdd (mVar 5) (mC (.int 47563)))) mNil)) (mC (.int 2147483323))) (mC (.int 64))) mNil)) (mVar 1)))))))))))))
def M_l_pick : MF := mDef 0 (sRet (mOp dIxL (mVar 1) (mCall 2 M_l_draw [] (mCons (mVar 0) (mCons (mCB dLen (mCons (mVar 1) mNil)) mNil)))))
def M_l_value : MF := mDef 1 (sSeq (sAsg (mMake 2 2 M_Ratio_init [] (mCons (mOp dSub (mCall 2 M_l_draw [] (mCons (mVar 0) (mCons (mC (.int 2001)) mNil))) (mC (.int 1000))) (mCons (mOp dAdd (mC (.int 1)) (mCall 2 M_l_draw [] (mCons (mVar 0) (mCons (mC (.int 9)) mNil)))) mNil))) (gN 1))
    (sRet (mCall 2 M_l_pick [] (mCons (mVar 0) (mCons (mLst (mCons (mVar 1) (mCons (mVar 1) (mCons (mOp dCat (mC (.str "x")) (mCB dStrI (mCons (mCall 2 M_l_draw [] (mCons (mVar 0) (mCons (mC (.int 9)) mNil))) mNil))) (mCons (mOp dEq (mCall 2 M_l_draw [] (mCons (mVar 0) (mCons (mC (.int 2)) mNil))) (mC (.int 0))) (mCons (mC .non) (mCons (mMake 3 1 M_Fault_init [] (mCons (mC (.str "NA")) mNil)) (mCons (mMake 3 1 M_Fault_init [] (mCons (mC (.str "DIV")) mNil)) mNil)))))))) mNil)))))
def M_l_rows : MF := mDef 4 (sSeq (sAsg (mTup (mCons (mCall 2 M_l_pick [] (mCons (mVar 0) (mCons (mLst (mCons (mC (.int 1)) (mCons (mC (.int 1)) (mCons (mOp dAdd (mC (.int 1)) (mCall 2 M_l_draw [] (mCons (mVar 0) (mCons (mC (.int 5)) mNil)))) mNil)))) mNil))) (mCons (mCall 2 M_l_pick [] (mCons (mVar 0) (mCons (mLst (mCons (mC (.int 1)) (mCons (mC (.int 1)) (mCons (mOp dAdd (mC (.int 1)) (mCall 2 M_l_draw [] (mCons (mVar 0) (mCons (mC (.int 5)) mNil)))) mNil)))) mNil))) mNil))) (gT 2 (gsC (gN 1) (gsC (gN 2) gsN))))
    (sSeq (sIf (mB (mOp dEq (mCall 2 M_l_draw [] (mCons (mVar 0) (mCons (mC (.int 40)) mNil))) (mC (.int 0)))) (sSeq (sAsg (mCall 2 M_l_pick [] (mCons (mVar 0) (mCons (mLst (mCons (mTup (mCons (mC (.int 100)) (mCons (mC (.int 100)) mNil))) (mCons (mTup (mCons (mC (.int 1)) (mCons (mC (.int 10000)) mNil))) (mCons (mTup (mCons (mC (.int 10000)) (mCons (mC (.int 1)) mNil))) (mCons (mTup (mCons (mC (.int 99)) (mCons (mC (.int 3)) mNil))) mNil))))) mNil))) (gT 2 (gsC (gN 1) (gsC (gN 2) gsN))))
    (sRet (mLstN (nLcR1 3 (mCons (mVar 1) mNil) mYes (mLstN (nLcR1 4 (mCons (mVar 2) mNil) mYes (mMake 2 2 M_Ratio_init [.int 1] (mCons (mOp dAdd (mOp dMulE (mVar 3) (mVar 2)) (mVar 4)) mNil)))))))) sNext)
    (sRet (mLstN (nLcR1 3 (mCons (mVar 1) mNil) mYes (mLstN (nLcR1 4 (mCons (mVar 2) mNil) mYes (mCall 1 M_l_value [] (mCons (mVar 0) mNil)))))))))
def M_l_given : MF := mDef 2 (sSeq (sAsg (mIf (mB (mOp dEq (mCB dLen (mCons (mVar 0) mNil)) (mC (.int 1)))) (mC (.int 1)) (mVar 1)) (gN 3))
    (sSeq (sAsg (mIf (mB (mOp dEq (mCB dLen (mCons (mOp dIxL (mVar 0) (mC (.int 0))) mNil)) (mC (.int 1)))) (mC (.int 1)) (mVar 2)) (gN 4))
    (sRet (mIf (mAnd (mB (mOp dLe (mVar 3) (mCB dLen (mCons (mVar 0) mNil)))) (mB (mOp dLe (mVar 4) (mCB dLen (mCons (mOp dIxL (mVar 0) (mC (.int 0))) mNil))))) (mOp dIxL (mOp dIxL (mVar 0) (mOp dSub (mVar 3) (mC (.int 1)))) (mOp dSub (mVar 4) (mC (.int 1)))) (mMake 3 1 M_Fault_init [] (mCons (mC (.str "NA")) mNil))))))
def M_l_same : MF := mDef 0 (sRet (mAndV (mOp dEq (mIsT .bool [2, 3] (mVar 0)) (mIsT .bool [2, 3] (mVar 1))) (mOp (dIte (isObj 2) (dEqO 2 [] M_Ratio___eq__) (dIte (isObj 3) (dEqO 3 [] M_Fault___eq__) dEq)) (mVar 0) (mVar 1))))
theorem bd_Ratio_init_1 {K : PySem.W.Frag} {f : Addr} {fd : FuncData} (F : FunD K "__init__" "Ratio.__init__" (defArgs s_Ratio_init) (defBody s_Ratio_init) (defScope s_Ratio_init) [V.int 1] [] f fd) : ∃ ds, Vals ([V.int 1].drop 0) ds ∧ Binds K fd P_Ratio_init ds :=
  F.binds1 2 0 (by simp) rfl fun T kV doc pm an cdv ct us its h1 h2 => match us, its, h1, h2 with | [_, _], [_], _, _ => ⟨_, rfl, rfl⟩
theorem bd_Ratio_init_2 {K : PySem.W.Frag} {f : Addr} {fd : FuncData} (F : FunD K "__init__" "Ratio.__init__" (defArgs s_Ratio_init) (defBody s_Ratio_init) (defScope s_Ratio_init) [V.int 1] [] f fd) : ∃ ds, Vals ([V.int 1].drop 1) ds ∧ Binds K fd P_Ratio_init ds :=
  F.binds1 3 1 (by simp) rfl fun T kV doc pm an cdv ct us its h1 h2 => match us, its, h1, h2 with | [_, _, _], [_], _, _ => ⟨_, rfl, rfl⟩
end K43

set_option Elab.async false
set_option linter.all false
set_option maxRecDepth 100000
set_option maxHeartbeats 8000000
namespace K43
open PySem PySem.Spec PyProof.Rows L2 Evl LamX TX EV2 DN
theorem mulOk_r {i j : Int} (h : -(2 ^ 64) < j) (h2 : j < 2 ^ 64) : mulOk i j = true := by
  unfold mulOk
  rw [decide_eq_true (Or.inr ⟨h, h2⟩)]
  rfl
theorem mulOk_l {i j : Int} (h : -(2 ^ 64) < i) (h2 : i < 2 ^ 64) : mulOk i j = true := by
  unfold mulOk
  rw [decide_eq_true (Or.inl ⟨h, h2⟩)]
  rfl
structure Good (n : Int) (s : DN.PS) : Prop where
  len : s.cs.length ≤ 64
  lo : 0 ≤ s.i
  hi : s.i ≤ n
theorem Good.mono {n m : Int} {s : DN.PS} (g : Good n s) (h : n ≤ m) : Good m s := ⟨g.len, g.lo, Int.le_trans g.hi h⟩
theorem at_intsD {cs : List Int} {k : Int} (h0 : 0 ≤ k) (h1 : k < cs.length) : ∃ z, L2.atI (cs.map D.int) k = some (.int z) := by
  have hk : k.toNat < cs.length := by omega
  refine ⟨cs[k.toNat], ?_⟩
  unfold atI ixN
  rw [List.length_map, if_pos h0, if_pos h1, Option.bind_some, List.getElem?_map, List.getElem?_eq_getElem hk]
  all_goals rfl
theorem fm_lt {a m : Int} (h : 0 < m) : 0 ≤ a.fmod m ∧ a.fmod m < m := ⟨Pen.fmod_lo h, Pen.fmod_hi h⟩
theorem p18 : decide (0 ≤ (18 : Int) ∧ (18 : Int) ≤ 1000000 ∧ (10 : Int).natAbs < 2 ^ 64) = true := by decide
theorem toPds_ints : ∀ cs : List Int, toPds (cs.map D.int) = some (cs.map PyData.int)
  | [] => rfl
  | c :: cs => by
    rw [List.map_cons, toPds, toPds_ints cs]
    rfl
theorem can_ints : ∀ cs : List Int, PyData.canLayAll0 (cs.map PyData.int) = true
  | [] => rfl
  | c :: cs => by
    rw [List.map_cons, PyData.canLayAll0, can_ints cs]
    rfl
theorem dep_ints : ∀ cs : List Int, PyData.depthAll (cs.map PyData.int) = 0
  | [] => rfl
  | c :: cs => by
    rw [List.map_cons, PyData.depthAll, dep_ints cs]
    rfl
/-- cells != [] -/
theorem ne_nil {cs : List Int} {s : DN.PS} : dEqD true (.lst (cs.map D.int)) (.lst []) s = .ok (.bl (decide (cs ≠ []))) s := by
  have h1 : toPd (.lst (cs.map D.int)) = some (.list (cs.map PyData.int)) := by rw [toPd, toPds_ints]; rfl
  have h2 : toPd (.lst []) = some (.list []) := rfl
  have h3 : SeqAt.shaped (.list (cs.map PyData.int)) = true := by
    unfold SeqAt.shaped
    rw [PyData.canLay0, can_ints, PyData.depth, dep_ints]
    rfl
  unfold dEqD
  rw [h1, h2]
  dsimp only
  rw [if_pos ⟨h3, by decide⟩]
  cases cs <;> rfl
/-- the last steps of a draw -/
def mixT : MS := (sSeq (sAsg (mOp dAdd (mOp dMulE (mOp dMod (mCB dInt (mCons (mVar 4) mNil)) (mC (.int 2147483477))) (mC (.int 50119))) (mOp dMulE (mOp dMulE (mC (.int 31181)) (mVar 3)) (mVar 3))) (gN 5))
    (sSeq (sAsg (mOp dMod (mCB dInt (mCons (mOp dAdd (mOp dAdd (mVar 5) (mOp dMulE (mC (.int 601)) (mVar 3))) (mC (.int 89))) mNil)) (mC (.int 2147483423))) (gN 5))
    (sSeq (sAsg (mOp dMod (mCB dInt (mCons (mOp dAdd (mOp dAdd (mOp dAdd (mOp dMulE (mVar 5) (mVar 5)) (mOp dMulE (mC (.int 43793)) (mVar 5))) (mOp dMulE (mC (.int 61)) (mVar 3))) (mC (.int 29))) mNil)) (mC (.int 2147483399))) (gN 5))
    (sSeq (sAsg (mOp dMod (mCB dInt (mCons (mOp dAdd (mOp dAdd (mOp dMulE (mVar 5) (mVar 5)) (mOp dMulE (mC (.int 29501)) (mVar 5))) (mVar 3)) mNil)) (mC (.int 2147483353))) (gN 5))
    (sRet (mOp dMod (mCB dInt (mCons (mOp dFd (mOp dMod (mCB dInt (mCons (mOp dMulE (mVar 5) (mOp dAdd (mVar 5) (mC (.int 47563)))) mNil)) (mC (.int 2147483323))) (mC (.int 64))) mNil)) (mVar 1)))))))
theorem d477 : decide ((2147483477 : Int) ≠ 0) = true := by decide
theorem d423 : decide ((2147483423 : Int) ≠ 0) = true := by decide
theorem d399 : decide ((2147483399 : Int) ≠ 0) = true := by decide
theorem d353 : decide ((2147483353 : Int) ≠ 0) = true := by decide
theorem d323 : decide ((2147483323 : Int) ≠ 0) = true := by decide
theorem d64 : decide ((64 : Int) ≠ 0 ∧ (64 : Int).natAbs.log2 < 9000) = true := by decide
theorem mix_ev {c i m x0 x1 x2 x3 x4 x5 : Int} {s : DN.PS} {y2 y5 : Sl} (h0 : c.fmod 2147483477 = x0) (q1 : mulOk x0 50119 = true) (q2 : mulOk 31181 i = true) (q3 : mulOk (31181 * i) i = true) (h1 : x0 * 50119 + 31181 * i * i = x1)
    (q4 : mulOk 601 i = true) (h2 : (x1 + 601 * i + 89).fmod 2147483423 = x2) (q5 : mulOk x2 x2 = true) (q6 : mulOk 43793 x2 = true) (q7 : mulOk 61 i = true) (h3 : (x2 * x2 + 43793 * x2 + 61 * i + 29).fmod 2147483399 = x3)
    (q8 : mulOk x3 x3 = true) (q9 : mulOk 29501 x3 = true) (h4 : (x3 * x3 + 29501 * x3 + i).fmod 2147483353 = x4) (q10 : mulOk x4 (x4 + 47563) = true) (h5 : ((x4 * (x4 + 47563)).fmod 2147483323).fdiv 64 = x5) (hm : decide (m ≠ 0) = true) :
    mixT [.val .pen, .val (.int m), y2, .val (.int i), .val (.int c), y5] s = .rt (.int (x5.fmod m)) s := by
  unfold mixT
  simp only [mDef, mInit, sSeq, sNext, sBreak, sCont, sDrop, sRet, sRetN, sAsg, sIf, sPar, sPar3, sRaise, sRaise0, sFldS, sOwnM, sRetO, sOwnL, sApp, DN.bnd, bndS, mVar, mC, mOp, mUn, DN.mB, mAnd, mOr, mNot, mAndV, mOrV, mNotV, mIf, mNil, mCons, mTup, mLst, mCB, mCall, mMeth, mMake, mFld, mFldO, gN, gsN, gsC, gT, o2I, o2C, u1I, dAdd, dSub, dMul, dMulE, dFd, dMod, dPow, dShr, dBand, dLt, dLe, dGt, dGe, dEq, dNe, scalD, eqD, dNeg, dGcd, dAbs, dMax2, dMin2, c1I, c2I, dInt, mTru, truD, dLen, mIsT, mIsO, kindD, dIsN, dNotN, DN.isNon, dIsB, mBits, List.getElem?_cons_zero, List.getElem?_cons_succ, List.set_cons_zero, List.set_cons_succ, List.map_cons, List.map_nil, List.replicate_succ, List.replicate_zero, List.cons_append, List.nil_append, List.append_nil, List.length_cons, List.length_nil, Option.bind_some, Option.bind_none, putD, List.lookup_cons, List.lookup_nil, if_true, if_false, Bool.false_eq_true, reduceIte, Bool.not_true, Bool.not_false, and_self, and_true, true_and, decide_true, decide_false, Int.reduceNeg, isPen, mPen1, mPen2, mPen3, sPen2, sPen3, sPenP, dIxL, dIxT, Nat.zero_add, Nat.reduceAdd, Nat.reduceLeDiff, Nat.reduceEqDiff, Nat.reduceLT, Nat.reduceLeDiff, reduceCtorEq, ite_true, ite_false, mYes, true_or, or_true, Bool.true_or, Bool.or_true, Bool.false_or, Bool.or_false, Bool.true_and, Bool.and_true, Bool.false_and, Bool.and_false, kOk, dOwnL, dOwnR, isLft, dNegO, dEqO, dNeO, boolR, mMeth, gT, gsN, gsC, tyIs, dStrO, mFmt, mJoin, joinD, eqD, scalD, nListOf, nRep, nLcR2, nLcT, nLcEn, mLstN, sOwnN, sIxS, sPop, mCatO, mNeOw, sLend, sForE, sForEn, sForR3, sForRv, sForR1, sForR2, sForL, sForT, dIxE, dSlE, dSlL, dTupOf, dDm, mIsT2, mSl, mPart, mNoP, mIxO, mLenO, sRel, DN.relS, dListOf, mCatL, mRepL, mStrB, mIsK, isK1, List.any_cons, List.any_nil, dIte, DN.isObj, mRevL, strsD, dStrI, dCat, d477, d423, d399, d353, d323, d64, h0, q1, q2, q3, h1, q4, h2, q5, q6, q7, h3, q8, q9, h4, q10, h5, hm]
theorem mix_ok {c i m : Int} {s : DN.PS} {y2 y5 : Sl} (i0 : 0 ≤ i) (i1 : i < 2 ^ 30) (hm : 0 < m) : ∃ z, mixT [.val .pen, .val (.int m), y2, .val (.int i), .val (.int c), y5] s = .rt (.int z) s ∧ 0 ≤ z ∧ z < m := by
  have f0 := fm_lt (a := c) (m := 2147483477) (by decide)
  obtain ⟨x0, h0⟩ : ∃ x, c.fmod 2147483477 = x := ⟨_, rfl⟩
  rw [h0] at f0
  obtain ⟨x1, h1⟩ : ∃ x, x0 * 50119 + 31181 * i * i = x := ⟨_, rfl⟩
  have f2 := fm_lt (a := x1 + 601 * i + 89) (m := 2147483423) (by decide)
  obtain ⟨x2, h2⟩ : ∃ x, (x1 + 601 * i + 89).fmod 2147483423 = x := ⟨_, rfl⟩
  rw [h2] at f2
  have f3 := fm_lt (a := x2 * x2 + 43793 * x2 + 61 * i + 29) (m := 2147483399) (by decide)
  obtain ⟨x3, h3⟩ : ∃ x, (x2 * x2 + 43793 * x2 + 61 * i + 29).fmod 2147483399 = x := ⟨_, rfl⟩
  rw [h3] at f3
  have f4 := fm_lt (a := x3 * x3 + 29501 * x3 + i) (m := 2147483353) (by decide)
  obtain ⟨x4, h4⟩ : ∃ x, (x3 * x3 + 29501 * x3 + i).fmod 2147483353 = x := ⟨_, rfl⟩
  rw [h4] at f4
  exact ⟨_, mix_ev h0 (mulOk_r (by decide) (by decide)) (mulOk_l (by decide) (by decide)) (mulOk_r (by omega) (by omega)) h1 (mulOk_l (by decide) (by decide)) h2 (mulOk_r (by omega) (by omega)) (mulOk_l (by decide) (by decide)) (mulOk_l (by decide) (by decide)) h3
    (mulOk_r (by omega) (by omega)) (mulOk_l (by decide) (by decide)) h4 (mulOk_r (by omega) (by omega)) rfl (decide_eq_true (by omega)), (fm_lt hm).1, (fm_lt hm).2⟩
theorem draw_eq : M_l_draw = mDef 4 (sSeq (sIf (mB (mOp dGt (mPen3 0) (mC (.int 0)))) (sSeq (sAsg (mOp dMod (mCB dInt (mCons (mPen3 0) mNil)) (mVar 1)) (gN 2))
    (sSeq (sPen3 0 (mOp dFd (mPen3 0) (mVar 1)))
    (sRet (mVar 2)))) sNext)
    (sSeq (sAsg (mPen2 0) (gN 3))
    (sSeq (sPen2 0 (mOp dAdd (mVar 3) (mC (.int 1))))
    (sSeq (sAsg (mOp dAdd (mOp dMulE (mC (.int 83)) (mVar 3)) (mC (.int 59))) (gN 4))
    (sSeq (sIf (mB (mOp (dEqD true) (mPen1 0) (mLst mNil))) (sAsg (mOp dIxL (mPen1 0) (mOp dMod (mCB dInt (mCons (mVar 3) mNil)) (mCB dLen (mCons (mPen1 0) mNil)))) (gN 4)) sNext)
    (sSeq (sIf (mAnd (mB (mOp dLt (mVar 3) (mCB dLen (mCons (mPen1 0) mNil)))) (mB (mOp dGe (mCB dAbs (mCons (mVar 4) mNil)) (mOp dPow (mC (.int 10)) (mC (.int 18)))))) (sSeq (sPen3 0 (mOp dFd (mOp dSub (mCB dAbs (mCons (mVar 4) mNil)) (mOp dPow (mC (.int 10)) (mC (.int 18)))) (mVar 1)))
    (sRet (mOp dMod (mCB dInt (mCons (mOp dSub (mCB dAbs (mCons (mVar 4) mNil)) (mOp dPow (mC (.int 10)) (mC (.int 18)))) mNil)) (mVar 1)))) sNext)
    mixT)))))) := rfl
section
variable {cs : List Int} {i r m c z : Int} {a : Addr}
theorem draw_ev1 (hr : decide (r > 0) = true) (hm : decide (m ≠ 0) = true) (hf : decide (m ≠ 0 ∧ m.natAbs.log2 < 9000) = true) : M_l_draw [.pen, .int m] ⟨cs, i, r, a⟩ = .ok (.int (r.fmod m)) ⟨cs, i, r.fdiv m, a⟩ := by
  rw [draw_eq]
  simp only [mDef, mInit, sSeq, sNext, sBreak, sCont, sDrop, sRet, sRetN, sAsg, sIf, sPar, sPar3, sRaise, sRaise0, sFldS, sOwnM, sRetO, sOwnL, sApp, DN.bnd, bndS, mVar, mC, mOp, mUn, DN.mB, mAnd, mOr, mNot, mAndV, mOrV, mNotV, mIf, mNil, mCons, mTup, mLst, mCB, mCall, mMeth, mMake, mFld, mFldO, gN, gsN, gsC, gT, o2I, o2C, u1I, dAdd, dSub, dMul, dMulE, dFd, dMod, dPow, dShr, dBand, dLt, dLe, dGt, dGe, dEq, dNe, scalD, eqD, dNeg, dGcd, dAbs, dMax2, dMin2, c1I, c2I, dInt, mTru, truD, dLen, mIsT, mIsO, kindD, dIsN, dNotN, DN.isNon, dIsB, mBits, List.getElem?_cons_zero, List.getElem?_cons_succ, List.set_cons_zero, List.set_cons_succ, List.map_cons, List.map_nil, List.replicate_succ, List.replicate_zero, List.cons_append, List.nil_append, List.append_nil, List.length_cons, List.length_nil, Option.bind_some, Option.bind_none, putD, List.lookup_cons, List.lookup_nil, if_true, if_false, Bool.false_eq_true, reduceIte, Bool.not_true, Bool.not_false, and_self, and_true, true_and, decide_true, decide_false, Int.reduceNeg, isPen, mPen1, mPen2, mPen3, sPen2, sPen3, sPenP, dIxL, dIxT, Nat.zero_add, Nat.reduceAdd, Nat.reduceLeDiff, Nat.reduceEqDiff, Nat.reduceLT, Nat.reduceLeDiff, reduceCtorEq, ite_true, ite_false, mYes, true_or, or_true, Bool.true_or, Bool.or_true, Bool.false_or, Bool.or_false, Bool.true_and, Bool.and_true, Bool.false_and, Bool.and_false, kOk, dOwnL, dOwnR, isLft, dNegO, dEqO, dNeO, boolR, mMeth, gT, gsN, gsC, tyIs, dStrO, mFmt, mJoin, joinD, eqD, scalD, nListOf, nRep, nLcR2, nLcT, nLcEn, mLstN, sOwnN, sIxS, sPop, mCatO, mNeOw, sLend, sForE, sForEn, sForR3, sForRv, sForR1, sForR2, sForL, sForT, dIxE, dSlE, dSlL, dTupOf, dDm, mIsT2, mSl, mPart, mNoP, mIxO, mLenO, sRel, DN.relS, dListOf, mCatL, mRepL, mStrB, mIsK, isK1, List.any_cons, List.any_nil, dIte, DN.isObj, mRevL, strsD, dStrI, dCat, hr, hm, hf]
theorem draw_ev0 (hr : decide (r > 0) = false) (hi : (0 ≤ i + 1 ∧ i + 1 < 2 ^ 40) = True) (q1 : mulOk 83 i = true) (he : decide (([] : List Int) ≠ []) = false) (hlt : decide (i < 0) = false)
    (hx : mixT [.val .pen, .val (.int m), .emp, .val (.int i), .val (.int (83 * i + 59)), .emp] ⟨[], i + 1, r, a⟩ = .rt (.int z) ⟨[], i + 1, r, a⟩) : M_l_draw [.pen, .int m] ⟨[], i, r, a⟩ = .ok (.int z) ⟨[], i + 1, r, a⟩ := by
  have n0 := ne_nil (cs := []) (s := ⟨[], i + 1, r, a⟩)
  rw [List.map_nil] at n0
  rw [draw_eq]
  simp only [mDef, mInit, sSeq, sNext, sBreak, sCont, sDrop, sRet, sRetN, sAsg, sIf, sPar, sPar3, sRaise, sRaise0, sFldS, sOwnM, sRetO, sOwnL, sApp, DN.bnd, bndS, mVar, mC, mOp, mUn, DN.mB, mAnd, mOr, mNot, mAndV, mOrV, mNotV, mIf, mNil, mCons, mTup, mLst, mCB, mCall, mMeth, mMake, mFld, mFldO, gN, gsN, gsC, gT, o2I, o2C, u1I, dAdd, dSub, dMul, dMulE, dFd, dMod, dPow, dShr, dBand, dLt, dLe, dGt, dGe, dEq, dNe, scalD, eqD, dNeg, dGcd, dAbs, dMax2, dMin2, c1I, c2I, dInt, mTru, truD, dLen, mIsT, mIsO, kindD, dIsN, dNotN, DN.isNon, dIsB, mBits, List.getElem?_cons_zero, List.getElem?_cons_succ, List.set_cons_zero, List.set_cons_succ, List.map_cons, List.map_nil, List.replicate_succ, List.replicate_zero, List.cons_append, List.nil_append, List.append_nil, List.length_cons, List.length_nil, Option.bind_some, Option.bind_none, putD, List.lookup_cons, List.lookup_nil, if_true, if_false, Bool.false_eq_true, reduceIte, Bool.not_true, Bool.not_false, and_self, and_true, true_and, decide_true, decide_false, Int.reduceNeg, isPen, mPen1, mPen2, mPen3, sPen2, sPen3, sPenP, dIxL, dIxT, Nat.zero_add, Nat.reduceAdd, Nat.reduceLeDiff, Nat.reduceEqDiff, Nat.reduceLT, Nat.reduceLeDiff, reduceCtorEq, ite_true, ite_false, mYes, true_or, or_true, Bool.true_or, Bool.or_true, Bool.false_or, Bool.or_false, Bool.true_and, Bool.and_true, Bool.false_and, Bool.and_false, kOk, dOwnL, dOwnR, isLft, dNegO, dEqO, dNeO, boolR, mMeth, gT, gsN, gsC, tyIs, dStrO, mFmt, mJoin, joinD, eqD, scalD, nListOf, nRep, nLcR2, nLcT, nLcEn, mLstN, sOwnN, sIxS, sPop, mCatO, mNeOw, sLend, sForE, sForEn, sForR3, sForRv, sForR1, sForR2, sForL, sForT, dIxE, dSlE, dSlL, dTupOf, dDm, mIsT2, mSl, mPart, mNoP, mIxO, mLenO, sRel, DN.relS, dListOf, mCatL, mRepL, mStrB, mIsK, isK1, List.any_cons, List.any_nil, dIte, DN.isObj, mRevL, strsD, dStrI, dCat, hr, hi, q1, n0, he, Int.natCast_zero, Int.ofNat_zero, hlt, hx]
theorem draw_ev2 (hr : decide (r > 0) = false) (hi : (0 ≤ i + 1 ∧ i + 1 < 2 ^ 40) = True) (q1 : mulOk 83 i = true) (he : decide (cs ≠ []) = true) (hs : decide ((cs.length : Int) ≠ 0) = true) (hz : L2.atI (cs.map D.int) (i.fmod cs.length) = some (.int c)) (hlt : decide (i < (cs.length : Int)) = false)
    (hx : mixT [.val .pen, .val (.int m), .emp, .val (.int i), .val (.int c), .emp] ⟨cs, i + 1, r, a⟩ = .rt (.int z) ⟨cs, i + 1, r, a⟩) : M_l_draw [.pen, .int m] ⟨cs, i, r, a⟩ = .ok (.int z) ⟨cs, i + 1, r, a⟩ := by
  have n0 := ne_nil (cs := cs) (s := ⟨cs, i + 1, r, a⟩)
  rw [draw_eq]
  simp only [mDef, mInit, sSeq, sNext, sBreak, sCont, sDrop, sRet, sRetN, sAsg, sIf, sPar, sPar3, sRaise, sRaise0, sFldS, sOwnM, sRetO, sOwnL, sApp, DN.bnd, bndS, mVar, mC, mOp, mUn, DN.mB, mAnd, mOr, mNot, mAndV, mOrV, mNotV, mIf, mNil, mCons, mTup, mLst, mCB, mCall, mMeth, mMake, mFld, mFldO, gN, gsN, gsC, gT, o2I, o2C, u1I, dAdd, dSub, dMul, dMulE, dFd, dMod, dPow, dShr, dBand, dLt, dLe, dGt, dGe, dEq, dNe, scalD, eqD, dNeg, dGcd, dAbs, dMax2, dMin2, c1I, c2I, dInt, mTru, truD, dLen, mIsT, mIsO, kindD, dIsN, dNotN, DN.isNon, dIsB, mBits, List.getElem?_cons_zero, List.getElem?_cons_succ, List.set_cons_zero, List.set_cons_succ, List.map_cons, List.map_nil, List.replicate_succ, List.replicate_zero, List.cons_append, List.nil_append, List.append_nil, List.length_cons, List.length_nil, Option.bind_some, Option.bind_none, putD, List.lookup_cons, List.lookup_nil, if_true, if_false, Bool.false_eq_true, reduceIte, Bool.not_true, Bool.not_false, and_self, and_true, true_and, decide_true, decide_false, Int.reduceNeg, isPen, mPen1, mPen2, mPen3, sPen2, sPen3, sPenP, dIxL, dIxT, Nat.zero_add, Nat.reduceAdd, Nat.reduceLeDiff, Nat.reduceEqDiff, Nat.reduceLT, Nat.reduceLeDiff, reduceCtorEq, ite_true, ite_false, mYes, true_or, or_true, Bool.true_or, Bool.or_true, Bool.false_or, Bool.or_false, Bool.true_and, Bool.and_true, Bool.false_and, Bool.and_false, kOk, dOwnL, dOwnR, isLft, dNegO, dEqO, dNeO, boolR, mMeth, gT, gsN, gsC, tyIs, dStrO, mFmt, mJoin, joinD, eqD, scalD, nListOf, nRep, nLcR2, nLcT, nLcEn, mLstN, sOwnN, sIxS, sPop, mCatO, mNeOw, sLend, sForE, sForEn, sForR3, sForRv, sForR1, sForR2, sForL, sForT, dIxE, dSlE, dSlL, dTupOf, dDm, mIsT2, mSl, mPart, mNoP, mIxO, mLenO, sRel, DN.relS, dListOf, mCatL, mRepL, mStrB, mIsK, isK1, List.any_cons, List.any_nil, dIte, DN.isObj, mRevL, strsD, dStrI, dCat, hr, hi, q1, n0, he, List.length_map, hs, hz, hlt, hx]
theorem draw_ev3 (hr : decide (r > 0) = false) (hi : (0 ≤ i + 1 ∧ i + 1 < 2 ^ 40) = True) (q1 : mulOk 83 i = true) (he : decide (cs ≠ []) = true) (hs : decide ((cs.length : Int) ≠ 0) = true) (hz : L2.atI (cs.map D.int) (i.fmod cs.length) = some (.int c)) (hlt : decide (i < (cs.length : Int)) = true) (hb : decide ((if c < 0 then -c else c) ≥ (10 : Int) ^ Int.toNat 18) = false)
    (hx : mixT [.val .pen, .val (.int m), .emp, .val (.int i), .val (.int c), .emp] ⟨cs, i + 1, r, a⟩ = .rt (.int z) ⟨cs, i + 1, r, a⟩) : M_l_draw [.pen, .int m] ⟨cs, i, r, a⟩ = .ok (.int z) ⟨cs, i + 1, r, a⟩ := by
  have n0 := ne_nil (cs := cs) (s := ⟨cs, i + 1, r, a⟩)
  rw [draw_eq]
  simp only [mDef, mInit, sSeq, sNext, sBreak, sCont, sDrop, sRet, sRetN, sAsg, sIf, sPar, sPar3, sRaise, sRaise0, sFldS, sOwnM, sRetO, sOwnL, sApp, DN.bnd, bndS, mVar, mC, mOp, mUn, DN.mB, mAnd, mOr, mNot, mAndV, mOrV, mNotV, mIf, mNil, mCons, mTup, mLst, mCB, mCall, mMeth, mMake, mFld, mFldO, gN, gsN, gsC, gT, o2I, o2C, u1I, dAdd, dSub, dMul, dMulE, dFd, dMod, dPow, dShr, dBand, dLt, dLe, dGt, dGe, dEq, dNe, scalD, eqD, dNeg, dGcd, dAbs, dMax2, dMin2, c1I, c2I, dInt, mTru, truD, dLen, mIsT, mIsO, kindD, dIsN, dNotN, DN.isNon, dIsB, mBits, List.getElem?_cons_zero, List.getElem?_cons_succ, List.set_cons_zero, List.set_cons_succ, List.map_cons, List.map_nil, List.replicate_succ, List.replicate_zero, List.cons_append, List.nil_append, List.append_nil, List.length_cons, List.length_nil, Option.bind_some, Option.bind_none, putD, List.lookup_cons, List.lookup_nil, if_true, if_false, Bool.false_eq_true, reduceIte, Bool.not_true, Bool.not_false, and_self, and_true, true_and, decide_true, decide_false, Int.reduceNeg, isPen, mPen1, mPen2, mPen3, sPen2, sPen3, sPenP, dIxL, dIxT, Nat.zero_add, Nat.reduceAdd, Nat.reduceLeDiff, Nat.reduceEqDiff, Nat.reduceLT, Nat.reduceLeDiff, reduceCtorEq, ite_true, ite_false, mYes, true_or, or_true, Bool.true_or, Bool.or_true, Bool.false_or, Bool.or_false, Bool.true_and, Bool.and_true, Bool.false_and, Bool.and_false, kOk, dOwnL, dOwnR, isLft, dNegO, dEqO, dNeO, boolR, mMeth, gT, gsN, gsC, tyIs, dStrO, mFmt, mJoin, joinD, eqD, scalD, nListOf, nRep, nLcR2, nLcT, nLcEn, mLstN, sOwnN, sIxS, sPop, mCatO, mNeOw, sLend, sForE, sForEn, sForR3, sForRv, sForR1, sForR2, sForL, sForT, dIxE, dSlE, dSlL, dTupOf, dDm, mIsT2, mSl, mPart, mNoP, mIxO, mLenO, sRel, DN.relS, dListOf, mCatL, mRepL, mStrB, mIsK, isK1, List.any_cons, List.any_nil, dIte, DN.isObj, mRevL, strsD, dStrI, dCat, hr, hi, q1, n0, he, List.length_map, hs, hz, hlt, p18, hb, hx]
theorem draw_ev4 (hr : decide (r > 0) = false) (hi : (0 ≤ i + 1 ∧ i + 1 < 2 ^ 40) = True) (q1 : mulOk 83 i = true) (he : decide (cs ≠ []) = true) (hs : decide ((cs.length : Int) ≠ 0) = true) (hz : L2.atI (cs.map D.int) (i.fmod cs.length) = some (.int c)) (hlt : decide (i < (cs.length : Int)) = true) (hb : decide ((if c < 0 then -c else c) ≥ (10 : Int) ^ Int.toNat 18) = true)
    (hm : decide (m ≠ 0) = true) (hf : decide (m ≠ 0 ∧ m.natAbs.log2 < 9000) = true) : M_l_draw [.pen, .int m] ⟨cs, i, r, a⟩ = .ok (.int (((if c < 0 then -c else c) - (10 : Int) ^ Int.toNat 18).fmod m)) ⟨cs, i + 1, ((if c < 0 then -c else c) - (10 : Int) ^ Int.toNat 18).fdiv m, a⟩ := by
  have n0 := ne_nil (cs := cs) (s := ⟨cs, i + 1, r, a⟩)
  rw [draw_eq]
  simp only [mDef, mInit, sSeq, sNext, sBreak, sCont, sDrop, sRet, sRetN, sAsg, sIf, sPar, sPar3, sRaise, sRaise0, sFldS, sOwnM, sRetO, sOwnL, sApp, DN.bnd, bndS, mVar, mC, mOp, mUn, DN.mB, mAnd, mOr, mNot, mAndV, mOrV, mNotV, mIf, mNil, mCons, mTup, mLst, mCB, mCall, mMeth, mMake, mFld, mFldO, gN, gsN, gsC, gT, o2I, o2C, u1I, dAdd, dSub, dMul, dMulE, dFd, dMod, dPow, dShr, dBand, dLt, dLe, dGt, dGe, dEq, dNe, scalD, eqD, dNeg, dGcd, dAbs, dMax2, dMin2, c1I, c2I, dInt, mTru, truD, dLen, mIsT, mIsO, kindD, dIsN, dNotN, DN.isNon, dIsB, mBits, List.getElem?_cons_zero, List.getElem?_cons_succ, List.set_cons_zero, List.set_cons_succ, List.map_cons, List.map_nil, List.replicate_succ, List.replicate_zero, List.cons_append, List.nil_append, List.append_nil, List.length_cons, List.length_nil, Option.bind_some, Option.bind_none, putD, List.lookup_cons, List.lookup_nil, if_true, if_false, Bool.false_eq_true, reduceIte, Bool.not_true, Bool.not_false, and_self, and_true, true_and, decide_true, decide_false, Int.reduceNeg, isPen, mPen1, mPen2, mPen3, sPen2, sPen3, sPenP, dIxL, dIxT, Nat.zero_add, Nat.reduceAdd, Nat.reduceLeDiff, Nat.reduceEqDiff, Nat.reduceLT, Nat.reduceLeDiff, reduceCtorEq, ite_true, ite_false, mYes, true_or, or_true, Bool.true_or, Bool.or_true, Bool.false_or, Bool.or_false, Bool.true_and, Bool.and_true, Bool.false_and, Bool.and_false, kOk, dOwnL, dOwnR, isLft, dNegO, dEqO, dNeO, boolR, mMeth, gT, gsN, gsC, tyIs, dStrO, mFmt, mJoin, joinD, eqD, scalD, nListOf, nRep, nLcR2, nLcT, nLcEn, mLstN, sOwnN, sIxS, sPop, mCatO, mNeOw, sLend, sForE, sForEn, sForR3, sForRv, sForR1, sForR2, sForL, sForT, dIxE, dSlE, dSlL, dTupOf, dDm, mIsT2, mSl, mPart, mNoP, mIxO, mLenO, sRel, DN.relS, dListOf, mCatL, mRepL, mStrB, mIsK, isK1, List.any_cons, List.any_nil, dIte, DN.isObj, mRevL, strsD, dStrI, dCat, hr, hi, q1, n0, he, List.length_map, hs, hz, hlt, p18, hb, hm, hf]
end
theorem draw_ok {n m : Int} {s : DN.PS} (g : Good n s) (hn : n < 2 ^ 29) (h0 : 0 < m) (h1 : m.natAbs.log2 < 9000) : ∃ z s', M_l_draw [.pen, .int m] s = .ok (.int z) s' ∧ 0 ≤ z ∧ z < m ∧ Good (n + 1) s' := by
  obtain ⟨cs, i, r, c0⟩ := s
  obtain ⟨hl, lo, hi⟩ := g
  dsimp only at hl lo hi
  have hm : decide (m ≠ 0) = true := decide_eq_true (by omega)
  have hf : decide (m ≠ 0 ∧ m.natAbs.log2 < 9000) = true := decide_eq_true ⟨by omega, h1⟩
  have fin : ∀ r : Int, Good (n + 1) ⟨cs, i, r, c0⟩ := fun r => ⟨hl, lo, by show i ≤ n + 1; omega⟩
  have fin1 : ∀ r : Int, Good (n + 1) ⟨cs, i + 1, r, c0⟩ := fun r => ⟨hl, by show 0 ≤ i + 1; omega, by show i + 1 ≤ n + 1; omega⟩
  by_cases hr : r > 0
  · exact ⟨_, _, draw_ev1 (decide_eq_true hr) hm hf, (fm_lt h0).1, (fm_lt h0).2, fin _⟩
  · have hr' := decide_eq_false hr
    have hi1 : (0 ≤ i + 1 ∧ i + 1 < 2 ^ 40) = True := eq_true (by omega)
    have q1 : mulOk 83 i = true := mulOk_l (by decide) (by decide)
    cases hcs : cs with
    | nil =>
      subst hcs
      obtain ⟨z, hx, z0, z1⟩ := mix_ok (c := 83 * i + 59) (i := i) (m := m) (s := ⟨[], i + 1, r, c0⟩) (y2 := .emp) (y5 := .emp) lo (by omega) h0
      exact ⟨z, _, draw_ev0 hr' hi1 q1 rfl (decide_eq_false (by omega)) hx, z0, z1, fin1 _⟩
    | cons b bs =>
      have hne : cs ≠ [] := by rw [hcs]; simp
      have hpos : 0 < (cs.length : Int) := by rw [hcs]; simp
      rw [← hcs]
      obtain ⟨k0, k1⟩ := fm_lt (a := i) hpos
      obtain ⟨c, hz⟩ := at_intsD k0 k1
      obtain ⟨z, hx, z0, z1⟩ := mix_ok (c := c) (i := i) (m := m) (s := ⟨cs, i + 1, r, c0⟩) (y2 := .emp) (y5 := .emp) lo (by omega) h0
      have he := decide_eq_true hne
      have hs : decide ((cs.length : Int) ≠ 0) = true := decide_eq_true (by omega)
      by_cases hlt : i < (cs.length : Int)
      · by_cases hb : (if c < 0 then -c else c) ≥ (10 : Int) ^ Int.toNat 18
        · exact ⟨_, _, draw_ev4 hr' hi1 q1 he hs hz (decide_eq_true hlt) (decide_eq_true hb) hm hf, (fm_lt h0).1, (fm_lt h0).2, fin1 _⟩
        · exact ⟨_, _, draw_ev3 hr' hi1 q1 he hs hz (decide_eq_true hlt) (decide_eq_false hb) hx, z0, z1, fin1 _⟩
      · exact ⟨_, _, draw_ev2 hr' hi1 q1 he hs hz (decide_eq_false hlt) hx, z0, z1, fin1 _⟩
theorem small_log {m : Int} (h : 0 < m) (h2 : m < 100000) : m.natAbs.log2 < 9000 := by
  have : m.natAbs ≠ 0 := by omega
  have h3 : m.natAbs < 2 ^ 20 := by omega
  exact Nat.lt_trans ((Nat.log2_lt this).mpr h3) (by decide)
theorem at_ok {ds : List D} {k : Int} (h0 : 0 ≤ k) (h1 : k < ds.length) : ∃ d, L2.atI ds k = some d ∧ ds[k.toNat]? = some d := by
  have hk : k.toNat < ds.length := by omega
  refine ⟨ds[k.toNat], ?_, List.getElem?_eq_getElem hk⟩
  unfold atI ixN
  rw [if_pos h0, if_pos h1, Option.bind_some, List.getElem?_eq_getElem hk]
theorem pick_ok {n : Int} {s : DN.PS} {ds : List D} (g : Good n s) (hn : n < 2 ^ 29) (h : ds ≠ []) (h2 : ds.length < 1000) : ∃ d s', M_l_pick [.pen, .lst ds] s = .ok d s' ∧ d ∈ ds ∧ Good (n + 1) s' := by
  have hp : 0 < ds.length := List.length_pos_iff.mpr h
  obtain ⟨z, s', e, z0, z1, g'⟩ := draw_ok (m := (ds.length : Int)) g hn (by omega) (small_log (by omega) (by omega))
  obtain ⟨d, hd, hm⟩ := at_ok z0 z1
  refine ⟨d, s', ?_, List.mem_of_getElem? hm, g'⟩
  unfold M_l_pick
  simp only [mDef, mInit, sSeq, sNext, sBreak, sCont, sDrop, sRet, sRetN, sAsg, sIf, sPar, sPar3, sRaise, sRaise0, sFldS, sOwnM, sRetO, sOwnL, sApp, DN.bnd, bndS, mVar, mC, mOp, mUn, DN.mB, mAnd, mOr, mNot, mAndV, mOrV, mNotV, mIf, mNil, mCons, mTup, mLst, mCB, mCall, mMeth, mMake, mFld, mFldO, gN, gsN, gsC, gT, o2I, o2C, u1I, dAdd, dSub, dMul, dMulE, dFd, dMod, dPow, dShr, dBand, dLt, dLe, dGt, dGe, dEq, dNe, scalD, eqD, dNeg, dGcd, dAbs, dMax2, dMin2, c1I, c2I, dInt, mTru, truD, dLen, mIsT, mIsO, kindD, dIsN, dNotN, DN.isNon, dIsB, mBits, List.getElem?_cons_zero, List.getElem?_cons_succ, List.set_cons_zero, List.set_cons_succ, List.map_cons, List.map_nil, List.replicate_succ, List.replicate_zero, List.cons_append, List.nil_append, List.append_nil, List.length_cons, List.length_nil, Option.bind_some, Option.bind_none, putD, List.lookup_cons, List.lookup_nil, if_true, if_false, Bool.false_eq_true, reduceIte, Bool.not_true, Bool.not_false, and_self, and_true, true_and, decide_true, decide_false, Int.reduceNeg, isPen, mPen1, mPen2, mPen3, sPen2, sPen3, sPenP, dIxL, dIxT, Nat.zero_add, Nat.reduceAdd, Nat.reduceLeDiff, Nat.reduceEqDiff, Nat.reduceLT, Nat.reduceLeDiff, reduceCtorEq, ite_true, ite_false, mYes, true_or, or_true, Bool.true_or, Bool.or_true, Bool.false_or, Bool.or_false, Bool.true_and, Bool.and_true, Bool.false_and, Bool.and_false, kOk, dOwnL, dOwnR, isLft, dNegO, dEqO, dNeO, boolR, mMeth, gT, gsN, gsC, tyIs, dStrO, mFmt, mJoin, joinD, eqD, scalD, nListOf, nRep, nLcR2, nLcT, nLcEn, mLstN, sOwnN, sIxS, sPop, mCatO, mNeOw, sLend, sForE, sForEn, sForR3, sForRv, sForR1, sForR2, sForL, sForT, dIxE, dSlE, dSlL, dTupOf, dDm, mIsT2, mSl, mPart, mNoP, mIxO, mLenO, sRel, DN.relS, dListOf, mCatL, mRepL, mStrB, mIsK, isK1, List.any_cons, List.any_nil, dIte, DN.isObj, mRevL, strsD, dStrI, dCat, e, hd]
end K43

set_option Elab.async false
set_option linter.all false
set_option maxRecDepth 100000
set_option maxHeartbeats 4000000
/-! Mirrors evaluated step by step. -/
namespace EVL
open PySem PySem.Spec PyProof.Rows L2 Evl LamX TX EV2 DN
section
variable {s s1 s2 s3 : DN.PS} {τ τ1 : Sto} {a b e : ME} {r : MA} {d x y z : D} {ds : List D} {t u : MT} {P : List (Str × D)} {mf : MF}
theorem var {i : Nat} (h : τ[i]? = some (.val d)) : mVar i τ s = .ok d s := by unfold mVar; rw [h]
theorem len {l : List D} {n : Nat} (h : Nat.ble l.length n = true) : l.length ≤ n := Nat.le_of_ble_eq_true h
theorem nil : mNil τ s = .ok [] s := rfl
theorem cons (h : e τ s = .ok d s1) (h2 : r τ s1 = .ok ds s2) : mCons e r τ s = .ok (d :: ds) s2 := by
  unfold mCons
  rw [h]
  dsimp only [DN.bnd]
  rw [h2]
theorem op {f : D → D → M D} (h1 : a τ s = .ok x s1) (h2 : b τ s1 = .ok y s2) (h3 : f x y s2 = .ok z s3) : mOp f a b τ s = .ok z s3 := by
  unfold mOp
  rw [h1]
  dsimp only [DN.bnd]
  rw [h2]
  exact h3
theorem un {f : D → M D} (h1 : a τ s = .ok x s1) (h2 : f x s1 = .ok z s2) : mUn f a τ s = .ok z s2 := by
  unfold mUn
  rw [h1]
  exact h2
theorem ownL {c : Nat} {y : D} (hk : kOk c [] y = true) (h : mf [.obj c P, y] s = .ok z s1) : dOwnL c mf (.obj c P) y s = .ok z s1 := by
  unfold dOwnL
  dsimp only
  rw [if_pos ⟨rfl, hk⟩]
  exact h
theorem ownR {c : Nat} (hk : isLft x = true) (h : mf [.obj c P, x] s = .ok z s1) : dOwnR c mf x (.obj c P) s = .ok z s1 := by
  unfold dOwnR
  dsimp only
  rw [if_pos ⟨rfl, hk⟩]
  exact h
theorem negO {c : Nat} (h : mf [.obj c P] s = .ok z s1) : dNegO c mf (.obj c P) s = .ok z s1 := by
  unfold dNegO
  dsimp only
  rw [if_pos rfl]
  exact h
theorem eqO {c : Nat} {v : Bool} (hk : kOk c [] y = true) (h : mf [.obj c P, y] s = .ok (.bl v) s1) : dEqO c [] mf (.obj c P) y s = .ok (.bl v) s1 := by
  unfold dEqO
  dsimp only
  rw [if_pos ⟨rfl, hk⟩]
  unfold boolR
  rw [h]
  rfl
theorem neO {c : Nat} {v : Bool} {Q : List (Str × D)} (h : mf [.obj c P, .obj c Q] s = .ok (.bl v) s1) : dNeO c mf (.obj c P) (.obj c Q) s = .ok (.bl (!v)) s1 := by
  unfold dNeO
  dsimp only
  rw [if_pos ⟨rfl, rfl⟩]
  unfold boolR
  rw [h]
  rfl
theorem callR {n : Nat} {R : Res D} (h : r τ s = .ok ds s1) (hn : ds.length = n) (h2 : mf ds s1 = R) : mCall n mf [] r τ s = R := by
  unfold mCall
  rw [h]
  dsimp only [DN.bnd]
  rw [List.append_nil, if_pos hn]
  exact h2
theorem call {n : Nat} (h : r τ s = .ok ds s1) (hn : ds.length = n) (h2 : mf ds s1 = .ok z s2) : mCall n mf [] r τ s = .ok z s2 := callR h hn h2
theorem make {c n : Nat} {dd : List D} (h : r τ s = .ok ds s1) (hn : (ds ++ dd).length = n) (h2 : mf (ds ++ dd) s1 = .ok (.obj c P) s2) : mMake c n mf dd r τ s = .ok (.obj c P) s2 := by
  unfold mMake
  rw [h]
  dsimp only [DN.bnd]
  rw [if_pos hn, h2]
  dsimp only
  rw [if_pos rfl]
theorem methR {c n : Nat} {m : Str} {R : Res D} (h : a τ s = .ok (.obj c P) s1) (hl : P.lookup m = none) (h1 : r τ s1 = .ok ds s2) (hn : ds.length + 1 = n) (h2 : mf (.obj c P :: ds) s2 = R) : mMeth c m n mf [] a r τ s = R := by
  unfold mMeth
  rw [h]
  dsimp only [DN.bnd]
  rw [if_pos ⟨rfl, hl⟩, h1]
  dsimp only
  rw [List.append_nil, if_pos hn]
  exact h2
theorem meth {c n : Nat} {m : Str} (h : a τ s = .ok (.obj c P) s1) (hl : P.lookup m = none) (h1 : r τ s1 = .ok ds s2) (hn : ds.length + 1 = n) (h2 : mf (.obj c P :: ds) s2 = .ok z s3) : mMeth c m n mf [] a r τ s = .ok z s3 := methR h hl h1 hn h2
theorem tup (h : r τ s = .ok ds s1) (hl : ds.length ≤ 1000) : mTup r τ s = .ok (.tup ds) s1 := by
  unfold mTup
  rw [h]
  dsimp only [DN.bnd]
  rw [if_pos (Nat.le_trans hl (by decide))]
theorem lst (h : r τ s = .ok ds s1) (hl : ds.length ≤ 1000) : mLst r τ s = .ok (.lst ds) s1 := by
  unfold mLst
  rw [h]
  dsimp only [DN.bnd]
  rw [if_pos (Nat.le_trans hl (by decide))]
theorem cb {f : List D → M D} (h : r τ s = .ok ds s1) (h2 : f ds s1 = .ok z s2) : mCB f r τ s = .ok z s2 := by
  unfold mCB
  rw [h]
  exact h2
theorem catL {es : List D} (h1 : a τ s = .ok (.lst ds) s1) (h2 : b τ s1 = .ok (.lst es) s2) (hl : ds.length + es.length ≤ 1000) : mCatL a b τ s = .ok (.lst (ds ++ es)) s2 := by
  unfold mCatL
  rw [h1]
  dsimp only [DN.bnd]
  rw [h2]
  dsimp only
  rw [if_pos (Nat.le_trans hl (by decide))]
theorem repL {k : Nat} {K : Int} (h1 : a τ s = .ok (.lst ds) s1) (h2 : b τ s1 = .ok (.int K) s2) (hK : K = (k : Int)) (hk : k ≤ 1000) (hl : ds.length ≤ 10) : mRepL a b τ s = .ok (.lst (DN.repL ds k)) s2 := by
  unfold mRepL
  rw [h1]
  dsimp only [DN.bnd]
  rw [h2]
  dsimp only
  have ht : K.toNat = k := by omega
  rw [ht, if_pos ⟨by omega, by omega, Nat.le_trans (Nat.mul_le_mul hl hk) (by decide)⟩]
/-! ### tests -/
variable {v w : Bool}
theorem tB (h : e τ s = .ok (.bl v) s1) : mB e τ s = .ok v s1 := by
  unfold mB
  rw [h]
  rfl
theorem tNot (h : t τ s = .ok v s1) : mNot t τ s = .ok (!v) s1 := by
  unfold mNot
  rw [h]
  rfl
theorem tOr_f (h : t τ s = .ok false s1) (h2 : u τ s1 = .ok w s2) : mOr t u τ s = .ok w s2 := by
  unfold mOr
  rw [h]
  exact h2
theorem tAnd_f (h : t τ s = .ok false s1) : mAnd t u τ s = .ok false s1 := by
  unfold mAnd
  rw [h]
  rfl
theorem tAnd_t (h : t τ s = .ok true s1) (h2 : u τ s1 = .ok w s2) : mAnd t u τ s = .ok w s2 := by
  unfold mAnd
  rw [h]
  exact h2
theorem andV_t (h : a τ s = .ok (.bl true) s1) (h2 : b τ s1 = .ok z s2) : mAndV a b τ s = .ok z s2 := by
  unfold mAndV
  rw [h]
  exact h2
/-! ### statements -/
variable {A B : MS} {R : RS}
theorem seq (h : A τ s = .nx τ1 s1) (h2 : B τ1 s1 = R) : sSeq A B τ s = R := by
  unfold sSeq
  rw [h]
  exact h2
theorem seq_rt (h : A τ s = .rt z s1) : sSeq A B τ s = .rt z s1 := by
  unfold sSeq
  rw [h]
theorem if_f (h : t τ s = .ok false s1) (h2 : B τ s1 = R) : sIf t A B τ s = R := by
  unfold sIf
  rw [h]
  exact h2
theorem if_t (h : t τ s = .ok true s1) (h2 : A τ s1 = R) : sIf t A B τ s = R := by
  unfold sIf
  rw [h]
  exact h2
theorem asg {i : Nat} (h : e τ s = .ok d s1) : sAsg e (gN i) τ s = .nx (τ.set i (.val d)) s1 := by
  unfold sAsg
  rw [h]
  rfl
theorem asgG {g : D → Sto → Option Sto} (h : e τ s = .ok d s1) (hg : g d τ = some τ1) : sAsg e g τ s = .nx τ1 s1 := by
  unfold sAsg
  rw [h]
  dsimp only [bndS]
  rw [hg]
theorem par {i j : Nat} (h : r τ s = .ok [x, y] s1) : sPar i j r τ s = .nx ((τ.set i (.val x)).set j (.val y)) s1 := by
  unfold sPar
  rw [h]
  rfl
theorem ret (h : e τ s = .ok d s1) : sRet e τ s = .rt d s1 := by
  unfold sRet
  rw [h]
  rfl
theorem next : sNext τ s = .nx τ s := rfl
theorem mdef {k : Nat} (h : A (ds.map .val ++ List.replicate k .emp) s = .rt d s1) : mDef k A ds s = .ok d s1 := by
  unfold mDef
  rw [h]
/-- a comprehension over a list, no test: its elements one by one -/
theorem lc_all {j : Nat} {f : D → D} : ∀ (xs acc : List D), (∀ z ∈ xs, e (τ.set j (.val z)) s = .ok (f z) s) → acc.length + xs.length ≤ 1000 → lcD j mYes e xs acc τ s = .ok (.lst (acc ++ xs.map f)) s
  | [], acc, _, hl => by
    unfold lcD
    rw [if_pos (Nat.le_trans (by simpa using hl) (by decide)), List.map_nil, List.append_nil]
  | z :: xs, acc, h, hl => by
    rw [List.length_cons] at hl
    unfold lcD
    have h1 := h z (List.mem_cons_self ..)
    have hy : mYes (τ.set j (.val z)) s = .ok true s := rfl
    rw [hy]
    dsimp only
    rw [h1]
    dsimp only
    rw [if_pos (Nat.lt_of_lt_of_le (show acc.length < 1000 by omega) (by decide)), lc_all xs _ (fun q hq => h q (List.mem_cons_of_mem _ hq)) (by simp; omega), List.map_cons, List.append_assoc]
    rfl
theorem lcL {j : Nat} {f : D → D} {xs : List D} (h : a τ s = .ok (.lst xs) s1) (h2 : ∀ z ∈ xs, e (τ.set j (.val z)) s1 = .ok (f z) s1) (hl : xs.length ≤ 1000) : mLcL j a mYes e τ s = .ok (.lst (xs.map f)) s1 := by
  unfold mLcL
  rw [h]
  dsimp only [DN.bnd]
  rw [lc_all xs [] h2 (by simpa using hl), List.nil_append]
end
end EVL

set_option Elab.async false
set_option linter.all false
set_option maxRecDepth 100000
set_option maxHeartbeats 8000000
namespace K43
open PySem PySem.Spec PyProof.Rows L2 Evl LamX TX EV2 DN
theorem is_value_obj {c : Nat} {gs : List (Str × D)} {s : DN.PS} (h : c = 2 ∨ c = 3) : M_is_value [.obj c gs] s = .ok (.bl true) s := by
  unfold M_is_value M_is_number M_is_text
  rcases h with rfl | rfl
  · simp only [mDef, mInit, sSeq, sNext, sBreak, sCont, sDrop, sRet, sRetN, sAsg, sIf, sPar, sPar3, sRaise, sRaise0, sFldS, sOwnM, sRetO, sOwnL, sApp, DN.bnd, bndS, mVar, mC, mOp, mUn, DN.mB, mAnd, mOr, mNot, mAndV, mOrV, mNotV, mIf, mNil, mCons, mTup, mLst, mCB, mCall, mMeth, mMake, mFld, mFldO, gN, gsN, gsC, gT, o2I, o2C, u1I, dAdd, dSub, dMul, dMulE, dFd, dMod, dPow, dShr, dBand, dLt, dLe, dGt, dGe, dEq, dNe, scalD, eqD, dNeg, dGcd, dAbs, dMax2, dMin2, c1I, c2I, dInt, mTru, truD, dLen, mIsT, mIsO, kindD, dIsN, dNotN, DN.isNon, dIsB, mBits, List.getElem?_cons_zero, List.getElem?_cons_succ, List.set_cons_zero, List.set_cons_succ, List.map_cons, List.map_nil, List.replicate_succ, List.replicate_zero, List.cons_append, List.nil_append, List.append_nil, List.length_cons, List.length_nil, Option.bind_some, Option.bind_none, putD, List.lookup_cons, List.lookup_nil, if_true, if_false, Bool.false_eq_true, reduceIte, Bool.not_true, Bool.not_false, and_self, and_true, true_and, decide_true, decide_false, Int.reduceNeg, isPen, mPen1, mPen2, mPen3, sPen2, sPen3, sPenP, dIxL, dIxT, Nat.zero_add, Nat.reduceAdd, Nat.reduceLeDiff, Nat.reduceEqDiff, Nat.reduceLT, Nat.reduceLeDiff, reduceCtorEq, ite_true, ite_false, mYes, true_or, or_true, Bool.true_or, Bool.or_true, Bool.false_or, Bool.or_false, Bool.true_and, Bool.and_true, Bool.false_and, Bool.and_false, kOk, dOwnL, dOwnR, isLft, dNegO, dEqO, dNeO, boolR, mMeth, gT, gsN, gsC, tyIs, dStrO, mFmt, mJoin, joinD, eqD, scalD, nListOf, nRep, nLcR2, nLcT, nLcEn, mLstN, sOwnN, sIxS, sPop, mCatO, mNeOw, sLend, sForE, sForEn, sForR3, sForRv, sForR1, sForR2, sForL, sForT, dIxE, dSlE, dSlL, dTupOf, dDm, mIsT2, mSl, mPart, mNoP, mIxO, mLenO, sRel, DN.relS, dListOf, mCatL, mRepL, mStrB, mIsK, isK1, List.any_cons, List.any_nil, dIte, DN.isObj, mRevL, strsD, dStrI, dCat, List.mem_cons, List.not_mem_nil, or_false, true_or, or_true, show decide ((2 : Nat) = 3) = false by decide, show decide ((2 : Nat) = 2) = true by decide]
  · simp only [mDef, mInit, sSeq, sNext, sBreak, sCont, sDrop, sRet, sRetN, sAsg, sIf, sPar, sPar3, sRaise, sRaise0, sFldS, sOwnM, sRetO, sOwnL, sApp, DN.bnd, bndS, mVar, mC, mOp, mUn, DN.mB, mAnd, mOr, mNot, mAndV, mOrV, mNotV, mIf, mNil, mCons, mTup, mLst, mCB, mCall, mMeth, mMake, mFld, mFldO, gN, gsN, gsC, gT, o2I, o2C, u1I, dAdd, dSub, dMul, dMulE, dFd, dMod, dPow, dShr, dBand, dLt, dLe, dGt, dGe, dEq, dNe, scalD, eqD, dNeg, dGcd, dAbs, dMax2, dMin2, c1I, c2I, dInt, mTru, truD, dLen, mIsT, mIsO, kindD, dIsN, dNotN, DN.isNon, dIsB, mBits, List.getElem?_cons_zero, List.getElem?_cons_succ, List.set_cons_zero, List.set_cons_succ, List.map_cons, List.map_nil, List.replicate_succ, List.replicate_zero, List.cons_append, List.nil_append, List.append_nil, List.length_cons, List.length_nil, Option.bind_some, Option.bind_none, putD, List.lookup_cons, List.lookup_nil, if_true, if_false, Bool.false_eq_true, reduceIte, Bool.not_true, Bool.not_false, and_self, and_true, true_and, decide_true, decide_false, Int.reduceNeg, isPen, mPen1, mPen2, mPen3, sPen2, sPen3, sPenP, dIxL, dIxT, Nat.zero_add, Nat.reduceAdd, Nat.reduceLeDiff, Nat.reduceEqDiff, Nat.reduceLT, Nat.reduceLeDiff, reduceCtorEq, ite_true, ite_false, mYes, true_or, or_true, Bool.true_or, Bool.or_true, Bool.false_or, Bool.or_false, Bool.true_and, Bool.and_true, Bool.false_and, Bool.and_false, kOk, dOwnL, dOwnR, isLft, dNegO, dEqO, dNeO, boolR, mMeth, gT, gsN, gsC, tyIs, dStrO, mFmt, mJoin, joinD, eqD, scalD, nListOf, nRep, nLcR2, nLcT, nLcEn, mLstN, sOwnN, sIxS, sPop, mCatO, mNeOw, sLend, sForE, sForEn, sForR3, sForRv, sForR1, sForR2, sForL, sForT, dIxE, dSlE, dSlL, dTupOf, dDm, mIsT2, mSl, mPart, mNoP, mIxO, mLenO, sRel, DN.relS, dListOf, mCatL, mRepL, mStrB, mIsK, isK1, List.any_cons, List.any_nil, dIte, DN.isObj, mRevL, strsD, dStrI, dCat, List.mem_cons, List.not_mem_nil, or_false, true_or, or_true, show decide ((3 : Nat) = 3) = true by decide]
theorem is_value_ok {d : D} {s : DN.PS} (h : valD d = true) : M_is_value [d] s = .ok (.bl true) s := by
  cases d with
  | non => rfl
  | bl b => rfl
  | str x =>
    unfold valD at h
    simp only [Bool.and_eq_true, decide_eq_true_eq] at h
    obtain ⟨⟨h1, h2⟩, h3⟩ := h
    have hp : M_is_plain [.str x] s = .ok (.bl true) s := by
      unfold M_is_plain
      simp only [mDef, mInit, sSeq, sNext, sBreak, sCont, sDrop, sRet, sRetN, sAsg, sIf, sPar, sPar3, sRaise, sRaise0, sFldS, sOwnM, sRetO, sOwnL, sApp, DN.bnd, bndS, mVar, mC, mOp, mUn, DN.mB, mAnd, mOr, mNot, mAndV, mOrV, mNotV, mIf, mNil, mCons, mTup, mLst, mCB, mCall, mMeth, mMake, mFld, mFldO, gN, gsN, gsC, gT, o2I, o2C, u1I, dAdd, dSub, dMul, dMulE, dFd, dMod, dPow, dShr, dBand, dLt, dLe, dGt, dGe, dEq, dNe, scalD, eqD, dNeg, dGcd, dAbs, dMax2, dMin2, c1I, c2I, dInt, mTru, truD, dLen, mIsT, mIsO, kindD, dIsN, dNotN, DN.isNon, dIsB, mBits, List.getElem?_cons_zero, List.getElem?_cons_succ, List.set_cons_zero, List.set_cons_succ, List.map_cons, List.map_nil, List.replicate_succ, List.replicate_zero, List.cons_append, List.nil_append, List.append_nil, List.length_cons, List.length_nil, Option.bind_some, Option.bind_none, putD, List.lookup_cons, List.lookup_nil, if_true, if_false, Bool.false_eq_true, reduceIte, Bool.not_true, Bool.not_false, and_self, and_true, true_and, decide_true, decide_false, Int.reduceNeg, isPen, mPen1, mPen2, mPen3, sPen2, sPen3, sPenP, dIxL, dIxT, Nat.zero_add, Nat.reduceAdd, Nat.reduceLeDiff, Nat.reduceEqDiff, Nat.reduceLT, Nat.reduceLeDiff, reduceCtorEq, ite_true, ite_false, mYes, true_or, or_true, Bool.true_or, Bool.or_true, Bool.false_or, Bool.or_false, Bool.true_and, Bool.and_true, Bool.false_and, Bool.and_false, kOk, dOwnL, dOwnR, isLft, dNegO, dEqO, dNeO, boolR, mMeth, gT, gsN, gsC, tyIs, dStrO, mFmt, mJoin, joinD, eqD, scalD, nListOf, nRep, nLcR2, nLcT, nLcEn, mLstN, sOwnN, sIxS, sPop, mCatO, mNeOw, sLend, sForE, sForEn, sForR3, sForRv, sForR1, sForR2, sForL, sForT, dIxE, dSlE, dSlL, dTupOf, dDm, mIsT2, mSl, mPart, mNoP, mIxO, mLenO, sRel, DN.relS, dListOf, mCatL, mRepL, mStrB, mIsK, isK1, List.any_cons, List.any_nil, dIte, DN.isObj, mRevL, strsD, dStrI, dCat, h2, h3]
    have hl : decide ((x.length : Int) ≤ 1000) = true := decide_eq_true (by omega)
    have hl2 : (x.length ≤ 100000) = True := eq_true (by omega)
    have t1 : tyIs .str .bool = false := by decide
    have t2 : tyIs .str .str = true := by decide
    unfold M_is_value M_is_number M_is_text
    simp only [mDef, mInit, sSeq, sNext, sBreak, sCont, sDrop, sRet, sRetN, sAsg, sIf, sPar, sPar3, sRaise, sRaise0, sFldS, sOwnM, sRetO, sOwnL, sApp, DN.bnd, bndS, mVar, mC, mOp, mUn, DN.mB, mAnd, mOr, mNot, mAndV, mOrV, mNotV, mIf, mNil, mCons, mTup, mLst, mCB, mCall, mMeth, mMake, mFld, mFldO, gN, gsN, gsC, gT, o2I, o2C, u1I, dAdd, dSub, dMul, dMulE, dFd, dMod, dPow, dShr, dBand, dLt, dLe, dGt, dGe, dEq, dNe, scalD, eqD, dNeg, dGcd, dAbs, dMax2, dMin2, c1I, c2I, dInt, mTru, truD, dLen, mIsT, mIsO, kindD, dIsN, dNotN, DN.isNon, dIsB, mBits, List.getElem?_cons_zero, List.getElem?_cons_succ, List.set_cons_zero, List.set_cons_succ, List.map_cons, List.map_nil, List.replicate_succ, List.replicate_zero, List.cons_append, List.nil_append, List.append_nil, List.length_cons, List.length_nil, Option.bind_some, Option.bind_none, putD, List.lookup_cons, List.lookup_nil, if_true, if_false, Bool.false_eq_true, reduceIte, Bool.not_true, Bool.not_false, and_self, and_true, true_and, decide_true, decide_false, Int.reduceNeg, isPen, mPen1, mPen2, mPen3, sPen2, sPen3, sPenP, dIxL, dIxT, Nat.zero_add, Nat.reduceAdd, Nat.reduceLeDiff, Nat.reduceEqDiff, Nat.reduceLT, Nat.reduceLeDiff, reduceCtorEq, ite_true, ite_false, mYes, true_or, or_true, Bool.true_or, Bool.or_true, Bool.false_or, Bool.or_false, Bool.true_and, Bool.and_true, Bool.false_and, Bool.and_false, kOk, dOwnL, dOwnR, isLft, dNegO, dEqO, dNeO, boolR, mMeth, gT, gsN, gsC, tyIs, dStrO, mFmt, mJoin, joinD, eqD, scalD, nListOf, nRep, nLcR2, nLcT, nLcEn, mLstN, sOwnN, sIxS, sPop, mCatO, mNeOw, sLend, sForE, sForEn, sForR3, sForRv, sForR1, sForR2, sForL, sForT, dIxE, dSlE, dSlL, dTupOf, dDm, mIsT2, mSl, mPart, mNoP, mIxO, mLenO, sRel, DN.relS, dListOf, mCatL, mRepL, mStrB, mIsK, isK1, List.any_cons, List.any_nil, dIte, DN.isObj, mRevL, strsD, dStrI, dCat, t1, t2, hl, hl2, hp]
  | obj c gs =>
    unfold valD at h
    simp only [Bool.or_eq_true, decide_eq_true_eq] at h
    exact is_value_obj h
  | _ => cases h
/-- a comprehension without a test, its elements one by one -/
theorem lc_map {e : ME} {j : Nat} {τ : Sto} {s : DN.PS} {f : D → D} : ∀ (xs acc : List D), (∀ z ∈ xs, e (τ.set j (.val z)) s = .ok (f z) s) → acc.length + xs.length ≤ 100000 → lcD j mYes e xs acc τ s = .ok (.lst (acc ++ xs.map f)) s
  | [], acc, _, hl => by
    unfold lcD
    rw [if_pos (by simpa using hl), List.map_nil, List.append_nil]
  | z :: xs, acc, h, hl => by
    rw [List.length_cons] at hl
    unfold lcD
    have h1 := h z (List.mem_cons_self ..)
    have hy : mYes (τ.set j (.val z)) s = .ok true s := rfl
    rw [hy]
    dsimp only
    rw [h1]
    dsimp only
    rw [if_pos (show acc.length < 100000 by omega), lc_map xs _ (fun q hq => h q (List.mem_cons_of_mem _ hq)) (by simp; omega), List.map_cons, List.append_assoc]
    rfl
section
variable {a e : ME} {j : Nat} {τ : Sto} {s s1 : DN.PS} {f : D → D} {xs : List D}
theorem lcE_T (h : a τ s = .ok (.tup xs) s1) (h2 : ∀ z ∈ xs, e (τ.set j (.val z)) s1 = .ok (f z) s1) (hl : xs.length ≤ 100000) : mLcE j a mYes e τ s = .ok (.lst (xs.map f)) s1 := by
  unfold mLcE
  rw [h]
  dsimp only [DN.bnd]
  rw [lc_map xs [] h2 (by simpa using hl), List.nil_append]
theorem lcE_L (h : a τ s = .ok (.lst xs) s1) (h2 : ∀ z ∈ xs, e (τ.set j (.val z)) s1 = .ok (f z) s1) (hl : xs.length ≤ 100000) : mLcE j a mYes e τ s = .ok (.lst (xs.map f)) s1 := by
  unfold mLcE
  rw [h]
  dsimp only [DN.bnd]
  rw [lc_map xs [] h2 (by simpa using hl), List.nil_append]
theorem lcL (h : a τ s = .ok (.lst xs) s1) (h2 : ∀ z ∈ xs, e (τ.set j (.val z)) s1 = .ok (f z) s1) (hl : xs.length ≤ 100000) : mLcL j a mYes e τ s = .ok (.lst (xs.map f)) s1 := by
  unfold mLcL
  rw [h]
  dsimp only [DN.bnd]
  rw [lc_map xs [] h2 (by simpa using hl), List.nil_append]
end
theorem bools_true {s : DN.PS} : ∀ n : Nat, boolsD (List.replicate n (.bl true)) = some (List.replicate n true)
  | 0 => rfl
  | n + 1 => by
    rw [List.replicate_succ, List.replicate_succ, boolsD, bools_true (s := s) n]
    rfl
theorem all_true {s : DN.PS} (xs : List D) : dAll [.lst (xs.map fun _ => D.bl true)] s = .ok (.bl true) s := by
  have e : xs.map (fun _ => D.bl true) = List.replicate xs.length (.bl true) := by
    induction xs with
    | nil => rfl
    | cons x xs ih => rw [List.map_cons, ih, List.length_cons, List.replicate_succ]
  unfold dAll
  dsimp only
  rw [e, bools_true (s := s)]
  simp
theorem is_row_ok {r : List D} {s : DN.PS} (h0 : 0 < r.length) (hl : r.length ≤ 10000) (hv : r.all valD = true) : M__is_row [.tup r] s = .ok (.bl true) s := by
  have e1 : mLcE 1 (mVar 0) mYes (mCall 1 M_is_value [] (mCons (mVar 1) mNil)) [.val (.tup r), .emp] s = .ok (.lst (r.map fun _ => D.bl true)) s :=
    lcE_T rfl (fun z hz => EVL.call (EVL.cons (EVL.var rfl) EVL.nil) rfl (is_value_ok (List.all_eq_true.mp hv z hz))) (by omega)
  have d0 : decide ((r.length : Int) = 0) = false := decide_eq_false (by omega)
  have t1 : tyIs .tuple .list = false := by decide
  have t2 : tyIs .tuple .tuple = true := by decide
  unfold M__is_row
  simp only [mDef, mInit, sSeq, sNext, sBreak, sCont, sDrop, sRet, sRetN, sAsg, sIf, sPar, sPar3, sRaise, sRaise0, sFldS, sOwnM, sRetO, sOwnL, sApp, DN.bnd, bndS, mVar, mC, mOp, mUn, DN.mB, mAnd, mOr, mNot, mAndV, mOrV, mNotV, mIf, mNil, mCons, mTup, mLst, mCB, mCall, mMeth, mMake, mFld, mFldO, gN, gsN, gsC, gT, o2I, o2C, u1I, dAdd, dSub, dMul, dMulE, dFd, dMod, dPow, dShr, dBand, dLt, dLe, dGt, dGe, dEq, dNe, scalD, eqD, dNeg, dGcd, dAbs, dMax2, dMin2, c1I, c2I, dInt, mTru, truD, dLen, mIsT, mIsO, kindD, dIsN, dNotN, DN.isNon, dIsB, mBits, List.getElem?_cons_zero, List.getElem?_cons_succ, List.set_cons_zero, List.set_cons_succ, List.map_cons, List.map_nil, List.replicate_succ, List.replicate_zero, List.cons_append, List.nil_append, List.append_nil, List.length_cons, List.length_nil, Option.bind_some, Option.bind_none, putD, List.lookup_cons, List.lookup_nil, if_true, if_false, Bool.false_eq_true, reduceIte, Bool.not_true, Bool.not_false, and_self, and_true, true_and, decide_true, decide_false, Int.reduceNeg, isPen, mPen1, mPen2, mPen3, sPen2, sPen3, sPenP, dIxL, dIxT, Nat.zero_add, Nat.reduceAdd, Nat.reduceLeDiff, Nat.reduceEqDiff, Nat.reduceLT, Nat.reduceLeDiff, reduceCtorEq, ite_true, ite_false, mYes, true_or, or_true, Bool.true_or, Bool.or_true, Bool.false_or, Bool.or_false, Bool.true_and, Bool.and_true, Bool.false_and, Bool.and_false, kOk, dOwnL, dOwnR, isLft, dNegO, dEqO, dNeO, boolR, mMeth, gT, gsN, gsC, tyIs, dStrO, mFmt, mJoin, joinD, eqD, scalD, nListOf, nRep, nLcR2, nLcT, nLcEn, mLstN, sOwnN, sIxS, sPop, mCatO, mNeOw, sLend, sForE, sForEn, sForR3, sForRv, sForR1, sForR2, sForL, sForT, dIxE, dSlE, dSlL, dTupOf, dDm, mIsT2, mSl, mPart, mNoP, mIxO, mLenO, sRel, DN.relS, dListOf, mCatL, mRepL, mStrB, mIsK, isK1, List.any_cons, List.any_nil, dIte, DN.isObj, mRevL, strsD, dStrI, dCat, t1, t2, d0, e1, all_true]
theorem atI0 {x : D} {xs : List D} : L2.atI (x :: xs) 0 = some x := by
  unfold atI ixN
  rw [if_pos (by decide), if_pos (by rw [List.length_cons]; omega), Option.bind_some]
  rfl
theorem is_table_ok {rows : List (List D)} {w : Nat} {s : DN.PS} (h0 : 0 < rows.length) (hw : ∀ r ∈ rows, r.length = w) (hl : rows.length * w ≤ 10000) (h1 : rows.length ≤ 10000) : M__is_table [.lst (rows.map .tup)] s = .ok (.bl true) s := by
  cases rows with
  | nil => cases h0
  | cons r rs =>
    have hr : r.length = w := hw r List.mem_cons_self
    have e1 : mLcE 1 (mVar 0) mYes (mOp dEq (mCB dLen (mCons (mVar 1) mNil)) (mCB dLen (mCons (mOp dIxE (mVar 0) (mC (.int 0))) mNil))) [.val (.lst ((r :: rs).map .tup)), .emp] s = .ok (.lst (((r :: rs).map D.tup).map fun _ => D.bl true)) s :=
      lcE_L rfl (fun z hz => by
        obtain ⟨q, hq, rfl⟩ := List.mem_map.mp hz
        have hq2 : q.length = r.length := by rw [hw q hq, hr]
        have dq : decide ((q.length : Int) = (r.length : Int)) = true := decide_eq_true (by omega)
        rw [List.map_cons]
        simp only [mDef, mInit, sSeq, sNext, sBreak, sCont, sDrop, sRet, sRetN, sAsg, sIf, sPar, sPar3, sRaise, sRaise0, sFldS, sOwnM, sRetO, sOwnL, sApp, DN.bnd, bndS, mVar, mC, mOp, mUn, DN.mB, mAnd, mOr, mNot, mAndV, mOrV, mNotV, mIf, mNil, mCons, mTup, mLst, mCB, mCall, mMeth, mMake, mFld, mFldO, gN, gsN, gsC, gT, o2I, o2C, u1I, dAdd, dSub, dMul, dMulE, dFd, dMod, dPow, dShr, dBand, dLt, dLe, dGt, dGe, dEq, dNe, scalD, eqD, dNeg, dGcd, dAbs, dMax2, dMin2, c1I, c2I, dInt, mTru, truD, dLen, mIsT, mIsO, kindD, dIsN, dNotN, DN.isNon, dIsB, mBits, List.getElem?_cons_zero, List.getElem?_cons_succ, List.set_cons_zero, List.set_cons_succ, List.map_cons, List.map_nil, List.replicate_succ, List.replicate_zero, List.cons_append, List.nil_append, List.append_nil, List.length_cons, List.length_nil, Option.bind_some, Option.bind_none, putD, List.lookup_cons, List.lookup_nil, if_true, if_false, Bool.false_eq_true, reduceIte, Bool.not_true, Bool.not_false, and_self, and_true, true_and, decide_true, decide_false, Int.reduceNeg, isPen, mPen1, mPen2, mPen3, sPen2, sPen3, sPenP, dIxL, dIxT, Nat.zero_add, Nat.reduceAdd, Nat.reduceLeDiff, Nat.reduceEqDiff, Nat.reduceLT, Nat.reduceLeDiff, reduceCtorEq, ite_true, ite_false, mYes, true_or, or_true, Bool.true_or, Bool.or_true, Bool.false_or, Bool.or_false, Bool.true_and, Bool.and_true, Bool.false_and, Bool.and_false, kOk, dOwnL, dOwnR, isLft, dNegO, dEqO, dNeO, boolR, mMeth, gT, gsN, gsC, tyIs, dStrO, mFmt, mJoin, joinD, eqD, scalD, nListOf, nRep, nLcR2, nLcT, nLcEn, mLstN, sOwnN, sIxS, sPop, mCatO, mNeOw, sLend, sForE, sForEn, sForR3, sForRv, sForR1, sForR2, sForL, sForT, dIxE, dSlE, dSlL, dTupOf, dDm, mIsT2, mSl, mPart, mNoP, mIxO, mLenO, sRel, DN.relS, dListOf, mCatL, mRepL, mStrB, mIsK, isK1, List.any_cons, List.any_nil, dIte, DN.isObj, mRevL, strsD, dStrI, dCat, atI0, dq]) (by rw [List.length_map]; omega)
    rw [List.length_cons] at h0 hl h1
    have d0 : decide ((((rs.length + 1 : Nat)) : Int) = 0) = false := decide_eq_false (by omega)
    have m1 : mulOk (((rs.length + 1 : Nat)) : Int) (r.length : Int) = true := by
      unfold mulOk
      rw [decide_eq_true (Or.inl ⟨by omega, by omega⟩)]
      rfl
    have d1 : decide ((((rs.length + 1 : Nat)) : Int) * (r.length : Int) > 10000) = false := decide_eq_false (by rw [hr]; have := Int.ofNat_le.mpr hl; rw [Int.natCast_mul] at this; omega)
    have ha : dAll [.lst (((D.tup r :: rs.map D.tup)).map fun _ => D.bl true)] s = .ok (.bl true) s := all_true _
    rw [List.map_cons] at e1 ⊢
    rw [List.map_cons] at e1 ha
    unfold M__is_table
    simp only [mDef, mInit, sSeq, sNext, sBreak, sCont, sDrop, sRet, sRetN, sAsg, sIf, sPar, sPar3, sRaise, sRaise0, sFldS, sOwnM, sRetO, sOwnL, sApp, DN.bnd, bndS, mVar, mC, mOp, mUn, DN.mB, mAnd, mOr, mNot, mAndV, mOrV, mNotV, mIf, mNil, mCons, mTup, mLst, mCB, mCall, mMeth, mMake, mFld, mFldO, gN, gsN, gsC, gT, o2I, o2C, u1I, dAdd, dSub, dMul, dMulE, dFd, dMod, dPow, dShr, dBand, dLt, dLe, dGt, dGe, dEq, dNe, scalD, eqD, dNeg, dGcd, dAbs, dMax2, dMin2, c1I, c2I, dInt, mTru, truD, dLen, mIsT, mIsO, kindD, dIsN, dNotN, DN.isNon, dIsB, mBits, List.getElem?_cons_zero, List.getElem?_cons_succ, List.set_cons_zero, List.set_cons_succ, List.map_cons, List.map_nil, List.replicate_succ, List.replicate_zero, List.cons_append, List.nil_append, List.append_nil, List.length_cons, List.length_nil, Option.bind_some, Option.bind_none, putD, List.lookup_cons, List.lookup_nil, if_true, if_false, Bool.false_eq_true, reduceIte, Bool.not_true, Bool.not_false, and_self, and_true, true_and, decide_true, decide_false, Int.reduceNeg, isPen, mPen1, mPen2, mPen3, sPen2, sPen3, sPenP, dIxL, dIxT, Nat.zero_add, Nat.reduceAdd, Nat.reduceLeDiff, Nat.reduceEqDiff, Nat.reduceLT, Nat.reduceLeDiff, reduceCtorEq, ite_true, ite_false, mYes, true_or, or_true, Bool.true_or, Bool.or_true, Bool.false_or, Bool.or_false, Bool.true_and, Bool.and_true, Bool.false_and, Bool.and_false, kOk, dOwnL, dOwnR, isLft, dNegO, dEqO, dNeO, boolR, mMeth, gT, gsN, gsC, tyIs, dStrO, mFmt, mJoin, joinD, eqD, scalD, nListOf, nRep, nLcR2, nLcT, nLcEn, mLstN, sOwnN, sIxS, sPop, mCatO, mNeOw, sLend, sForE, sForEn, sForR3, sForRv, sForR1, sForR2, sForL, sForT, dIxE, dSlE, dSlL, dTupOf, dDm, mIsT2, mSl, mPart, mNoP, mIxO, mLenO, sRel, DN.relS, dListOf, mCatL, mRepL, mStrB, mIsK, isK1, List.any_cons, List.any_nil, dIte, DN.isObj, mRevL, strsD, dStrI, dCat, List.length_map, d0, atI0, m1, d1, e1, ha]
end K43

set_option Elab.async false
set_option linter.all false
set_option maxRecDepth 100000
set_option maxHeartbeats 8000000
namespace K43
open PySem PySem.Spec PyProof.Rows L2 Evl LamX TX EV2 DN
theorem check_integer_int (i : Int) (s : DN.PS) : M_check_integer [.int i] s = .ok .non s := rfl
theorem gcd_ne {t b : Int} (h : b ≠ 0) : ((Nat.gcd t.natAbs b.natAbs : Nat) : Int) ≠ 0 := fun z => by
  have : Nat.gcd t.natAbs b.natAbs = 0 := by omega
  have := (Nat.gcd_eq_zero_iff.mp this).2
  omega
theorem hI_Ratio_init : Refines MI_Ratio_init 2 M_Ratio_init := by
  intro x ds s hl
  unfold M_Ratio_init
  split
  · rename_i t b
    split
    · rename_i hc
      obtain ⟨h0, hl⟩ := hc
      right
      have hg := gcd_ne (t := t) h0
      have e0 : decide (b = 0) = false := decide_eq_false h0
      unfold MI_Ratio_init
      by_cases hb : b < 0
      · have d1 : decide (-((Nat.gcd t.natAbs b.natAbs : Nat) : Int) ≠ 0 ∧ (-((Nat.gcd t.natAbs b.natAbs : Nat) : Int)).natAbs.log2 < 9000) = true := decide_eq_true ⟨by omega, by rw [Int.natAbs_neg, Int.natAbs_natCast]; exact hl⟩
        simp only [mDef, mInit, sSeq, sNext, sBreak, sCont, sDrop, sRet, sRetN, sAsg, sIf, sPar, sPar3, sRaise, sRaise0, sFldS, sOwnM, sRetO, sOwnL, sApp, DN.bnd, bndS, mVar, mC, mOp, mUn, DN.mB, mAnd, mOr, mNot, mAndV, mOrV, mNotV, mIf, mNil, mCons, mTup, mLst, mCB, mCall, mMeth, mMake, mFld, mFldO, gN, gsN, gsC, gT, o2I, o2C, u1I, dAdd, dSub, dMul, dMulE, dFd, dMod, dPow, dShr, dBand, dLt, dLe, dGt, dGe, dEq, dNe, scalD, eqD, dNeg, dGcd, dAbs, dMax2, dMin2, c1I, c2I, dInt, mTru, truD, dLen, mIsT, mIsO, kindD, dIsN, dNotN, DN.isNon, dIsB, mBits, List.getElem?_cons_zero, List.getElem?_cons_succ, List.set_cons_zero, List.set_cons_succ, List.map_cons, List.map_nil, List.replicate_succ, List.replicate_zero, List.cons_append, List.nil_append, List.append_nil, List.length_cons, List.length_nil, Option.bind_some, Option.bind_none, putD, List.lookup_cons, List.lookup_nil, if_true, if_false, Bool.false_eq_true, reduceIte, Bool.not_true, Bool.not_false, and_self, and_true, true_and, decide_true, decide_false, Int.reduceNeg, isPen, mPen1, mPen2, mPen3, sPen2, sPen3, sPenP, dIxL, dIxT, Nat.zero_add, Nat.reduceAdd, Nat.reduceLeDiff, Nat.reduceEqDiff, Nat.reduceLT, Nat.reduceLeDiff, reduceCtorEq, ite_true, ite_false, mYes, true_or, or_true, Bool.true_or, Bool.or_true, Bool.false_or, Bool.or_false, Bool.true_and, Bool.and_true, Bool.false_and, Bool.and_false, kOk, dOwnL, dOwnR, isLft, dNegO, dEqO, dNeO, boolR, mMeth, gT, gsN, gsC, tyIs, dStrO, mFmt, mJoin, joinD, eqD, scalD, nListOf, nRep, nLcR2, nLcT, nLcEn, mLstN, sOwnN, sIxS, sPop, mCatO, mNeOw, sLend, sForE, sForEn, sForR3, sForRv, sForR1, sForR2, sForL, sForT, dIxE, dSlE, dSlL, dTupOf, dDm, mIsT2, mSl, mPart, mNoP, mIxO, mLenO, sRel, DN.relS, dListOf, mCatL, mRepL, mStrB, mIsK, isK1, List.any_cons, List.any_nil, dIte, DN.isObj, mRevL, strsD, dStrI, dCat, check_integer_int, e0, hb, d1, ratioD]
        rfl
      · have d1 : decide (((Nat.gcd t.natAbs b.natAbs : Nat) : Int) ≠ 0 ∧ (((Nat.gcd t.natAbs b.natAbs : Nat) : Int)).natAbs.log2 < 9000) = true := decide_eq_true ⟨by omega, by rw [Int.natAbs_natCast]; exact hl⟩
        simp only [mDef, mInit, sSeq, sNext, sBreak, sCont, sDrop, sRet, sRetN, sAsg, sIf, sPar, sPar3, sRaise, sRaise0, sFldS, sOwnM, sRetO, sOwnL, sApp, DN.bnd, bndS, mVar, mC, mOp, mUn, DN.mB, mAnd, mOr, mNot, mAndV, mOrV, mNotV, mIf, mNil, mCons, mTup, mLst, mCB, mCall, mMeth, mMake, mFld, mFldO, gN, gsN, gsC, gT, o2I, o2C, u1I, dAdd, dSub, dMul, dMulE, dFd, dMod, dPow, dShr, dBand, dLt, dLe, dGt, dGe, dEq, dNe, scalD, eqD, dNeg, dGcd, dAbs, dMax2, dMin2, c1I, c2I, dInt, mTru, truD, dLen, mIsT, mIsO, kindD, dIsN, dNotN, DN.isNon, dIsB, mBits, List.getElem?_cons_zero, List.getElem?_cons_succ, List.set_cons_zero, List.set_cons_succ, List.map_cons, List.map_nil, List.replicate_succ, List.replicate_zero, List.cons_append, List.nil_append, List.append_nil, List.length_cons, List.length_nil, Option.bind_some, Option.bind_none, putD, List.lookup_cons, List.lookup_nil, if_true, if_false, Bool.false_eq_true, reduceIte, Bool.not_true, Bool.not_false, and_self, and_true, true_and, decide_true, decide_false, Int.reduceNeg, isPen, mPen1, mPen2, mPen3, sPen2, sPen3, sPenP, dIxL, dIxT, Nat.zero_add, Nat.reduceAdd, Nat.reduceLeDiff, Nat.reduceEqDiff, Nat.reduceLT, Nat.reduceLeDiff, reduceCtorEq, ite_true, ite_false, mYes, true_or, or_true, Bool.true_or, Bool.or_true, Bool.false_or, Bool.or_false, Bool.true_and, Bool.and_true, Bool.false_and, Bool.and_false, kOk, dOwnL, dOwnR, isLft, dNegO, dEqO, dNeO, boolR, mMeth, gT, gsN, gsC, tyIs, dStrO, mFmt, mJoin, joinD, eqD, scalD, nListOf, nRep, nLcR2, nLcT, nLcEn, mLstN, sOwnN, sIxS, sPop, mCatO, mNeOw, sLend, sForE, sForEn, sForR3, sForRv, sForR1, sForR2, sForL, sForT, dIxE, dSlE, dSlL, dTupOf, dDm, mIsT2, mSl, mPart, mNoP, mIxO, mLenO, sRel, DN.relS, dListOf, mCatL, mRepL, mStrB, mIsK, isK1, List.any_cons, List.any_nil, dIte, DN.isObj, mRevL, strsD, dStrI, dCat, check_integer_int, e0, hb, d1, ratioD]
        rfl
    · exact .inl rfl
  · exact .inl rfl
theorem in_kinds {k : Str} {s : DN.PS} (h : (["DIV", "VALUE", "REF", "NAME", "NUM", "NA", "SPILL", "RING"] : List Str).any (fun z => z == k) = true) : dInS true (.str k) (.tup ((["DIV", "VALUE", "REF", "NAME", "NUM", "NA", "SPILL", "RING"] : List Str).map D.str)) s = .ok (.bl false) s := by
  have e : strsD ((["DIV", "VALUE", "REF", "NAME", "NUM", "NA", "SPILL", "RING"] : List Str).map D.str) = some (["DIV", "VALUE", "REF", "NAME", "NUM", "NA", "SPILL", "RING"] : List Str) := rfl
  unfold dInS
  dsimp only
  rw [e]
  dsimp only
  rw [h]
  rfl
theorem hI_Fault_init : Refines MI_Fault_init 1 M_Fault_init := by
  intro x ds s hl
  unfold M_Fault_init
  split
  · rename_i k
    split
    · rename_i hc
      right
      have h := in_kinds (s := s) hc
      have t1 : tyIs .str .str = true := by decide
      unfold MI_Fault_init
      generalize ((["DIV", "VALUE", "REF", "NAME", "NUM", "NA", "SPILL", "RING"] : List Str).map D.str) = L at h ⊢
      simp only [mDef, mInit, sSeq, sNext, sBreak, sCont, sDrop, sRet, sRetN, sAsg, sIf, sPar, sPar3, sRaise, sRaise0, sFldS, sOwnM, sRetO, sOwnL, sApp, DN.bnd, bndS, mVar, mC, mOp, mUn, DN.mB, mAnd, mOr, mNot, mAndV, mOrV, mNotV, mIf, mNil, mCons, mTup, mLst, mCB, mCall, mMeth, mMake, mFld, mFldO, gN, gsN, gsC, gT, o2I, o2C, u1I, dAdd, dSub, dMul, dMulE, dFd, dMod, dPow, dShr, dBand, dLt, dLe, dGt, dGe, dEq, dNe, scalD, eqD, dNeg, dGcd, dAbs, dMax2, dMin2, c1I, c2I, dInt, mTru, truD, dLen, mIsT, mIsO, kindD, dIsN, dNotN, DN.isNon, dIsB, mBits, List.getElem?_cons_zero, List.getElem?_cons_succ, List.set_cons_zero, List.set_cons_succ, List.map_cons, List.map_nil, List.replicate_succ, List.replicate_zero, List.cons_append, List.nil_append, List.append_nil, List.length_cons, List.length_nil, Option.bind_some, Option.bind_none, putD, List.lookup_cons, List.lookup_nil, if_true, if_false, Bool.false_eq_true, reduceIte, Bool.not_true, Bool.not_false, and_self, and_true, true_and, decide_true, decide_false, Int.reduceNeg, isPen, mPen1, mPen2, mPen3, sPen2, sPen3, sPenP, dIxL, dIxT, Nat.zero_add, Nat.reduceAdd, Nat.reduceLeDiff, Nat.reduceEqDiff, Nat.reduceLT, Nat.reduceLeDiff, reduceCtorEq, ite_true, ite_false, mYes, true_or, or_true, Bool.true_or, Bool.or_true, Bool.false_or, Bool.or_false, Bool.true_and, Bool.and_true, Bool.false_and, Bool.and_false, kOk, dOwnL, dOwnR, isLft, dNegO, dEqO, dNeO, boolR, mMeth, gT, gsN, gsC, tyIs, dStrO, mFmt, mJoin, joinD, eqD, scalD, nListOf, nRep, nLcR2, nLcT, nLcEn, mLstN, sOwnN, sIxS, sPop, mCatO, mNeOw, sLend, sForE, sForEn, sForR3, sForRv, sForR1, sForR2, sForL, sForT, dIxE, dSlE, dSlL, dTupOf, dDm, mIsT2, mSl, mPart, mNoP, mIxO, mLenO, sRel, DN.relS, dListOf, mCatL, mRepL, mStrB, mIsK, isK1, List.any_cons, List.any_nil, dIte, DN.isObj, mRevL, strsD, dStrI, dCat, t1, h]
    · exact .inl rfl
  · exact .inl rfl
theorem tups_ok : ∀ {rs : List D} {rows : List (List D)}, tupsD rs = some rows → rs = rows.map .tup
  | [], rows, h => by cases h; rfl
  | d :: rs, rows, h => by
    cases d <;> simp only [tupsD, Option.map_eq_some_iff, reduceCtorEq] at h
    obtain ⟨q, h1, rfl⟩ := h
    rw [tups_ok h1]
    rfl
structure RowsOk (rows : List (List D)) (w : Nat) : Prop where
  h0 : 0 < rows.length
  w0 : 0 < w
  ln : ∀ r ∈ rows, r.length = w
  vl : ∀ r ∈ rows, r.all valD = true
  mx : rows.length * w ≤ 10000
theorem RowsOk.head {rows : List (List D)} {w : Nat} (h : RowsOk rows w) : ∃ r rs, rows = r :: rs ∧ r.length = w := by
  cases rows with
  | nil => exact absurd h.h0 (by simp)
  | cons r rs => exact ⟨r, rs, rfl, h.ln r List.mem_cons_self⟩
theorem RowsOk.len {rows : List (List D)} {w : Nat} (h : RowsOk rows w) : rows.length ≤ 10000 := Nat.le_trans (Nat.le_mul_of_pos_right _ h.w0) h.mx
theorem RowsOk.wid {rows : List (List D)} {w : Nat} (h : RowsOk rows w) : w ≤ 10000 := Nat.le_trans (Nat.le_mul_of_pos_left _ h.h0) h.mx
theorem rowsOk_of {rows : List (List D)} (h : gridOk rows = true) : RowsOk rows (rows.headD []).length := by
  unfold gridOk at h
  simp only [Bool.and_eq_true, decide_eq_true_eq, List.all_eq_true] at h
  obtain ⟨⟨⟨h1, h2⟩, h3⟩, h4⟩ := h
  refine ⟨h1, h2, fun r hr => ?_, fun r hr => ?_, h3⟩
  · have := h4 r hr
    unfold rowOk at this
    simp only [Bool.and_eq_true, decide_eq_true_eq] at this
    exact this.1
  · have := h4 r hr
    unfold rowOk at this
    simp only [Bool.and_eq_true, decide_eq_true_eq] at this
    exact this.2
theorem of_rowsOk {rows : List (List D)} {w : Nat} (h : RowsOk rows w) : gridOk rows = true := by
  obtain ⟨r, rs, e, hr⟩ := h.head
  have e2 : (rows.headD []).length = w := by rw [e]; exact hr
  unfold gridOk
  rw [e2]
  simp only [Bool.and_eq_true, decide_eq_true_eq, List.all_eq_true]
  refine ⟨⟨⟨h.h0, h.w0⟩, h.mx⟩, fun q hq => ?_⟩
  unfold rowOk
  simp only [Bool.and_eq_true, decide_eq_true_eq]
  exact ⟨h.ln q hq, h.vl q hq⟩
def gbody : MS := (sIf (mNot (mB (mCall 1 M__is_row [] (mCons (mVar 3) mNil)))) (sRaise 0 "value" (mCons (mVar 3) mNil)) sNext)
theorem gloop {o l n : Sl} {s : DN.PS} : ∀ (rows : List (List D)) (c : Sl), (∀ r ∈ rows, 0 < r.length ∧ r.length ≤ 10000 ∧ r.all valD = true) → ∃ c', forD (gN 3) gbody (rows.map .tup) [o, l, n, c] s = .nx [o, l, n, c'] s
  | [], c, _ => ⟨c, rfl⟩
  | r :: rs, c, h => by
    obtain ⟨h1, h2, h3⟩ := h r List.mem_cons_self
    obtain ⟨c', e⟩ := gloop (o := o) (l := l) (n := n) (s := s) rs (.val (.tup r)) (fun q hq => h q (List.mem_cons_of_mem _ hq))
    have hb : gbody [o, l, n, .val (.tup r)] s = .nx [o, l, n, .val (.tup r)] s :=
      EVL.if_f (EVL.tNot (v := true) (EVL.tB (EVL.call (EVL.cons (EVL.var rfl) EVL.nil) rfl (is_row_ok h1 h2 h3)))) rfl
    refine ⟨c', ?_⟩
    rw [List.map_cons]
    unfold forD
    dsimp only [gN, List.set_cons_succ, List.set_cons_zero]
    rw [hb]
    exact e
theorem check_list_L {xs : List D} {s : DN.PS} : M_check_list [.lst xs] s = .ok .non s := rfl
theorem b_rows : (("rows" : Str) == ("rows" : Str)) = true := by decide
theorem n_rh : (("rows" : Str) = ("height" : Str)) = False := eq_false (by decide)
theorem n_rw : (("rows" : Str) = ("width" : Str)) = False := eq_false (by decide)
theorem n_rc : (("rows" : Str) = ("corner" : Str)) = False := eq_false (by decide)
theorem n_hw : (("height" : Str) = ("width" : Str)) = False := eq_false (by decide)
theorem n_hc : (("height" : Str) = ("corner" : Str)) = False := eq_false (by decide)
theorem n_wc : (("width" : Str) = ("corner" : Str)) = False := eq_false (by decide)
theorem hI_Grid_init : Refines MI_Grid_init 2 M_Grid_init := by
  intro x ds s hl
  unfold M_Grid_init
  split
  · rename_i rs
    split
    · rename_i rows hr
      split
      · rename_i hg
        right
        have e := tups_ok hr
        subst e
        have ok := rowsOk_of hg
        obtain ⟨w, hw⟩ : ∃ w, w = (rows.headD []).length := ⟨_, rfl⟩
        rw [← hw] at ok
        obtain ⟨c', hf⟩ := gloop (o := .own (some x) (.obj 4 [])) (l := .val (.lst (rows.map .tup))) (n := .val .non) (s := s) rows .emp (fun r hr => ⟨by rw [ok.ln r hr]; exact ok.w0, by rw [ok.ln r hr]; exact ok.wid, ok.vl r hr⟩)
        have ht := is_table_ok (s := s) ok.h0 ok.ln ok.mx ok.len
        have hc : mLcE 3 (mVar 1) mYes (mCB dTupOf (mCons (mVar 3) mNil)) [.own (some x) (.obj 4 []), .val (.lst (rows.map .tup)), .val .non, c'] s = .ok (.lst ((rows.map .tup).map fun d => d)) s :=
          lcE_L rfl (fun z hz => by
            obtain ⟨q, hq, rfl⟩ := List.mem_map.mp hz
            rfl) (by rw [List.length_map]; have := ok.len; omega)
        rw [List.map_id'] at hc
        obtain ⟨r, rs, er, hrw⟩ := ok.head
        have ha : L2.atI (rows.map D.tup) 0 = some (.tup r) := by rw [er, List.map_cons]; exact atI0
        have hh : (rows.headD []).length = r.length := by rw [er]; rfl
        unfold MI_Grid_init gridD
        show mInit 4 1 (sSeq (sDrop (mCall 1 M_check_list [] (mCons (mVar 1) mNil))) (sSeq (sForE (mVar 1) (gN 3) gbody) _)) x _ s = _
        simp only [mDef, mInit, sSeq, sNext, sBreak, sCont, sDrop, sRet, sRetN, sAsg, sIf, sPar, sPar3, sRaise, sRaise0, sFldS, sOwnM, sRetO, sOwnL, sApp, DN.bnd, bndS, mVar, mC, mOp, mUn, DN.mB, mAnd, mOr, mNot, mAndV, mOrV, mNotV, mIf, mNil, mCons, mTup, mLst, mCB, mCall, mMeth, mMake, mFld, mFldO, gN, gsN, gsC, gT, o2I, o2C, u1I, dAdd, dSub, dMul, dMulE, dFd, dMod, dPow, dShr, dBand, dLt, dLe, dGt, dGe, dEq, dNe, scalD, eqD, dNeg, dGcd, dAbs, dMax2, dMin2, c1I, c2I, dInt, mTru, truD, dLen, mIsT, mIsO, kindD, dIsN, dNotN, DN.isNon, dIsB, mBits, List.getElem?_cons_zero, List.getElem?_cons_succ, List.set_cons_zero, List.set_cons_succ, List.map_cons, List.map_nil, List.replicate_succ, List.replicate_zero, List.cons_append, List.nil_append, List.append_nil, List.length_cons, List.length_nil, Option.bind_some, Option.bind_none, putD, List.lookup_cons, List.lookup_nil, if_true, if_false, Bool.false_eq_true, reduceIte, Bool.not_true, Bool.not_false, and_self, and_true, true_and, decide_true, decide_false, Int.reduceNeg, isPen, mPen1, mPen2, mPen3, sPen2, sPen3, sPenP, dIxL, dIxT, Nat.zero_add, Nat.reduceAdd, Nat.reduceLeDiff, Nat.reduceEqDiff, Nat.reduceLT, Nat.reduceLeDiff, reduceCtorEq, ite_true, ite_false, mYes, true_or, or_true, Bool.true_or, Bool.or_true, Bool.false_or, Bool.or_false, Bool.true_and, Bool.and_true, Bool.false_and, Bool.and_false, kOk, dOwnL, dOwnR, isLft, dNegO, dEqO, dNeO, boolR, mMeth, gT, gsN, gsC, tyIs, dStrO, mFmt, mJoin, joinD, eqD, scalD, nListOf, nRep, nLcR2, nLcT, nLcEn, mLstN, sOwnN, sIxS, sPop, mCatO, mNeOw, sLend, sForE, sForEn, sForR3, sForRv, sForR1, sForR2, sForL, sForT, dIxE, dSlE, dSlL, dTupOf, dDm, mIsT2, mSl, mPart, mNoP, mIxO, mLenO, sRel, DN.relS, dListOf, mCatL, mRepL, mStrB, mIsK, isK1, List.any_cons, List.any_nil, dIte, DN.isObj, mRevL, strsD, dStrI, dCat, check_list_L, hf, ht, hc, ha, hh, List.length_map, b_rows, n_rh, n_rw, n_rc, n_hw, n_hc, n_wc]
      · exact .inl rfl
    · exact .inl rfl
  · exact .inl rfl
end K43

set_option Elab.async false
set_option linter.all false
set_option maxRecDepth 100000
set_option maxHeartbeats 8000000
namespace K43
open PySem PySem.Spec PyProof.Rows L2 Evl LamX TX EV2 DN
/-- a value as the law draws them -/
def Vl (d : D) : Prop := d = .non ∨ (∃ b, d = .bl b) ∨ (∃ x, d = .str x ∧ valD d = true) ∨ (∃ t b, d = .obj 2 [("top", .int t), ("bottom", .int b)]) ∨ ∃ k, d = .obj 3 [("kind", .str k)]
theorem Vl.val {d : D} (h : Vl d) : valD d = true := by
  rcases h with rfl | ⟨b, rfl⟩ | ⟨x, rfl, h⟩ | ⟨t, b, rfl⟩ | ⟨k, rfl⟩
  · rfl
  · rfl
  · exact h
  · rfl
  · rfl
theorem ratio_ok {t b : Int} {s : DN.PS} (hb : b ≠ 0) (hs : b.natAbs < 2 ^ 60) : ∃ A B, M_Ratio_init [.int t, .int b] s = .ok (.obj 2 [("top", .int A), ("bottom", .int B)]) s := by
  have h1 : Nat.gcd t.natAbs b.natAbs ≤ b.natAbs := Nat.le_of_dvd (by omega) (Nat.gcd_dvd_right _ _)
  have h2 : Nat.gcd t.natAbs b.natAbs ≠ 0 := Nat.pos_iff_ne_zero.mp (Nat.gcd_pos_of_pos_right _ (by omega))
  have h3 : Nat.log2 (Nat.gcd t.natAbs b.natAbs) < 9000 := by
    have := (Nat.log2_lt h2 (k := 60)).mpr (Nat.lt_of_le_of_lt h1 hs)
    omega
  exact ⟨_, _, by unfold M_Ratio_init; dsimp only; rw [if_pos ⟨hb, h3⟩]; rfl⟩
theorem x_texts : ∀ k : Fin 9, valD (.str (("x" : Str) ++ (toString (k.val : Int) : Str))) = true := by decide +kernel
theorem x_len : ∀ k : Fin 9, (("x" : Str).length + (toString (k.val : Int) : Str).length ≤ 100000) ∧ (k.val : Int).natAbs.log2 < 1920 := by decide +kernel
section
variable {z1 z2 k y A B : Int} {X Y : Str} {b : Bool} {s s1 s2 s3 s4 s5 : DN.PS} {d : D}
theorem value_ev (e1 : M_l_draw [.pen, .int 2001] s = .ok (.int z1) s1) (e2 : M_l_draw [.pen, .int 9] s1 = .ok (.int z2) s2) (er : M_Ratio_init [.int (z1 - 1000), .int (1 + z2)] s2 = .ok (.obj 2 [("top", .int A), ("bottom", .int B)]) s2)
    (e3 : M_l_draw [.pen, .int 9] s2 = .ok (.int k) s3) (ht : dStrI [.int k] s3 = .ok (.str X) s3) (hc : dCat (.str "x") (.str X) s3 = .ok (.str Y) s3) (e4 : M_l_draw [.pen, .int 2] s3 = .ok (.int y) s4) (hb : decide (y = 0) = b)
    (e5 : M_l_pick [.pen, .lst [.obj 2 [("top", .int A), ("bottom", .int B)], .obj 2 [("top", .int A), ("bottom", .int B)], .str Y, .bl b, .non, .obj 3 [("kind", .str "NA")], .obj 3 [("kind", .str "DIV")]]] s4 = .ok d s5) :
    M_l_value [.pen] s = .ok d s5 := by
  have f1 : M_Fault_init [.str "NA"] s4 = .ok (.obj 3 [("kind", .str "NA")]) s4 := by unfold M_Fault_init; dsimp only; rw [if_pos (by decide)]
  have f2 : M_Fault_init [.str "DIV"] s4 = .ok (.obj 3 [("kind", .str "DIV")]) s4 := by unfold M_Fault_init; dsimp only; rw [if_pos (by decide)]
  unfold M_l_value
  simp only [mDef, mInit, sSeq, sNext, sBreak, sCont, sDrop, sRet, sRetN, sAsg, sIf, sPar, sPar3, sRaise, sRaise0, sFldS, sOwnM, sRetO, sOwnL, sApp, DN.bnd, bndS, mVar, mC, mOp, mUn, DN.mB, mAnd, mOr, mNot, mAndV, mOrV, mNotV, mIf, mNil, mCons, mTup, mLst, mCB, mCall, mMeth, mMake, mFld, mFldO, gN, gsN, gsC, gT, o2I, o2C, u1I, dAdd, dSub, dMul, dMulE, dFd, dMod, dPow, dShr, dBand, dLt, dLe, dGt, dGe, dEq, dNe, scalD, eqD, dNeg, dGcd, dAbs, dMax2, dMin2, c1I, c2I, dInt, mTru, truD, dLen, mIsT, mIsO, kindD, dIsN, dNotN, DN.isNon, dIsB, mBits, List.getElem?_cons_zero, List.getElem?_cons_succ, List.set_cons_zero, List.set_cons_succ, List.map_cons, List.map_nil, List.replicate_succ, List.replicate_zero, List.cons_append, List.nil_append, List.append_nil, List.length_cons, List.length_nil, Option.bind_some, Option.bind_none, putD, List.lookup_cons, List.lookup_nil, if_true, if_false, Bool.false_eq_true, reduceIte, Bool.not_true, Bool.not_false, and_self, and_true, true_and, decide_true, decide_false, Int.reduceNeg, isPen, mPen1, mPen2, mPen3, sPen2, sPen3, sPenP, dIxL, dIxT, Nat.zero_add, Nat.reduceAdd, Nat.reduceLeDiff, Nat.reduceEqDiff, Nat.reduceLT, Nat.reduceLeDiff, reduceCtorEq, ite_true, ite_false, mYes, true_or, or_true, Bool.true_or, Bool.or_true, Bool.false_or, Bool.or_false, Bool.true_and, Bool.and_true, Bool.false_and, Bool.and_false, kOk, dOwnL, dOwnR, isLft, dNegO, dEqO, dNeO, boolR, mMeth, gT, gsN, gsC, tyIs, dStrO, mFmt, mJoin, joinD, eqD, scalD, nListOf, nRep, nLcR2, nLcT, nLcEn, mLstN, sOwnN, sIxS, sPop, mCatO, mNeOw, sLend, sForE, sForEn, sForR3, sForRv, sForR1, sForR2, sForL, sForT, dIxE, dSlE, dSlL, dTupOf, dDm, mIsT2, mSl, mPart, mNoP, mIxO, mLenO, sRel, DN.relS, dListOf, mCatL, mRepL, mStrB, mIsK, isK1, List.any_cons, List.any_nil, dIte, DN.isObj, mRevL, strsD, e1, e2, er, e3, ht, hc, e4, hb, f1, f2, e5]
end
theorem value_ok {n : Int} {s : DN.PS} (g : Good n s) (hn : n < 2 ^ 28) : ∃ d s', M_l_value [.pen] s = .ok d s' ∧ Vl d ∧ Good (n + 5) s' := by
  obtain ⟨z1, s1, e1, a1, b1, g1⟩ := draw_ok (m := 2001) g (by omega) (by decide) (small_log (by decide) (by decide))
  obtain ⟨z2, s2, e2, a2, b2, g2⟩ := draw_ok (m := 9) g1 (by omega) (by decide) (small_log (by decide) (by decide))
  obtain ⟨A, B, er⟩ := ratio_ok (t := z1 - 1000) (b := 1 + z2) (s := s2) (by omega) (by omega)
  obtain ⟨k, s3, e3, a3, b3, g3⟩ := draw_ok (m := 9) g2 (by omega) (by decide) (small_log (by decide) (by decide))
  obtain ⟨q, rfl⟩ : ∃ q : Nat, k = (q : Int) := ⟨k.toNat, by omega⟩
  have hq : q < 9 := by omega
  have hx := x_texts ⟨q, hq⟩
  obtain ⟨hl, hg⟩ := x_len ⟨q, hq⟩
  dsimp only at hx hl hg
  have ht : dStrI [.int (q : Int)] s3 = .ok (.str (toString (q : Int) : Str)) s3 := by unfold dStrI; dsimp only; rw [if_pos hg]
  have hc : dCat (.str "x") (.str (toString (q : Int) : Str)) s3 = .ok (.str (("x" : Str) ++ (toString (q : Int) : Str))) s3 := by unfold dCat; dsimp only; rw [if_pos hl]
  obtain ⟨y, s4, e4, a4, b4, g4⟩ := draw_ok (m := 2) g3 (by omega) (by decide) (small_log (by decide) (by decide))
  obtain ⟨d, s5, e5, hd, g5⟩ := pick_ok (ds := [.obj 2 [("top", .int A), ("bottom", .int B)], .obj 2 [("top", .int A), ("bottom", .int B)], .str (("x" : Str) ++ (toString (q : Int) : Str)), .bl (decide (y = 0)), .non, .obj 3 [("kind", .str "NA")], .obj 3 [("kind", .str "DIV")]]) g4 (by omega) (by simp) (by simp)
  refine ⟨d, s5, value_ev e1 e2 er e3 ht hc e4 rfl e5, ?_, g5.mono (by omega)⟩
  simp only [List.mem_cons, List.not_mem_nil, or_false] at hd
  rcases hd with rfl | rfl | rfl | rfl | rfl | rfl | rfl
  · exact .inr (.inr (.inr (.inl ⟨_, _, rfl⟩)))
  · exact .inr (.inr (.inr (.inl ⟨_, _, rfl⟩)))
  · exact .inr (.inr (.inl ⟨_, rfl, hx⟩))
  · exact .inr (.inl ⟨_, rfl⟩)
  · exact .inl rfl
  · exact .inr (.inr (.inr (.inr ⟨_, rfl⟩)))
  · exact .inr (.inr (.inr (.inr ⟨_, rfl⟩)))
/-- a comprehension over given stores, its elements drawn -/
theorem lcS_ok {e : ME} {G : Int → DN.PS → Prop} {V : D → Prop} {c : Int} (hc : 0 < c) : ∀ (τs : List Sto) (acc : List D) (n : Int) (s : DN.PS), G n s → (∀ τ ∈ τs, ∀ n' s', n ≤ n' → n' < n + c * τs.length → G n' s' → ∃ d s'', e τ s' = .ok d s'' ∧ V d ∧ G (n' + c) s'') → acc.length + τs.length ≤ 100000 → (∀ d ∈ acc, V d) →
    ∃ ds s', lcS mYes e τs acc s = .ok (acc ++ ds) s' ∧ ds.length = τs.length ∧ (∀ d ∈ ds, V d) ∧ G (n + c * τs.length) s'
  | [], acc, n, s, g, _, hl, hv => ⟨[], s, by unfold lcS; rw [if_pos (by simpa using hl), List.append_nil], rfl, by simp, by simpa using g⟩
  | τ :: τs, acc, n, s, g, he, hl, hv => by
    rw [List.length_cons] at hl
    have hlen : ((τ :: τs).length : Int) = (τs.length : Int) + 1 := by simp
    · have hm : c * ((τs.length : Int) + 1) = c * τs.length + c := by rw [Int.mul_add, Int.mul_one]
      have hnn : 0 ≤ c * (τs.length : Int) := Int.mul_nonneg (Int.le_of_lt hc) (Int.natCast_nonneg _)
      obtain ⟨d, s1, e1, v1, g1⟩ := he τ List.mem_cons_self n s (Int.le_refl _) (by rw [hlen, hm]; omega) g
      obtain ⟨ds, s2, e2, l2, v2, g2⟩ := lcS_ok hc τs (acc ++ [d]) (n + c) s1 g1 (fun t ht n' s' h1 h2 hg => he t (List.mem_cons_of_mem _ ht) n' s' (by omega) (by rw [hlen, hm]; omega) hg) (by rw [List.length_append]; simp; omega) (fun x hx => by
        rcases List.mem_append.mp hx with z | z
        · exact hv x z
        · rw [List.mem_singleton.mp z]; exact v1)
      refine ⟨d :: ds, s2, ?_, by rw [List.length_cons, List.length_cons, l2], fun x hx => ?_, ?_⟩
      · unfold lcS
        have hy : mYes τ s = .ok true s := rfl
        rw [hy]
        dsimp only
        rw [e1]
        dsimp only
        rw [if_pos (by omega), e2, List.append_assoc]
        rfl
      · rcases List.mem_cons.mp hx with z | z
        · rw [z]; exact v1
        · exact v2 x z
      · rw [hlen, hm, show n + (c * (τs.length : Int) + c) = n + c + c * (τs.length : Int) by omega]
        exact g2
end K43

set_option Elab.async false
set_option linter.all false
set_option maxRecDepth 100000
set_option maxHeartbeats 8000000
namespace K43
open PySem PySem.Spec PyProof.Rows L2 Evl LamX TX EV2 DN
theorem rng_len (n : Nat) : (rngD 0 n).length = n := by simp [rngD]
theorem rng_mem {n : Nat} {d : D} (h : d ∈ rngD 0 n) : ∃ i : Nat, i < n ∧ d = .int (i : Int) := by
  unfold rngD at h
  obtain ⟨i, hi, rfl⟩ := List.mem_map.mp h
  exact ⟨i, List.mem_range.mp hi, by rw [Int.zero_add]⟩
theorem rngN_ev {e : ME} {j : Nat} {a : MA} {τ : Sto} {K : Int} {k : Nat} {s s' : DN.PS} {ds : List D} (ha : a τ s = .ok [.int K] s) (r1 : -(2 ^ 62) ≤ K ∧ K < 2 ^ 62) (hk : K.toNat = k) (h : lcS mYes e ((rngD 0 k).map fun d => τ.set j (.val d)) [] s = .ok ds s') : mLstN (nLcR1 j a mYes e) τ s = .ok (.lst ds) s' := by
  unfold mLstN nLcR1
  rw [ha]
  dsimp only [DN.bnd]
  rw [if_pos r1, hk, h]
/-- a range of so many, its elements one by one -/
theorem rngN {e : ME} {j : Nat} {a : MA} {τ : Sto} {k : Nat} {V : D → Prop} {G : Int → DN.PS → Prop} {c n : Int} {s : DN.PS} (hc : 0 < c) (ha : a τ s = .ok [.int (k : Int)] s) (hk : k ≤ 10000) (g : G n s) (he : ∀ i : Nat, i < k → ∀ n' s', n ≤ n' → n' < n + c * k → G n' s' → ∃ d s'', e (τ.set j (.val (.int (i : Int)))) s' = .ok d s'' ∧ V d ∧ G (n' + c) s'') :
    ∃ ds s', mLstN (nLcR1 j a mYes e) τ s = .ok (.lst ds) s' ∧ ds.length = k ∧ (∀ d ∈ ds, V d) ∧ G (n + c * k) s' := by
  have hl : (((rngD 0 k).map fun d => τ.set j (.val d)).length : Int) = (k : Int) := by rw [List.length_map, rng_len]
  obtain ⟨ds, s', e1, l1, v1, g1⟩ := lcS_ok (e := e) (G := G) (V := V) hc ((rngD 0 k).map fun d => τ.set j (.val d)) [] n s g (fun t ht n' s' h1 h2 hg => by
    obtain ⟨d, hd, rfl⟩ := List.mem_map.mp ht
    obtain ⟨i, hi, rfl⟩ := rng_mem hd
    exact he i hi n' s' h1 (by rw [hl] at h2; exact h2) hg) (by rw [List.length_map, rng_len]; simp; omega) (by simp)
  rw [List.nil_append] at e1
  rw [List.length_map, rng_len] at l1
  have r1 : -(2 ^ 62) ≤ (k : Int) ∧ (k : Int) < 2 ^ 62 := ⟨by omega, by omega⟩
  exact ⟨ds, s', rngN_ev ha r1 (Int.toNat_natCast k) e1, l1, v1, by rw [hl] at g1; exact g1⟩
abbrev mVal : ME := mCall 1 M_l_value [] (mCons (mVar 0) mNil)
abbrev mRat : ME := mMake 2 2 M_Ratio_init [.int 1] (mCons (mOp dAdd (mOp dMulE (mVar 3) (mVar 2)) (mVar 4)) mNil)
def isRow (w : Nat) (d : D) : Prop := ∃ r : List D, d = .lst r ∧ r.length = w ∧ ∀ x ∈ r, Vl x
theorem rows_of {w : Nat} : ∀ {ds : List D}, (∀ d ∈ ds, isRow w d) → ∃ rows : List (List D), ds = rows.map .lst ∧ (∀ r ∈ rows, r.length = w ∧ ∀ x ∈ r, Vl x)
  | [], _ => ⟨[], rfl, by simp⟩
  | d :: ds, h => by
    obtain ⟨rows, e, hr⟩ := rows_of (ds := ds) fun x hx => h x (List.mem_cons_of_mem _ hx)
    obtain ⟨r, rfl, h1, h2⟩ := h d List.mem_cons_self
    exact ⟨r :: rows, by rw [e]; rfl, fun q hq => by
      rcases List.mem_cons.mp hq with z | z
      · rw [z]; exact ⟨h1, h2⟩
      · exact hr q z⟩
/-- what the law draws: rows of its values -/
structure Tab (rows : List (List D)) (w : Nat) : Prop where
  ok : RowsOk rows w
  vl : ∀ r ∈ rows, ∀ x ∈ r, Vl x
theorem tab_of {ds : List D} {h w : Nat} (h0 : 0 < h) (w0 : 0 < w) (hm : h * w ≤ 10000) (hl : ds.length = h) (hv : ∀ d ∈ ds, isRow w d) : ∃ rows, ds = rows.map .lst ∧ Tab rows w ∧ rows.length = h := by
  obtain ⟨rows, e, hr⟩ := rows_of hv
  have hlen : rows.length = h := by rw [← hl, e, List.length_map]
  exact ⟨rows, e, ⟨⟨by omega, w0, fun r q => (hr r q).1, fun r q => List.all_eq_true.mpr fun x hx => ((hr r q).2 x hx).val, by rw [hlen]; exact hm⟩, fun r q => (hr r q).2⟩, hlen⟩
theorem small_ok {h w : Nat} {n : Int} {s : DN.PS} {y3 y4 : Sl} (g : Good n s) (hn : n < 2 ^ 27) (h0 : 0 < h) (w0 : 0 < w) (h5 : h ≤ 5) (w5 : w ≤ 5) : ∃ rows s', mLstN (nLcR1 3 (mCons (mVar 1) mNil) mYes (mLstN (nLcR1 4 (mCons (mVar 2) mNil) mYes mVal))) [.val .pen, .val (.int (h : Int)), .val (.int (w : Int)), y3, y4] s = .ok (.lst (rows.map .lst)) s' ∧ Tab rows w ∧ rows.length = h ∧ Good (n + 125) s' := by
  obtain ⟨ds, s', e, l, v, g'⟩ := rngN (e := mLstN (nLcR1 4 (mCons (mVar 2) mNil) mYes mVal)) (j := 3) (a := mCons (mVar 1) mNil) (τ := [.val .pen, .val (.int (h : Int)), .val (.int (w : Int)), y3, y4]) (k := h) (V := isRow w) (G := Good) (c := 25) (n := n) (s := s) (by decide) rfl (by omega) g (fun i hi n' s' h1 h2 hg => by
    obtain ⟨ds, s2, e2, l2, v2, g2⟩ := rngN (e := mVal) (j := 4) (a := mCons (mVar 2) mNil) (τ := [.val .pen, .val (.int (h : Int)), .val (.int (w : Int)), .val (.int (i : Int)), y4]) (k := w) (V := Vl) (G := Good) (c := 5) (n := n') (s := s') (by decide) rfl (by omega) hg (fun j hj n2 s2 q1 q2 hg2 => by
      obtain ⟨d, s3, e3, v3, g3⟩ := value_ok hg2 (by omega)
      exact ⟨d, s3, EVL.call (EVL.cons (EVL.var rfl) EVL.nil) rfl e3, v3, g3⟩)
    exact ⟨.lst ds, s2, e2, ⟨ds, rfl, l2, v2⟩, g2.mono (by omega)⟩)
  obtain ⟨rows, er, ht, hr⟩ := tab_of h0 w0 (Nat.le_trans (Nat.mul_le_mul h5 w5) (by decide)) l v
  subst er
  exact ⟨rows, s', e, ht, hr, g'.mono (by omega)⟩
theorem rat_ev {i j w A B : Int} {h : Sl} {s : DN.PS} (hm : mulOk i w = true) (er : M_Ratio_init [.int (i * w + j), .int 1] s = .ok (.obj 2 [("top", .int A), ("bottom", .int B)]) s) : mRat [.val .pen, h, .val (.int w), .val (.int i), .val (.int j)] s = .ok (.obj 2 [("top", .int A), ("bottom", .int B)]) s := by
  unfold mRat
  simp only [mDef, mInit, sSeq, sNext, sBreak, sCont, sDrop, sRet, sRetN, sAsg, sIf, sPar, sPar3, sRaise, sRaise0, sFldS, sOwnM, sRetO, sOwnL, sApp, DN.bnd, bndS, mVar, mC, mOp, mUn, DN.mB, mAnd, mOr, mNot, mAndV, mOrV, mNotV, mIf, mNil, mCons, mTup, mLst, mCB, mCall, mMeth, mMake, mFld, mFldO, gN, gsN, gsC, gT, o2I, o2C, u1I, dAdd, dSub, dMul, dMulE, dFd, dMod, dPow, dShr, dBand, dLt, dLe, dGt, dGe, dEq, dNe, scalD, eqD, dNeg, dGcd, dAbs, dMax2, dMin2, c1I, c2I, dInt, mTru, truD, dLen, mIsT, mIsO, kindD, dIsN, dNotN, DN.isNon, dIsB, mBits, List.getElem?_cons_zero, List.getElem?_cons_succ, List.set_cons_zero, List.set_cons_succ, List.map_cons, List.map_nil, List.replicate_succ, List.replicate_zero, List.cons_append, List.nil_append, List.append_nil, List.length_cons, List.length_nil, Option.bind_some, Option.bind_none, putD, List.lookup_cons, List.lookup_nil, if_true, if_false, Bool.false_eq_true, reduceIte, Bool.not_true, Bool.not_false, and_self, and_true, true_and, decide_true, decide_false, Int.reduceNeg, isPen, mPen1, mPen2, mPen3, sPen2, sPen3, sPenP, dIxL, dIxT, Nat.zero_add, Nat.reduceAdd, Nat.reduceLeDiff, Nat.reduceEqDiff, Nat.reduceLT, Nat.reduceLeDiff, reduceCtorEq, ite_true, ite_false, mYes, true_or, or_true, Bool.true_or, Bool.or_true, Bool.false_or, Bool.or_false, Bool.true_and, Bool.and_true, Bool.false_and, Bool.and_false, kOk, dOwnL, dOwnR, isLft, dNegO, dEqO, dNeO, boolR, mMeth, gT, gsN, gsC, tyIs, dStrO, mFmt, mJoin, joinD, eqD, scalD, nListOf, nRep, nLcR2, nLcT, nLcEn, mLstN, sOwnN, sIxS, sPop, mCatO, mNeOw, sLend, sForE, sForEn, sForR3, sForRv, sForR1, sForR2, sForL, sForT, dIxE, dSlE, dSlL, dTupOf, dDm, mIsT2, mSl, mPart, mNoP, mIxO, mLenO, sRel, DN.relS, dListOf, mCatL, mRepL, mStrB, mIsK, isK1, List.any_cons, List.any_nil, dIte, DN.isObj, mRevL, strsD, hm, er]
theorem great_ok {h w : Nat} {n : Int} {s : DN.PS} {y3 y4 : Sl} (g : Good n s) (hn : n < 2 ^ 27) (h0 : 0 < h) (w0 : 0 < w) (h5 : h ≤ 10000) (w5 : w ≤ 10000) (hm : h * w ≤ 10000) : ∃ rows s', mLstN (nLcR1 3 (mCons (mVar 1) mNil) mYes (mLstN (nLcR1 4 (mCons (mVar 2) mNil) mYes mRat))) [.val .pen, .val (.int (h : Int)), .val (.int (w : Int)), y3, y4] s = .ok (.lst (rows.map .lst)) s' ∧ Tab rows w ∧ rows.length = h ∧ Good n s' := by
  obtain ⟨ds, s', e, l, v, g'⟩ := rngN (e := mLstN (nLcR1 4 (mCons (mVar 2) mNil) mYes mRat)) (j := 3) (a := mCons (mVar 1) mNil) (τ := [.val .pen, .val (.int (h : Int)), .val (.int (w : Int)), y3, y4]) (k := h) (V := isRow w) (G := fun _ s => Good n s) (c := 10000) (n := n) (s := s) (by decide) rfl (by omega) g (fun i hi n' s' h1 h2 hg => by
    obtain ⟨ds, s2, e2, l2, v2, g2⟩ := rngN (e := mRat) (j := 4) (a := mCons (mVar 2) mNil) (τ := [.val .pen, .val (.int (h : Int)), .val (.int (w : Int)), .val (.int (i : Int)), y4]) (k := w) (V := Vl) (G := fun _ s => Good n s) (c := 1) (n := n') (s := s') (by decide) rfl (by omega) hg (fun j hj n2 s2 q1 q2 hg2 => by
      obtain ⟨A, B, er⟩ := ratio_ok (t := (i : Int) * (w : Int) + (j : Int)) (b := 1) (s := s2) (by decide) (by decide)
      exact ⟨_, s2, rat_ev (mulOk_l (by omega) (by omega)) er, .inr (.inr (.inr (.inl ⟨_, _, rfl⟩))), hg2⟩)
    exact ⟨.lst ds, s2, e2, ⟨ds, rfl, l2, v2⟩, g2⟩)
  obtain ⟨rows, er, ht, hr⟩ := tab_of h0 w0 hm l v
  subst er
  exact ⟨rows, s', e, ht, hr, g'⟩
abbrev one3 : ME := mCall 2 M_l_pick [] (mCons (mVar 0) (mCons (mLst (mCons (mC (.int 1)) (mCons (mC (.int 1)) (mCons (mOp dAdd (mC (.int 1)) (mCall 2 M_l_draw [] (mCons (mVar 0) (mCons (mC (.int 5)) mNil)))) mNil)))) mNil))
theorem one3_ok {τ : Sto} {n : Int} {s : DN.PS} (h : τ[0]? = some (.val .pen)) (g : Good n s) (hn : n < 2 ^ 28) : ∃ (k : Nat) (s' : DN.PS), one3 τ s = .ok (.int (k : Int)) s' ∧ 0 < k ∧ k ≤ 5 ∧ Good (n + 2) s' := by
  obtain ⟨z, s1, e1, a1, b1, g1⟩ := draw_ok (m := 5) g (by omega) (by decide) (small_log (by decide) (by decide))
  obtain ⟨d, s2, e2, hd, g2⟩ := pick_ok (ds := [.int 1, .int 1, .int (1 + z)]) g1 (by omega) (by simp) (by simp)
  have ev : one3 τ s = .ok d s2 := EVL.call (EVL.cons (EVL.var h) (EVL.cons (EVL.lst (EVL.cons rfl (EVL.cons rfl (EVL.cons (EVL.op rfl (EVL.call (EVL.cons (EVL.var h) (EVL.cons rfl EVL.nil)) rfl e1) rfl) EVL.nil))) (EVL.len rfl)) EVL.nil)) rfl e2
  simp only [List.mem_cons, List.not_mem_nil, or_false] at hd
  rcases hd with rfl | rfl | rfl
  · exact ⟨1, s2, ev, by decide, by decide, g2.mono (by omega)⟩
  · exact ⟨1, s2, ev, by decide, by decide, g2.mono (by omega)⟩
  · exact ⟨(1 + z).toNat, s2, by rw [ev, Int.toNat_of_nonneg (by omega)], by omega, by omega, g2.mono (by omega)⟩
abbrev four4 : ME := mCall 2 M_l_pick [] (mCons (mVar 0) (mCons (mLst (mCons (mTup (mCons (mC (.int 100)) (mCons (mC (.int 100)) mNil))) (mCons (mTup (mCons (mC (.int 1)) (mCons (mC (.int 10000)) mNil))) (mCons (mTup (mCons (mC (.int 10000)) (mCons (mC (.int 1)) mNil))) (mCons (mTup (mCons (mC (.int 99)) (mCons (mC (.int 3)) mNil))) mNil))))) mNil))
theorem four4_ok {τ : Sto} {n : Int} {s : DN.PS} (h : τ[0]? = some (.val .pen)) (g : Good n s) (hn : n < 2 ^ 28) : ∃ (k l : Nat) (s' : DN.PS), four4 τ s = .ok (.tup [.int (k : Int), .int (l : Int)]) s' ∧ 0 < k ∧ 0 < l ∧ k ≤ 10000 ∧ l ≤ 10000 ∧ k * l ≤ 10000 ∧ Good (n + 1) s' := by
  obtain ⟨d, s2, e2, hd, g2⟩ := pick_ok (ds := [.tup [.int 100, .int 100], .tup [.int 1, .int 10000], .tup [.int 10000, .int 1], .tup [.int 99, .int 3]]) g (by omega) (by simp) (by simp)
  have tp : ∀ a b : Int, mTup (mCons (mC (.int a)) (mCons (mC (.int b)) mNil)) τ s = .ok (.tup [.int a, .int b]) s := fun a b => EVL.tup (EVL.cons rfl (EVL.cons rfl EVL.nil)) (EVL.len rfl)
  have ev : four4 τ s = .ok d s2 := EVL.call (EVL.cons (EVL.var h) (EVL.cons (EVL.lst (EVL.cons (tp 100 100) (EVL.cons (tp 1 10000) (EVL.cons (tp 10000 1) (EVL.cons (tp 99 3) EVL.nil)))) (EVL.len rfl)) EVL.nil)) rfl e2
  simp only [List.mem_cons, List.not_mem_nil, or_false] at hd
  rcases hd with rfl | rfl | rfl | rfl
  · exact ⟨100, 100, s2, ev, by decide, by decide, by decide, by decide, by decide, g2⟩
  · exact ⟨1, 10000, s2, ev, by decide, by decide, by decide, by decide, by decide, g2⟩
  · exact ⟨10000, 1, s2, ev, by decide, by decide, by decide, by decide, by decide, g2⟩
  · exact ⟨99, 3, s2, ev, by decide, by decide, by decide, by decide, by decide, g2⟩
theorem rows_ok {n : Int} {s : DN.PS} (g : Good n s) (hn : n < 2 ^ 26) : ∃ rows w s', M_l_rows [.pen] s = .ok (.lst (rows.map .lst)) s' ∧ Tab rows w ∧ Good (n + 200) s' := by
  have e : M_l_rows = mDef 4 (sSeq (sAsg (mTup (mCons one3 (mCons one3 mNil))) (gT 2 (gsC (gN 1) (gsC (gN 2) gsN))))
    (sSeq (sIf (mB (mOp dEq (mCall 2 M_l_draw [] (mCons (mVar 0) (mCons (mC (.int 40)) mNil))) (mC (.int 0)))) (sSeq (sAsg four4 (gT 2 (gsC (gN 1) (gsC (gN 2) gsN)))) (sRet (mLstN (nLcR1 3 (mCons (mVar 1) mNil) mYes (mLstN (nLcR1 4 (mCons (mVar 2) mNil) mYes mRat)))))) sNext)
    (sRet (mLstN (nLcR1 3 (mCons (mVar 1) mNil) mYes (mLstN (nLcR1 4 (mCons (mVar 2) mNil) mYes mVal))))))) := rfl
  obtain ⟨h, s1, e1, h0, h5, g1⟩ := one3_ok (τ := [.val .pen, .emp, .emp, .emp, .emp]) rfl g (by omega)
  obtain ⟨w, s2, e2, w0, w5, g2⟩ := one3_ok (τ := [.val .pen, .emp, .emp, .emp, .emp]) rfl g1 (by omega)
  obtain ⟨z, s3, e3, _, _, g3⟩ := draw_ok (m := 40) g2 (by omega) (by decide) (small_log (by decide) (by decide))
  have A1 : sAsg (mTup (mCons one3 (mCons one3 mNil))) (gT 2 (gsC (gN 1) (gsC (gN 2) gsN))) [.val .pen, .emp, .emp, .emp, .emp] s = .nx [.val .pen, .val (.int (h : Int)), .val (.int (w : Int)), .emp, .emp] s2 := EVL.asgG (EVL.tup (EVL.cons e1 (EVL.cons e2 EVL.nil)) (EVL.len rfl)) rfl
  have T1 : mB (mOp dEq (mCall 2 M_l_draw [] (mCons (mVar 0) (mCons (mC (.int 40)) mNil))) (mC (.int 0))) [.val .pen, .val (.int (h : Int)), .val (.int (w : Int)), .emp, .emp] s2 = .ok (decide (z = 0)) s3 := EVL.tB (EVL.op (EVL.call (EVL.cons (EVL.var rfl) (EVL.cons rfl EVL.nil)) rfl e3) rfl rfl)
  by_cases hz : z = 0
  · rw [decide_eq_true hz] at T1
    obtain ⟨k, l, s4, e4, k0, l0, k1, l1, km, g4⟩ := four4_ok (τ := [.val .pen, .val (.int (h : Int)), .val (.int (w : Int)), .emp, .emp]) rfl g3 (by omega)
    obtain ⟨rows, s5, e5, ht, hr, g5⟩ := great_ok (y3 := .emp) (y4 := .emp) g4 (by omega) k0 l0 k1 l1 km
    refine ⟨rows, l, s5, ?_, ht, g5.mono (by omega)⟩
    rw [e]
    exact EVL.mdef (EVL.seq A1 (EVL.seq_rt (EVL.if_t T1 (EVL.seq (EVL.asgG e4 rfl) (EVL.ret e5)))))
  · rw [decide_eq_false hz] at T1
    obtain ⟨rows, s5, e5, ht, hr, g5⟩ := small_ok (y3 := .emp) (y4 := .emp) g3 (by omega) h0 w0 h5 w5
    refine ⟨rows, w, s5, ?_, ht, g5.mono (by omega)⟩
    rw [e]
    exact EVL.mdef (EVL.seq A1 (EVL.seq (EVL.if_f T1 EVL.next) (EVL.ret e5)))
end K43

set_option Elab.async false
set_option linter.all false
set_option maxRecDepth 100000
set_option maxHeartbeats 8000000
namespace K43
open PySem PySem.Spec PyProof.Rows L2 Evl LamX TX EV2 DN
section
variable {c : MT} {a b : ME} {τ : Sto} {s s1 : DN.PS} {d : D}
theorem mif_t (hc : c τ s = .ok true s1) (h : a τ s1 = .ok d s1) : mIf c a b τ s = .ok d s1 := by
  unfold mIf; rw [hc]; exact h
theorem mif_f (hc : c τ s = .ok false s1) (h : b τ s1 = .ok d s1) : mIf c a b τ s = .ok d s1 := by
  unfold mIf; rw [hc]; exact h
theorem tOr_t {t u : MT} (h : t τ s = .ok true s1) : mOr t u τ s = .ok true s1 := by
  unfold mOr; rw [h]; rfl
theorem fld {k : Nat} {f : Str} {gs : List (Str × D)} (h : a τ s = .ok (.obj k gs) s1) (hl : gs.lookup f = some d) : mFld k f a τ s = .ok d s1 := by
  unfold mFld
  rw [h]
  dsimp only [DN.bnd]
  rw [if_pos rfl, hl]
theorem len_L {xs : List D} (h : a τ s = .ok (.lst xs) s1) : mCB dLen (mCons a mNil) τ s = .ok (.int xs.length) s1 := EVL.cb (EVL.cons h EVL.nil) rfl
end
variable {rows : List (List D)} {w : Nat}
theorem g_rows : (gridD rows).lookup ("rows" : Str) = some (.tup (rows.map .tup)) := rfl
theorem g_height : (gridD rows).lookup ("height" : Str) = some (.int rows.length) := rfl
theorem g_width : (gridD rows).lookup ("width" : Str) = some (.int (rows.headD []).length) := rfl
theorem at_map {f : List D → D} {k : Int} (h0 : 0 ≤ k) (h1 : k < rows.length) : ∃ r, r ∈ rows ∧ L2.atI (rows.map f) k = some (f r) ∧ rows[k.toNat]? = some r := by
  have hk : k.toNat < rows.length := by omega
  refine ⟨rows[k.toNat], List.getElem_mem hk, ?_, List.getElem?_eq_getElem hk⟩
  unfold atI ixN
  rw [List.length_map, if_pos h0, if_pos h1, Option.bind_some, List.getElem?_map, List.getElem?_eq_getElem hk]
  all_goals rfl
theorem fault_NA {s : DN.PS} {τ : Sto} : mMake 3 1 M_Fault_init [] (mCons (mC (.str "NA")) mNil) τ s = .ok (.obj 3 [("kind", .str "NA")]) s :=
  EVL.make (EVL.cons rfl EVL.nil) rfl (by show M_Fault_init [.str "NA"] s = _; unfold M_Fault_init; dsimp only; rw [if_pos (by decide)])
theorem head_w (T : Tab rows w) : (rows.headD []).length = w := by
  obtain ⟨r, rs, e, hr⟩ := T.ok.head
  rw [e]; exact hr
/-- what both tell for a place -/
theorem place (T : Tab rows w) {row col : Int} {s : DN.PS} (hr : 1 ≤ row) (hc : 1 ≤ col) : ∃ d, Vl d ∧ M__value_for [.obj 4 (gridD rows), .int row, .int col] s = .ok d s ∧ M_l_given [.lst (rows.map .lst), .int row, .int col] s = .ok d s := by
  obtain ⟨r0, rs, e0, hr0⟩ := T.ok.head
  have hw := head_w T
  obtain ⟨D1, d1, hD1⟩ : ∃ D1 : Int, 1 ≤ D1 ∧ ((rows.length = 1 ∧ D1 = 1) ∨ (rows.length ≠ 1 ∧ D1 = row)) := by
    by_cases h : rows.length = 1
    · exact ⟨1, by decide, .inl ⟨h, rfl⟩⟩
    · exact ⟨row, hr, .inr ⟨h, rfl⟩⟩
  obtain ⟨D2, d2, hD2⟩ : ∃ D2 : Int, 1 ≤ D2 ∧ ((w = 1 ∧ D2 = 1) ∨ (w ≠ 1 ∧ D2 = col)) := by
    by_cases h : w = 1
    · exact ⟨1, by decide, .inl ⟨h, rfl⟩⟩
    · exact ⟨col, hc, .inr ⟨h, rfl⟩⟩
  -- the two defs' first steps
  have a1 : ∀ y3 y4 : Sl, mIf (mB (mOp dEq (mFld 4 "height" (mVar 0)) (mC (.int 1)))) (mC (.int 1)) (mVar 1) [.val (.obj 4 (gridD rows)), .val (.int row), .val (.int col), y3, y4] s = .ok (.int D1) s := fun y3 y4 => by
    have t : ∀ v, decide ((rows.length : Int) = 1) = v → mB (mOp dEq (mFld 4 "height" (mVar 0)) (mC (.int 1))) [.val (.obj 4 (gridD rows)), .val (.int row), .val (.int col), y3, y4] s = .ok v s := fun v hv => by
      rw [← hv]; exact EVL.tB (EVL.op (fld (EVL.var rfl) g_height) rfl rfl)
    rcases hD1 with ⟨h, rfl⟩ | ⟨h, rfl⟩
    · exact mif_t (t true (decide_eq_true (by omega))) rfl
    · exact mif_f (t false (decide_eq_false (by omega))) (EVL.var rfl)
  have a2 : ∀ y3 y4 : Sl, mIf (mB (mOp dEq (mFld 4 "width" (mVar 0)) (mC (.int 1)))) (mC (.int 1)) (mVar 2) [.val (.obj 4 (gridD rows)), .val (.int row), .val (.int col), y3, y4] s = .ok (.int D2) s := fun y3 y4 => by
    have t : ∀ v, decide ((w : Int) = 1) = v → mB (mOp dEq (mFld 4 "width" (mVar 0)) (mC (.int 1))) [.val (.obj 4 (gridD rows)), .val (.int row), .val (.int col), y3, y4] s = .ok v s := fun v hv => by
      rw [← hv]; exact EVL.tB (EVL.op (fld (EVL.var rfl) (by rw [g_width, hw])) rfl rfl)
    rcases hD2 with ⟨h, rfl⟩ | ⟨h, rfl⟩
    · exact mif_t (t true (decide_eq_true (by omega))) rfl
    · exact mif_f (t false (decide_eq_false (by omega))) (EVL.var rfl)
  have l0 : ∀ (y1 y2 y3 y4 : Sl), mOp dIxL (mVar 0) (mC (.int 0)) [.val (.lst (rows.map .lst)), y1, y2, y3, y4] s = .ok (.lst r0) s := fun y1 y2 y3 y4 => by
    refine EVL.op (EVL.var rfl) rfl ?_
    unfold dIxL
    dsimp only
    rw [e0, List.map_cons, atI0]
  have ln : ∀ (y1 y2 y3 y4 : Sl), mCB dLen (mCons (mVar 0) mNil) [.val (.lst (rows.map .lst)), y1, y2, y3, y4] s = .ok (.int rows.length) s := fun y1 y2 y3 y4 => by
    have := len_L (a := mVar 0) (τ := [.val (.lst (rows.map .lst)), y1, y2, y3, y4]) (s := s) (s1 := s) (xs := rows.map .lst) (EVL.var rfl)
    rw [List.length_map] at this
    exact this
  have lw : ∀ (y1 y2 y3 y4 : Sl), mCB dLen (mCons (mOp dIxL (mVar 0) (mC (.int 0))) mNil) [.val (.lst (rows.map .lst)), y1, y2, y3, y4] s = .ok (.int (w : Int)) s := fun y1 y2 y3 y4 => by
    have := len_L (l0 y1 y2 y3 y4)
    rw [hr0] at this
    exact this
  have b1 : ∀ y3 y4 : Sl, mIf (mB (mOp dEq (mCB dLen (mCons (mVar 0) mNil)) (mC (.int 1)))) (mC (.int 1)) (mVar 1) [.val (.lst (rows.map .lst)), .val (.int row), .val (.int col), y3, y4] s = .ok (.int D1) s := fun y3 y4 => by
    have t : ∀ v, decide ((rows.length : Int) = 1) = v → mB (mOp dEq (mCB dLen (mCons (mVar 0) mNil)) (mC (.int 1))) [.val (.lst (rows.map .lst)), .val (.int row), .val (.int col), y3, y4] s = .ok v s := fun v hv => by
      rw [← hv]; exact EVL.tB (EVL.op (ln _ _ _ _) rfl rfl)
    rcases hD1 with ⟨h, rfl⟩ | ⟨h, rfl⟩
    · exact mif_t (t true (decide_eq_true (by omega))) rfl
    · exact mif_f (t false (decide_eq_false (by omega))) (EVL.var rfl)
  have b2 : ∀ y3 y4 : Sl, mIf (mB (mOp dEq (mCB dLen (mCons (mOp dIxL (mVar 0) (mC (.int 0))) mNil)) (mC (.int 1)))) (mC (.int 1)) (mVar 2) [.val (.lst (rows.map .lst)), .val (.int row), .val (.int col), y3, y4] s = .ok (.int D2) s := fun y3 y4 => by
    have t : ∀ v, decide ((w : Int) = 1) = v → mB (mOp dEq (mCB dLen (mCons (mOp dIxL (mVar 0) (mC (.int 0))) mNil)) (mC (.int 1))) [.val (.lst (rows.map .lst)), .val (.int row), .val (.int col), y3, y4] s = .ok v s := fun v hv => by
      rw [← hv]; exact EVL.tB (EVL.op (lw _ _ _ _) rfl rfl)
    rcases hD2 with ⟨h, rfl⟩ | ⟨h, rfl⟩
    · exact mif_t (t true (decide_eq_true (by omega))) rfl
    · exact mif_f (t false (decide_eq_false (by omega))) (EVL.var rfl)
  -- the tests
  have p1 : mB (mOp dGt (mVar 3) (mFld 4 "height" (mVar 0))) [.val (.obj 4 (gridD rows)), .val (.int row), .val (.int col), .val (.int D1), .val (.int D2)] s = .ok (decide (D1 > rows.length)) s := EVL.tB (EVL.op (EVL.var rfl) (fld (EVL.var rfl) g_height) rfl)
  have p2 : mB (mOp dGt (mVar 4) (mFld 4 "width" (mVar 0))) [.val (.obj 4 (gridD rows)), .val (.int row), .val (.int col), .val (.int D1), .val (.int D2)] s = .ok (decide (D2 > (w : Int))) s := EVL.tB (EVL.op (EVL.var rfl) (fld (EVL.var rfl) (by rw [g_width, hw])) rfl)
  have q1 : mB (mOp dLe (mVar 3) (mCB dLen (mCons (mVar 0) mNil))) [.val (.lst (rows.map .lst)), .val (.int row), .val (.int col), .val (.int D1), .val (.int D2)] s = .ok (decide (D1 ≤ rows.length)) s := EVL.tB (EVL.op (EVL.var rfl) (ln _ _ _ _) rfl)
  have q2 : mB (mOp dLe (mVar 4) (mCB dLen (mCons (mOp dIxL (mVar 0) (mC (.int 0))) mNil))) [.val (.lst (rows.map .lst)), .val (.int row), .val (.int col), .val (.int D1), .val (.int D2)] s = .ok (decide (D2 ≤ (w : Int))) s := EVL.tB (EVL.op (EVL.var rfl) (lw _ _ _ _) rfl)
  by_cases hin : D1 ≤ rows.length ∧ D2 ≤ (w : Int)
  · rw [decide_eq_false (by omega)] at p1 p2
    rw [decide_eq_true hin.1] at q1
    rw [decide_eq_true hin.2] at q2
    obtain ⟨r, hr1, hr2, hr3⟩ := at_map (rows := rows) (f := .tup) (k := D1 - 1) (by omega) (by omega)
    obtain ⟨r', _, hr4, hr5⟩ := at_map (rows := rows) (f := .lst) (k := D1 - 1) (by omega) (by omega)
    rw [hr3] at hr5
    cases hr5
    have hlr := T.ok.ln r hr1
    obtain ⟨d, hd1, hd2⟩ := at_ok (ds := r) (k := D2 - 1) (by omega) (by omega)
    have i1 : mOp dIxT (mFld 4 "rows" (mVar 0)) (mOp dSub (mVar 3) (mC (.int 1))) [.val (.obj 4 (gridD rows)), .val (.int row), .val (.int col), .val (.int D1), .val (.int D2)] s = .ok (.tup r) s :=
      EVL.op (s1 := s) (s2 := s) (x := .tup (rows.map .tup)) (y := .int (D1 - 1)) (fld (s1 := s) (gs := gridD rows) (EVL.var rfl) g_rows) (EVL.op (s1 := s) (s2 := s) (x := .int D1) (y := .int 1) (EVL.var rfl) rfl rfl) (by unfold dIxT; dsimp only; rw [hr2])
    have i2 : mOp dIxT (mOp dIxT (mFld 4 "rows" (mVar 0)) (mOp dSub (mVar 3) (mC (.int 1)))) (mOp dSub (mVar 4) (mC (.int 1))) [.val (.obj 4 (gridD rows)), .val (.int row), .val (.int col), .val (.int D1), .val (.int D2)] s = .ok d s :=
      EVL.op (s1 := s) (s2 := s) (x := .tup r) (y := .int (D2 - 1)) i1 (EVL.op (s1 := s) (s2 := s) (x := .int D2) (y := .int 1) (EVL.var rfl) rfl rfl) (by unfold dIxT; dsimp only; rw [hd1])
    have i3 : mOp dIxL (mVar 0) (mOp dSub (mVar 3) (mC (.int 1))) [.val (.lst (rows.map .lst)), .val (.int row), .val (.int col), .val (.int D1), .val (.int D2)] s = .ok (.lst r) s :=
      EVL.op (s1 := s) (s2 := s) (x := .lst (rows.map .lst)) (y := .int (D1 - 1)) (EVL.var rfl) (EVL.op (s1 := s) (s2 := s) (x := .int D1) (y := .int 1) (EVL.var rfl) rfl rfl) (by unfold dIxL; dsimp only; rw [hr4])
    have i4 : mOp dIxL (mOp dIxL (mVar 0) (mOp dSub (mVar 3) (mC (.int 1)))) (mOp dSub (mVar 4) (mC (.int 1))) [.val (.lst (rows.map .lst)), .val (.int row), .val (.int col), .val (.int D1), .val (.int D2)] s = .ok d s :=
      EVL.op (s1 := s) (s2 := s) (x := .lst r) (y := .int (D2 - 1)) i3 (EVL.op (s1 := s) (s2 := s) (x := .int D2) (y := .int 1) (EVL.var rfl) rfl rfl) (by unfold dIxL; dsimp only; rw [hd1])
    exact ⟨d, T.vl r hr1 d (List.mem_of_getElem? hd2), EVL.mdef (EVL.seq (EVL.asg (a1 .emp .emp)) (EVL.seq (EVL.asg (a2 _ _)) (EVL.seq (EVL.if_f (EVL.tOr_f p1 p2) EVL.next) (EVL.ret i2)))), EVL.mdef (EVL.seq (EVL.asg (b1 .emp .emp)) (EVL.seq (EVL.asg (b2 _ _)) (EVL.ret (mif_t (EVL.tAnd_t q1 q2) i4))))⟩
  · refine ⟨.obj 3 [("kind", .str "NA")], .inr (.inr (.inr (.inr ⟨_, rfl⟩))), ?_, ?_⟩
    · refine EVL.mdef (EVL.seq (EVL.asg (a1 .emp .emp)) (EVL.seq (EVL.asg (a2 _ _)) (EVL.seq_rt (EVL.if_t ?_ (EVL.ret fault_NA)))))
      by_cases h1 : D1 > (rows.length : Int)
      · rw [decide_eq_true h1] at p1; exact tOr_t p1
      · rw [decide_eq_false h1] at p1
        rw [decide_eq_true (by omega)] at p2
        exact EVL.tOr_f p1 p2
    · refine EVL.mdef (EVL.seq (EVL.asg (b1 .emp .emp)) (EVL.seq (EVL.asg (b2 _ _)) (EVL.ret (mif_f ?_ fault_NA))))
      by_cases h1 : D1 ≤ (rows.length : Int)
      · rw [decide_eq_true h1] at q1
        rw [decide_eq_false (by omega)] at q2
        exact EVL.tAnd_t q1 q2
      · rw [decide_eq_false h1] at q1
        exact EVL.tAnd_f q1
theorem same_ok {d : D} {s : DN.PS} (h : Vl d) : M_l_same [d, d] s = .ok (.bl true) s := by
  have bb : ∀ b : Bool, decide (b = b) = true := fun b => decide_eq_true rfl
  rcases h with rfl | ⟨b, rfl⟩ | ⟨x, rfl, h⟩ | ⟨t, b, rfl⟩ | ⟨k, rfl⟩
  · rfl
  · cases b <;> rfl
  · have t1 : tyIs .str .bool = false := by decide
    have hx : decide (x = x) = true := decide_eq_true rfl
    unfold M_l_same
    simp only [mDef, mInit, sSeq, sNext, sBreak, sCont, sDrop, sRet, sRetN, sAsg, sIf, sPar, sPar3, sRaise, sRaise0, sFldS, sOwnM, sRetO, sOwnL, sApp, DN.bnd, bndS, mVar, mC, mOp, mUn, DN.mB, mAnd, mOr, mNot, mAndV, mOrV, mNotV, mIf, mNil, mCons, mTup, mLst, mCB, mCall, mMeth, mMake, mFld, mFldO, gN, gsN, gsC, gT, o2I, o2C, u1I, dAdd, dSub, dMul, dMulE, dFd, dMod, dPow, dShr, dBand, dLt, dLe, dGt, dGe, dEq, dNe, scalD, eqD, dNeg, dGcd, dAbs, dMax2, dMin2, c1I, c2I, dInt, mTru, truD, dLen, mIsT, mIsO, kindD, dIsN, dNotN, DN.isNon, dIsB, mBits, List.getElem?_cons_zero, List.getElem?_cons_succ, List.set_cons_zero, List.set_cons_succ, List.map_cons, List.map_nil, List.replicate_succ, List.replicate_zero, List.cons_append, List.nil_append, List.append_nil, List.length_cons, List.length_nil, Option.bind_some, Option.bind_none, putD, List.lookup_cons, List.lookup_nil, if_true, if_false, Bool.false_eq_true, reduceIte, Bool.not_true, Bool.not_false, and_self, and_true, true_and, decide_true, decide_false, Int.reduceNeg, isPen, mPen1, mPen2, mPen3, sPen2, sPen3, sPenP, dIxL, dIxT, Nat.zero_add, Nat.reduceAdd, Nat.reduceLeDiff, Nat.reduceEqDiff, Nat.reduceLT, Nat.reduceLeDiff, reduceCtorEq, ite_true, ite_false, mYes, true_or, or_true, Bool.true_or, Bool.or_true, Bool.false_or, Bool.or_false, Bool.true_and, Bool.and_true, Bool.false_and, Bool.and_false, kOk, dOwnL, dOwnR, isLft, dNegO, dEqO, dNeO, boolR, mMeth, gT, gsN, gsC, tyIs, dStrO, mFmt, mJoin, joinD, eqD, scalD, nListOf, nRep, nLcR2, nLcT, nLcEn, mLstN, sOwnN, sIxS, sPop, mCatO, mNeOw, sLend, sForE, sForEn, sForR3, sForRv, sForR1, sForR2, sForL, sForT, dIxE, dSlE, dSlL, dTupOf, dDm, mIsT2, mSl, mPart, mNoP, mIxO, mLenO, sRel, DN.relS, dListOf, mCatL, mRepL, mStrB, mIsK, isK1, List.any_cons, List.any_nil, dIte, DN.isObj, mRevL, strsD, dStrI, dCat, t1, bb, hx]
  · have e : M_Ratio___eq__ [.obj 2 [("top", .int t), ("bottom", .int b)], .obj 2 [("top", .int t), ("bottom", .int b)]] s = .ok (.bl true) s := by
      have h1 : decide (t = t) = true := decide_eq_true rfl
      have h2 : decide (b = b) = true := decide_eq_true rfl
      have l1 : ([("top", .int t), ("bottom", .int b)] : List (Str × D)).lookup ("top" : Str) = some (.int t) := rfl
      have l2 : ([("top", .int t), ("bottom", .int b)] : List (Str × D)).lookup ("bottom" : Str) = some (.int b) := rfl
      unfold M_Ratio___eq__
      generalize ([("top", .int t), ("bottom", .int b)] : List (Str × D)) = G at l1 l2 ⊢
      simp only [mDef, mInit, sSeq, sNext, sBreak, sCont, sDrop, sRet, sRetN, sAsg, sIf, sPar, sPar3, sRaise, sRaise0, sFldS, sOwnM, sRetO, sOwnL, sApp, DN.bnd, bndS, mVar, mC, mOp, mUn, DN.mB, mAnd, mOr, mNot, mAndV, mOrV, mNotV, mIf, mNil, mCons, mTup, mLst, mCB, mCall, mMeth, mMake, mFld, mFldO, gN, gsN, gsC, gT, o2I, o2C, u1I, dAdd, dSub, dMul, dMulE, dFd, dMod, dPow, dShr, dBand, dLt, dLe, dGt, dGe, dEq, dNe, scalD, eqD, dNeg, dGcd, dAbs, dMax2, dMin2, c1I, c2I, dInt, mTru, truD, dLen, mIsT, mIsO, kindD, dIsN, dNotN, DN.isNon, dIsB, mBits, List.getElem?_cons_zero, List.getElem?_cons_succ, List.set_cons_zero, List.set_cons_succ, List.map_cons, List.map_nil, List.replicate_succ, List.replicate_zero, List.cons_append, List.nil_append, List.append_nil, List.length_cons, List.length_nil, Option.bind_some, Option.bind_none, putD, List.lookup_cons, List.lookup_nil, if_true, if_false, Bool.false_eq_true, reduceIte, Bool.not_true, Bool.not_false, and_self, and_true, true_and, decide_true, decide_false, Int.reduceNeg, isPen, mPen1, mPen2, mPen3, sPen2, sPen3, sPenP, dIxL, dIxT, Nat.zero_add, Nat.reduceAdd, Nat.reduceLeDiff, Nat.reduceEqDiff, Nat.reduceLT, Nat.reduceLeDiff, reduceCtorEq, ite_true, ite_false, mYes, true_or, or_true, Bool.true_or, Bool.or_true, Bool.false_or, Bool.or_false, Bool.true_and, Bool.and_true, Bool.false_and, Bool.and_false, kOk, dOwnL, dOwnR, isLft, dNegO, dEqO, dNeO, boolR, mMeth, gT, gsN, gsC, tyIs, dStrO, mFmt, mJoin, joinD, eqD, scalD, nListOf, nRep, nLcR2, nLcT, nLcEn, mLstN, sOwnN, sIxS, sPop, mCatO, mNeOw, sLend, sForE, sForEn, sForR3, sForRv, sForR1, sForR2, sForL, sForT, dIxE, dSlE, dSlL, dTupOf, dDm, mIsT2, mSl, mPart, mNoP, mIxO, mLenO, sRel, DN.relS, dListOf, mCatL, mRepL, mStrB, mIsK, isK1, List.any_cons, List.any_nil, dIte, DN.isObj, mRevL, strsD, dStrI, dCat, l1, l2, h1, h2]
    unfold M_l_same
    generalize ([("top", .int t), ("bottom", .int b)] : List (Str × D)) = G at e ⊢
    simp only [mDef, mInit, sSeq, sNext, sBreak, sCont, sDrop, sRet, sRetN, sAsg, sIf, sPar, sPar3, sRaise, sRaise0, sFldS, sOwnM, sRetO, sOwnL, sApp, DN.bnd, bndS, mVar, mC, mOp, mUn, DN.mB, mAnd, mOr, mNot, mAndV, mOrV, mNotV, mIf, mNil, mCons, mTup, mLst, mCB, mCall, mMeth, mMake, mFld, mFldO, gN, gsN, gsC, gT, o2I, o2C, u1I, dAdd, dSub, dMul, dMulE, dFd, dMod, dPow, dShr, dBand, dLt, dLe, dGt, dGe, dEq, dNe, scalD, eqD, dNeg, dGcd, dAbs, dMax2, dMin2, c1I, c2I, dInt, mTru, truD, dLen, mIsT, mIsO, kindD, dIsN, dNotN, DN.isNon, dIsB, mBits, List.getElem?_cons_zero, List.getElem?_cons_succ, List.set_cons_zero, List.set_cons_succ, List.map_cons, List.map_nil, List.replicate_succ, List.replicate_zero, List.cons_append, List.nil_append, List.append_nil, List.length_cons, List.length_nil, Option.bind_some, Option.bind_none, putD, List.lookup_cons, List.lookup_nil, if_true, if_false, Bool.false_eq_true, reduceIte, Bool.not_true, Bool.not_false, and_self, and_true, true_and, decide_true, decide_false, Int.reduceNeg, isPen, mPen1, mPen2, mPen3, sPen2, sPen3, sPenP, dIxL, dIxT, Nat.zero_add, Nat.reduceAdd, Nat.reduceLeDiff, Nat.reduceEqDiff, Nat.reduceLT, Nat.reduceLeDiff, reduceCtorEq, ite_true, ite_false, mYes, true_or, or_true, Bool.true_or, Bool.or_true, Bool.false_or, Bool.or_false, Bool.true_and, Bool.and_true, Bool.false_and, Bool.and_false, kOk, dOwnL, dOwnR, isLft, dNegO, dEqO, dNeO, boolR, mMeth, gT, gsN, gsC, tyIs, dStrO, mFmt, mJoin, joinD, eqD, scalD, nListOf, nRep, nLcR2, nLcT, nLcEn, mLstN, sOwnN, sIxS, sPop, mCatO, mNeOw, sLend, sForE, sForEn, sForR3, sForRv, sForR1, sForR2, sForL, sForT, dIxE, dSlE, dSlL, dTupOf, dDm, mIsT2, mSl, mPart, mNoP, mIxO, mLenO, sRel, DN.relS, dListOf, mCatL, mRepL, mStrB, mIsK, isK1, List.any_cons, List.any_nil, dIte, DN.isObj, mRevL, strsD, dStrI, dCat, List.mem_cons, List.not_mem_nil, or_false, true_or, or_true, show decide ((2 : Nat) = 2) = true by decide, bb, e]
  · have e : M_Fault___eq__ [.obj 3 [("kind", .str k)], .obj 3 [("kind", .str k)]] s = .ok (.bl true) s := by
      have h1 : decide (k = k) = true := decide_eq_true rfl
      have l1 : ([("kind", .str k)] : List (Str × D)).lookup ("kind" : Str) = some (.str k) := rfl
      unfold M_Fault___eq__
      generalize ([("kind", .str k)] : List (Str × D)) = G at l1 ⊢
      simp only [mDef, mInit, sSeq, sNext, sBreak, sCont, sDrop, sRet, sRetN, sAsg, sIf, sPar, sPar3, sRaise, sRaise0, sFldS, sOwnM, sRetO, sOwnL, sApp, DN.bnd, bndS, mVar, mC, mOp, mUn, DN.mB, mAnd, mOr, mNot, mAndV, mOrV, mNotV, mIf, mNil, mCons, mTup, mLst, mCB, mCall, mMeth, mMake, mFld, mFldO, gN, gsN, gsC, gT, o2I, o2C, u1I, dAdd, dSub, dMul, dMulE, dFd, dMod, dPow, dShr, dBand, dLt, dLe, dGt, dGe, dEq, dNe, scalD, eqD, dNeg, dGcd, dAbs, dMax2, dMin2, c1I, c2I, dInt, mTru, truD, dLen, mIsT, mIsO, kindD, dIsN, dNotN, DN.isNon, dIsB, mBits, List.getElem?_cons_zero, List.getElem?_cons_succ, List.set_cons_zero, List.set_cons_succ, List.map_cons, List.map_nil, List.replicate_succ, List.replicate_zero, List.cons_append, List.nil_append, List.append_nil, List.length_cons, List.length_nil, Option.bind_some, Option.bind_none, putD, List.lookup_cons, List.lookup_nil, if_true, if_false, Bool.false_eq_true, reduceIte, Bool.not_true, Bool.not_false, and_self, and_true, true_and, decide_true, decide_false, Int.reduceNeg, isPen, mPen1, mPen2, mPen3, sPen2, sPen3, sPenP, dIxL, dIxT, Nat.zero_add, Nat.reduceAdd, Nat.reduceLeDiff, Nat.reduceEqDiff, Nat.reduceLT, Nat.reduceLeDiff, reduceCtorEq, ite_true, ite_false, mYes, true_or, or_true, Bool.true_or, Bool.or_true, Bool.false_or, Bool.or_false, Bool.true_and, Bool.and_true, Bool.false_and, Bool.and_false, kOk, dOwnL, dOwnR, isLft, dNegO, dEqO, dNeO, boolR, mMeth, gT, gsN, gsC, tyIs, dStrO, mFmt, mJoin, joinD, eqD, scalD, nListOf, nRep, nLcR2, nLcT, nLcEn, mLstN, sOwnN, sIxS, sPop, mCatO, mNeOw, sLend, sForE, sForEn, sForR3, sForRv, sForR1, sForR2, sForL, sForT, dIxE, dSlE, dSlL, dTupOf, dDm, mIsT2, mSl, mPart, mNoP, mIxO, mLenO, sRel, DN.relS, dListOf, mCatL, mRepL, mStrB, mIsK, isK1, List.any_cons, List.any_nil, dIte, DN.isObj, mRevL, strsD, dStrI, dCat, l1, h1]
    unfold M_l_same
    generalize ([("kind", .str k)] : List (Str × D)) = G at e ⊢
    simp only [mDef, mInit, sSeq, sNext, sBreak, sCont, sDrop, sRet, sRetN, sAsg, sIf, sPar, sPar3, sRaise, sRaise0, sFldS, sOwnM, sRetO, sOwnL, sApp, DN.bnd, bndS, mVar, mC, mOp, mUn, DN.mB, mAnd, mOr, mNot, mAndV, mOrV, mNotV, mIf, mNil, mCons, mTup, mLst, mCB, mCall, mMeth, mMake, mFld, mFldO, gN, gsN, gsC, gT, o2I, o2C, u1I, dAdd, dSub, dMul, dMulE, dFd, dMod, dPow, dShr, dBand, dLt, dLe, dGt, dGe, dEq, dNe, scalD, eqD, dNeg, dGcd, dAbs, dMax2, dMin2, c1I, c2I, dInt, mTru, truD, dLen, mIsT, mIsO, kindD, dIsN, dNotN, DN.isNon, dIsB, mBits, List.getElem?_cons_zero, List.getElem?_cons_succ, List.set_cons_zero, List.set_cons_succ, List.map_cons, List.map_nil, List.replicate_succ, List.replicate_zero, List.cons_append, List.nil_append, List.append_nil, List.length_cons, List.length_nil, Option.bind_some, Option.bind_none, putD, List.lookup_cons, List.lookup_nil, if_true, if_false, Bool.false_eq_true, reduceIte, Bool.not_true, Bool.not_false, and_self, and_true, true_and, decide_true, decide_false, Int.reduceNeg, isPen, mPen1, mPen2, mPen3, sPen2, sPen3, sPenP, dIxL, dIxT, Nat.zero_add, Nat.reduceAdd, Nat.reduceLeDiff, Nat.reduceEqDiff, Nat.reduceLT, Nat.reduceLeDiff, reduceCtorEq, ite_true, ite_false, mYes, true_or, or_true, Bool.true_or, Bool.or_true, Bool.false_or, Bool.or_false, Bool.true_and, Bool.and_true, Bool.false_and, Bool.and_false, kOk, dOwnL, dOwnR, isLft, dNegO, dEqO, dNeO, boolR, mMeth, gT, gsN, gsC, tyIs, dStrO, mFmt, mJoin, joinD, eqD, scalD, nListOf, nRep, nLcR2, nLcT, nLcEn, mLstN, sOwnN, sIxS, sPop, mCatO, mNeOw, sLend, sForE, sForEn, sForR3, sForRv, sForR1, sForR2, sForL, sForT, dIxE, dSlE, dSlL, dTupOf, dDm, mIsT2, mSl, mPart, mNoP, mIxO, mLenO, sRel, DN.relS, dListOf, mCatL, mRepL, mStrB, mIsK, isK1, List.any_cons, List.any_nil, dIte, DN.isObj, mRevL, strsD, dStrI, dCat, List.mem_cons, List.not_mem_nil, or_false, true_or, or_true, show decide ((3 : Nat) = 2) = false by decide, show decide ((3 : Nat) = 3) = true by decide, bb, e]
end K43

set_option Elab.async false
set_option linter.all false
set_option maxRecDepth 100000
set_option maxHeartbeats 4000000
namespace K43
open PySem PySem.Spec PyProof.Rows L2 Evl LamX TX EV2 DN
section
variable {P : Program} {w : World} {K : PySem.W.Frag} {mg : Str → Option Value} {base : Heap} {p : Ad}
theorem ok_is_integer (T : Txt K mg p) : FnOk P w K mg base (L2.CX P w) 1 p.f_is_integer p.d_is_integer P_is_integer (spD (gam K p) 1 M_is_integer) := by
  refine T.F_is_integer.okX sc_is_integer (fun vs H Q E h => spD_len h) (fun cdv A outer s H vs Q E hr h => ?_)
  exact ⟨_, (pss_one (ps_ret (pe_and (pe_callB (id := "isinstance") call_isi (by rfl) T.n_isinstance (by decide +kernel) (pa_cons (pv 0) (pa_cons (pe_bltn (v := .ty "int") (by rfl) T.n_int (by decide +kernel) rfl) pa_nil))) (pe_one (pe_not (pe_callB (id := "isinstance") call_isi (by rfl) T.n_isinstance (by decide +kernel) (pa_cons (pv 0) (pa_cons (pe_bltn (v := .ty "bool") (by rfl) T.n_bool (by decide +kernel) rfl) pa_nil)))))))),
    def_D (Γ := gam K p) (k := 0) (ss_ret (se_andV (se_isT (Γ := gam K p) (b := .int) (by decide) (by intro c hc; cases hc) se_var) (se_notV (se_isT (Γ := gam K p) (b := .bool) (by decide) (by intro c hc; cases hc) se_var)))) (by rfl) h⟩
theorem ok_is_plain (T : Txt K mg p) : FnOk P w K mg base (L2.CX P w) 1 p.f_is_plain p.d_is_plain P_is_plain (spD (gam K p) 1 M_is_plain) := by
  refine T.F_is_plain.okX sc_is_plain (fun vs H Q E h => spD_len h) (fun cdv A outer s H vs Q E hr h => ?_)
  exact ⟨_, (pss_one (ps_ret (pe_and (pe_bm0 PySem.F.plainAttrs_str PySem.F.slot_str_isascii PySem.F.type_str_isascii mt_isascii (pv 0)) (pe_one (pe_bm0 PySem.F.plainAttrs_str PySem.F.slot_str_isprintable PySem.F.type_str_isprintable mt_isprintable (pv 0)))))),
    def_D (Γ := gam K p) (k := 0) (ss_ret (se_andV (se_strB se_var) (se_strB se_var))) (by rfl) h⟩
theorem ok_check_integer (T : Txt K mg p) : FnOk P w K mg base (L2.CX P w) 3 p.f_check_integer p.d_check_integer P_check_integer (spD (gam K p) 1 M_check_integer) := by
  have G_is_integer := ok_is_integer (P := P) (w := w) (base := base) T
  refine T.F_check_integer.okX sc_check_integer (fun vs H Q E h => spD_len h) (fun cdv A outer s H vs Q E hr h => ?_)
  exact ⟨_, (pss_one (ps_if (pt_not (pt_val (pe_call G_is_integer (hr.mono (by decide)) (by rfl) T.mg_is_integer T.F_is_integer.kp T.b_is_integer .nil (passes_call (takes_of rfl rfl rfl rfl) fun _ _ _ _ h => h) (pa_cons (pv 0) pa_nil)))) (pss_one (ps_raise rfl (takes_of rfl rfl rfl rfl) (pmk_R (n := 1) T.e_BadValue.ec (ok_BadValue_init T.e_BadValue.F T.e_BadValue.ec.ox T.e_BadValue.no) (hr.mono (by decide)) (by rfl) T.e_BadValue.gC (kp_BadValue_init T.e_BadValue.F) hx0 (pa_cons (pv 0) pa_nil)))) pss_nil)),
    def_D (Γ := gam K p) (k := 0) (ss_if (st_not (st_B (se_call (sa_cons se_var sa_nil)))) (ss_raise (Γ := gam K p) (c := 0) (fun _ _ _ _ h => h) (fun _ _ => rfl) (sa_cons se_var sa_nil)) ss_next) (by rfl) h⟩
theorem ok_check_list (T : Txt K mg p) : FnOk P w K mg base (L2.CX P w) 3 p.f_check_list p.d_check_list P_check_list (spD (gam K p) 1 M_check_list) := by
  refine T.F_check_list.okX sc_check_list (fun vs H Q E h => spD_len h) (fun cdv A outer s H vs Q E hr h => ?_)
  exact ⟨_, (pss_one (ps_if (pt_not (pt_val (pe_callB (id := "isinstance") call_isiT (by rfl) T.n_isinstance (by decide +kernel) (pa_cons (pv 0) (pa_cons (pe_tup (pa_cons (pe_bltn (v := .ty "list") (by rfl) T.n_list (by decide +kernel) rfl) (pa_cons (pe_bltn (v := .ty "tuple") (by rfl) T.n_tuple (by decide +kernel) rfl) pa_nil))) pa_nil))))) (pss_one (ps_raise rfl (takes_of rfl rfl rfl rfl) (pmk_R (n := 1) T.e_BadValue.ec (ok_BadValue_init T.e_BadValue.F T.e_BadValue.ec.ox T.e_BadValue.no) (hr.mono (by decide)) (by rfl) T.e_BadValue.gC (kp_BadValue_init T.e_BadValue.F) hx0 (pa_cons (pv 0) pa_nil)))) pss_nil)),
    def_D (Γ := gam K p) (k := 0) (ss_if (st_not (st_B (se_isT2 (Γ := gam K p) (b1 := .list) (b2 := .tuple) (by decide) (by decide) (by intro c hc; cases hc) se_var))) (ss_raise (Γ := gam K p) (c := 0) (fun _ _ _ _ h => h) (fun _ _ => rfl) (sa_cons se_var sa_nil)) ss_next) (by rfl) h⟩
theorem ok_Ratio_init (T : Txt K mg p) : FnOk P w K mg base (L2.CX P w) 4 p.f_Ratio_init p.d_Ratio_init P_Ratio_init (spI (gam K p) 2 2 MI_Ratio_init) := by
  have G_check_integer := ok_check_integer (P := P) (w := w) (base := base) T
  refine T.F_Ratio_init.ok (CX := L2.CX P w) sc_Ratio_init (fun vs H Q E h => spI_len h) (fun cdv A outer s H vs Q E hr h => ?_)
  exact ⟨_, (pss_cons (ps_expr (pe_call G_check_integer (hr.mono (by decide)) (by rfl) T.mg_check_integer T.F_check_integer.kp T.b_check_integer .nil (passes_call (takes_of rfl rfl rfl rfl) fun _ _ _ _ h => h) (pa_cons (pv 1) pa_nil)))
      (pss_cons (ps_expr (pe_call G_check_integer (hr.mono (by decide)) (by rfl) T.mg_check_integer T.F_check_integer.kp T.b_check_integer .nil (passes_call (takes_of rfl rfl rfl rfl) fun _ _ _ _ h => h) (pa_cons (pv 2) pa_nil)))
      (pss_cons (ps_if (pt_cmpR op_eq (pv 2) pe_int (nomark _)) (pss_one (ps_raise rfl (takes_of rfl rfl rfl rfl) (EV2.pmk_0 PySem.F.excBase_ValueError T.e_NoDivisor.xC T.e_NoDivisor.gC T.e_NoDivisor.kC (raises_own T.e_NoDivisor.ln.base T.e_NoDivisor.ln.ty) (by rfl)))) pss_nil)
      (pss_cons (ps_set (i := 3) sc_Ratio_init.nd rfl (Or.inl rfl) (pe_callBfun (id := "math.gcd") cr_gcd (by rfl) T.mg_gcd (pa_cons (pv 1) (pa_cons (pv 2) pa_nil))))
      (pss_cons (ps_if (pt_cmpR op_lt (pv 2) pe_int (nomark _)) (pss_one (ps_set (i := 3) sc_Ratio_init.nd rfl (Or.inl rfl) (pe_un un_neg (pv 3)))) pss_nil)
      (pss_cons (ps_fld (pv 0) (pe_op op_fdX (pv 1) (pv 3)) rfl)
      (pss_one (ps_fld (pv 0) (pe_op op_fdX (pv 2) (pv 3)) rfl)))))))),
    init_D (Γ := gam K p) (k := 1) (ss_seq (ss_drop (se_call (sa_cons se_var sa_nil)))
      (ss_seq (ss_drop (se_call (sa_cons se_var sa_nil)))
      (ss_seq (ss_if (st_test (se_op so_eq se_var se_int)) (ss_raise0 (Γ := gam K p) (c := 1) fun _ _ _ _ h => h) ss_next)
      (ss_seq (ss_asg (se_CB sc_gcd (sa_cons se_var (sa_cons se_var sa_nil))) sg_name)
      (ss_seq (ss_if (st_test (se_op so_lt se_var se_int)) (ss_asg (se_un su_neg se_var) sg_name) ss_next)
      (ss_seq (ss_fldO (Γ := gam K p) (c := 2) T.oc_Ratio.cl T.nA_Ratio_top (se_op so_fd se_var se_var))
      (ss_fldO (Γ := gam K p) (c := 2) T.oc_Ratio.cl T.nA_Ratio_bottom (se_op so_fd se_var se_var)))))))) (by rfl) h⟩
theorem ok_Ratio___eq__ (T : Txt K mg p) : FnOk P w K mg base (L2.CX P w) 1 p.f_Ratio___eq__ p.d_Ratio___eq__ P_Ratio___eq__ (spD (gam K p) 2 M_Ratio___eq__) := by
  refine T.F_Ratio___eq__.okX sc_Ratio___eq__ (fun vs H Q E h => spD_len h) (fun cdv A outer s H vs Q E hr h => ?_)
  exact ⟨_, (pss_one (ps_ret (pe_and (pe_callB (id := "isinstance") call_isi (by rfl) T.n_isinstance (by decide +kernel) (pa_cons (pv 1) (pa_cons (pe_glob (v := .ref ((gam K p).cls 2)) (by rfl) T.mg_Ratio rfl) pa_nil))) (pe_and (pe_cmpR op_eq (pe_fld (pv 0) rfl) (pe_fld (pv 1) rfl) (nomark _)) (pe_one (pe_cmpR op_eq (pe_fld (pv 0) rfl) (pe_fld (pv 1) rfl) (nomark _))))))),
    def_D (Γ := gam K p) (k := 0) (ss_ret (se_andV (se_isO (Γ := gam K p) (c := 2) T.oc_Ratio T.kb_Ratio (by intro c hc; cases hc) se_var) (se_andV (se_op so_eq (se_fld (Γ := gam K p) (c := 2) T.oc_Ratio.cl T.nA_Ratio_top se_var) (se_fld (Γ := gam K p) (c := 2) T.oc_Ratio.cl T.nA_Ratio_top se_var)) (se_op so_eq (se_fld (Γ := gam K p) (c := 2) T.oc_Ratio.cl T.nA_Ratio_bottom se_var) (se_fld (Γ := gam K p) (c := 2) T.oc_Ratio.cl T.nA_Ratio_bottom se_var))))) (by rfl) h⟩
theorem ok_Fault_init (T : Txt K mg p) : FnOk P w K mg base (L2.CX P w) 3 p.f_Fault_init p.d_Fault_init P_Fault_init (spI (gam K p) 3 1 MI_Fault_init) := by
  refine T.F_Fault_init.okX sc_Fault_init (fun vs H Q E h => spI_len h) (fun cdv A outer s H vs Q E hr h => ?_)
  exact ⟨_, (pss_cons (ps_if (PW.pt (pw_or (pt_not (pt_val (pe_callB (id := "isinstance") call_isi (by rfl) T.n_isinstance (by decide +kernel) (pa_cons (pv 1) (pa_cons (pe_bltn (v := .ty "str") (by rfl) T.n_str (by decide +kernel) rfl) pa_nil))))) (pw_or1 (pt_cmpR op_notIn_seq (pv 1) (pe_glob (v := .ref p.a_FAULT_KINDS) (by rfl) T.mg_FAULT_KINDS rfl) rfl)))) (pss_one (ps_raise rfl (takes_of rfl rfl rfl rfl) (pmk_R (n := 1) T.e_BadValue.ec (ok_BadValue_init T.e_BadValue.F T.e_BadValue.ec.ox T.e_BadValue.no) (hr.mono (by decide)) (by rfl) T.e_BadValue.gC (kp_BadValue_init T.e_BadValue.F) hx0 (pa_cons (pv 1) pa_nil)))) pss_nil)
      (pss_one (ps_fld (pv 0) (pv 1) rfl))),
    init_D (Γ := gam K p) (k := 0) (ss_seq (ss_if (st_or (st_not (st_B (se_isT (Γ := gam K p) (b := .str) (by decide) (by intro c hc; cases hc) se_var))) (st_test (se_op (so_inS (neg := true)) se_var (se_kT (Γ := gam K p) T.kt_FAULT_KINDS fun _ _ => repL_strs _)))) (ss_raise (Γ := gam K p) (c := 0) (fun _ _ _ _ h => h) (fun _ _ => rfl) (sa_cons se_var sa_nil)) ss_next)
      (ss_fldO (Γ := gam K p) (c := 3) T.oc_Fault.cl T.nA_Fault_kind se_var)) (by rfl) h⟩
theorem ok_Fault___eq__ (T : Txt K mg p) : FnOk P w K mg base (L2.CX P w) 1 p.f_Fault___eq__ p.d_Fault___eq__ P_Fault___eq__ (spD (gam K p) 2 M_Fault___eq__) := by
  refine T.F_Fault___eq__.okX sc_Fault___eq__ (fun vs H Q E h => spD_len h) (fun cdv A outer s H vs Q E hr h => ?_)
  exact ⟨_, (pss_one (ps_ret (pe_and (pe_callB (id := "isinstance") call_isi (by rfl) T.n_isinstance (by decide +kernel) (pa_cons (pv 1) (pa_cons (pe_glob (v := .ref ((gam K p).cls 3)) (by rfl) T.mg_Fault rfl) pa_nil))) (pe_one (pe_cmpR op_eq (pe_fld (pv 0) rfl) (pe_fld (pv 1) rfl) (nomark _)))))),
    def_D (Γ := gam K p) (k := 0) (ss_ret (se_andV (se_isO (Γ := gam K p) (c := 3) T.oc_Fault T.kb_Fault (by intro c hc; cases hc) se_var) (se_op so_eq (se_fld (Γ := gam K p) (c := 3) T.oc_Fault.cl T.nA_Fault_kind se_var) (se_fld (Γ := gam K p) (c := 3) T.oc_Fault.cl T.nA_Fault_kind se_var)))) (by rfl) h⟩
theorem ok_is_number (T : Txt K mg p) : FnOk P w K mg base (L2.CX P w) 1 p.f_is_number p.d_is_number P_is_number (spD (gam K p) 1 M_is_number) := by
  refine T.F_is_number.okX sc_is_number (fun vs H Q E h => spD_len h) (fun cdv A outer s H vs Q E hr h => ?_)
  exact ⟨_, (pss_one (ps_ret (pe_callB (id := "isinstance") call_isiT (by rfl) T.n_isinstance (by decide +kernel) (pa_cons (pv 0) (pa_cons (pe_tup (pa_cons (pe_glob (v := .ref ((gam K p).cls 2)) (by rfl) T.mg_Ratio rfl) (pa_cons (pe_glob (v := .ref ((gam K p).cls 5)) (by rfl) T.mg_Strand rfl) (pa_cons (pe_glob (v := .ref ((gam K p).cls 6)) (by rfl) T.mg_Member rfl) pa_nil)))) pa_nil))))),
    def_D (Γ := gam K p) (k := 0) (ss_ret (se_isK (Γ := gam K p) (κs := [.inr 2, .inr 5, .inr 6]) (os := [2, 3]) (by decide) (List.forall_mem_cons.mpr ⟨⟨T.kb_Ratio, (List.forall_mem_cons.mpr ⟨fun e => absurd rfl e, (List.forall_mem_cons.mpr ⟨fun _ => T.kk_Fault_Ratio, fun _ z => absurd z List.not_mem_nil⟩)⟩)⟩, (List.forall_mem_cons.mpr ⟨⟨T.kb_Strand, (List.forall_mem_cons.mpr ⟨fun _ => T.kk_Ratio_Strand, (List.forall_mem_cons.mpr ⟨fun _ => T.kk_Fault_Strand, fun _ z => absurd z List.not_mem_nil⟩)⟩)⟩, (List.forall_mem_cons.mpr ⟨⟨T.kb_Member, (List.forall_mem_cons.mpr ⟨fun _ => T.kk_Ratio_Member, (List.forall_mem_cons.mpr ⟨fun _ => T.kk_Fault_Member, fun _ z => absurd z List.not_mem_nil⟩)⟩)⟩, fun _ z => absurd z List.not_mem_nil⟩)⟩)⟩) (List.forall_mem_cons.mpr ⟨T.oc_Ratio, (List.forall_mem_cons.mpr ⟨T.oc_Fault, fun _ z => absurd z List.not_mem_nil⟩)⟩) se_var)) (by rfl) h⟩
end
end K43

set_option Elab.async false
set_option linter.all false
set_option maxRecDepth 100000
set_option maxHeartbeats 4000000
namespace K43
open PySem PySem.Spec PyProof.Rows L2 Evl LamX TX EV2 DN
section
variable {P : Program} {w : World} {K : PySem.W.Frag} {mg : Str → Option Value} {base : Heap} {p : Ad}
theorem ok_is_text (T : Txt K mg p) : FnOk P w K mg base (L2.CX P w) 2 p.f_is_text p.d_is_text P_is_text (spD (gam K p) 1 M_is_text) := by
  have G_is_plain := ok_is_plain (P := P) (w := w) (base := base) T
  refine T.F_is_text.okX sc_is_text (fun vs H Q E h => spD_len h) (fun cdv A outer s H vs Q E hr h => ?_)
  exact ⟨_, (pss_one (ps_ret (pe_and (pe_callB (id := "isinstance") call_isi (by rfl) T.n_isinstance (by decide +kernel) (pa_cons (pv 0) (pa_cons (pe_bltn (v := .ty "str") (by rfl) T.n_str (by decide +kernel) rfl) pa_nil))) (pe_and (pe_cmpR op_le (pe_callB (id := "len") call_len (by rfl) T.n_len (by decide +kernel) (pa_cons (pv 0) pa_nil)) (pe_glob (v := .int 1000) (by rfl) T.mg_MOST_CHARACTERS.choose_spec ⟨_, rfl⟩) (nomark _)) (pe_one (pe_call G_is_plain (hr.mono (by decide)) (by rfl) T.mg_is_plain T.F_is_plain.kp T.b_is_plain .nil (passes_call (takes_of rfl rfl rfl rfl) fun _ _ _ _ h => h) (pa_cons (pv 0) pa_nil))))))),
    def_D (Γ := gam K p) (k := 0) (ss_ret (se_andV (se_isT (Γ := gam K p) (b := .str) (by decide) (by intro c hc; simp only [List.mem_cons, List.not_mem_nil, or_false] at hc; rcases hc with rfl | rfl <;> first | exact ⟨T.oc_Ratio, T.kt_Ratio_str⟩ | exact ⟨T.oc_Fault, T.kt_Fault_str⟩) se_var) (se_andV (se_op so_le (se_CB sc_len (sa_cons se_var sa_nil)) se_int) (se_call (sa_cons se_var sa_nil))))) (by rfl) h⟩
theorem ok_is_value (T : Txt K mg p) : FnOk P w K mg base (L2.CX P w) 3 p.f_is_value p.d_is_value P_is_value (spD (gam K p) 1 M_is_value) := by
  have G_is_text := ok_is_text (P := P) (w := w) (base := base) T
  have G_is_number := ok_is_number (P := P) (w := w) (base := base) T
  refine T.F_is_value.okX sc_is_value (fun vs H Q E h => spD_len h) (fun cdv A outer s H vs Q E hr h => ?_)
  exact ⟨_, (pss_cons (ps_if (PW.pt (pw_or (pt_cmpR op_isN1 (pv 0) pe_non (nomark _)) (pw_or1 (pt_val (pe_callB (id := "isinstance") call_isiT (by rfl) T.n_isinstance (by decide +kernel) (pa_cons (pv 0) (pa_cons (pe_tup (pa_cons (pe_bltn (v := .ty "bool") (by rfl) T.n_bool (by decide +kernel) rfl) (pa_cons (pe_glob (v := .ref ((gam K p).cls 3)) (by rfl) T.mg_Fault rfl) pa_nil))) pa_nil))))))) (pss_one (ps_ret pe_bl)) pss_nil)
      (pss_one (ps_ret (pe_or (pe_call G_is_number (hr.mono (by decide)) (by rfl) T.mg_is_number T.F_is_number.kp T.b_is_number .nil (passes_call (takes_of rfl rfl rfl rfl) fun _ _ _ _ h => h) (pa_cons (pv 0) pa_nil)) (pe_one (pe_call G_is_text (hr.mono (by decide)) (by rfl) T.mg_is_text T.F_is_text.kp T.b_is_text .nil (passes_call (takes_of rfl rfl rfl rfl) fun _ _ _ _ h => h) (pa_cons (pv 0) pa_nil))))))),
    def_D (Γ := gam K p) (k := 0) (ss_seq (ss_if (st_or (st_test (se_op so_isN se_var se_non)) (st_B (se_isK (Γ := gam K p) (κs := [.inl .bool, .inr 3]) (os := [2, 3]) (by decide) (List.forall_mem_cons.mpr ⟨⟨by decide, (List.forall_mem_cons.mpr ⟨T.kt_Ratio_bool, (List.forall_mem_cons.mpr ⟨T.kt_Fault_bool, fun _ z => absurd z List.not_mem_nil⟩)⟩)⟩, (List.forall_mem_cons.mpr ⟨⟨T.kb_Fault, (List.forall_mem_cons.mpr ⟨fun _ => T.kk_Ratio_Fault, (List.forall_mem_cons.mpr ⟨fun e => absurd rfl e, fun _ z => absurd z List.not_mem_nil⟩)⟩)⟩, fun _ z => absurd z List.not_mem_nil⟩)⟩) (List.forall_mem_cons.mpr ⟨T.oc_Ratio, (List.forall_mem_cons.mpr ⟨T.oc_Fault, fun _ z => absurd z List.not_mem_nil⟩)⟩) se_var))) (ss_ret se_bl) ss_next)
      (ss_ret (se_orV (se_call (sa_cons se_var sa_nil)) (se_call (sa_cons se_var sa_nil))))) (by rfl) h⟩
theorem ok_check_grid (T : Txt K mg p) : FnOk P w K mg base (L2.CX P w) 3 p.f_check_grid p.d_check_grid P_check_grid (spD (gam K p) 1 M_check_grid) := by
  refine T.F_check_grid.okX sc_check_grid (fun vs H Q E h => spD_len h) (fun cdv A outer s H vs Q E hr h => ?_)
  exact ⟨_, (pss_one (ps_if (pt_not (pt_val (pe_callB (id := "isinstance") call_isi (by rfl) T.n_isinstance (by decide +kernel) (pa_cons (pv 0) (pa_cons (pe_glob (v := .ref ((gam K p).cls 4)) (by rfl) T.mg_Grid rfl) pa_nil))))) (pss_one (ps_raise rfl (takes_of rfl rfl rfl rfl) (pmk_R (n := 1) T.e_BadValue.ec (ok_BadValue_init T.e_BadValue.F T.e_BadValue.ec.ox T.e_BadValue.no) (hr.mono (by decide)) (by rfl) T.e_BadValue.gC (kp_BadValue_init T.e_BadValue.F) hx0 (pa_cons (pv 0) pa_nil)))) pss_nil)),
    def_D (Γ := gam K p) (k := 0) (ss_if (st_not (st_B (se_isO (Γ := gam K p) (c := 4) T.oc_Grid T.kb_Grid (by intro c hc; cases hc) se_var))) (ss_raise (Γ := gam K p) (c := 0) (fun _ _ _ _ h => h) (fun _ _ => rfl) (sa_cons se_var sa_nil)) ss_next) (by rfl) h⟩
theorem ok__is_row (T : Txt K mg p) : FnOk P w K mg base (L2.CX P w) 4 p.f__is_row p.d__is_row P__is_row (spD (gam K p) 1 M__is_row) := by
  have G_is_value := ok_is_value (P := P) (w := w) (base := base) T
  refine T.F__is_row.okX sc__is_row (fun vs H Q E h => spD_len h) (fun cdv A outer s H vs Q E hr h => ?_)
  exact ⟨_, (pss_cons (ps_if (PW.pt (pw_or (pt_not (pt_val (pe_callB (id := "isinstance") call_isiT (by rfl) T.n_isinstance (by decide +kernel) (pa_cons (pv 0) (pa_cons (pe_tup (pa_cons (pe_bltn (v := .ty "list") (by rfl) T.n_list (by decide +kernel) rfl) (pa_cons (pe_bltn (v := .ty "tuple") (by rfl) T.n_tuple (by decide +kernel) rfl) pa_nil))) pa_nil))))) (pw_or1 (pt_cmpR op_eq (pe_callB (id := "len") call_len (by rfl) T.n_len (by decide +kernel) (pa_cons (pv 0) pa_nil)) pe_int (nomark _))))) (pss_one (ps_ret pe_bl)) pss_nil)
      (pss_one (ps_ret (pe_callB (id := "all") (cr_all rfl) (by rfl) T.n_all (by decide +kernel) (pa_cons (pe_lc (own := [("value", 1)]) (g := gName 1) (tt := tYes) rfl sc__is_row.nd (DN.pi_seq (pv 0)) (blkOk_by (own := [("value", 1)]) (N := N__is_row) (sc := defScope s__is_row) (by decide +kernel)) (fun _ _ _ _ _ => pg_name (i := 1) sc__is_row.nd rfl (Or.inl rfl)) (fun _ _ _ _ _ => pts_nil) (fun _ _ _ _ _ => by exact (pe_call G_is_value (hr.mono (by decide)) (by rfl) T.mg_is_value T.F_is_value.kp T.b_is_value .nil (passF (P := P) (w := w)) (pa_cons (pv 1) pa_nil)))) pa_nil))))),
    def_D (Γ := gam K p) (k := 1) (ss_seq (ss_if (st_or (st_not (st_B (se_isT2 (Γ := gam K p) (b1 := .list) (b2 := .tuple) (by decide) (by decide) (by intro c hc; cases hc) se_var))) (st_test (se_op so_eq (se_CB sc_len (sa_cons se_var sa_nil)) se_int))) (ss_ret se_bl) ss_next)
      (ss_ret (se_CB sc_all (sa_cons (se_lcE se_var st_yes (se_call (sa_cons se_var sa_nil))) sa_nil)))) (by rfl) h⟩
theorem ok__is_table (T : Txt K mg p) : FnOk P w K mg base (L2.CX P w) 1 p.f__is_table p.d__is_table P__is_table (spD (gam K p) 1 M__is_table) := by
  refine T.F__is_table.okX sc__is_table (fun vs H Q E h => spD_len h) (fun cdv A outer s H vs Q E hr h => ?_)
  exact ⟨_, (pss_cons (ps_if (PW.pt (pw_or (pt_cmpR op_eq (pe_callB (id := "len") call_len (by rfl) T.n_len (by decide +kernel) (pa_cons (pv 0) pa_nil)) pe_int (nomark _)) (pw_or1 (pt_cmpR op_gt (pe_op op_mulE (pe_callB (id := "len") call_len (by rfl) T.n_len (by decide +kernel) (pa_cons (pv 0) pa_nil)) (pe_callB (id := "len") call_len (by rfl) T.n_len (by decide +kernel) (pa_cons (pe_ix DN.ix_seq (pv 0) pe_int (fun _ _ => rfl)) pa_nil))) (pe_glob (v := .int 10000) (by rfl) T.mg_MOST_VALUES.choose_spec ⟨_, rfl⟩) (nomark _))))) (pss_one (ps_ret pe_bl)) pss_nil)
      (pss_one (ps_ret (pe_callB (id := "all") (cr_all rfl) (by rfl) T.n_all (by decide +kernel) (pa_cons (pe_lc (own := [("row", 1)]) (g := gName 1) (tt := tYes) rfl sc__is_table.nd (DN.pi_seq (pv 0)) (blkOk_by (own := [("row", 1)]) (N := N__is_table) (sc := defScope s__is_table) (by decide +kernel)) (fun _ _ _ _ _ => pg_name (i := 1) sc__is_table.nd rfl (Or.inl rfl)) (fun _ _ _ _ _ => pts_nil) (fun _ _ _ _ _ => by exact (pe_cmpR op_eq (pe_callB (id := "len") (r := rLenK K) call_len (by rfl) T.n_len (by decide +kernel) (pa_cons (pv 1) pa_nil)) (pe_callB (id := "len") (r := rLenK K) call_len (by rfl) T.n_len (by decide +kernel) (pa_cons (pe_ix (r := rIxE K) DN.ix_seq (pv 0) pe_int (fun _ _ => rfl)) pa_nil)) (nomark _)))) pa_nil))))),
    def_D (Γ := gam K p) (k := 1) (ss_seq (ss_if (st_or (st_test (se_op so_eq (se_CB sc_len (sa_cons se_var sa_nil)) se_int)) (st_test (se_op so_gt (se_op so_mulE (se_CB sc_len (sa_cons se_var sa_nil)) (se_CB sc_len (sa_cons (se_op so_ixE se_var se_int) sa_nil))) se_int))) (ss_ret se_bl) ss_next)
      (ss_ret (se_CB sc_all (sa_cons (se_lcE se_var st_yes (se_op so_eq (se_CB sc_len (sa_cons se_var sa_nil)) (se_CB sc_len (sa_cons (se_op so_ixE se_var se_int) sa_nil)))) sa_nil)))) (by rfl) h⟩
theorem ok_is_corner (T : Txt K mg p) : FnOk P w K mg base (L2.CX P w) 2 p.f_is_corner p.d_is_corner P_is_corner (spD (gam K p) 1 M_is_corner) := by
  have G_is_integer := ok_is_integer (P := P) (w := w) (base := base) T
  refine T.F_is_corner.okX sc_is_corner (fun vs H Q E h => spD_len h) (fun cdv A outer s H vs Q E hr h => ?_)
  exact ⟨_, (pss_cons (ps_if (PW.pt (pw_or (pt_not (pt_val (pe_callB (id := "isinstance") call_isiT (by rfl) T.n_isinstance (by decide +kernel) (pa_cons (pv 0) (pa_cons (pe_tup (pa_cons (pe_bltn (v := .ty "list") (by rfl) T.n_list (by decide +kernel) rfl) (pa_cons (pe_bltn (v := .ty "tuple") (by rfl) T.n_tuple (by decide +kernel) rfl) pa_nil))) pa_nil))))) (pw_or1 (pt_cmpR op_ne (pe_callB (id := "len") call_len (by rfl) T.n_len (by decide +kernel) (pa_cons (pv 0) pa_nil)) pe_int (nomark _))))) (pss_one (ps_ret pe_bl)) pss_nil)
      (pss_one (ps_ret (pe_callB (id := "all") (cr_all rfl) (by rfl) T.n_all (by decide +kernel) (pa_cons (pe_lc (own := [("part", 1)]) (g := gName 1) (tt := tYes) rfl sc_is_corner.nd (DN.pi_seq (pv 0)) (blkOk_by (own := [("part", 1)]) (N := N_is_corner) (sc := defScope s_is_corner) (by decide +kernel)) (fun _ _ _ _ _ => pg_name (i := 1) sc_is_corner.nd rfl (Or.inl rfl)) (fun _ _ _ _ _ => pts_nil) (fun _ _ _ _ _ => by exact (pe_and (pe_call G_is_integer (hr.mono (by decide)) (by rfl) T.mg_is_integer T.F_is_integer.kp T.b_is_integer .nil (passF (P := P) (w := w)) (pa_cons (pv 1) pa_nil)) (pe_one (pe_cmpR op_ge (pv 1) pe_int (nomark _)))))) pa_nil))))),
    def_D (Γ := gam K p) (k := 1) (ss_seq (ss_if (st_or (st_not (st_B (se_isT2 (Γ := gam K p) (b1 := .list) (b2 := .tuple) (by decide) (by decide) (by intro c hc; cases hc) se_var))) (st_test (se_op so_ne (se_CB sc_len (sa_cons se_var sa_nil)) se_int))) (ss_ret se_bl) ss_next)
      (ss_ret (se_CB sc_all (sa_cons (se_lcE se_var st_yes (se_andV (se_call (sa_cons se_var sa_nil)) (se_op so_ge se_var se_int))) sa_nil)))) (by rfl) h⟩
theorem ok_Grid_init (T : Txt K mg p) : FnOk P w K mg base (L2.CX P w) 5 p.f_Grid_init p.d_Grid_init P_Grid_init (spI (gam K p) 4 2 MI_Grid_init) := by
  have G_check_list := ok_check_list (P := P) (w := w) (base := base) T
  have G__is_row := ok__is_row (P := P) (w := w) (base := base) T
  have G__is_table := ok__is_table (P := P) (w := w) (base := base) T
  have G_is_corner := ok_is_corner (P := P) (w := w) (base := base) T
  refine T.F_Grid_init.ok (CX := L2.CX P w) sc_Grid_init (fun vs H Q E h => spI_len h) (fun cdv A outer s H vs Q E hr h => ?_)
  exact ⟨_, (pss_cons (ps_expr (pe_call G_check_list (hr.mono (by decide)) (by rfl) T.mg_check_list T.F_check_list.kp T.b_check_list .nil (passes_call (takes_of rfl rfl rfl rfl) fun _ _ _ _ h => h) (pa_cons (pv 1) pa_nil)))
      (pss_cons (ps_for (passes_of rfl) rfl (DN.pi_seq (pv 1)) (pg_name (i := 3) sc_Grid_init.nd rfl (Or.inl rfl)) (pss_one (ps_if (pt_not (pt_val (pe_call G__is_row (hr.mono (by decide)) (by rfl) T.mg__is_row T.F__is_row.kp T.b__is_row .nil (passes_call (takes_of rfl rfl rfl rfl) fun _ _ _ _ h => h) (pa_cons (pv 3) pa_nil)))) (pss_one (ps_raise rfl (takes_of rfl rfl rfl rfl) (pmk_R (n := 1) T.e_BadValue.ec (ok_BadValue_init T.e_BadValue.F T.e_BadValue.ec.ox T.e_BadValue.no) (hr.mono (by decide)) (by rfl) T.e_BadValue.gC (kp_BadValue_init T.e_BadValue.F) hx0 (pa_cons (pv 3) pa_nil)))) pss_nil)))
      (pss_cons (ps_if (pt_not (pt_val (pe_call G__is_table (hr.mono (by decide)) (by rfl) T.mg__is_table T.F__is_table.kp T.b__is_table .nil (passes_call (takes_of rfl rfl rfl rfl) fun _ _ _ _ h => h) (pa_cons (pv 1) pa_nil)))) (pss_one (ps_raise rfl (takes_of rfl rfl rfl rfl) (pmk_R (n := 1) T.e_BadValue.ec (ok_BadValue_init T.e_BadValue.F T.e_BadValue.ec.ox T.e_BadValue.no) (hr.mono (by decide)) (by rfl) T.e_BadValue.gC (kp_BadValue_init T.e_BadValue.F) hx0 (pa_cons (pv 1) pa_nil)))) pss_nil)
      (pss_cons (ps_if (PW.pt (pw_and (pt_cmpR op_notN1 (pv 2) pe_non (nomark _)) (pw_and1 (pt_not (pt_val (pe_call G_is_corner (hr.mono (by decide)) (by rfl) T.mg_is_corner T.F_is_corner.kp T.b_is_corner .nil (passes_call (takes_of rfl rfl rfl rfl) fun _ _ _ _ h => h) (pa_cons (pv 2) pa_nil))))))) (pss_one (ps_raise rfl (takes_of rfl rfl rfl rfl) (pmk_R (n := 1) T.e_BadValue.ec (ok_BadValue_init T.e_BadValue.F T.e_BadValue.ec.ox T.e_BadValue.no) (hr.mono (by decide)) (by rfl) T.e_BadValue.gC (kp_BadValue_init T.e_BadValue.F) hx0 (pa_cons (pv 2) pa_nil)))) pss_nil)
      (pss_cons (ps_fld (pv 0) (pe_callTy (T := "tuple") call_tuple_of (by rfl) T.n_tuple (by decide +kernel) (pa_cons (pe_lc (own := [("row", 3)]) (g := gName 3) (tt := tYes) rfl sc_Grid_init.nd (DN.pi_seq (pv 1)) (blkOk_by (own := [("row", 3)]) (N := N_Grid_init) (sc := defScope s_Grid_init) (by decide +kernel)) (fun _ _ _ _ _ => pg_name (i := 3) sc_Grid_init.nd rfl (Or.inl rfl)) (fun _ _ _ _ _ => pts_nil) (fun _ _ _ _ _ => by exact (pe_callTy (T := "tuple") (r := rTupK K) call_tuple_of (by rfl) T.n_tuple (by decide +kernel) (pa_cons (pv 3) pa_nil)))) pa_nil)) rfl)
      (pss_cons (ps_fld (pv 0) (pe_callB (id := "len") call_len (by rfl) T.n_len (by decide +kernel) (pa_cons (pe_fld (pv 0) rfl) pa_nil)) rfl)
      (pss_cons (ps_fld (pv 0) (pe_callB (id := "len") call_len (by rfl) T.n_len (by decide +kernel) (pa_cons (pe_ix ix_tup (pe_fld (pv 0) rfl) pe_int (fun _ _ => rfl)) pa_nil)) rfl)
      (pss_one (ps_fld (pv 0) (pe_ifExp (pt_cmpR op_isN1 (pv 2) pe_non (nomark _)) pe_non (pe_callTy (T := "tuple") call_tuple_of (by rfl) T.n_tuple (by decide +kernel) (pa_cons (pv 2) pa_nil))) rfl))))))))),
    init_D (Γ := gam K p) (k := 1) (ss_seq (ss_drop (se_call (sa_cons se_var sa_nil)))
      (ss_seq (ss_forE se_var sg_name (ss_if (st_not (st_B (se_call (sa_cons se_var sa_nil)))) (ss_raise (Γ := gam K p) (c := 0) (fun _ _ _ _ h => h) (fun _ _ => rfl) (sa_cons se_var sa_nil)) ss_next))
      (ss_seq (ss_if (st_not (st_B (se_call (sa_cons se_var sa_nil)))) (ss_raise (Γ := gam K p) (c := 0) (fun _ _ _ _ h => h) (fun _ _ => rfl) (sa_cons se_var sa_nil)) ss_next)
      (ss_seq (ss_if (st_and (st_test (se_op so_notN se_var se_non)) (st_not (st_B (se_call (sa_cons se_var sa_nil))))) (ss_raise (Γ := gam K p) (c := 0) (fun _ _ _ _ h => h) (fun _ _ => rfl) (sa_cons se_var sa_nil)) ss_next)
      (ss_seq (ss_fldO (Γ := gam K p) (c := 4) T.oc_Grid.cl T.nA_Grid_rows (se_CB sc_tupOf (sa_cons (se_lcE se_var st_yes (se_CB sc_tupOf (sa_cons se_var sa_nil))) sa_nil)))
      (ss_seq (ss_fldO (Γ := gam K p) (c := 4) T.oc_Grid.cl T.nA_Grid_height (se_CB sc_len (sa_cons (se_fldO (Γ := gam K p) (c := 4) T.oc_Grid.cl T.nA_Grid_rows) sa_nil)))
      (ss_seq (ss_fldO (Γ := gam K p) (c := 4) T.oc_Grid.cl T.nA_Grid_width (se_CB sc_len (sa_cons (se_op so_ixT (se_fldO (Γ := gam K p) (c := 4) T.oc_Grid.cl T.nA_Grid_rows) se_int) sa_nil)))
      (ss_fldO (Γ := gam K p) (c := 4) T.oc_Grid.cl T.nA_Grid_corner (se_if (st_test (se_op so_isN se_var se_non)) se_non (se_CB sc_tupOf (sa_cons se_var sa_nil))))))))))) (by rfl) h⟩
theorem ok__size_of_all (T : Txt K mg p) : FnOk P w K mg base (L2.CX P w) 1 p.f__size_of_all p.d__size_of_all P__size_of_all (spD (gam K p) 1 M__size_of_all) := by
  refine T.F__size_of_all.okX sc__size_of_all (fun vs H Q E h => spD_len h) (fun cdv A outer s H vs Q E hr h => ?_)
  exact ⟨_, (pss_one (ps_ret (pe_tup (pa_cons (pe_callB (id := "max") (cr_max rfl) (by rfl) T.n_max (by decide +kernel) (pa_cons (pe_lc (own := [("grid", 1)]) (g := gName 1) (tt := tYes) rfl sc__size_of_all.nd (DN.pi_seq (pv 0)) (blkOk_by (own := [("grid", 1)]) (N := N__size_of_all) (sc := defScope s__size_of_all) (by decide +kernel)) (fun _ _ _ _ _ => pg_name (i := 1) sc__size_of_all.nd rfl (Or.inl rfl)) (fun _ _ _ _ _ => pts_nil) (fun _ _ _ _ _ => by exact (pe_fldK (K := K) (pv 1) rfl rfl))) pa_nil)) (pa_cons (pe_callB (id := "max") (cr_max rfl) (by rfl) T.n_max (by decide +kernel) (pa_cons (pe_lc (own := [("grid", 1)]) (g := gName 1) (tt := tYes) rfl sc__size_of_all.nd (DN.pi_seq (pv 0)) (blkOk_by (own := [("grid", 1)]) (N := N__size_of_all) (sc := defScope s__size_of_all) (by decide +kernel)) (fun _ _ _ _ _ => pg_name (i := 1) sc__size_of_all.nd rfl (Or.inl rfl)) (fun _ _ _ _ _ => pts_nil) (fun _ _ _ _ _ => by exact (pe_fldK (K := K) (pv 1) rfl rfl))) pa_nil)) pa_nil))))),
    def_D (Γ := gam K p) (k := 1) (ss_ret (se_tup (sa_cons (se_CB sc_maxL (sa_cons (se_lcE se_var st_yes (se_fld (Γ := gam K p) (c := 4) T.oc_Grid.cl T.nA_Grid_height se_var)) sa_nil)) (sa_cons (se_CB sc_maxL (sa_cons (se_lcE se_var st_yes (se_fld (Γ := gam K p) (c := 4) T.oc_Grid.cl T.nA_Grid_width se_var)) sa_nil)) sa_nil)))) (by rfl) h⟩
theorem ok_stretched (T : Txt K mg p) : FnOk P w K mg base (L2.CX P w) 4 p.f_stretched p.d_stretched P_stretched (spD (gam K p) 1 M_stretched) := by
  have G_check_list := ok_check_list (P := P) (w := w) (base := base) T
  have G_check_grid := ok_check_grid (P := P) (w := w) (base := base) T
  have G__size_of_all := ok__size_of_all (P := P) (w := w) (base := base) T
  refine T.F_stretched.okX sc_stretched (fun vs H Q E h => spD_len h) (fun cdv A outer s H vs Q E hr h => ?_)
  exact ⟨_, (pss_cons (ps_expr (pe_call G_check_list (hr.mono (by decide)) (by rfl) T.mg_check_list T.F_check_list.kp T.b_check_list .nil (passes_call (takes_of rfl rfl rfl rfl) fun _ _ _ _ h => h) (pa_cons (pv 0) pa_nil)))
      (pss_cons (ps_for (passes_of rfl) rfl (DN.pi_seq (pv 0)) (pg_name (i := 1) sc_stretched.nd rfl (Or.inl rfl)) (pss_one (ps_expr (pe_call G_check_grid (hr.mono (by decide)) (by rfl) T.mg_check_grid T.F_check_grid.kp T.b_check_grid .nil (passes_call (takes_of rfl rfl rfl rfl) fun _ _ _ _ h => h) (pa_cons (pv 1) pa_nil)))))
      (pss_cons (ps_if (pt_not (pt_truth (pv 0) (by intro _; rfl))) (pss_one (ps_raise rfl (takes_of rfl rfl rfl rfl) (pmk_R (n := 1) T.e_BadValue.ec (ok_BadValue_init T.e_BadValue.F T.e_BadValue.ec.ox T.e_BadValue.no) (hr.mono (by decide)) (by rfl) T.e_BadValue.gC (kp_BadValue_init T.e_BadValue.F) hx0 (pa_cons (pv 0) pa_nil)))) pss_nil)
      (pss_one (ps_ret (pe_call G__size_of_all (hr.mono (by decide)) (by rfl) T.mg__size_of_all T.F__size_of_all.kp T.b__size_of_all .nil (passes_call (takes_of rfl rfl rfl rfl) fun _ _ _ _ h => h) (pa_cons (pv 0) pa_nil))))))),
    def_D (Γ := gam K p) (k := 1) (ss_seq (ss_drop (se_call (sa_cons se_var sa_nil)))
      (ss_seq (ss_forE se_var sg_name (ss_drop (se_call (sa_cons se_var sa_nil))))
      (ss_seq (ss_if (st_not (st_tru se_var)) (ss_raise (Γ := gam K p) (c := 0) (fun _ _ _ _ h => h) (fun _ _ => rfl) (sa_cons se_var sa_nil)) ss_next)
      (ss_ret (se_call (sa_cons se_var sa_nil)))))) (by rfl) h⟩
end
end K43

set_option Elab.async false
set_option linter.all false
set_option maxRecDepth 100000
set_option maxHeartbeats 4000000
namespace K43
open PySem PySem.Spec PyProof.Rows L2 Evl LamX TX EV2 DN
section
variable {P : Program} {w : World} {K : PySem.W.Frag} {mg : Str → Option Value} {base : Heap} {p : Ad}
theorem ok__value_for (T : Txt K mg p) : FnOk P w K mg base (L2.CX P w) 5 p.f__value_for p.d__value_for P__value_for (spD (gam K p) 3 M__value_for) := by
  have G_Fault_init := ok_Fault_init (P := P) (w := w) (base := base) T
  have b_Fault_init_1 := T.b_Fault_init
  have v_Fault_init_1 : Vals [] [] := .nil
  refine T.F__value_for.okX sc__value_for (fun vs H Q E h => spD_len h) (fun cdv A outer s H vs Q E hr h => ?_)
  exact ⟨_, (pss_cons (ps_set (i := 3) sc__value_for.nd rfl (Or.inl rfl) (pe_ifExp (pt_cmpR op_eq (pe_fld (pv 0) rfl) pe_int (nomark _)) pe_int (pv 1)))
      (pss_cons (ps_set (i := 4) sc__value_for.nd rfl (Or.inl rfl) (pe_ifExp (pt_cmpR op_eq (pe_fld (pv 0) rfl) pe_int (nomark _)) pe_int (pv 2)))
      (pss_cons (ps_if (PW.pt (pw_or (pt_cmpR op_gt (pv 3) (pe_fld (pv 0) rfl) (nomark _)) (pw_or1 (pt_cmpR op_gt (pv 4) (pe_fld (pv 0) rfl) (nomark _))))) (pss_one (ps_ret (pe_make T.mk_Fault G_Fault_init (hr.mono (by decide)) (by rfl) T.mg_Fault b_Fault_init_1 v_Fault_init_1 (passes_call (takes_of rfl rfl rfl rfl) fun _ _ _ _ h => h) (pa_cons pe_str pa_nil)))) pss_nil)
      (pss_one (ps_ret (pe_ix ix_tup (pe_ix ix_tup (pe_fld (pv 0) rfl) (pe_op op_sub (pv 3) pe_int) (fun _ _ => rfl)) (pe_op op_sub (pv 4) pe_int) (fun _ _ => rfl))))))),
    def_D (Γ := gam K p) (k := 2) (ss_seq (ss_asg (se_if (st_test (se_op so_eq (se_fld (Γ := gam K p) (c := 4) T.oc_Grid.cl T.nA_Grid_height se_var) se_int)) se_int se_var) sg_name)
      (ss_seq (ss_asg (se_if (st_test (se_op so_eq (se_fld (Γ := gam K p) (c := 4) T.oc_Grid.cl T.nA_Grid_width se_var) se_int)) se_int se_var) sg_name)
      (ss_seq (ss_if (st_or (st_test (se_op so_gt se_var (se_fld (Γ := gam K p) (c := 4) T.oc_Grid.cl T.nA_Grid_height se_var))) (st_test (se_op so_gt se_var (se_fld (Γ := gam K p) (c := 4) T.oc_Grid.cl T.nA_Grid_width se_var)))) (ss_ret (se_makeR (Γ := gam K p) hI_Fault_init (by intro q H; exact .nil) (sa_cons se_str sa_nil))) ss_next)
      (ss_ret (se_op so_ixT (se_op so_ixT (se_fld (Γ := gam K p) (c := 4) T.oc_Grid.cl T.nA_Grid_rows se_var) (se_op so_sub se_var se_int)) (se_op so_sub se_var se_int)))))) (by rfl) h⟩
theorem ok_part_at (T : Txt K mg p) : FnOk P w K mg base (L2.CX P w) 6 p.f_part_at p.d_part_at P_part_at (spD (gam K p) 3 M_part_at) := by
  have G_check_grid := ok_check_grid (P := P) (w := w) (base := base) T
  have G_is_integer := ok_is_integer (P := P) (w := w) (base := base) T
  have G__value_for := ok__value_for (P := P) (w := w) (base := base) T
  refine T.F_part_at.okX sc_part_at (fun vs H Q E h => spD_len h) (fun cdv A outer s H vs Q E hr h => ?_)
  exact ⟨_, (pss_cons (ps_expr (pe_call G_check_grid (hr.mono (by decide)) (by rfl) T.mg_check_grid T.F_check_grid.kp T.b_check_grid .nil (passes_call (takes_of rfl rfl rfl rfl) fun _ _ _ _ h => h) (pa_cons (pv 0) pa_nil)))
      (pss_cons (ps_for (passes_of rfl) rfl (pi_tup (pe_tup (pa_cons (pv 1) (pa_cons (pv 2) pa_nil)))) (pg_name (i := 3) sc_part_at.nd rfl (Or.inl rfl)) (pss_one (ps_if (PW.pt (pw_or (pt_not (pt_val (pe_call G_is_integer (hr.mono (by decide)) (by rfl) T.mg_is_integer T.F_is_integer.kp T.b_is_integer .nil (passes_call (takes_of rfl rfl rfl rfl) fun _ _ _ _ h => h) (pa_cons (pv 3) pa_nil)))) (pw_or1 (pt_cmpR op_lt (pv 3) pe_int (nomark _))))) (pss_one (ps_raise rfl (takes_of rfl rfl rfl rfl) (pmk_R (n := 1) T.e_BadValue.ec (ok_BadValue_init T.e_BadValue.F T.e_BadValue.ec.ox T.e_BadValue.no) (hr.mono (by decide)) (by rfl) T.e_BadValue.gC (kp_BadValue_init T.e_BadValue.F) hx0 (pa_cons (pv 3) pa_nil)))) pss_nil)))
      (pss_one (ps_ret (pe_call G__value_for (hr.mono (by decide)) (by rfl) T.mg__value_for T.F__value_for.kp T.b__value_for .nil (passes_call (takes_of rfl rfl rfl rfl) fun _ _ _ _ h => h) (pa_cons (pv 0) (pa_cons (pv 1) (pa_cons (pv 2) pa_nil)))))))),
    def_D (Γ := gam K p) (k := 1) (ss_seq (ss_drop (se_call (sa_cons se_var sa_nil)))
      (ss_seq (ss_forT (se_tup (sa_cons se_var (sa_cons se_var sa_nil))) sg_name (ss_if (st_or (st_not (st_B (se_call (sa_cons se_var sa_nil)))) (st_test (se_op so_lt se_var se_int))) (ss_raise (Γ := gam K p) (c := 0) (fun _ _ _ _ h => h) (fun _ _ => rfl) (sa_cons se_var sa_nil)) ss_next))
      (ss_ret (se_call (sa_cons se_var (sa_cons se_var (sa_cons se_var sa_nil))))))) (by rfl) h⟩
theorem ok_l_draw (T : Txt K mg p) : FnOk P w K mg base CX0 1 p.f_l_draw p.d_l_draw P_l_draw (spL (gam K p) 2 M_l_draw) := by
  refine T.F_l_draw.ok sc_l_draw (fun vs H Q E h => spL_len h) (fun cdv A outer s H vs Q E hr h => ?_)
  exact ⟨_, (pss_cons (ps_if (pt_cmpR op_gt (pe_dget (room_u1 hr) (pv 0) pe_str (fun _ _ => rfl)) pe_int (nomark _)) (pss_cons (ps_set (i := 2) sc_l_draw.nd rfl (Or.inl rfl) (pe_op op_modN (pe_callTy (T := "int") call_int1 (by rfl) T.n_int (by decide +kernel) (pa_cons (pe_dget (room_u1 hr) (pv 0) pe_str (fun _ _ => rfl)) pa_nil)) (pv 1)))
      (pss_cons (ps_dput (room_u1 hr) (pv 0) pe_str (pe_op op_fdX (pe_dget (room_u1 hr) (pv 0) pe_str (fun _ _ => rfl)) (pv 1)) rfl)
      (pss_one (ps_ret (pv 2))))) pss_nil)
      (pss_cons (ps_set (i := 3) sc_l_draw.nd rfl (Or.inl rfl) (pe_dget (room_u1 hr) (pv 0) pe_str (fun _ _ => rfl)))
      (pss_cons (ps_dput (room_u1 hr) (pv 0) pe_str (pe_op op_add (pv 3) pe_int) rfl)
      (pss_cons (ps_set (i := 4) sc_l_draw.nd rfl (Or.inl rfl) (pe_op op_add (pe_op op_mulE pe_int (pv 3)) pe_int))
      (pss_cons (ps_if (pt_cmpR (op_neD hr.units) (pe_dget (room_u1 hr) (pv 0) pe_str (fun _ _ => rfl)) (pe_lst pa_nil) (nomark _)) (pss_one (ps_set (i := 4) sc_l_draw.nd rfl (Or.inl rfl) (pe_ix ix_list (pe_dget (room_u1 hr) (pv 0) pe_str (fun _ _ => rfl)) (pe_op op_modN (pe_callTy (T := "int") call_int1 (by rfl) T.n_int (by decide +kernel) (pa_cons (pv 3) pa_nil)) (pe_callB (id := "len") call_len (by rfl) T.n_len (by decide +kernel) (pa_cons (pe_dget (room_u1 hr) (pv 0) pe_str (fun _ _ => rfl)) pa_nil))) (fun _ _ => rfl)))) pss_nil)
      (pss_cons (ps_if (PW.pt (pw_and (pt_cmpR op_lt (pv 3) (pe_callB (id := "len") call_len (by rfl) T.n_len (by decide +kernel) (pa_cons (pe_dget (room_u1 hr) (pv 0) pe_str (fun _ _ => rfl)) pa_nil)) (nomark _)) (pw_and1 (pt_cmpR op_ge (pe_callB (id := "abs") call_abs (by rfl) T.n_abs (by decide +kernel) (pa_cons (pv 4) pa_nil)) (pe_op op_pow pe_int pe_int) (nomark _))))) (pss_cons (ps_dput (room_u1 hr) (pv 0) pe_str (pe_op op_fdX (pe_op op_sub (pe_callB (id := "abs") call_abs (by rfl) T.n_abs (by decide +kernel) (pa_cons (pv 4) pa_nil)) (pe_op op_pow pe_int pe_int)) (pv 1)) rfl)
      (pss_one (ps_ret (pe_op op_modN (pe_callTy (T := "int") call_int1 (by rfl) T.n_int (by decide +kernel) (pa_cons (pe_op op_sub (pe_callB (id := "abs") call_abs (by rfl) T.n_abs (by decide +kernel) (pa_cons (pv 4) pa_nil)) (pe_op op_pow pe_int pe_int)) pa_nil)) (pv 1))))) pss_nil)
      (pss_cons (ps_set (i := 5) sc_l_draw.nd rfl (Or.inl rfl) (pe_op op_add (pe_op op_mulE (pe_op op_modN (pe_callTy (T := "int") call_int1 (by rfl) T.n_int (by decide +kernel) (pa_cons (pv 4) pa_nil)) pe_int) pe_int) (pe_op op_mulE (pe_op op_mulE pe_int (pv 3)) (pv 3))))
      (pss_cons (ps_set (i := 5) sc_l_draw.nd rfl (Or.inl rfl) (pe_op op_modN (pe_callTy (T := "int") call_int1 (by rfl) T.n_int (by decide +kernel) (pa_cons (pe_op op_add (pe_op op_add (pv 5) (pe_op op_mulE pe_int (pv 3))) pe_int) pa_nil)) pe_int))
      (pss_cons (ps_set (i := 5) sc_l_draw.nd rfl (Or.inl rfl) (pe_op op_modN (pe_callTy (T := "int") call_int1 (by rfl) T.n_int (by decide +kernel) (pa_cons (pe_op op_add (pe_op op_add (pe_op op_add (pe_op op_mulE (pv 5) (pv 5)) (pe_op op_mulE pe_int (pv 5))) (pe_op op_mulE pe_int (pv 3))) pe_int) pa_nil)) pe_int))
      (pss_cons (ps_set (i := 5) sc_l_draw.nd rfl (Or.inl rfl) (pe_op op_modN (pe_callTy (T := "int") call_int1 (by rfl) T.n_int (by decide +kernel) (pa_cons (pe_op op_add (pe_op op_add (pe_op op_mulE (pv 5) (pv 5)) (pe_op op_mulE pe_int (pv 5))) (pv 3)) pa_nil)) pe_int))
      (pss_one (ps_ret (pe_op op_modN (pe_callTy (T := "int") call_int1 (by rfl) T.n_int (by decide +kernel) (pa_cons (pe_op op_fdX (pe_op op_modN (pe_callTy (T := "int") call_int1 (by rfl) T.n_int (by decide +kernel) (pa_cons (pe_op op_mulE (pv 5) (pe_op op_add (pv 5) pe_int)) pa_nil)) pe_int) pe_int) pa_nil)) (pv 1)))))))))))))),
    def_L (Γ := gam K p) (k := 4) (ss_seq (ss_if (st_test (se_op so_gt (se_pen3 (Γ := gam K p) keysK) se_int)) (ss_seq (ss_asg (se_op so_mod (se_CB sc_int (sa_cons (se_pen3 (Γ := gam K p) keysK) sa_nil)) se_var) sg_name)
      (ss_seq (ss_pen3 (Γ := gam K p) keysK (se_op so_fd (se_pen3 (Γ := gam K p) keysK) se_var))
      (ss_ret se_var))) ss_next)
      (ss_seq (ss_asg (se_pen2 (Γ := gam K p) keysK) sg_name)
      (ss_seq (ss_pen2 (Γ := gam K p) keysK (se_op so_add se_var se_int))
      (ss_seq (ss_asg (se_op so_add (se_op so_mulE se_int se_var) se_int) sg_name)
      (ss_seq (ss_if (st_test (se_op so_neD (se_pen1 (Γ := gam K p)) (se_lst sa_nil))) (ss_asg (se_op so_ixL (se_pen1 (Γ := gam K p)) (se_op so_mod (se_CB sc_int (sa_cons se_var sa_nil)) (se_CB sc_len (sa_cons (se_pen1 (Γ := gam K p)) sa_nil)))) sg_name) ss_next)
      (ss_seq (ss_if (st_and (st_test (se_op so_lt se_var (se_CB sc_len (sa_cons (se_pen1 (Γ := gam K p)) sa_nil)))) (st_test (se_op so_ge (se_CB sc_abs (sa_cons se_var sa_nil)) (se_op so_pow se_int se_int)))) (ss_seq (ss_pen3 (Γ := gam K p) keysK (se_op so_fd (se_op so_sub (se_CB sc_abs (sa_cons se_var sa_nil)) (se_op so_pow se_int se_int)) se_var))
      (ss_ret (se_op so_mod (se_CB sc_int (sa_cons (se_op so_sub (se_CB sc_abs (sa_cons se_var sa_nil)) (se_op so_pow se_int se_int)) sa_nil)) se_var))) ss_next)
      (ss_seq (ss_asg (se_op so_add (se_op so_mulE (se_op so_mod (se_CB sc_int (sa_cons se_var sa_nil)) se_int) se_int) (se_op so_mulE (se_op so_mulE se_int se_var) se_var)) sg_name)
      (ss_seq (ss_asg (se_op so_mod (se_CB sc_int (sa_cons (se_op so_add (se_op so_add se_var (se_op so_mulE se_int se_var)) se_int) sa_nil)) se_int) sg_name)
      (ss_seq (ss_asg (se_op so_mod (se_CB sc_int (sa_cons (se_op so_add (se_op so_add (se_op so_add (se_op so_mulE se_var se_var) (se_op so_mulE se_int se_var)) (se_op so_mulE se_int se_var)) se_int) sa_nil)) se_int) sg_name)
      (ss_seq (ss_asg (se_op so_mod (se_CB sc_int (sa_cons (se_op so_add (se_op so_add (se_op so_mulE se_var se_var) (se_op so_mulE se_int se_var)) se_var) sa_nil)) se_int) sg_name)
      (ss_ret (se_op so_mod (se_CB sc_int (sa_cons (se_op so_fd (se_op so_mod (se_CB sc_int (sa_cons (se_op so_mulE se_var (se_op so_add se_var se_int)) sa_nil)) se_int) se_int) sa_nil)) se_var)))))))))))) (by rfl) h⟩
theorem ok_l_pick (T : Txt K mg p) : FnOk P w K mg base CX0 2 p.f_l_pick p.d_l_pick P_l_pick (spL (gam K p) 2 M_l_pick) := by
  have G_l_draw := ok_l_draw (P := P) (w := w) (base := base) T
  refine T.F_l_pick.ok sc_l_pick (fun vs H Q E h => spL_len h) (fun cdv A outer s H vs Q E hr h => ?_)
  exact ⟨_, (pss_one (ps_ret (pe_ix ix_list (pv 1) (pe_call G_l_draw (hr.mono (by decide)) (by rfl) T.mg_l_draw T.F_l_draw.kp T.b_l_draw .nil pass0 (pa_cons (pv 0) (pa_cons (pe_callB (id := "len") call_len (by rfl) T.n_len (by decide +kernel) (pa_cons (pv 1) pa_nil)) pa_nil))) (fun _ _ => rfl)))),
    def_L (Γ := gam K p) (k := 0) (ss_ret (se_op so_ixL se_var (se_callL (sa_cons se_var (sa_cons (se_CB sc_len (sa_cons se_var sa_nil)) sa_nil))))) (by rfl) h⟩
theorem ok_l_value (T : Txt K mg p) : FnOk P w K mg base CX0 6 p.f_l_value p.d_l_value P_l_value (spL (gam K p) 1 M_l_value) := by
  have G_Ratio_init := ok_Ratio_init (P := P) (w := w) (base := base) T
  have G_l_draw := ok_l_draw (P := P) (w := w) (base := base) T
  have G_Fault_init := ok_Fault_init (P := P) (w := w) (base := base) T
  have G_l_pick := ok_l_pick (P := P) (w := w) (base := base) T
  have b_Fault_init_1 := T.b_Fault_init
  have v_Fault_init_1 : Vals [] [] := .nil
  obtain ⟨ds_Ratio_init_2, v_Ratio_init_2, b_Ratio_init_2⟩ := bd_Ratio_init_2 T.F_Ratio_init
  refine T.F_l_value.ok sc_l_value (fun vs H Q E h => spL_len h) (fun cdv A outer s H vs Q E hr h => ?_)
  exact ⟨_, (pss_cons (ps_set (i := 1) sc_l_value.nd rfl (Or.inl rfl) (pe_make T.mk_Ratio G_Ratio_init (hr.mono (by decide)) (by rfl) T.mg_Ratio b_Ratio_init_2 v_Ratio_init_2 (passF (P := P) (w := w)) (pa_cons (pe_op op_sub (pe_call G_l_draw (hr.mono (by decide)) (by rfl) T.mg_l_draw T.F_l_draw.kp T.b_l_draw .nil pass0 (pa_cons (pv 0) (pa_cons pe_int pa_nil))) pe_int) (pa_cons (pe_op op_add pe_int (pe_call G_l_draw (hr.mono (by decide)) (by rfl) T.mg_l_draw T.F_l_draw.kp T.b_l_draw .nil pass0 (pa_cons (pv 0) (pa_cons pe_int pa_nil)))) pa_nil))))
      (pss_one (ps_ret (pe_call G_l_pick (hr.mono (by decide)) (by rfl) T.mg_l_pick T.F_l_pick.kp T.b_l_pick .nil pass0 (pa_cons (pv 0) (pa_cons (pe_lst (pa_cons (pv 1) (pa_cons (pv 1) (pa_cons (pe_op op_add_str pe_str (pe_callTy (T := "str") call_str_int (by rfl) T.n_str (by decide +kernel) (pa_cons (pe_call G_l_draw (hr.mono (by decide)) (by rfl) T.mg_l_draw T.F_l_draw.kp T.b_l_draw .nil pass0 (pa_cons (pv 0) (pa_cons pe_int pa_nil))) pa_nil))) (pa_cons (pe_cmpR op_eq (pe_call G_l_draw (hr.mono (by decide)) (by rfl) T.mg_l_draw T.F_l_draw.kp T.b_l_draw .nil pass0 (pa_cons (pv 0) (pa_cons pe_int pa_nil))) pe_int (nomark _)) (pa_cons pe_non (pa_cons (pe_make T.mk_Fault G_Fault_init (hr.mono (by decide)) (by rfl) T.mg_Fault b_Fault_init_1 v_Fault_init_1 (passF (P := P) (w := w)) (pa_cons pe_str pa_nil)) (pa_cons (pe_make T.mk_Fault G_Fault_init (hr.mono (by decide)) (by rfl) T.mg_Fault b_Fault_init_1 v_Fault_init_1 (passF (P := P) (w := w)) (pa_cons pe_str pa_nil)) pa_nil)))))))) pa_nil)))))),
    def_L (Γ := gam K p) (k := 1) (ss_seq (ss_asg (se_makeR (Γ := gam K p) hI_Ratio_init (by intro q H; exact .nil) (sa_cons (se_op so_sub (se_callL (sa_cons se_var (sa_cons se_int sa_nil))) se_int) (sa_cons (se_op so_add se_int (se_callL (sa_cons se_var (sa_cons se_int sa_nil)))) sa_nil))) sg_name)
      (ss_ret (se_callL (sa_cons se_var (sa_cons (se_lst (sa_cons se_var (sa_cons se_var (sa_cons (se_op so_cat se_str (se_CB sc_strI (sa_cons (se_callL (sa_cons se_var (sa_cons se_int sa_nil))) sa_nil))) (sa_cons (se_op so_eq (se_callL (sa_cons se_var (sa_cons se_int sa_nil))) se_int) (sa_cons se_non (sa_cons (se_makeR (Γ := gam K p) hI_Fault_init (by intro q H; exact .nil) (sa_cons se_str sa_nil)) (sa_cons (se_makeR (Γ := gam K p) hI_Fault_init (by intro q H; exact .nil) (sa_cons se_str sa_nil)) sa_nil)))))))) sa_nil))))) (by rfl) h⟩
theorem ok_l_rows (T : Txt K mg p) : FnOk P w K mg base CX0 7 p.f_l_rows p.d_l_rows P_l_rows (spL (gam K p) 1 M_l_rows) := by
  have G_l_draw := ok_l_draw (P := P) (w := w) (base := base) T
  have G_l_pick := ok_l_pick (P := P) (w := w) (base := base) T
  have G_Ratio_init := ok_Ratio_init (P := P) (w := w) (base := base) T
  have G_l_value := ok_l_value (P := P) (w := w) (base := base) T
  obtain ⟨ds_Ratio_init_1, v_Ratio_init_1, b_Ratio_init_1⟩ := bd_Ratio_init_1 T.F_Ratio_init
  refine T.F_l_rows.ok sc_l_rows (fun vs H Q E h => spL_len h) (fun cdv A outer s H vs Q E hr h => ?_)
  exact ⟨_, (pss_cons (ps_asg (pe_tup (pa_cons (pe_call G_l_pick (hr.mono (by decide)) (by rfl) T.mg_l_pick T.F_l_pick.kp T.b_l_pick .nil pass0 (pa_cons (pv 0) (pa_cons (pe_lst (pa_cons pe_int (pa_cons pe_int (pa_cons (pe_op op_add pe_int (pe_call G_l_draw (hr.mono (by decide)) (by rfl) T.mg_l_draw T.F_l_draw.kp T.b_l_draw .nil pass0 (pa_cons (pv 0) (pa_cons pe_int pa_nil)))) pa_nil)))) pa_nil))) (pa_cons (pe_call G_l_pick (hr.mono (by decide)) (by rfl) T.mg_l_pick T.F_l_pick.kp T.b_l_pick .nil pass0 (pa_cons (pv 0) (pa_cons (pe_lst (pa_cons pe_int (pa_cons pe_int (pa_cons (pe_op op_add pe_int (pe_call G_l_draw (hr.mono (by decide)) (by rfl) T.mg_l_draw T.F_l_draw.kp T.b_l_draw .nil pass0 (pa_cons (pv 0) (pa_cons pe_int pa_nil)))) pa_nil)))) pa_nil))) pa_nil))) (pg_tup (by rfl) (pgs_cons (pg_name (i := 1) sc_l_rows.nd rfl (Or.inl rfl)) (pgs_cons (pg_name (i := 2) sc_l_rows.nd rfl (Or.inr rfl)) pgs_nil))))
      (pss_cons (ps_if (pt_cmpR op_eq (pe_call G_l_draw (hr.mono (by decide)) (by rfl) T.mg_l_draw T.F_l_draw.kp T.b_l_draw .nil pass0 (pa_cons (pv 0) (pa_cons pe_int pa_nil))) pe_int (nomark _)) (pss_cons (ps_asg (pe_call G_l_pick (hr.mono (by decide)) (by rfl) T.mg_l_pick T.F_l_pick.kp T.b_l_pick .nil pass0 (pa_cons (pv 0) (pa_cons (pe_lst (pa_cons (pe_tup (pa_cons pe_int (pa_cons pe_int pa_nil))) (pa_cons (pe_tup (pa_cons pe_int (pa_cons pe_int pa_nil))) (pa_cons (pe_tup (pa_cons pe_int (pa_cons pe_int pa_nil))) (pa_cons (pe_tup (pa_cons pe_int (pa_cons pe_int pa_nil))) pa_nil))))) pa_nil))) (pg_tup (by rfl) (pgs_cons (pg_name (i := 1) sc_l_rows.nd rfl (Or.inl rfl)) (pgs_cons (pg_name (i := 2) sc_l_rows.nd rfl (Or.inr rfl)) pgs_nil))))
      (pss_one (ps_ret (pe_lc (own := [("_law_row", 3)]) (g := gName 3) (tt := tYes) rfl sc_l_rows.nd (pi_range1 (by rfl) T.n_range (pa_cons (pv 1) pa_nil)) (blkOk_by (own := [("_law_row", 3)]) (N := N_l_rows) (sc := defScope s_l_rows) (by decide +kernel)) (fun _ _ _ _ _ => pg_name (i := 3) sc_l_rows.nd rfl (by first | exact Or.inl rfl | exact Or.inr rfl)) (fun _ _ _ _ _ => pts_nil) (fun _ _ _ _ _ => by exact (pe_lc (own := [("_law_column", 4)]) (g := gName 4) (tt := tYes) rfl sc_l_rows.nd (pi_range1 (by rfl) T.n_range (pa_cons (pv 2) pa_nil)) (blkOk_by (own := [("_law_column", 4)]) (N := N_l_rows) (by rfl)) (fun _ _ _ _ _ => pg_name (i := 4) sc_l_rows.nd rfl (Or.inl rfl)) (fun _ _ _ _ _ => pts_nil) (fun _ _ _ _ _ => by exact (pe_make T.mk_Ratio G_Ratio_init (hr.mono (by decide)) (by rfl) T.mg_Ratio b_Ratio_init_1 v_Ratio_init_1 (passF (P := P) (w := w)) (pa_cons (pe_op op_add (pe_op op_mulE (pv 3) (pv 2)) (pv 4)) pa_nil))))))))) pss_nil)
      (pss_one (ps_ret (pe_lc (own := [("_law_row", 3)]) (g := gName 3) (tt := tYes) rfl sc_l_rows.nd (pi_range1 (by rfl) T.n_range (pa_cons (pv 1) pa_nil)) (blkOk_by (own := [("_law_row", 3)]) (N := N_l_rows) (sc := defScope s_l_rows) (by decide +kernel)) (fun _ _ _ _ _ => pg_name (i := 3) sc_l_rows.nd rfl (by first | exact Or.inl rfl | exact Or.inr rfl)) (fun _ _ _ _ _ => pts_nil) (fun _ _ _ _ _ => by exact (pe_lc (own := [("_law_column", 4)]) (g := gName 4) (tt := tYes) rfl sc_l_rows.nd (pi_range1 (by rfl) T.n_range (pa_cons (pv 2) pa_nil)) (blkOk_by (own := [("_law_column", 4)]) (N := N_l_rows) (by rfl)) (fun _ _ _ _ _ => pg_name (i := 4) sc_l_rows.nd rfl (Or.inl rfl)) (fun _ _ _ _ _ => pts_nil) (fun _ _ _ _ _ => by exact (pe_call G_l_value (hr.mono (by decide)) (by rfl) T.mg_l_value T.F_l_value.kp T.b_l_value .nil pass0 (pa_cons (pv 0) pa_nil)))))))))),
    def_L (Γ := gam K p) (k := 4) (ss_seq (ss_asg (se_tup (sa_cons (se_callL (sa_cons se_var (sa_cons (se_lst (sa_cons se_int (sa_cons se_int (sa_cons (se_op so_add se_int (se_callL (sa_cons se_var (sa_cons se_int sa_nil)))) sa_nil)))) sa_nil))) (sa_cons (se_callL (sa_cons se_var (sa_cons (se_lst (sa_cons se_int (sa_cons se_int (sa_cons (se_op so_add se_int (se_callL (sa_cons se_var (sa_cons se_int sa_nil)))) sa_nil)))) sa_nil))) sa_nil))) (sg_tup (Γ := gam K p) (sg_cons sg_name (sg_cons sg_name sg_nil))))
      (ss_seq (ss_if (st_test (se_op so_eq (se_callL (sa_cons se_var (sa_cons se_int sa_nil))) se_int)) (ss_seq (ss_asg (se_callL (sa_cons se_var (sa_cons (se_lst (sa_cons (se_tup (sa_cons se_int (sa_cons se_int sa_nil))) (sa_cons (se_tup (sa_cons se_int (sa_cons se_int sa_nil))) (sa_cons (se_tup (sa_cons se_int (sa_cons se_int sa_nil))) (sa_cons (se_tup (sa_cons se_int (sa_cons se_int sa_nil))) sa_nil))))) sa_nil))) (sg_tup (Γ := gam K p) (sg_cons sg_name (sg_cons sg_name sg_nil))))
      (ss_ret (se_N (sn_lcR1 (sa_cons se_var sa_nil) st_yes (se_N (sn_lcR1 (sa_cons se_var sa_nil) st_yes (se_makeR (Γ := gam K p) hI_Ratio_init (by intro q H; exact (.cons (.int _) .nil)) (sa_cons (se_op so_add (se_op so_mulE se_var se_var) se_var) sa_nil)))))))) ss_next)
      (ss_ret (se_N (sn_lcR1 (sa_cons se_var sa_nil) st_yes (se_N (sn_lcR1 (sa_cons se_var sa_nil) st_yes (se_callL (sa_cons se_var sa_nil))))))))) (by rfl) h⟩
theorem ok_l_given (T : Txt K mg p) : FnOk P w K mg base CX0 5 p.f_l_given p.d_l_given P_l_given (spL (gam K p) 3 M_l_given) := by
  have G_Fault_init := ok_Fault_init (P := P) (w := w) (base := base) T
  have b_Fault_init_1 := T.b_Fault_init
  have v_Fault_init_1 : Vals [] [] := .nil
  refine T.F_l_given.ok sc_l_given (fun vs H Q E h => spL_len h) (fun cdv A outer s H vs Q E hr h => ?_)
  exact ⟨_, (pss_cons (ps_set (i := 3) sc_l_given.nd rfl (Or.inl rfl) (pe_ifExp (pt_cmpR op_eq (pe_callB (id := "len") call_len (by rfl) T.n_len (by decide +kernel) (pa_cons (pv 0) pa_nil)) pe_int (nomark _)) pe_int (pv 1)))
      (pss_cons (ps_set (i := 4) sc_l_given.nd rfl (Or.inl rfl) (pe_ifExp (pt_cmpR op_eq (pe_callB (id := "len") call_len (by rfl) T.n_len (by decide +kernel) (pa_cons (pe_ix ix_list (pv 0) pe_int (fun _ _ => rfl)) pa_nil)) pe_int (nomark _)) pe_int (pv 2)))
      (pss_one (ps_ret (pe_ifExp (PW.pt (pw_and (pt_cmpR op_le (pv 3) (pe_callB (id := "len") call_len (by rfl) T.n_len (by decide +kernel) (pa_cons (pv 0) pa_nil)) (nomark _)) (pw_and1 (pt_cmpR op_le (pv 4) (pe_callB (id := "len") call_len (by rfl) T.n_len (by decide +kernel) (pa_cons (pe_ix ix_list (pv 0) pe_int (fun _ _ => rfl)) pa_nil)) (nomark _))))) (pe_ix ix_list (pe_ix ix_list (pv 0) (pe_op op_sub (pv 3) pe_int) (fun _ _ => rfl)) (pe_op op_sub (pv 4) pe_int) (fun _ _ => rfl)) (pe_make T.mk_Fault G_Fault_init (hr.mono (by decide)) (by rfl) T.mg_Fault b_Fault_init_1 v_Fault_init_1 (passF (P := P) (w := w)) (pa_cons pe_str pa_nil))))))),
    def_L (Γ := gam K p) (k := 2) (ss_seq (ss_asg (se_if (st_test (se_op so_eq (se_CB sc_len (sa_cons se_var sa_nil)) se_int)) se_int se_var) sg_name)
      (ss_seq (ss_asg (se_if (st_test (se_op so_eq (se_CB sc_len (sa_cons (se_op so_ixL se_var se_int) sa_nil)) se_int)) se_int se_var) sg_name)
      (ss_ret (se_if (st_and (st_test (se_op so_le se_var (se_CB sc_len (sa_cons se_var sa_nil)))) (st_test (se_op so_le se_var (se_CB sc_len (sa_cons (se_op so_ixL se_var se_int) sa_nil))))) (se_op so_ixL (se_op so_ixL se_var (se_op so_sub se_var se_int)) (se_op so_sub se_var se_int)) (se_makeR (Γ := gam K p) hI_Fault_init (by intro q H; exact .nil) (sa_cons se_str sa_nil)))))) (by rfl) h⟩
theorem ok_l_same (T : Txt K mg p) : FnOk P w K mg base CX0 3 p.f_l_same p.d_l_same P_l_same (spL (gam K p) 2 M_l_same) := by
  have G_Fault___eq__ := ok_Fault___eq__ (P := P) (w := w) (base := base) T
  have G_Ratio___eq__ := ok_Ratio___eq__ (P := P) (w := w) (base := base) T
  refine T.F_l_same.ok sc_l_same (fun vs H Q E h => spL_len h) (fun cdv A outer s H vs Q E hr h => ?_)
  exact ⟨_, (pss_one (ps_ret (pe_and (pe_cmpR op_eq (pe_callB (id := "isinstance") call_isi (by rfl) T.n_isinstance (by decide +kernel) (pa_cons (pv 0) (pa_cons (pe_bltn (v := .ty "bool") (by rfl) T.n_bool (by decide +kernel) rfl) pa_nil))) (pe_callB (id := "isinstance") call_isi (by rfl) T.n_isinstance (by decide +kernel) (pa_cons (pv 1) (pa_cons (pe_bltn (v := .ty "bool") (by rfl) T.n_bool (by decide +kernel) rfl) pa_nil))) (nomark _)) (pe_one (pe_cmpR ((op_eqO G_Ratio___eq__ T.h_Ratio___eq__.at_ T.h_Ratio___eq__.fn T.b_Ratio___eq__ (passF (P := P) (w := w)) (hr.mono (by decide))).or ((op_eqO G_Fault___eq__ T.h_Fault___eq__.at_ T.h_Fault___eq__.fn T.b_Fault___eq__ (passF (P := P) (w := w)) (hr.mono (by decide))).or op_eq)) (pv 0) (pv 1) (nomark _)))))),
    def_L (Γ := gam K p) (k := 0) (ss_ret (se_andV (se_op so_eq (se_isT (Γ := gam K p) (b := .bool) (by decide) (by intro c hc; simp only [List.mem_cons, List.not_mem_nil, or_false] at hc; rcases hc with rfl | rfl <;> first | exact ⟨T.oc_Ratio, T.kt_Ratio_bool⟩ | exact ⟨T.oc_Fault, T.kt_Fault_bool⟩) se_var) (se_isT (Γ := gam K p) (b := .bool) (by decide) (by intro c hc; simp only [List.mem_cons, List.not_mem_nil, or_false] at hc; rcases hc with rfl | rfl <;> first | exact ⟨T.oc_Ratio, T.kt_Ratio_bool⟩ | exact ⟨T.oc_Fault, T.kt_Fault_bool⟩) se_var)) (se_op (so_or (b := isObj 2) (so_eqO (Γ := gam K p) (c := 2) T.oc_Ratio (by intro k hk; cases hk)) (so_or (b := isObj 3) (so_eqO (Γ := gam K p) (c := 3) T.oc_Fault (by intro k hk; cases hk)) so_eq)) se_var se_var))) (by rfl) h⟩
end
end K43

set_option Elab.async false
set_option linter.all false
set_option maxRecDepth 100000
set_option maxHeartbeats 4000000
/-! A def called while an exception is handled, which itself raises nothing; == by an own __eq__ there. -/
namespace DN
open PySem PySem.Spec PyProof.Rows L2 Evl LamX EV2 TX L2H
structure FnH0 (P : Program) (w : World) (K : PySem.W.Frag) (mg : Str → Option Value) (base : Heap) (CX : CXT) (k : Nat) (f : Addr) (fd : FuncData) (ps : List Str) (sp : Sp) : Prop where
  len : ∀ vs H Q E, sp vs H Q E → vs.length = ps.length
  run : ∀ (A : Around) (outer : List Env) (s : Shared) (H : Hp) (args : Args) (us : List Value) (vs : List V) (Q : VK) (E : XK) (p : Addr × Obj), RoomH k A → PinOk outer H s p → Env0 P w K mg base A outer s H → BindsTo s fd args (ps.zip us) → Vals vs us → sp vs H Q E →
    codeAny (model P w) A (.call (.ref f) args) (CR CX outer P w H s Q E) s
theorem fn_ofH0 {CX : CXT} {P : Program} {w : World} {K : PySem.W.Frag} {mg : Str → Option Value} {base : Heap} {k : Nat} {f : Addr} {name qual : Str} {params : Arguments} {body : List Stmt} {scope : Scope} {dV kV doc pm cdv ct oc : Value} {an od : Option Addr}
    {osl : Array (Option Value)} {N ps : List Str} {sp : Sp} (lk : K.lookup f = some ⟨oc, od, .func (PySem.W.fnOf name qual params body scope dV kV doc pm an cdv ct), osl⟩) (hcd : PySem.W.codeIn K cdv qual = true) (S : FnScope N ps scope)
    (len : ∀ vs H Q E, sp vs H Q E → vs.length = ps.length)
    (hbody : ∀ (A : Around) (outer : List Env) (s : Shared) (H : Hp) (vs : List V) (Q : VK) (E : XK) (p : Addr × Obj), RoomH k (A.deeper (envOfC qual scope s.heap.objs.size f cdv)) → sp vs H Q E →
      ∃ t, PSs (cxH CX P w K mg base N qual scope f cdv A outer s H E p) body t ∧ t { nx := fun _ H' => Q .non H', rt := Q } (L2.start N vs) H) :
    FnH0 P w K mg base CX (k + 1) f (PySem.W.fnOf name qual params body scope dV kV doc pm an cdv ct) ps sp := by
  refine ⟨len, fun A outer s H args us vs Q E p hr hpin e0 hb r hsp => ?_⟩
  have hl := len _ _ _ _ hsp
  have KX : K.In s.heap := e0.mod.kin.keeps fun b o e => (e0.bs b o e).1
  have lim : s.heap.NoLimit := e0.mod.nolimit.keeps fun b o e => (e0.bs b o e).1
  have hkind : ∀ y ∈ ps.zip us, scope.names.lookup y.1 = some .local ∨ (scope.names.lookup y.1 = some .cell ∧ ((cellsFrom (s.heap.objs.size + 1) scope.names []).lookup y.1).isSome = true) := fun ⟨n, v⟩ hy => by
    rcases S.par n (List.of_mem_zip hy).1 with q | q
    · exact .inl q
    · exact .inr ⟨q, PySem.W.cellsFrom_some _ _ _ (.inl q)⟩
  refine codeAny_call_function hr.depth (KX _ _ lk) rfl S.co S.gen rfl (PySem.W.codeRec_of KX hcd) (hb _ _ _ _ ?_)
  refine wpAny_newFunctionEnv_cells S.kind hkind fun env he s1 x => ?_
  subst he
  refine ⟨lim.keeps x.toInCall.keep, codeAny_func ?_⟩
  obtain ⟨t, ht, hq⟩ := hbody A outer s H vs Q E p (hr.deeper _) hsp
  have I : Inv (cxH CX P w K mg base N qual scope f cdv A outer s H E p) [] (L2.start N vs) H s1 := inv_startH S hpin e0 hl r x
  refine wpAny_mono (ht.run [] s1 (L2.start N vs) H _ I hq) (fun fl s' hs => ?_) fun e s' hs => hs
  have fin : ∀ {σ' : L2.St} {H' : Hp} {v : V} {u : Value}, Inv (cxH CX P w K mg base N qual scope f cdv A outer s H E p) [] σ' H' s' → RelV v u → Q v H' → CE outer P w H s Q u s' :=
    fun {σ' H' v u} J rv q => ⟨v, H', J.os, J.bare, J.base, J.hok, rv, q⟩
  cases fl with
  | ret u =>
    obtain ⟨v, σ', H', J, rv, q⟩ := hs
    exact fin J rv q
  | next =>
    obtain ⟨σ', H', J, q⟩ := hs
    exact fin (v := V.non) (u := Value.none) J rfl q
  | brk =>
    obtain ⟨_, _, _, q⟩ := hs
    exact False.elim q
  | cont =>
    obtain ⟨_, _, _, q⟩ := hs
    exact False.elim q
section
variable {X : Cx} {CX : CXT} {k : Nat} {f C : Addr} {fd : FuncData} {ps : List Str} {sp : Sp} {E : XK}
theorem run_fnH0 {pins : List (Addr × Obj)} {σ : L2.St} {H : Hp} {s : Shared} {Q : VK} {us : List Value} {vs : List V} {p : Addr × Obj} (F : FnH0 X.prog X.w X.K X.mg X.base CX k f fd ps sp) (hr : RoomH k X.A) (hp : p ∈ X.pn) (hb : Binds X.K fd ps []) (hx : Passes CX X E)
    (I : Inv X pins σ H s) (r : Vals vs us) (h : sp vs H Q E) : wpAny (model X.prog X.w) X.A (call (.ref f) us) (EP X pins σ Q) X.xe s := by
  have hl : us.length = ps.length := by rw [← r.length]; exact F.len _ _ _ _ h
  have b := hb s us I.kIn (by rw [List.append_nil]; exact hl)
  rw [List.append_nil] at b
  have P1 := I.pin p (List.mem_append_left _ hp)
  have hpin : PinOk X.stack H s p := ⟨P1.1, P1.2.1, fun hm => (List.mem_cons.mp (I.stkSub p.1 hm)).elim P1.2.2.1 P1.2.2.2.1, P1.2.2.2.2⟩
  refine wpAny_call (codeAny_mono (F.run X.A X.stack s H ⟨us, []⟩ us vs Q E p hr hpin I.env0 b r h) fun r s' hq => ?_)
  cases r with
  | error e => exact hx pins σ H s e s' I hq
  | ok fl =>
    cases fl with
    | ret u => exact I.after hq
    | next => exact False.elim hq
    | brk => exact False.elim hq
    | cont => exact False.elim hq
theorem op_eqOH {p : Addr × Obj} (F : FnH0 X.prog X.w X.K X.mg X.base CX k f fd ps sp) (hs : PySem.W.findIn X.K (.ref C) "__eq__" = some (some (.ref f))) (hf : PySem.W.isFn X.K (.ref f) = true)
    (hb : Binds X.K fd ps []) (hx : Passes CX X E) (hr : RoomH k X.A) (hp : p ∈ X.pn) : OpR X (compareOp .Eq) (rEqO X.K C sp E) := by
  intro pins s σ H x y v u Q I rx ry hq
  obtain ⟨a, dx, fs, t, rfl, ha, ty, hn, hsp⟩ := hq
  obtain rfl : v = Value.ref a := rx
  obtain ⟨mA, J, _⟩ := ins_get I.hok ha
  obtain ⟨od, J, _⟩ := J.look
  obtain ⟨Pz, Z, pz, _⟩ := kit_of I ry ty
  obtain ⟨m, hF⟩ := I.fr
  show wpAny (model X.prog X.w) X.A (richCompare .Eq (.ref a) u) (EP X pins σ Q) X.xe s
  refine PySem.W.cmp_K (op := .Eq) (tb := t) (by have := hr.un; omega) hF I.ok.mod.kin J (Z.ty _ _ I.kIn pz) hn hs hf ?_
  refine wpAny_mono (run_fnH0 (vs := [V.ref a, y]) F hr hp hb hx I (show Vals [V.ref a, y] [Value.ref a, u] from .cons rfl (.cons ry .nil)) hsp) (fun w s1 o => ?_) fun _ _ q => q
  obtain ⟨z, H1, I1, rz, ⟨b, ez⟩, q⟩ := o
  subst ez
  obtain rfl : w = Value.bool b := rz
  exact ⟨.bl b, H1, I1, rfl, q⟩
end
end DN

set_option Elab.async false
set_option linter.all false
set_option maxRecDepth 100000
set_option maxHeartbeats 4000000
namespace K43
open PySem PySem.Spec PyProof.Rows L2 Evl LamX TX EV2 DN
abbrev qOf (x : Str) : Str := (x ++ ".<locals>.") ++ "<lambda>"
abbrev s_l_begin : Stmt := topS 130
abbrev N_l_begin : List Str := ["_law_script"]
abbrev P_l_begin : List Str := ["_law_script"]
theorem sc_l_begin : FnScope N_l_begin P_l_begin (defScope s_l_begin) := ⟨rfl, rfl, rfl, by decide +kernel, rfl, by decide +kernel, by decide +kernel⟩
abbrev s_l_refused : Stmt := topS 137
abbrev N_l_refused : List Str := ["_law_call", "_law_value_here", "e"]
abbrev P_l_refused : List Str := ["_law_call", "_law_value_here"]
theorem sc_l_refused : FnScope N_l_refused P_l_refused (defScope s_l_refused) := ⟨rfl, rfl, rfl, by decide +kernel, rfl, by decide +kernel, by decide +kernel⟩
abbrev s_Grid___eq__ : Stmt := inClass (topS 119) 1
abbrev N_Grid___eq__ : List Str := ["self", "other"]
abbrev P_Grid___eq__ : List Str := ["self", "other"]
theorem sc_Grid___eq__ : FnScope N_Grid___eq__ P_Grid___eq__ (defScope s_Grid___eq__) := ⟨rfl, rfl, rfl, by decide +kernel, rfl, by decide +kernel, by decide +kernel⟩
abbrev s_l_are_refused : Stmt := topS 138
abbrev N_l_are_refused : List Str := ["_law_pen", "_law_grid", "_law_calls", "_law_place", "_law_wrong", "_law_call", "_law_value_here"]
abbrev P_l_are_refused : List Str := ["_law_pen", "_law_grid"]
theorem sc_l_are_refused : FnScope N_l_are_refused P_l_are_refused (defScope s_l_are_refused) := ⟨rfl, rfl, rfl, by decide +kernel, rfl, by decide +kernel, by decide +kernel⟩
abbrev s_law : Stmt := topS 139
abbrev N_law : List Str := ["_law_script", "_law_pen", "_law_k", "_law_tables", "_law_row", "_law_grids", "_law_height", "_law_width", "_law_kept", "_law_told", "_law_turn", "_law_column", "_law_rows_here"]
abbrev P_law : List Str := ["_law_script"]
theorem sc_law : FnScope N_law P_law (defScope s_law) := ⟨rfl, rfl, rfl, by decide +kernel, rfl, by decide +kernel, by decide +kernel⟩
structure TxtG (K : PySem.W.Frag) (mg : Str → Option Value) (p : Ad) : Prop where
  mg_l_begin : mg "_law_begin" = some (.ref p.f_l_begin)
  F_l_begin : Fun K "_law_begin" "_law_begin" s_l_begin p.f_l_begin p.d_l_begin
  b_l_begin : Binds K p.d_l_begin P_l_begin []
  mg_l_refused : mg "_law_refused" = some (.ref p.f_l_refused)
  F_l_refused : Fun K "_law_refused" "_law_refused" s_l_refused p.f_l_refused p.d_l_refused
  b_l_refused : Binds K p.d_l_refused P_l_refused []
  mg_l_are_refused : mg "_law_are_refused" = some (.ref p.f_l_are_refused)
  F_l_are_refused : FunC K "_law_are_refused" "_law_are_refused" s_l_are_refused p.f_l_are_refused p.c_l_are_refused p.d_l_are_refused
  b_l_are_refused : Binds K p.d_l_are_refused P_l_are_refused []
  mg_law : mg "law" = some (.ref p.f_law)
  F_law : Fun K "law" "law" s_law p.f_law p.d_law
  b_law : Binds K p.d_law P_law []
  F_Grid___eq__ : Fun K "__eq__" "Grid.__eq__" s_Grid___eq__ p.f_Grid___eq__ p.d_Grid___eq__
  b_Grid___eq__ : Binds K p.d_Grid___eq__ P_Grid___eq__ []
  h_Grid___eq__ : Meth K p.C_Grid "__eq__" p.f_Grid___eq__
end K43

set_option Elab.async false
set_option linter.all false
set_option maxRecDepth 100000
set_option maxHeartbeats 4000000
/-! Lambdas called by a def that looks at its own names when the call raises; pairs of a lambda and a value. -/
namespace DN
open PySem PySem.Spec PyProof.Rows L2 Evl LamX EV2 TX
/-- the call of a lambda in the def that got it: what it raises is wanted as W tells, at the def's own state -/
def rdLamW (i : Nat) (f c : Addr) (L : LamD) (tl : XK → Hp → VK → Prop) (W : WX) : TE := fun σ H Q => σ[i]? = some (some (.ref f)) ∧ H f = some (LamO f c L) ∧ H c = some (CodeO c L.qual) ∧ ∃ Ech : XK, (∀ cls d H', Ech cls d H' → W cls d σ H') ∧ tl Ech H Q
section
variable {X : Cx} {pins : List (Addr × Obj)} {σ : L2.St} {H : Hp} {s : Shared}
theorem pe_runLamW {Ng : List Str} {x a : Str} {sg scope : Scope} {g f c : Addr} {cdg : Value} {params : Arguments} {body : Expr} {k i : Nat} {pn : List (Addr × Obj)} {xe : Value → Shared → Prop} {W : WX} {tb : XK → TE} {p1 p2 : Pos}
    (I : Inv X pins σ H s) (S : LamS X.env.scope scope) (nb : ∀ (q : Str) (cl : List (Str × Addr)) (pm cv ctv : Value), bindArgs (PySem.W.kla_fn "<lambda>" q params body scope cl pm cv ctv) ⟨[], []⟩ = pure [])
    (tk : Takes ((ctxG X Ng x sg g cdg s H).tr pn xe) W) (hr : Room (k + 1) (X.A.deeper (envOfC x sg s.heap.objs.size g cdg)))
    (hb : ∀ (A : Around) (outer : List Env) (s : Shared) (H : Hp) (E : XK), Room k (A.deeper (lamEnv X scope s.heap.objs.size f c)) → PE (lamCx X A outer s H E scope f c) body (tb E))
    (iN : Ng[i]? = some a) (va : Vis sg a) (d1 : (a == ("__debug__" : Str)) = false := by decide) (d2 : (a == ("__classdict__" : Str)) = false := by decide) :
    PE ((ctxG X Ng x sg g cdg s H).tr pn xe) (.Call (.Name a p1) [] [] p2) (rdLamW i f c (lamD X params body scope) (fun E H' Q => tb E σ H' Q) W) := by
  refine ⟨fun pz sz σz Hz Q J ⟨e1, e2, e3, Ech, hE, e4⟩ => wpAny_Call_Name_kw (thn ((pe_var (i := i) (pos := p1) iN va d1 d2).run pz sz σz Hz (fun v H1 => v = .ref f ∧ H1 = Hz) J ⟨_, e1, rfl, rfl⟩) ?_)⟩
  rintro u s1 ⟨v, H1, J1, rv, rfl, rfl⟩
  cases (show u = Value.ref f from rv)
  obtain ⟨⟨pm, ct, of⟩, _, _⟩ := J1.hok f _ e2
  obtain ⟨⟨oc, vs, t, o1, o2, o3⟩, _, _⟩ := J1.hok c _ e3
  refine PySem.W.callWith_F0 ⟨_, _, _, _, of⟩ (wpAny_call ?_)
  have U : Un (frs X.stack) [] H H1 s.heap s1.heap := J1.base
  have run : codeAny (model X.prog X.w) (X.A.deeper (envOfC x sg s.heap.objs.size g cdg)) (.call (.ref f) ⟨[], []⟩) (CR (L2.CX X.prog X.w) (envOfC x sg s.heap.objs.size g cdg :: X.stack) X.prog X.w H1 s1 Q Ech) s1 := by
    refine PySem.W.kla_callFunE hr.depth of rfl S.co S.gen rfl ⟨c, oc, vs, t, rfl, o1, o2, o3⟩ ?_
    rw [nb]
    refine wpAny_pure (wpAny_newFunctionEnv (fun y hy => (S.own y hy).2) (fun y hy => absurd hy (List.not_mem_nil)) (fun h1 hn hx => ⟨J1.nolimit.fresh _ hx, ?_⟩) S.kind)
    have old : ∀ b o, s1.heap.get? b = some o → h1.get? b = some o := fun b o q => hx.extBut b o (Nat.ne_of_lt (Heap.lt_size q)) (Heap.get?_push_of_some _ q)
    have L := lam_start2 (E := Ech) (f := f) (c' := c) (tk := s1.toks + ([] : List (Str × Value)).length) I S J1.env0 hr.hd U hn old
    exact PySem.W.kla_codeExpr (wpAny_mono ((hb _ _ s1 H1 _ (hr.deeper _)).run [] _ _ H1 Q L e4) (fun z s2 ⟨y, H2, L2, ry, qy⟩ => ⟨y, H2, L2.os, L2.bare, L2.base, L2.hok, ry, qy⟩) fun _ _ q => q)
  refine codeAny_mono run fun r s2 hq => ?_
  rcases r with e | fl
  · exact tk e s2 (XE.of_call J1 (fun cls d H' h => hE cls d H' h) hq)
  · cases fl with
    | ret z => exact J1.after hq
    | next => exact hq.elim
    | brk => exact hq.elim
    | cont => exact hq.elim
end
def GivesW (X : Cx) (Ng : List Str) (x : Str) (sg : Scope) (g : Addr) (cdg : Value) (bg : List Stmt) (a : Str) (TT : (XK → Hp → VK → Prop) → List V → Hp → VK → Prop) : Prop :=
  ∀ (f c : Addr) (L : LamD) (s : Shared) (H : Hp) (ws : List V) (Q : VK) (tl : XK → Hp → VK → Prop),
    (∀ (W : WX) (pn : List (Addr × Obj)) (xe : Value → Shared → Prop) (p1 p2 : Pos), Takes ((ctxG X Ng x sg g cdg s H).tr pn xe) W →
      PE ((ctxG X Ng x sg g cdg s H).tr pn xe) (.Call (.Name a p1) [] [] p2) (rdLamW 0 f c L tl W)) →
    H f = some (LamO f c L) → H c = some (CodeO c L.qual) → TT tl ws H Q →
    ∃ t, PSs (ctxG X Ng x sg g cdg s H).nox bg t ∧ t { nx := fun _ H' => Q .non H', rt := Q } (L2.start Ng (.ref f :: ws)) H
section
variable {X : Cx} {pins : List (Addr × Obj)} {σ : L2.St} {H : Hp} {s : Shared}
theorem code_lamW {TT : (XK → Hp → VK → Prop) → List V → Hp → VK → Prop} {x a : Str} {qs : List Str} {g f c : Addr} {k : Nat} {pg : Arguments} {bg : List Stmt} {sg scope : Scope} {dV kV doc pm cdv ct oc : Value} {an od : Option Addr} {osl : Array (Option Value)} {Ng : List Str}
    {params : Arguments} {body : Expr} {t : XK → TE} {ws : List V} {us : List Value} {Q : VK}
    (lk : X.K.lookup g = some ⟨oc, od, .func (PySem.W.fnOf x x pg bg sg dV kV doc pm an cdv ct), osl⟩) (hcg : PySem.W.codeIn X.K cdv x = true) (hb : L2.Binds X.K (PySem.W.fnOf x x pg bg sg dV kV doc pm an cdv ct) (a :: qs) []) (Sg : FnScope Ng (a :: qs) sg) (iN : Ng[0]? = some a) (va : Vis sg a)
    (G : GivesW X Ng x sg g cdv bg a TT) (hr : Room (k + 2) X.A) (S : LamS X.env.scope scope)
    (nb : ∀ (q : Str) (cl : List (Str × Addr)) (pm cv ctv : Value), bindArgs (PySem.W.kla_fn "<lambda>" q params body scope cl pm cv ctv) ⟨[], []⟩ = pure [])
    (hbody : ∀ (A : Around) (outer : List Env) (s : Shared) (H : Hp) (E : XK), Room k (A.deeper (lamEnv X scope s.heap.objs.size f c)) → PE (lamCx X A outer s H E scope f c) body (t E))
    (d1 : (a == ("__debug__" : Str)) = false := by decide) (d2 : (a == ("__classdict__" : Str)) = false := by decide)
    (I : Inv X pins σ H s) (hf : H f = some (LamO f c (lamD X params body scope))) (hc : H c = some (CodeO c (X.env.qual ++ "<lambda>"))) (rw : Vals ws us) (hl : ws.length = qs.length) (h : TT (fun E H' Q' => t E σ H' Q') ws H Q) :
    codeAny (model X.prog X.w) X.A (.call (.ref g) ⟨.ref f :: us, []⟩) (CR (fun _ _ _ _ _ _ => False) X.stack X.prog X.w H s Q (fun _ _ _ => False)) s := by
  have rv : Vals (V.ref f :: ws) (Value.ref f :: us) := .cons rfl rw
  have hbd := hb s (.ref f :: us) I.kIn (by rw [List.append_nil, ← rv.length, List.length_cons, List.length_cons, hl])
  rw [List.append_nil] at hbd
  refine run_ofS (N := Ng) (ps := a :: qs) (us := .ref f :: us) (vs := .ref f :: ws) lk hcg Sg hr I.env0 hbd rv (by rw [List.length_cons, List.length_cons, hl]) fun hr' => ?_
  obtain ⟨t', h1, h2⟩ := G f c (lamD X params body scope) s H ws Q (fun E H' Q' => t E σ H' Q') (fun W pn xe p1 p2 tk => pe_runLamW (i := 0) I S nb tk hr' (fun A outer s H E hr2 => hbody A outer s H E hr2) iN va d1 d2) hf hc h
  exact ⟨t', h1.nox, h2⟩
end
structure GotW (X : Cx) (k : Nat) (x a : Str) (g : Addr) (Ng : List Str) (qs : List Str) (TT : (XK → Hp → VK → Prop) → List V → Hp → VK → Prop) : Prop where
  mg : X.mg x = some (.ref g)
  kp : PySem.W.keepIn X.K (.ref g) = true
  ex : ∃ (pg : Arguments) (bg : List Stmt) (sg : Scope) (dV kV doc pm cdv ct oc : Value) (an od : Option Addr) (osl : Array (Option Value)), X.K.lookup g = some ⟨oc, od, .func (PySem.W.fnOf x x pg bg sg dV kV doc pm an cdv ct), osl⟩ ∧ PySem.W.codeIn X.K cdv x = true ∧
    L2.Binds X.K (PySem.W.fnOf x x pg bg sg dV kV doc pm an cdv ct) (a :: qs) [] ∧ FnScope Ng (a :: qs) sg ∧ Vis sg a ∧ GivesW X Ng x sg g cdv bg a TT
  iN : Ng[0]? = some a
  hr : Room (k + 2) X.A
/-- x(v, u) in a block of the def: v stands for one of the def's lambdas -/
def rdBlkW (X : Cx) (i j : Nat) (ls : List LamR) (TT : (XK → Hp → VK → Prop) → List V → Hp → VK → Prop) (σ : L2.St) : TE := fun σB H Q => ∃ (f c : Addr) (l : LamR) (w : V), l ∈ ls ∧ σB[i]? = some (some (.ref f)) ∧ σB[j]? = some (some w) ∧ H f = some (LamO f c (lamD X l.params l.body l.scope)) ∧ H c = some (CodeO c (X.env.qual ++ "<lambda>")) ∧ TT (fun E H' Q' => l.t E σ H' Q') [w] H Q
section
variable {X : Cx} {pins : List (Addr × Obj)} {σ : L2.St} {H : Hp} {s : Shared} {k : Nat} {x a b : Str} {g : Addr} {Ng : List Str} {TT : (XK → Hp → VK → Prop) → List V → Hp → VK → Prop}
theorem pe_blkLamW {s : Shared} {H : Hp} {scope : Scope} {cenv : Env} {fp : List Addr} {v u : Str} {i j : Nat} {ls : List LamR} {p p1 p2 pos : Pos} (G : GotW X k x a g Ng [b] TT) (hl : ∀ l ∈ ls, LamOk X k l) (bi : BlkIn X pins σ (X.blk s H scope cenv fp))
    (hg : Gl (X.blk s H scope cenv fp) x) (pv : PE (X.blk s H scope cenv fp) (.Name v p1) (tVar i)) (pu : PE (X.blk s H scope cenv fp) (.Name u p2) (tVar j)) (d0 : (x == ("__debug__" : Str)) = false := by decide) (d1 : (a == ("__debug__" : Str)) = false := by decide) (d2 : (a == ("__classdict__" : Str)) = false := by decide) :
    PE (X.blk s H scope cenv fp) (.Call (.Name x p) [.Name v p1, .Name u p2] [] pos) (rdBlkW X i j ls TT σ) := by
  refine ⟨fun pz sz σz Hz Q J ⟨f, c, l, w, hm, e1, e0, e2, e3, h⟩ => wpAny_Call_Name_kw (ld_glob J hg G.mg ?_ d0)⟩
  obtain ⟨pg, bg, sg, dV, kV, doc, pm, cdv, ct, oc, an, od, osl, lk, hcg, hb, Sg, va, GV⟩ := G.ex
  have L := hl l hm
  refine PySem.W.callWith_K (h₀ := X.base) J.ok.mod.kin G.kp (thn ((pa_cons pv (pa_cons pu pa_nil)).run pos pz sz σz Hz (fun vs H1 => vs = [.ref f, w] ∧ H1 = Hz) J ⟨_, e1, _, e0, rfl, rfl⟩) ?_) (by rfl) (by rfl)
  rintro us s1 ⟨vs, H1, J1, rv, rfl, rfl⟩
  refine ⟨J1.kIn, ?_⟩
  cases rv with
  | cons r1 rv =>
    cases rv with
    | cons r2 rv =>
      cases rv
      cases r1
      have I1 : Inv X pins σ H1 s1 := bi.2.2.2.2.2 J1
      have run := code_lamW lk hcg hb Sg G.iN va GV G.hr L.S L.nb (fun A outer s H E hr2 => L.body A outer s H E f c hr2) d1 d2 I1 e2 e3 (.cons r2 .nil) rfl h
      refine wpAny_call (codeAny_mono run fun r s2 hq => ?_)
      rcases r with e | fl
      · exact hq.elim
      · cases fl with
        | ret z => exact J1.after hq
        | next => exact hq.elim
        | brk => exact hq.elim
        | cont => exact hq.elim
end
end DN

set_option Elab.async false
set_option linter.all false
set_option maxRecDepth 100000
set_option maxHeartbeats 4000000
namespace K43
open PySem PySem.Spec PyProof.Rows L2 Evl LamX TX EV2 DN L2H
section
variable {P : Program} {w : World} {K : PySem.W.Frag} {mg : Str → Option Value} {base : Heap} {p : Ad}
theorem tyx_grid (T : Txt K mg p) {H : Hp} {a dx : Addr} {fs : List (Str × V)} (h : H a = some (.ins p.C_Grid dx fs)) : TyX K H (.ref a) (.ref p.C_Grid) := .base (.ins h T.oc_Grid.cl T.oc_Grid.ha T.oc_Grid.hn T.oc_Grid.ht T.oc_Grid.hm)
/-- check_list of a grid -/
def spChkV (p : Ad) : Sp := fun vs H Q E => ∃ (a dx : Addr) (fs : List (Str × V)), vs = [.ref a] ∧ H a = some (.ins p.C_Grid dx fs) ∧ ∀ x H', Ex H H' → H' x = some (.xd [("value", .ref a)]) → E (.ref p.C_BadValue) (some x) H'
theorem spChkV_len {vs : List V} {H : Hp} {Q : VK} {E : XK} (h : spChkV p vs H Q E) : vs.length = 1 := by
  obtain ⟨a, dx, fs, rfl, _⟩ := h
  rfl
theorem ok_check_list_V (T : Txt K mg p) : FnOk P w K mg base (L2.CX P w) 3 p.f_check_list p.d_check_list P_check_list (spChkV p) := by
  refine T.F_check_list.okX sc_check_list (fun vs H Q E h => spChkV_len h) (fun cdv A outer s H vs Q E hr h => ?_)
  obtain ⟨a, dx, fs, rfl, ha, k⟩ := h
  refine ⟨_, (pss_one (ps_if (pt_not (pt_val (pe_callB (id := "isinstance") call_isiT (by rfl) T.n_isinstance (by decide +kernel) (pa_cons (pv 0) (pa_cons (pe_tup (pa_cons (pe_bltn (v := .ty "list") (by rfl) T.n_list (by decide +kernel) rfl) (pa_cons (pe_bltn (v := .ty "tuple") (by rfl) T.n_tuple (by decide +kernel) rfl) pa_nil))) pa_nil))))) (pss_one (ps_raise rfl (takes_of rfl rfl rfl rfl) (pmk_R (n := 1) T.e_BadValue.ec (ok_BadValue_init T.e_BadValue.F T.e_BadValue.ec.ox T.e_BadValue.no) (hr.mono (by decide)) (by rfl) T.e_BadValue.gC (kp_BadValue_init T.e_BadValue.F) hx0 (pa_cons (pv 0) pa_nil)))) pss_nil)), ?_⟩
  refine ⟨_, rfl, sz_of (show 2 ≤ 100000 by decide), fun t ht => ⟨.ref a, t, [.ty "list", .ty "tuple"], .ref p.C_Grid, [.type "list", .type "tuple"], false, rfl, upd_same, .cons (.ty _) (.cons (.ty _) .nil), tyx_grid T (by rw [upd_ne (ne_of_none ha ht)]; exact ha), kit_any2 T.kt_Grid_list T.kt_Grid_tuple, false, rfl, ?_⟩⟩
  refine ⟨_, rfl, rfl, rfl, by decide, fun a1 ha1 => ?_⟩
  exact rr_e1 (Q := E) (fun x H' hd sm hx => k x H' ((Ex.new ht).trans sm) hx) a1 ha1
/-- stretched of a grid -/
theorem ok_stretched_V (T : Txt K mg p) : FnOk P w K mg base (L2.CX P w) 4 p.f_stretched p.d_stretched P_stretched (spChkV p) := by
  have G_check_list := ok_check_list_V (P := P) (w := w) (base := base) T
  refine T.F_stretched.okX sc_stretched (fun vs H Q E h => spChkV_len h) (fun cdv A outer s H vs Q E hr h => ?_)
  obtain ⟨a, dx, fs, rfl, ha, k⟩ := h
  exact ⟨_, pss_cons (ps_expr (pe_call G_check_list (hr.mono (by decide)) (by rfl) T.mg_check_list T.F_check_list.kp T.b_check_list .nil (passes_call (takes_of rfl rfl rfl rfl) fun _ _ _ _ h => h) (pa_cons (pv 0) pa_nil)))
    (pss_cons ps_bad (pss_cons ps_bad (pss_one ps_bad))), _, rfl, a, dx, fs, rfl, ha, k⟩
/-- a grid beside itself -/
def spEqV (K : PySem.W.Frag) (p : Ad) : Sp := fun vs H Q E => ∃ (a dx r : Addr) (fs : List (Str × V)) (xs : List V), vs = [.ref a, .ref a] ∧ H a = some (.ins p.C_Grid dx fs) ∧ fs.lookup ("rows" : Str) = some (.ref r) ∧ SqT K H r xs ∧ Q (.bl true) H
theorem ok_eq_V {f : Addr} {fd : FuncData} (T : Txt K mg p) (F : Fun K "__eq__" "Grid.__eq__" s_Grid___eq__ f fd) : FnH0 P w K mg base (L2.CX P w) 2 f fd P_Grid___eq__ (spEqV K p) := by
  obtain ⟨oc, od, kV, doc, pm, an, cdv, ct, osl, rfl, l, q⟩ := F.ex
  refine fn_ofH0 l q sc_Grid___eq__ (fun vs H Q E h => ?_) fun A outer s H vs Q E pp hr h => ?_
  · obtain ⟨a, dx, r, fs, xs, rfl, _⟩ := h
    rfl
  · obtain ⟨a, dx, r, fs, xs, rfl, ha, hl, hs, k⟩ := h
    refine ⟨_, pss_one (ps_ret (pe_and (pe_callB (id := "isinstance") call_isi (by rfl) T.n_isinstance (by decide +kernel) (pa_cons (pv 1) (pa_cons (pe_glob (v := .ref p.C_Grid) (by rfl) T.mg_Grid rfl) pa_nil)))
      (pe_one (pe_cmpR (op_eqSelf (X := cxH (L2.CX P w) P w K mg base N_Grid___eq__ "Grid.__eq__" (defScope s_Grid___eq__) f cdv A outer s H E pp) (by have := hr.un; show (A.deeper (envOfC "Grid.__eq__" (defScope s_Grid___eq__) s.heap.objs.size f cdv)).units + 64 < cLine; omega)) (pe_fld (pv 0) rfl) (pe_fld (pv 1) rfl) (nomark _))))), ?_⟩
    refine ⟨_, rfl, .ref a, .ref p.C_Grid, .ref p.C_Grid, .ref p.C_Grid, true, rfl, .own _, tyx_grid T ha, by unfold PySem.W.kitOne; rw [if_pos (by simp)], true, rfl, ?_⟩
    rw [if_pos rfl]
    exact ⟨_, rfl, a, _, dx, fs, _, rfl, ha, T.oc_Grid.cl, T.nA_Grid_rows, hl, _, rfl, a, _, dx, fs, _, rfl, ha, T.oc_Grid.cl, T.nA_Grid_rows, hl, r, xs, rfl, rfl, hs, k⟩
/-- what is told of a call that must be refused with a value -/
def rEqQ (K : PySem.W.Frag) (p : Ad) : R2 := fun x y H Q => rEqD K x y H Q ∨ rEqO K p.C_Grid (spEqV K p) DN.E0 x y H Q
def TTq (K : PySem.W.Frag) (p : Ad) : (XK → Hp → VK → Prop) → List V → Hp → VK → Prop := fun tl ws H Q => ∃ u, ws = [u] ∧
  tl (fun cls d H' => cls = .ref p.C_BadValue ∧ ∃ dd fs v, d = some dd ∧ H' dd = some (.xd fs) ∧ fs.lookup ("value" : Str) = some v ∧ rEqQ K p v u H' Q) H (fun _ H' => Q (.bl false) H')
theorem refused_gives {X : Cx} {g : Addr} {cdg : Value} (T : Txt X.K X.mg p) (TG : TxtG X.K X.mg p) (hr : Room 14 X.A) : GivesW X N_l_refused "_law_refused" (defScope s_l_refused) g cdg (defBody s_l_refused) "_law_call" (TTq X.K p) := by
  intro f c L s H ws Q tl act hf hc h
  obtain ⟨u, rfl, h⟩ := h
  have hu2 : (X.A.deeper (envOfC "_law_refused" (defScope s_l_refused) s.heap.objs.size g cdg)).units + 64 < cLine := by have := hr.un; show X.A.units + 3 + 64 < cLine; omega
  have G := ok_eq_V (P := X.prog) (w := X.w) (base := X.base) T TG.F_Grid___eq__
  have hr2 := L2H.roomH_of (hr.deeper (k := 13) (envOfC "_law_refused" (defScope s_l_refused) s.heap.objs.size g cdg))
  have hr3 := hr2.mono (j := 2) (by decide)
  refine ⟨_, pss_cons (ps_try_asM (i := 2) (n := "e") (tb := fun W => tDrop (fun σ H Q => ∃ Q0 : VK, rdLamW 0 f c L tl W σ H Q0 ∧ ∀ v H', Q0 v H' → Q v H'))
      rfl rfl sc_l_refused.nd rfl rfl takes_none5 (fun W pn xe tk _ => pss_one (ps_expr (pe_weak (act W pn xe _ _ tk))))
      (HdAs.cons ⟨by rfl, by decide, .inl T.e_BadValue.gC⟩ (fun a oe cls d pn hz hf => pss_one (ps_ret (pe_cmpR (r := rEqQ X.K p) ((op_eqD hu2).or (op_eqOH (p := (a, oe)) G TG.h_Grid___eq__.at_ TG.h_Grid___eq__.fn TG.b_Grid___eq__ passF (show L2H.RoomH 2 (Cx.suite (ctxG X N_l_refused "_law_refused" (defScope s_l_refused) g cdg s H).nox a ((a, oe) :: pn)).A from ⟨hr3.dp, hr3.un⟩) List.mem_cons_self)) (pe_xf T.e_BadValue.xf T.e_BadValue.no hz hf (pv 2)) (pv 1) (nomark _))))
      HdAs.nil))
    (pss_one (ps_ret pe_bl)), ?read⟩
  case read =>
    refine ⟨_, ⟨rfl, hf, hc, _, ?_, h⟩, fun v H' hq => hq⟩
    rintro cls d H' ⟨rfl, dd, fs, v, rfl, hx, hl, k⟩
    refine ⟨true, (exm_sib (K := X.K) T.e_BadValue.ln T.e_BadValue.ln T.e_BadValue.nS).trans (by simp), fun _ a ha => ?_, fun z => nomatch z⟩
    exact ⟨_, rfl, rfl, rfl, dd, fs, v, rfl, hx, hl, u, rfl, k⟩
end
end K43

set_option Elab.async false
set_option linter.all false
set_option maxRecDepth 100000
set_option maxHeartbeats 4000000
/-! A list of pairs of a lambda and a value, made item by item, each handed to a def in a comprehension: all of them good. -/
namespace DN
open PySem PySem.Spec PyProof.Rows L2 Evl LamX EV2 TX
theorem EI.extN' {Γ : Gam} {q : Option Addr} {A : List Addr} {H H' : Hp} {s : DN.PS} (e : EI Γ q A H s) (x : ExtN H H') (t : Tabs Γ.TT H') : EI Γ q A H' s := ⟨fun a h => let ⟨c, h1, h2, h3⟩ := e.pen a h; ⟨c, h1, TX.pen_extN h2 x, h3⟩, t, fun a h => by
  rcases e.own a h with ⟨vs, h⟩ | ⟨C, dx, fs, h⟩
  · exact .inl ⟨vs, x _ _ h fun _ z => by cases z⟩
  · exact .inr ⟨C, dx, fs, x _ _ h fun _ z => by cases z⟩⟩
abbrev TTy := (XK → Hp → VK → Prop) → List V → Hp → VK → Prop
/-- a lambda, its value's reading, what is known of the value -/
structure Tr where
  l : LamR
  tu : TE
  U : Hp → V → Prop
structure TrOk (Γ : Gam) (TT : TTy) (q : Option Addr) (B : List Addr) (τ : Sto) (s : PS) (OK : L2.St → Prop) (t : Tr) : Prop where
  mono : ∀ H H' u, Grow H H' → t.U H u → t.U H' u
  run : ∀ A σ H (Q : VK), OK σ → EI Γ q A H s → StR Γ q B A H σ τ → (∀ u H', Grow H H' → EI Γ q A H' s → t.U (msk A H') u → Q u H') → t.tu σ H Q
  use : ∀ A σ H u (Q : VK), OK σ → EI Γ q A H s → StR Γ q B A H σ τ → t.U (msk A H) u → (∀ H', Grow H H' → EI Γ q A H' s → Q (.bl true) H') → TT (fun E H' Q' => t.l.t E σ H' Q') [u] H Q
inductive PairsAt (X : Cx) (A : List Addr) (H : Hp) : List V → List Tr → Prop
  | nil : PairsAt X A H [] []
  | cons {t f c : Addr} {r : Tr} {u : V} {vs : List V} {rs : List Tr} (nA : t ∉ A) (ht : H t = some (.tup [.ref f, u])) (hf : H f = some (LamO f c (lamD X r.l.params r.l.body r.l.scope))) (hc : H c = some (CodeO c (X.env.qual ++ "<lambda>"))) (hu : r.U (msk A H) u) (rest : PairsAt X A H vs rs) : PairsAt X A H (.ref t :: vs) (r :: rs)
section
variable {Γ : Gam} {X : Cx} {TT : TTy} {q : Option Addr} {B A : List Addr} {τ : Sto} {s : PS} {OK : L2.St → Prop} {H H' : Hp}
theorem PairsAt.length {vs : List V} {rs : List Tr} (h : PairsAt X A H vs rs) : vs.length = rs.length := by
  induction h with
  | nil => rfl
  | cons _ _ _ _ _ _ ih => rw [List.length_cons, List.length_cons, ih]
theorem PairsAt.append {vs ws : List V} {rs ss : List Tr} (h : PairsAt X A H vs rs) (k : PairsAt X A H ws ss) : PairsAt X A H (vs ++ ws) (rs ++ ss) := by
  induction h with
  | nil => exact k
  | cons a b c d e _ ih => exact .cons a b c d e ih
/-- what stays -/
structure Kp (A : List Addr) (H H' : Hp) : Prop where
  lam : ∀ f c L, H f = some (LamO f c L) → H' f = some (LamO f c L)
  cod : ∀ c x, H c = some (CodeO c x) → H' c = some (CodeO c x)
  tup : ∀ t vs, H t = some (.tup vs) → H' t = some (.tup vs)
  msk : Grow (msk A H) (msk A H')
theorem Kp.grow (g : Grow H H') : Kp A H H' where
  lam := fun f c L h => g.keep _ _ h (fun _ _ z => (by unfold LamO at z; cases z)) fun _ z => (by unfold LamO at z; cases z)
  cod := fun c x h => g.keep _ _ h (fun _ _ z => (by unfold CodeO at z; cases z)) fun _ z => (by unfold CodeO at z; cases z)
  tup := fun t vs h => g.keep _ _ h (fun _ _ z => (by cases z)) fun _ z => (by cases z)
  msk := g.msk
theorem Kp.put {a : Addr} {vs ws : List V} (ha : a ∈ A) (h : H a = some (.lst vs)) : Kp A H (upd H a (.lst ws)) := ⟨fun f c L e => by rw [upd_ne (fun z => by subst z; rw [h] at e; unfold LamO at e; cases e)]; exact e, fun c x e => by rw [upd_ne (fun z => by subst z; rw [h] at e; unfold CodeO at e; cases e)]; exact e, fun t us e => by rw [upd_ne (fun z => by subst z; rw [h] at e; cases e)]; exact e, by rw [msk_upd ha]; exact Grow.refl _⟩
theorem PairsAt.keep {vs : List V} {rs : List Tr} (hm : ∀ r ∈ rs, TrOk Γ TT q B τ s OK r) (k : Kp A H H') (h : PairsAt X A H vs rs) : PairsAt X A H' vs rs := by
  induction h with
  | nil => exact .nil
  | cons a b c d e _ ih => exact .cons a (k.tup _ _ b) (k.lam _ _ _ c) (k.cod _ _ d) ((hm _ List.mem_cons_self).mono _ _ _ k.msk e) (ih fun r hr => hm r (List.mem_cons_of_mem _ hr))
theorem PairsAt.more {a : Addr} {vs : List V} {rs : List Tr} (hm : ∀ r ∈ rs, TrOk Γ TT q B τ s OK r) (g : Grow H H') (hn : H a = none) (h : PairsAt X A H vs rs) : PairsAt X (a :: A) H' vs rs := by
  have k : Kp A H H' := .grow g
  induction h with
  | nil => exact .nil
  | cons x b c d e _ ih =>
    refine .cons ?_ (k.tup _ _ b) (k.lam _ _ _ c) (k.cod _ _ d) ((hm _ List.mem_cons_self).mono _ _ _ (side_ex g hn) e) (ih fun r hr => hm r (List.mem_cons_of_mem _ hr))
    simp only [List.mem_cons, not_or]
    exact ⟨ne_of_none b hn, x⟩
theorem PairsAt.get {vs : List V} {rs : List Tr} (h : PairsAt X A H vs rs) : ∀ {i : Nat} {r : Tr}, rs[i]? = some r → ∃ t f c u, t ∉ A ∧ vs[i]? = some (.ref t) ∧ H t = some (.tup [.ref f, u]) ∧ H f = some (LamO f c (lamD X r.l.params r.l.body r.l.scope)) ∧ H c = some (CodeO c (X.env.qual ++ "<lambda>")) ∧ r.U (msk A H) u := by
  induction h with
  | nil => intro i r e; simp at e
  | cons a b c d e _ ih =>
    intro i r h
    cases i with
    | zero => simp at h; subst h; exact ⟨_, _, _, _, a, rfl, b, c, d, e⟩
    | succ i => obtain ⟨t, f, c, u, h1, h2, h3⟩ := ih (by simpa using h); exact ⟨t, f, c, u, h1, by simpa using h2, h3⟩
/-- one pair is made -/
abbrev tPair (X : Cx) (T : List (Addr × Str)) (r : Tr) : TE := tTup (tCons (tLamN X T r.l.params r.l.body r.l.scope) (tCons r.tu tNil))
theorem pair_run {r : Tr} (hr : TrOk Γ TT q B τ s OK r) {σ : L2.St} (ok : OK σ) (ei : EI Γ q A H s) (st : StR Γ q B A H σ τ) (Q : VK) (k : ∀ t H1, Grow H H1 → EI Γ q A H1 s → PairsAt X A H1 [.ref t] [r] → Q (.ref t) H1) : tPair X Γ.TT r σ H Q := by
  refine ⟨ei.tab, fun f c H1 hg t1 n1 c1 => ?_⟩
  have e1 : EI Γ q A H1 s := ei.extN' hg.2 t1
  have g2 : Grow H1 (upd H1 f (LamO f c (lamD X r.l.params r.l.body r.l.scope))) := Grow.new n1
  have e2 := e1.new (o := LamO f c (lamD X r.l.params r.l.body r.l.scope)) n1
  refine hr.run A σ _ _ ok e2 ((st.grow hg.1).grow g2) fun u H3 g3 e3 hu => ?_
  refine ⟨show 2 ≤ sizeLine by decide, fun t ht => ?_⟩
  have g4 : Grow H3 (upd H3 t (.tup [.ref f, u])) := Grow.new ht
  have kk : Kp A (upd H1 f (LamO f c (lamD X r.l.params r.l.body r.l.scope))) (upd H3 t (.tup [.ref f, u])) := .grow (g3.trans g4)
  exact k t _ (((hg.1.trans g2).trans g3).trans g4) (e3.new ht) (.cons (e3.out ht) upd_same (kk.lam _ _ _ upd_same) (kk.cod _ _ (by rw [upd_ne (ne_of_none c1 n1)]; exact c1)) (hr.mono _ _ _ g4.msk hu) .nil)
/-- the later pairs are put behind -/
def tApps (X : Cx) (K : PySem.W.Frag) (T : List (Addr × Str)) (c : Nat) : List Tr → TS → TS
  | [], rest => rest
  | r :: rs, rest => tSeq (tDrop (tBM K "list" rAppend (tVar c) (tCons (tPair X T r) tNil))) (tApps X K T c rs rest)
theorem apps_run (noOwn : ∀ (i : Nat) (z : Option Addr) (d : D), τ[i]? ≠ some (Sl.own z d)) {c : Nat} {a : Addr} {rest : TS} {De : Ends} {σ : L2.St} {H0 : Hp} (ok : OK σ) (h0 : H0 a = none) (nA : a ∉ A) (hB : ∀ b ∈ B, b ∈ A) (hc : σ[c]? = some (some (.ref a))) : ∀ (rs : List Tr) (H : Hp) (vs : List V) (done : List Tr), (∀ r ∈ rs, TrOk Γ TT q B τ s OK r) → (∀ r ∈ done, TrOk Γ TT q B τ s OK r) → vs.length + rs.length ≤ 1000 →
    Grow H0 H → EI Γ q (a :: A) H s → StR Γ q B (a :: A) H σ τ → H a = some (.lst vs) → PairsAt X (a :: A) H vs done →
    (∀ H' ws, Grow H0 H' → EI Γ q (a :: A) H' s → StR Γ q B (a :: A) H' σ τ → H' a = some (.lst ws) → PairsAt X (a :: A) H' ws (done ++ rs) → rest De σ H') → tApps X Γ.K Γ.TT c rs rest De σ H
  | [], H, vs, done, _, _, _, g, e, st, ha, pa, k => k H vs g e st ha (by rw [List.append_nil]; exact pa)
  | r :: rs, H, vs, done, hrs, hdone, hl, g, e, st, ha, pa, k => by
    have hr := hrs r List.mem_cons_self
    refine ⟨_, hc, .inl ⟨rfl, vs, sq_of ha⟩, ?_⟩
    show tPair X Γ.TT r σ H fun x H1 => rAppend (.ref a) [x] H1 fun x H1 => tApps X Γ.K Γ.TT c rs rest De σ H1
    refine pair_run hr ok e st _ fun t H1 g1 e1 p1 => ?_
    have ha1 := g1.keep _ _ ha (fun _ _ z => by cases z) fun _ z => by cases z
    have hlen := pa.length
    refine ⟨a, vs, .ref t, rfl, rfl, ha1, sz_lt (by rw [List.length_cons] at hl; omega), ?_⟩
    obtain ⟨t1, e2⟩ := put_step (B := A) (o := .lst (vs ++ [.ref t])) e1 (fun b hb => List.mem_cons_of_mem _ hb) (List.mem_cons_self ..) nA (.inl ⟨_, upd_same⟩)
    have g01 := g.trans g1
    have gg : Grow H0 (upd H1 a (.lst (vs ++ [.ref t]))) := ⟨fun b o hb n1 n2 => by rw [upd_ne (ne_of_none hb h0)]; exact g01.keep b o hb n1 n2, fun b hb => by
      by_cases z : b = a
      · rw [z, upd_same]; simp
      · rw [upd_ne z]; exact g01.dom b hb⟩
    have kp : Kp (a :: A) H1 (upd H1 a (.lst (vs ++ [.ref t]))) := .put List.mem_cons_self ha1
    have st1 : StR Γ q B (a :: A) (upd H1 a (.lst (vs ++ [.ref t]))) σ τ := by
      have s1 := st.grow g1
      exact ⟨s1.len, fun i d h => let ⟨v, h1, h2⟩ := s1.val i d h; ⟨v, h1, h2.mono kp.msk⟩, fun i z d h => absurd h (noOwn i z d)⟩
    have hall : ∀ x ∈ done ++ [r], TrOk Γ TT q B τ s OK x := fun x hx => by
      rcases List.mem_append.mp hx with z | z
      · exact hdone x z
      · rw [List.mem_singleton.mp z]; exact hr
    have pa2 : PairsAt X (a :: A) (upd H1 a (.lst (vs ++ [.ref t]))) (vs ++ [.ref t]) (done ++ [r]) := ((pa.keep hdone (.grow g1)).append p1).keep hall kp
    exact apps_run noOwn ok h0 nA hB hc rs _ (vs ++ [.ref t]) (done ++ [r]) (fun x hx => hrs x (List.mem_cons_of_mem _ hx)) hall (by rw [List.length_append]; simp only [List.length_cons, List.length_nil] at hl ⊢; omega) gg e2 st1 upd_same pa2 (fun H' ws w1 w2 w3 w4 w5 => k H' ws w1 w2 w3 w4 (by rw [List.append_assoc] at w5; exact w5))
/-- c = [pair] -/
theorem first_run {c : Nat} {r : Tr} {rest : TS} {De : Ends} {σ : L2.St} (hr : TrOk Γ TT q B τ s OK r) (ok : OK σ) (hB : ∀ b ∈ B, b ∈ A) (ei : EI Γ q A H s) (st : StR Γ q B A H σ τ) (k : ∀ a H' vs, H a = none → a ∉ A → Grow H H' → EI Γ q (a :: A) H' s → StR Γ q B (a :: A) H' σ τ → H' a = some (.lst vs) → vs.length = 1 → PairsAt X (a :: A) H' vs [r] → rest De (σ.set c (some (.ref a))) H') :
    tSeq (tAsg (tLst (tCons (tPair X Γ.TT r) tNil)) (gName c)) rest De σ H := by
  show tPair X Γ.TT r σ H fun x H1 => [x].length ≤ sizeLine ∧ ∀ p, H1 p = none → rest De (σ.set c (some (.ref p))) (upd H1 p (.lst [x]))
  refine pair_run hr ok ei st _ fun t H1 g1 e1 p1 => ⟨show 1 ≤ sizeLine by decide, fun a ha => ?_⟩
  obtain ⟨t1, e2⟩ := own_step (B := B) (o := .lst [.ref t]) e1 hB ha (.inl ⟨_, upd_same⟩)
  exact k a _ _ (g1.fresh ha) (e1.out ha) (g1.trans (Grow.new ha)) e2 ((st.grow g1).side (Grow.new ha) ha) upd_same rfl (p1.more (fun x hx => by rw [List.mem_singleton.mp hx]; exact hr) (Grow.new ha) ha)
/-- return all([g(y, u) for y, u in c]) -/
theorem all_run {c j1 j2 : Nat} {a : Addr} {vs : List V} {rs : List Tr} {De : Ends} {σ : L2.St} (hj : j1 ≠ j2) (ok : OK σ) (hc : σ[c]? = some (some (.ref a))) (h1 : j1 < σ.length) (h2 : j2 < σ.length) (hrs : ∀ r ∈ rs, TrOk Γ TT q B τ s OK r) (hl : rs.length ≤ 1000) (e : EI Γ q A H s) (st : StR Γ q B A H σ τ)
    (ha : H a = some (.lst vs)) (pa : PairsAt X A H vs rs) (k : ∀ H', Grow H H' → EI Γ q A H' s → De.rt (.bl true) H') :
    tRet (tCB (rAll Γ.K) (tCons (fun σ H Q => tLc (iList Γ.K (tVar c)) (gTup Γ.K 2 (gCons (gName j1) (gCons (gName j2) gNil))) tYes (rdBlkW X j1 j2 (rs.map Tr.l) TT σ) [j1, j2] σ H Q) tNil)) De σ H := by
  show tLc (iList Γ.K (tVar c)) (gTup Γ.K 2 (gCons (gName j1) (gCons (gName j2) gNil))) tYes (rdBlkW X j1 j2 (rs.map Tr.l) TT σ) [j1, j2] σ H fun x H1 => rAll Γ.K [x] H1 fun v H2 => De.rt v H2
  refine ⟨_, hc, a, rfl, ⟨vs, sq_of ha⟩, fun D0 hD => ?_⟩
  have nD : D0 ∉ A := e.out hD
  have hlen := pa.length
  refine ⟨fun n m H' => m = rs.length - n ∧ n ≤ rs.length ∧ Grow H H' ∧ EI Γ q (D0 :: A) H' s ∧ H' D0 = some (.lst ((List.replicate n true).map V.bl)), ?_, ?_⟩
  · obtain ⟨t1, e1⟩ := own_step (B := []) (o := .lst ([] : List V)) e (fun _ z => by cases z) hD (.inl ⟨[], upd_same⟩)
    exact ⟨_, rfl, Nat.zero_le _, Grow.new hD, e1, upd_same⟩
  · rintro n m H' ⟨rfl, hn, g, e', hd⟩
    have ha' := g.keep _ _ ha (fun _ _ z => by cases z) fun _ z => by cases z
    by_cases hlt : n < rs.length
    · have hr : rs[n]? = some rs[n] := List.getElem?_eq_getElem hlt
      have hro := hrs _ (List.getElem_mem hlt)
      obtain ⟨t, f, c', u, nt, hv, ht, hf, hcc, hu⟩ := (pa.more hrs g hD).get hr
      refine .inr ⟨⟨vs, _, sq_of ha', hv⟩, fun H2 => Grow H H2 ∧ EI Γ q (D0 :: A) H2 s ∧ H2 D0 = some (.lst ((List.replicate (n + 1) true).map V.bl)), ?_, ?_⟩
      · rintro H2 ⟨g2, e2, d2⟩
        exact ⟨rs.length - (n + 1), by omega, rfl, by omega, g2, e2, d2⟩
      · rintro x H'' ⟨rfl, hx⟩
        have hxv := hx vs (sq_of ha')
        rw [hv] at hxv
        cases hxv
        refine ⟨t, [.ref f, u], rfl, st_of ht, rfl, _, _, rfl, _, _, rfl, rfl, ?_⟩
        have w1 : ((wipe σ [j1, j2]).set j1 (some (.ref f))).set j2 (some u) = (σ.set j1 (some (.ref f))).set j2 (some u) := by
          show (((σ.set j2 none).set j1 none).set j1 (some (V.ref f))).set j2 (some u) = _
          rw [List.set_set, List.set_comm none (some (V.ref f)) (Ne.symm hj), List.set_set]
        rw [w1]
        refine ⟨?_, ?_⟩
        · show (((σ.set j1 (some (V.ref f))).set j2 (some u)).set j2 none).set j1 none = (σ.set j2 none).set j1 none
          rw [List.set_set, List.set_comm (some (V.ref f)) none hj, List.set_set]
        unfold tYes
        dsimp only
        rw [if_pos rfl]
        refine ⟨f, c', _, u, List.mem_map.mpr ⟨_, List.getElem_mem hlt, rfl⟩, ?_, ?_, hf, hcc, ?_⟩
        · rw [List.getElem?_set_ne (Ne.symm hj), List.getElem?_set_self h1]
        · rw [List.getElem?_set_self (by rw [List.length_set]; exact h2)]
        · refine hro.use (D0 :: A) σ H'' u _ ok e' (st.side g hD) hu fun H4 g4 e4 => ?_
          have hd4 := g4.keep _ _ hd (fun _ _ z => by cases z) fun _ z => by cases z
          refine ⟨_, hd4, sz_lt (by simp; omega), ?_⟩
          obtain ⟨t1, e5⟩ := put_step (B := A) (o := .lst ((List.replicate n true).map V.bl ++ [.bl true])) e4 (fun b hb => List.mem_cons_of_mem _ hb) (List.mem_cons_self ..) nD (.inl ⟨_, upd_same⟩)
          have g14 : Grow H H4 := g.trans g4
          refine ⟨⟨fun b o hb n1 n2 => by rw [upd_ne (ne_of_none hb hD)]; exact g14.keep b o hb n1 n2, fun b hb => ?_⟩, e5, ?_⟩
          · by_cases z : b = D0
            · rw [z, upd_same]; simp
            · rw [upd_ne z]; exact g14.dom b hb
          · rw [upd_same, List.replicate_succ', List.map_append]
            rfl
    · have hie : n = rs.length := by omega
      subst hie
      refine .inl ⟨⟨vs, sq_of ha', by rw [hlen]; exact Nat.le_refl _⟩, D0, _, rfl, sq_of hd, ?_⟩
      have : (List.replicate rs.length true).all id = true := by simp
      rw [this]
      exact k H' g (e'.less fun b hb => List.mem_cons_of_mem _ hb)
end
end DN

set_option Elab.async false
set_option linter.all false
set_option maxRecDepth 100000
set_option maxHeartbeats 4000000
namespace K43
open PySem PySem.Spec PyProof.Rows L2 Evl LamX TX EV2 DN
section
variable {P : Program} {w : World} {K : PySem.W.Frag} {mg : Str → Option Value} {base : Heap} {p : Ad}
theorem gotRefused {X : Cx} (T : Txt X.K X.mg p) (TG : TxtG X.K X.mg p) (hr : Room 14 X.A) : GotW X 12 "_law_refused" "_law_call" p.f_l_refused N_l_refused ["_law_value_here"] (TTq X.K p) := by
  have kp := TG.F_l_refused.kp
  have F := TG.F_l_refused
  have b := TG.b_l_refused
  generalize p.d_l_refused = fd at F b
  obtain ⟨oc, od, kV, doc, pm, an, cdv, ct, osl, rfl, l, q⟩ := F.ex
  exact ⟨TG.mg_l_refused, kp, ⟨_, _, _, _, _, _, _, _, _, _, _, _, _, l, q, b, sc_l_refused, Or.inl rfl, refused_gives T TG hr⟩, rfl, hr⟩
/-- two values that are told apart by nothing -/
def sameD (d e : D) : Prop := ∃ a b, toPd d = some a ∧ toPd e = some b ∧ SeqAt.shaped a = true ∧ SeqAt.shaped b = true ∧ PyData.eqv a b = true
theorem ttq_of {q : Option Addr} {B A : List Addr} {H : Hp} {σ : L2.St} {τ : Sto} {s : DN.PS} {t : XK → TE} {m : ME} {u : V} {d e : D} (ht : ∀ E, SndE (gam K p) (fun _ => E) (t E) m) (Q : VK) (ei : EI (gam K p) q A H s) (st : StR (gam K p) q B A H σ τ) (hm : m τ s = .err 0 [("value", d)] s) (hs : sameD d e) (ru : Rep (gam K p) q (msk A H) u e)
    (k : ∀ H', Grow H H' → EI (gam K p) q A H' s → Q (.bl true) H') : TTq K p (fun E H' Q' => t E σ H' Q') [u] H Q := by
  obtain ⟨a, b, h1, h2, h3, h4, h5⟩ := hs
  refine ⟨u, rfl, ?_⟩
  refine ht _ q B A H σ τ s _ ei st ?_
  rw [hm]
  intro x H' g e' xr
  obtain ⟨ax, ws, rfl, hx, rf⟩ := xr
  cases rf with
  | cons r1 rf =>
    cases rf
    rename_i v
    refine ⟨rfl, ax, _, v, rfl, hx, by simp [List.lookup], .inl ⟨a, b, dp_rep r1 h1, dp_rep (ru.mono g.msk) h2, h3, h4, ?_⟩⟩
    rw [h5]
    exact k H' g e'
/-- a pair whose value is told by its D -/
theorem tr_D {q : Option Addr} {B : List Addr} {τ : Sto} {s : DN.PS} {OK : L2.St → Prop} {l : LamR} {tu : TE} {m mu : ME} {d e : D} (ht : ∀ E, SndE (gam K p) (fun _ => E) (l.t E) m) (hu : SndE (gam K p) (fun _ _ _ _ => False) tu mu) (hm : m τ s = .err 0 [("value", d)] s) (he : mu τ s = .ok e s) (hs : sameD d e) :
    TrOk (gam K p) (TTq K p) q B τ s OK ⟨l, tu, fun H u => Rep (gam K p) q H u e⟩ where
  mono := fun H H' u g r => r.mono g
  run := fun A σ H Q _ ei st k => hu q B A H σ τ s Q ei st (by rw [he]; exact fun v H' g e' r => k v H' g e' r)
  use := fun A σ H u Q _ ei st r k => ttq_of ht Q ei st hm hs r k
/-- the pair whose value is the grid itself -/
theorem tr_V {q : Option Addr} {B : List Addr} {τ : Sto} {s : DN.PS} {l : LamR} {g : Addr} {gs : List (Str × D)} {rs : List D} (T : Txt K mg p) (ht : ∀ E, l.t E = tCall (spChkV p) [] E (tCons (tVar 1) tNil)) (h1 : τ[1]? = some (.val (.obj 4 gs))) (hr : gs.lookup ("rows" : Str) = some (.tup rs)) :
    TrOk (gam K p) (TTq K p) q B τ s (fun σ => σ[1]? = some (some (.ref g))) ⟨l, tVar 1, fun _ u => u = .ref g⟩ where
  mono := fun H H' u g r => r
  run := fun A σ H Q ok ei st k => ⟨_, ok, k _ H (Grow.refl H) ei rfl⟩
  use := fun A σ H u Q ok ei st r k => by
    subst r
    obtain ⟨v, hv, rv⟩ := st.val 1 _ h1
    rw [ok] at hv
    cases hv
    cases rv with
    | obj ho rf =>
      rename_i dx fs
      have ho' := (of_msk ho).2
      refine ⟨.ref g, rfl, ?_⟩
      dsimp only
      rw [ht]
      refine ⟨_, ok, g, dx, fs, rfl, ho', fun x H' ex hx => ⟨rfl, x, _, .ref g, rfl, hx, by simp [List.lookup], .inr ?_⟩⟩
      obtain ⟨vr, hvr, rr⟩ := (rf.lookup (f := "rows")).1 _ hr
      cases rr with
      | tup hs _ =>
        rename_i r xs _
        have gx : Grow H H' := .ex ex
        have hs' : SqT K H' r xs := gx.sqT ((Grow.ex ex_nil).sqT hs)
        have hg' : H' g = some (.ins p.C_Grid dx fs) := ex _ _ ho'
        exact ⟨g, dx, fs, .ref p.C_Grid, rfl, hg', tyx_grid T hg', by unfold PySem.W.notFirst; simp, g, dx, r, fs, xs, rfl, hg', hvr, hs', ⟨true, rfl⟩, k H' gx (ei.ex ex)⟩
end
end K43

set_option Elab.async false
set_option linter.all false
set_option maxRecDepth 100000
set_option maxHeartbeats 4000000
namespace K43
open PySem PySem.Spec PyProof.Rows L2 Evl LamX TX EV2 DN
def lpA : Expr → Arguments | .Lambda p _ _ _ => p | _ => ⟨[], [], none, [], [], none, []⟩
def lpB : Expr → Expr | .Lambda _ b _ _ => b | e => e
def lpS (d : Scope) : Expr → Scope | .Lambda _ _ s _ => s | _ => d
def lamP (b : List Stmt) (i : Nat) : Expr := match b[i]? with
  | some (.Assign _ (.List (.Tuple (l :: _) _ _ :: _) _) _) => l
  | some (.Expr (.Call _ (.Tuple (l :: _) _ _ :: _) _ _) _) => l
  | _ => .Constant .none 0 ⟨0, 0, 0, 0⟩
def lm_0 : ME := (mCall 3 M_part_at [] (mCons (mVar 4) (mCons (mC (.int 1)) (mCons (mC (.int 1)) mNil))))
def lm_1 : ME := (mCall 3 M_part_at [] (mCons (mVar 1) (mCons (mVar 3) (mCons (mC (.int 1)) mNil))))
def lm_2 : ME := (mCall 3 M_part_at [] (mCons (mVar 1) (mCons (mC (.int 1)) (mCons (mVar 3) mNil))))
def lm_3 : ME := (mCall 3 M_part_at [] (mCons (mVar 1) (mCons (mVar 3) (mCons (mC .non) mNil))))
def lm_4 : ME := (mCall 1 M_stretched [] (mCons (mLst (mCons (mVar 1) (mCons (mVar 4) (mCons (mVar 3) mNil)))) mNil))
def lm_5 : ME := (mCall 1 M_stretched [] (mCons (mLst mNil) mNil))
section
variable {P : Program} {w : World} {K : PySem.W.Frag} {mg : Str → Option Value} {base : Heap} {p : Ad}
theorem lo_0 (T : Txt K mg p) {f c : Addr} : ∃ t : XK → TE, (∀ (A : Around) (outer : List Env) (s : Shared) (H : Hp) (E : XK), LamOk (cxOf CX0 P w K mg base N_l_are_refused "_law_are_refused" (defScope s_l_are_refused) f (.ref c) A outer s H E).nox 12 ⟨lpA (lamP (defBody s_l_are_refused) 1), lpB (lamP (defBody s_l_are_refused) 1), lpS (defScope s_l_are_refused) (lamP (defBody s_l_are_refused) 1), t⟩) ∧ ∀ E, SndE (gam K p) (fun _ => E) (t E) lm_0 := by
  have G_part_at := ok_part_at (P := P) (w := w) (base := base) T
  exact ⟨_, fun A0 outer0 s0 H0 E0 => ⟨lamS_by (sc := defScope s_l_are_refused) (by dsimp only; decide +kernel), fun _ _ _ _ _ => rfl, rfl, fun A outer s H E f c hr2 => (pe_call G_part_at (hr2.mono (by decide)) (by rfl) T.mg_part_at T.F_part_at.kp T.b_part_at .nil (passes_call (takes_of rfl rfl rfl rfl) fun _ _ _ _ h => h) (pa_cons (pv 4) (pa_cons pe_int (pa_cons pe_int pa_nil))))⟩, fun E => (se_call (sa_cons se_var (sa_cons se_int (sa_cons se_int sa_nil))))⟩
theorem lo_1 (T : Txt K mg p) {f c : Addr} : ∃ t : XK → TE, (∀ (A : Around) (outer : List Env) (s : Shared) (H : Hp) (E : XK), LamOk (cxOf CX0 P w K mg base N_l_are_refused "_law_are_refused" (defScope s_l_are_refused) f (.ref c) A outer s H E).nox 12 ⟨lpA (lamP (defBody s_l_are_refused) 2), lpB (lamP (defBody s_l_are_refused) 2), lpS (defScope s_l_are_refused) (lamP (defBody s_l_are_refused) 2), t⟩) ∧ ∀ E, SndE (gam K p) (fun _ => E) (t E) lm_1 := by
  have G_part_at := ok_part_at (P := P) (w := w) (base := base) T
  exact ⟨_, fun A0 outer0 s0 H0 E0 => ⟨lamS_by (sc := defScope s_l_are_refused) (by dsimp only; decide +kernel), fun _ _ _ _ _ => rfl, rfl, fun A outer s H E f c hr2 => (pe_call G_part_at (hr2.mono (by decide)) (by rfl) T.mg_part_at T.F_part_at.kp T.b_part_at .nil (passes_call (takes_of rfl rfl rfl rfl) fun _ _ _ _ h => h) (pa_cons (pv 1) (pa_cons (pv 3) (pa_cons pe_int pa_nil))))⟩, fun E => (se_call (sa_cons se_var (sa_cons se_var (sa_cons se_int sa_nil))))⟩
theorem lo_2 (T : Txt K mg p) {f c : Addr} : ∃ t : XK → TE, (∀ (A : Around) (outer : List Env) (s : Shared) (H : Hp) (E : XK), LamOk (cxOf CX0 P w K mg base N_l_are_refused "_law_are_refused" (defScope s_l_are_refused) f (.ref c) A outer s H E).nox 12 ⟨lpA (lamP (defBody s_l_are_refused) 3), lpB (lamP (defBody s_l_are_refused) 3), lpS (defScope s_l_are_refused) (lamP (defBody s_l_are_refused) 3), t⟩) ∧ ∀ E, SndE (gam K p) (fun _ => E) (t E) lm_2 := by
  have G_part_at := ok_part_at (P := P) (w := w) (base := base) T
  exact ⟨_, fun A0 outer0 s0 H0 E0 => ⟨lamS_by (sc := defScope s_l_are_refused) (by dsimp only; decide +kernel), fun _ _ _ _ _ => rfl, rfl, fun A outer s H E f c hr2 => (pe_call G_part_at (hr2.mono (by decide)) (by rfl) T.mg_part_at T.F_part_at.kp T.b_part_at .nil (passes_call (takes_of rfl rfl rfl rfl) fun _ _ _ _ h => h) (pa_cons (pv 1) (pa_cons pe_int (pa_cons (pv 3) pa_nil))))⟩, fun E => (se_call (sa_cons se_var (sa_cons se_int (sa_cons se_var sa_nil))))⟩
theorem lo_3 (T : Txt K mg p) {f c : Addr} : ∃ t : XK → TE, (∀ (A : Around) (outer : List Env) (s : Shared) (H : Hp) (E : XK), LamOk (cxOf CX0 P w K mg base N_l_are_refused "_law_are_refused" (defScope s_l_are_refused) f (.ref c) A outer s H E).nox 12 ⟨lpA (lamP (defBody s_l_are_refused) 4), lpB (lamP (defBody s_l_are_refused) 4), lpS (defScope s_l_are_refused) (lamP (defBody s_l_are_refused) 4), t⟩) ∧ ∀ E, SndE (gam K p) (fun _ => E) (t E) lm_3 := by
  have G_part_at := ok_part_at (P := P) (w := w) (base := base) T
  exact ⟨_, fun A0 outer0 s0 H0 E0 => ⟨lamS_by (sc := defScope s_l_are_refused) (by dsimp only; decide +kernel), fun _ _ _ _ _ => rfl, rfl, fun A outer s H E f c hr2 => (pe_call G_part_at (hr2.mono (by decide)) (by rfl) T.mg_part_at T.F_part_at.kp T.b_part_at .nil (passes_call (takes_of rfl rfl rfl rfl) fun _ _ _ _ h => h) (pa_cons (pv 1) (pa_cons (pv 3) (pa_cons pe_non pa_nil))))⟩, fun E => (se_call (sa_cons se_var (sa_cons se_var (sa_cons se_non sa_nil))))⟩
theorem lo_4 (T : Txt K mg p) {f c : Addr} : ∃ t : XK → TE, (∀ (A : Around) (outer : List Env) (s : Shared) (H : Hp) (E : XK), LamOk (cxOf CX0 P w K mg base N_l_are_refused "_law_are_refused" (defScope s_l_are_refused) f (.ref c) A outer s H E).nox 12 ⟨lpA (lamP (defBody s_l_are_refused) 5), lpB (lamP (defBody s_l_are_refused) 5), lpS (defScope s_l_are_refused) (lamP (defBody s_l_are_refused) 5), t⟩) ∧ ∀ E, SndE (gam K p) (fun _ => E) (t E) lm_4 := by
  have G_stretched := ok_stretched (P := P) (w := w) (base := base) T
  exact ⟨_, fun A0 outer0 s0 H0 E0 => ⟨lamS_by (sc := defScope s_l_are_refused) (by dsimp only; decide +kernel), fun _ _ _ _ _ => rfl, rfl, fun A outer s H E f c hr2 => (pe_call G_stretched (hr2.mono (by decide)) (by rfl) T.mg_stretched T.F_stretched.kp T.b_stretched .nil (passes_call (takes_of rfl rfl rfl rfl) fun _ _ _ _ h => h) (pa_cons (pe_lst (pa_cons (pv 1) (pa_cons (pv 4) (pa_cons (pv 3) pa_nil)))) pa_nil))⟩, fun E => (se_call (sa_cons (se_lst (sa_cons se_var (sa_cons se_var (sa_cons se_var sa_nil)))) sa_nil))⟩
theorem lo_5 (T : Txt K mg p) {f c : Addr} : ∃ t : XK → TE, (∀ (A : Around) (outer : List Env) (s : Shared) (H : Hp) (E : XK), LamOk (cxOf CX0 P w K mg base N_l_are_refused "_law_are_refused" (defScope s_l_are_refused) f (.ref c) A outer s H E).nox 12 ⟨lpA (lamP (defBody s_l_are_refused) 6), lpB (lamP (defBody s_l_are_refused) 6), lpS (defScope s_l_are_refused) (lamP (defBody s_l_are_refused) 6), t⟩) ∧ ∀ E, SndE (gam K p) (fun _ => E) (t E) lm_5 := by
  have G_stretched := ok_stretched (P := P) (w := w) (base := base) T
  exact ⟨_, fun A0 outer0 s0 H0 E0 => ⟨lamS_by (sc := defScope s_l_are_refused) (by dsimp only; decide +kernel), fun _ _ _ _ _ => rfl, rfl, fun A outer s H E f c hr2 => (pe_call G_stretched (hr2.mono (by decide)) (by rfl) T.mg_stretched T.F_stretched.kp T.b_stretched .nil (passes_call (takes_of rfl rfl rfl rfl) fun _ _ _ _ h => h) (pa_cons (pe_lst pa_nil) pa_nil))⟩, fun E => (se_call (sa_cons (se_lst sa_nil) sa_nil))⟩
theorem lo_6 (T : Txt K mg p) {f c : Addr} : ∃ t : XK → TE, (∀ (A : Around) (outer : List Env) (s : Shared) (H : Hp) (E : XK), LamOk (cxOf CX0 P w K mg base N_l_are_refused "_law_are_refused" (defScope s_l_are_refused) f (.ref c) A outer s H E).nox 12 ⟨lpA (lamP (defBody s_l_are_refused) 7), lpB (lamP (defBody s_l_are_refused) 7), lpS (defScope s_l_are_refused) (lamP (defBody s_l_are_refused) 7), t⟩) ∧ ∀ E, t E = tCall (spChkV p) [] E (tCons (tVar 1) tNil) := by
  have G_stretched := ok_stretched_V (P := P) (w := w) (base := base) T
  exact ⟨_, fun A0 outer0 s0 H0 E0 => ⟨lamS_by (sc := defScope s_l_are_refused) (by dsimp only; decide +kernel), fun _ _ _ _ _ => rfl, rfl, fun A outer s H E f c hr2 => (pe_call G_stretched (hr2.mono (by decide)) (by rfl) T.mg_stretched T.F_stretched.kp T.b_stretched .nil (passes_call (takes_of rfl rfl rfl rfl) fun _ _ _ _ h => h) (pa_cons (pv 1) pa_nil))⟩, fun E => rfl⟩
/-- what the pairs ask of the values -/
structure PairsC (gs : List (Str × D)) (w pl : D) (τ : Sto) (s : DN.PS) : Prop where
  rows : ∃ rs, gs.lookup ("rows" : Str) = some (.tup rs)
  sw : sameD w w
  sp : sameD pl pl
  sl : sameD (.lst []) (.lst [])
  m0 : lm_0 τ s = .err 0 [("value", w)] s
  m1 : lm_1 τ s = .err 0 [("value", pl)] s
  m2 : lm_2 τ s = .err 0 [("value", pl)] s
  m3 : lm_3 τ s = .err 0 [("value", pl)] s
  m4 : lm_4 τ s = .err 0 [("value", w)] s
  m5 : lm_5 τ s = .err 0 [("value", .lst [])] s
open Classical in
noncomputable def sPairs : MS := fun τ s => match (τ[1]? : Option Sl), (τ[4]? : Option Sl), (τ[3]? : Option Sl) with
  | some (.val (.obj 4 gs)), some (.val w), some (.val pl) => if PairsC gs w pl (τ.set 2 .emp) s ∧ τ.length = 7 ∧ ∀ (i : Nat) (z : Option Addr) (d : D), τ[i]? ≠ some (Sl.own z d) then .rt (.bl true) s else .bad
  | _, _, _ => .bad
theorem ss_pairs {X : Cx} {EX : XS} {l0 l1 l2 l3 l4 l5 l6 : LamR} (T : Txt K mg p) (h0 : ∀ E, SndE (gam K p) (fun _ => E) (l0.t E) lm_0) (h1 : ∀ E, SndE (gam K p) (fun _ => E) (l1.t E) lm_1) (h2 : ∀ E, SndE (gam K p) (fun _ => E) (l2.t E) lm_2) (h3 : ∀ E, SndE (gam K p) (fun _ => E) (l3.t E) lm_3) (h4 : ∀ E, SndE (gam K p) (fun _ => E) (l4.t E) lm_4) (h5 : ∀ E, SndE (gam K p) (fun _ => E) (l5.t E) lm_5) (h6 : ∀ E, l6.t E = tCall (spChkV p) [] E (tCons (tVar 1) tNil)) :
    SndS (gam K p) EX (tSeq (tAsg (tLst (tCons (tPair X p.TT ⟨l0, tVar 4, (fun _ _ => True)⟩) tNil)) (gName 2)) (tApps X K p.TT 2 [⟨l1, tVar 3, (fun _ _ => True)⟩, ⟨l2, tVar 3, (fun _ _ => True)⟩, ⟨l3, tVar 3, (fun _ _ => True)⟩, ⟨l4, tVar 4, (fun _ _ => True)⟩, ⟨l5, tLst tNil, (fun _ _ => True)⟩, ⟨l6, tVar 1, (fun _ _ => True)⟩]
      (tRet (tCB (rAll K) (tCons (fun σ H Q => tLc (iList K (tVar 2)) (gTup K 2 (gCons (gName 5) (gCons (gName 6) gNil))) tYes (rdBlkW X 5 6 [l0, l1, l2, l3, l4, l5, l6] (TTq K p) σ) [5, 6] σ H Q) tNil))))) sPairs := fun q B A H σ τ s De hB ei st P0 => by
  unfold sPairs at P0
  split at P0
  · rename_i gs w pl e1 e4 e3
    split at P0
    · rename_i hc
      obtain ⟨C, hlen, noOwn⟩ := hc
      obtain ⟨v, hv, rv⟩ := st.val 1 _ e1
      have sl := st.len
      cases rv with
      | obj ho rf =>
        rename_i g dx fs
        obtain ⟨rs, hrs⟩ := C.rows
        have noOwn2 : ∀ (i : Nat) (z : Option Addr) (d : D), (τ.set 2 .emp)[i]? ≠ some (Sl.own z d) := fun i z d h => by
          rcases get_set h with ⟨_, h2, _⟩ | ⟨_, h2⟩
          · cases h2
          · exact noOwn i z d h2
        have f1 : (τ.set 2 .emp)[1]? = some (.val (.obj 4 gs)) := by rw [List.getElem?_set_ne (by decide)]; exact e1
        have f3 : (τ.set 2 .emp)[3]? = some (.val pl) := by rw [List.getElem?_set_ne (by decide)]; exact e3
        have f4 : (τ.set 2 .emp)[4]? = some (.val w) := by rw [List.getElem?_set_ne (by decide)]; exact e4
        have v1 : (mVar 4 : ME) (τ.set 2 .emp) s = .ok w s := by unfold mVar; rw [f4]
        have v2 : (mVar 3 : ME) (τ.set 2 .emp) s = .ok pl s := by unfold mVar; rw [f3]
        have v3 : (mLst mNil : ME) (τ.set 2 .emp) s = .ok (.lst []) s := rfl
        have r0 : TrOk (gam K p) (TTq K p) q B (τ.set 2 .emp) s (fun σ => σ[1]? = some (some (.ref g))) ⟨l0, tVar 4, fun H u => Rep (gam K p) q H u (w)⟩ := tr_D (mu := mVar 4) h0 se_var C.m0 v1 C.sw
        have r1 : TrOk (gam K p) (TTq K p) q B (τ.set 2 .emp) s (fun σ => σ[1]? = some (some (.ref g))) ⟨l1, tVar 3, fun H u => Rep (gam K p) q H u (pl)⟩ := tr_D (mu := mVar 3) h1 se_var C.m1 v2 C.sp
        have r2 : TrOk (gam K p) (TTq K p) q B (τ.set 2 .emp) s (fun σ => σ[1]? = some (some (.ref g))) ⟨l2, tVar 3, fun H u => Rep (gam K p) q H u (pl)⟩ := tr_D (mu := mVar 3) h2 se_var C.m2 v2 C.sp
        have r3 : TrOk (gam K p) (TTq K p) q B (τ.set 2 .emp) s (fun σ => σ[1]? = some (some (.ref g))) ⟨l3, tVar 3, fun H u => Rep (gam K p) q H u (pl)⟩ := tr_D (mu := mVar 3) h3 se_var C.m3 v2 C.sp
        have r4 : TrOk (gam K p) (TTq K p) q B (τ.set 2 .emp) s (fun σ => σ[1]? = some (some (.ref g))) ⟨l4, tVar 4, fun H u => Rep (gam K p) q H u (w)⟩ := tr_D (mu := mVar 4) h4 se_var C.m4 v1 C.sw
        have r5 : TrOk (gam K p) (TTq K p) q B (τ.set 2 .emp) s (fun σ => σ[1]? = some (some (.ref g))) ⟨l5, tLst tNil, fun H u => Rep (gam K p) q H u (.lst [])⟩ := tr_D (mu := mLst mNil) h5 (se_lst sa_nil) C.m5 v3 C.sl
        have r6 : TrOk (gam K p) (TTq K p) q B (τ.set 2 .emp) s (fun σ => σ[1]? = some (some (.ref g))) ⟨l6, tVar 1, fun _ u => u = .ref g⟩ := tr_V T h6 f1 hrs
        have st0 : StR (gam K p) q B A H σ (τ.set 2 .emp) := st.drop
        refine first_run (X := X) (Γ := gam K p) (r := ⟨l0, tVar 4, fun H u => Rep (gam K p) q H u (w)⟩) (q := q) (B := B) (τ := τ.set 2 .emp) (s := s) (OK := fun σ => σ[1]? = some (some (.ref g))) r0 hv hB ei st0 fun a H1 vs h0 nA g1 e1' st1 ha hl pa => ?_
        have hv2 : (σ.set 2 (some (.ref a)))[1]? = some (some (.ref g)) := by rw [List.getElem?_set_ne (by decide)]; exact hv
        have hc2 : (σ.set 2 (some (.ref a)))[2]? = some (some (.ref a)) := by rw [List.getElem?_set_self (by rw [sl, hlen]; decide)]
        have st2 : StR (gam K p) q B (a :: A) H1 (σ.set 2 (some (.ref a))) (τ.set 2 .emp) := by
          have z := st1.emp (i := 2) (some (.ref a))
          rw [List.set_set] at z
          exact z
        refine apps_run (X := X) (Γ := gam K p) (TT := TTq K p) (q := q) (B := B) (τ := τ.set 2 .emp) (s := s) (OK := fun σ => σ[1]? = some (some (.ref g))) noOwn2 (c := 2) (a := a) (σ := σ.set 2 (some (.ref a))) (H0 := H) hv2 h0 nA hB hc2 [⟨l1, tVar 3, fun H u => Rep (gam K p) q H u (pl)⟩, ⟨l2, tVar 3, fun H u => Rep (gam K p) q H u (pl)⟩, ⟨l3, tVar 3, fun H u => Rep (gam K p) q H u (pl)⟩, ⟨l4, tVar 4, fun H u => Rep (gam K p) q H u (w)⟩, ⟨l5, tLst tNil, fun H u => Rep (gam K p) q H u (.lst [])⟩, ⟨l6, tVar 1, fun _ u => u = .ref g⟩] H1 vs [⟨l0, tVar 4, fun H u => Rep (gam K p) q H u (w)⟩] (List.forall_mem_cons.mpr ⟨r1, List.forall_mem_cons.mpr ⟨r2, List.forall_mem_cons.mpr ⟨r3, List.forall_mem_cons.mpr ⟨r4, List.forall_mem_cons.mpr ⟨r5, List.forall_mem_cons.mpr ⟨r6, fun _ z => absurd z List.not_mem_nil⟩⟩⟩⟩⟩⟩) (List.forall_mem_cons.mpr ⟨r0, fun _ z => absurd z List.not_mem_nil⟩) (by rw [hl]; show 1 + 6 ≤ 1000; decide) g1 e1' st2 ha pa fun H2 ws g2 e2 st3 ha2 pa2 => ?_
        refine all_run (X := X) (Γ := gam K p) (TT := TTq K p) (q := q) (B := B) (τ := τ.set 2 .emp) (s := s) (OK := fun σ => σ[1]? = some (some (.ref g))) (by decide) hv2 (A := a :: A) (a := a) hc2 (by rw [List.length_set, sl, hlen]; decide) (by rw [List.length_set, sl, hlen]; decide) (rs := [⟨l0, tVar 4, fun H u => Rep (gam K p) q H u (w)⟩, ⟨l1, tVar 3, fun H u => Rep (gam K p) q H u (pl)⟩, ⟨l2, tVar 3, fun H u => Rep (gam K p) q H u (pl)⟩, ⟨l3, tVar 3, fun H u => Rep (gam K p) q H u (pl)⟩, ⟨l4, tVar 4, fun H u => Rep (gam K p) q H u (w)⟩, ⟨l5, tLst tNil, fun H u => Rep (gam K p) q H u (.lst [])⟩, ⟨l6, tVar 1, fun _ u => u = .ref g⟩]) (List.forall_mem_cons.mpr ⟨r0, List.forall_mem_cons.mpr ⟨r1, List.forall_mem_cons.mpr ⟨r2, List.forall_mem_cons.mpr ⟨r3, List.forall_mem_cons.mpr ⟨r4, List.forall_mem_cons.mpr ⟨r5, List.forall_mem_cons.mpr ⟨r6, fun _ z => absurd z List.not_mem_nil⟩⟩⟩⟩⟩⟩⟩) (by show 7 ≤ 1000; decide) e2 st3 ha2 pa2 fun H3 g3 e3 => ?_
        exact P0 A H3 (.bl true) (Step.grow hB (g2.trans g3)) (e3.less fun b hb => List.mem_cons_of_mem _ hb) (.bl true)
    · exact P0.elim
  · exact P0.elim
end
end K43

set_option Elab.async false
set_option linter.all false
set_option maxRecDepth 100000
set_option maxHeartbeats 4000000
namespace K43
open PySem PySem.Spec PyProof.Rows L2 Evl LamX TX EV2 DN
noncomputable def M_l_are_refused : MF := mDef 5 (sSeq (sAsg (mTup (mCons (mCall 2 M_l_pick [] (mCons (mVar 0) (mCons (mLst (mCons (mC .non) (mCons (mC (.int 1)) (mCons (mC (.str "A1")) (mCons (mLst (mCons (mLst (mCons (mC (.int 1)) mNil)) mNil)) (mCons (mC (.bl true)) mNil)))))) mNil))) (mCons (mCall 2 M_l_pick [] (mCons (mVar 0) (mCons (mLst (mCons (mC (.int 0)) (mCons (mUn dNeg (mC (.int 1))) (mCons (mC (.str "1")) (mCons (mC .non) (mCons (mC (.bl true)) (mCons (mUn dNeg (mOp dPow (mC (.int 10)) (mC (.int 20)))) mNil))))))) mNil))) mNil))) (gT 2 (gsC (gN 4) (gsC (gN 3) gsN)))) sPairs)
section
variable {P : Program} {w : World} {K : PySem.W.Frag} {mg : Str → Option Value} {base : Heap} {p : Ad}
theorem ok_l_are_refused (T : Txt K mg p) (TG : TxtG K mg p) (hTB : TabB base mg p.c_l_are_refused p.t_l_are_refused) (hmT : (p.t_l_are_refused, qOf "_law_are_refused") ∈ p.TT) (hu : ∀ x ∈ p.TT, x.1 = p.t_l_are_refused → x.2 = qOf "_law_are_refused") : FnG P w K mg base CX0 16 p.f_l_are_refused p.d_l_are_refused P_l_are_refused (spL (gam K p) 2 M_l_are_refused) := by
  have G_l_pick := ok_l_pick (P := P) (w := w) (base := base) T
  obtain ⟨t0, k0, r0⟩ := lo_0 (P := P) (w := w) (base := base) (f := p.f_l_are_refused) (c := p.c_l_are_refused) T
  obtain ⟨t1, k1, r1⟩ := lo_1 (P := P) (w := w) (base := base) (f := p.f_l_are_refused) (c := p.c_l_are_refused) T
  obtain ⟨t2, k2, r2⟩ := lo_2 (P := P) (w := w) (base := base) (f := p.f_l_are_refused) (c := p.c_l_are_refused) T
  obtain ⟨t3, k3, r3⟩ := lo_3 (P := P) (w := w) (base := base) (f := p.f_l_are_refused) (c := p.c_l_are_refused) T
  obtain ⟨t4, k4, r4⟩ := lo_4 (P := P) (w := w) (base := base) (f := p.f_l_are_refused) (c := p.c_l_are_refused) T
  obtain ⟨t5, k5, r5⟩ := lo_5 (P := P) (w := w) (base := base) (f := p.f_l_are_refused) (c := p.c_l_are_refused) T
  obtain ⟨t6, k6, r6⟩ := lo_6 (P := P) (w := w) (base := base) (f := p.f_l_are_refused) (c := p.c_l_are_refused) T
  refine funC_okG TG.F_l_are_refused sc_l_are_refused (fun vs H Q E h => spL_len h) (fun A outer s H vs Q E gd hr h => ?_)
  have GW := gotRefused (X := (cxOf CX0 P w K mg base N_l_are_refused "_law_are_refused" (defScope s_l_are_refused) p.f_l_are_refused (.ref p.c_l_are_refused) A outer s H E).nox) T TG (hr.mono (by decide))
  exact ⟨_, (pss_cons (ps_asg (pe_tup (pa_cons (pe_call G_l_pick (hr.mono (by decide)) (by rfl) T.mg_l_pick T.F_l_pick.kp T.b_l_pick .nil pass0 (pa_cons (pv 0) (pa_cons (pe_lst (pa_cons pe_non (pa_cons pe_int (pa_cons pe_str (pa_cons (pe_lst (pa_cons (pe_lst (pa_cons pe_int pa_nil)) pa_nil)) (pa_cons pe_bl pa_nil)))))) pa_nil))) (pa_cons (pe_call G_l_pick (hr.mono (by decide)) (by rfl) T.mg_l_pick T.F_l_pick.kp T.b_l_pick .nil pass0 (pa_cons (pv 0) (pa_cons (pe_lst (pa_cons pe_int (pa_cons (pe_un un_neg pe_int) (pa_cons pe_str (pa_cons pe_non (pa_cons pe_bl (pa_cons (pe_un un_neg (pe_op op_pow pe_int pe_int)) pa_nil))))))) pa_nil))) pa_nil))) (pg_tup (by rfl) (pgs_cons (pg_name (i := 4) sc_l_are_refused.nd rfl (Or.inr rfl)) (pgs_cons (pg_name (i := 3) sc_l_are_refused.nd rfl (Or.inr rfl)) pgs_nil))))
      (pss_cons (ps_set (i := 2) sc_l_are_refused.nd rfl (Or.inl rfl) (pe_lst (pa_cons (pe_tup (pa_cons (pe_lam hTB rfl hmT hu rfl (lamS_by (sc := defScope s_l_are_refused) (by decide +kernel))) (pa_cons (pv 4) pa_nil))) pa_nil)))
      (pss_cons (ps_expr (pe_bm PySem.F.plainAttrs_list PySem.F.slot_list_append PySem.F.type_list_append mt_append (pv 2) (pa_cons (pe_tup (pa_cons (pe_lam hTB rfl hmT hu rfl (lamS_by (sc := defScope s_l_are_refused) (by decide +kernel))) (pa_cons (pv 3) pa_nil))) pa_nil)))
      (pss_cons (ps_expr (pe_bm PySem.F.plainAttrs_list PySem.F.slot_list_append PySem.F.type_list_append mt_append (pv 2) (pa_cons (pe_tup (pa_cons (pe_lam hTB rfl hmT hu rfl (lamS_by (sc := defScope s_l_are_refused) (by decide +kernel))) (pa_cons (pv 3) pa_nil))) pa_nil)))
      (pss_cons (ps_expr (pe_bm PySem.F.plainAttrs_list PySem.F.slot_list_append PySem.F.type_list_append mt_append (pv 2) (pa_cons (pe_tup (pa_cons (pe_lam hTB rfl hmT hu rfl (lamS_by (sc := defScope s_l_are_refused) (by decide +kernel))) (pa_cons (pv 3) pa_nil))) pa_nil)))
      (pss_cons (ps_expr (pe_bm PySem.F.plainAttrs_list PySem.F.slot_list_append PySem.F.type_list_append mt_append (pv 2) (pa_cons (pe_tup (pa_cons (pe_lam hTB rfl hmT hu rfl (lamS_by (sc := defScope s_l_are_refused) (by decide +kernel))) (pa_cons (pv 4) pa_nil))) pa_nil)))
      (pss_cons (ps_expr (pe_bm PySem.F.plainAttrs_list PySem.F.slot_list_append PySem.F.type_list_append mt_append (pv 2) (pa_cons (pe_tup (pa_cons (pe_lam hTB rfl hmT hu rfl (lamS_by (sc := defScope s_l_are_refused) (by decide +kernel))) (pa_cons (pe_lst pa_nil) pa_nil))) pa_nil)))
      (pss_cons (ps_expr (pe_bm PySem.F.plainAttrs_list PySem.F.slot_list_append PySem.F.type_list_append mt_append (pv 2) (pa_cons (pe_tup (pa_cons (pe_lam hTB rfl hmT hu rfl (lamS_by (sc := defScope s_l_are_refused) (by decide +kernel))) (pa_cons (pv 1) pa_nil))) pa_nil)))
      (pss_one (ps_ret (pe_callB (id := "all") (cr_all rfl) (by rfl) T.n_all (by decide +kernel) (pa_cons (pe_lcI (own := [("_law_call", 5), ("_law_value_here", 6)]) (g := gTup K 2 (gCons (gName 5) (gCons (gName 6) gNil))) (te := fun σ => rdBlkW _ 5 6 [⟨lpA (lamP (defBody s_l_are_refused) 1), lpB (lamP (defBody s_l_are_refused) 1), lpS (defScope s_l_are_refused) (lamP (defBody s_l_are_refused) 1), t0⟩, ⟨lpA (lamP (defBody s_l_are_refused) 2), lpB (lamP (defBody s_l_are_refused) 2), lpS (defScope s_l_are_refused) (lamP (defBody s_l_are_refused) 2), t1⟩, ⟨lpA (lamP (defBody s_l_are_refused) 3), lpB (lamP (defBody s_l_are_refused) 3), lpS (defScope s_l_are_refused) (lamP (defBody s_l_are_refused) 3), t2⟩, ⟨lpA (lamP (defBody s_l_are_refused) 4), lpB (lamP (defBody s_l_are_refused) 4), lpS (defScope s_l_are_refused) (lamP (defBody s_l_are_refused) 4), t3⟩, ⟨lpA (lamP (defBody s_l_are_refused) 5), lpB (lamP (defBody s_l_are_refused) 5), lpS (defScope s_l_are_refused) (lamP (defBody s_l_are_refused) 5), t4⟩, ⟨lpA (lamP (defBody s_l_are_refused) 6), lpB (lamP (defBody s_l_are_refused) 6), lpS (defScope s_l_are_refused) (lamP (defBody s_l_are_refused) 6), t5⟩, ⟨lpA (lamP (defBody s_l_are_refused) 7), lpB (lamP (defBody s_l_are_refused) 7), lpS (defScope s_l_are_refused) (lamP (defBody s_l_are_refused) 7), t6⟩] (TTq K p) σ) rfl sc_l_are_refused.nd (pi_list (pv 2)) (blkOk_by (own := [("_law_call", 5), ("_law_value_here", 6)]) (N := N_l_are_refused) (sc := defScope s_l_are_refused) (by decide +kernel)) (fun _ _ _ _ _ => pg_tup (by rfl) (pgs_cons (pg_name (i := 5) sc_l_are_refused.nd rfl (Or.inl rfl)) (pgs_cons (pg_name (i := 6) sc_l_are_refused.nd rfl (Or.inl rfl)) pgs_nil))) (fun pins σ s H C cl fp bi => pe_blkLamW (ls := [⟨lpA (lamP (defBody s_l_are_refused) 1), lpB (lamP (defBody s_l_are_refused) 1), lpS (defScope s_l_are_refused) (lamP (defBody s_l_are_refused) 1), t0⟩, ⟨lpA (lamP (defBody s_l_are_refused) 2), lpB (lamP (defBody s_l_are_refused) 2), lpS (defScope s_l_are_refused) (lamP (defBody s_l_are_refused) 2), t1⟩, ⟨lpA (lamP (defBody s_l_are_refused) 3), lpB (lamP (defBody s_l_are_refused) 3), lpS (defScope s_l_are_refused) (lamP (defBody s_l_are_refused) 3), t2⟩, ⟨lpA (lamP (defBody s_l_are_refused) 4), lpB (lamP (defBody s_l_are_refused) 4), lpS (defScope s_l_are_refused) (lamP (defBody s_l_are_refused) 4), t3⟩, ⟨lpA (lamP (defBody s_l_are_refused) 5), lpB (lamP (defBody s_l_are_refused) 5), lpS (defScope s_l_are_refused) (lamP (defBody s_l_are_refused) 5), t4⟩, ⟨lpA (lamP (defBody s_l_are_refused) 6), lpB (lamP (defBody s_l_are_refused) 6), lpS (defScope s_l_are_refused) (lamP (defBody s_l_are_refused) 6), t5⟩, ⟨lpA (lamP (defBody s_l_are_refused) 7), lpB (lamP (defBody s_l_are_refused) 7), lpS (defScope s_l_are_refused) (lamP (defBody s_l_are_refused) 7), t6⟩]) GW (List.forall_mem_cons.mpr ⟨k0 _ _ _ _ _, List.forall_mem_cons.mpr ⟨k1 _ _ _ _ _, List.forall_mem_cons.mpr ⟨k2 _ _ _ _ _, List.forall_mem_cons.mpr ⟨k3 _ _ _ _ _, List.forall_mem_cons.mpr ⟨k4 _ _ _ _ _, List.forall_mem_cons.mpr ⟨k5 _ _ _ _ _, List.forall_mem_cons.mpr ⟨k6 _ _ _ _ _, fun _ z => absurd z List.not_mem_nil⟩⟩⟩⟩⟩⟩⟩) bi (by rfl) (pv 5) (pv 6))) pa_nil)))))))))))),
    def_L (Γ := gam K p) (k := 5) (ss_seq (ss_asg (se_tup (sa_cons (se_callL (sa_cons se_var (sa_cons (se_lst (sa_cons se_non (sa_cons se_int (sa_cons se_str (sa_cons (se_lst (sa_cons (se_lst (sa_cons se_int sa_nil)) sa_nil)) (sa_cons se_bl sa_nil)))))) sa_nil))) (sa_cons (se_callL (sa_cons se_var (sa_cons (se_lst (sa_cons se_int (sa_cons (se_un su_neg se_int) (sa_cons se_str (sa_cons se_non (sa_cons se_bl (sa_cons (se_un su_neg (se_op so_pow se_int se_int)) sa_nil))))))) sa_nil))) sa_nil))) (sg_tup (Γ := gam K p) (sg_cons sg_name (sg_cons sg_name sg_nil)))) (ss_pairs (l0 := ⟨lpA (lamP (defBody s_l_are_refused) 1), lpB (lamP (defBody s_l_are_refused) 1), lpS (defScope s_l_are_refused) (lamP (defBody s_l_are_refused) 1), t0⟩) (l1 := ⟨lpA (lamP (defBody s_l_are_refused) 2), lpB (lamP (defBody s_l_are_refused) 2), lpS (defScope s_l_are_refused) (lamP (defBody s_l_are_refused) 2), t1⟩) (l2 := ⟨lpA (lamP (defBody s_l_are_refused) 3), lpB (lamP (defBody s_l_are_refused) 3), lpS (defScope s_l_are_refused) (lamP (defBody s_l_are_refused) 3), t2⟩) (l3 := ⟨lpA (lamP (defBody s_l_are_refused) 4), lpB (lamP (defBody s_l_are_refused) 4), lpS (defScope s_l_are_refused) (lamP (defBody s_l_are_refused) 4), t3⟩) (l4 := ⟨lpA (lamP (defBody s_l_are_refused) 5), lpB (lamP (defBody s_l_are_refused) 5), lpS (defScope s_l_are_refused) (lamP (defBody s_l_are_refused) 5), t4⟩) (l5 := ⟨lpA (lamP (defBody s_l_are_refused) 6), lpB (lamP (defBody s_l_are_refused) 6), lpS (defScope s_l_are_refused) (lamP (defBody s_l_are_refused) 6), t5⟩) (l6 := ⟨lpA (lamP (defBody s_l_are_refused) 7), lpB (lamP (defBody s_l_are_refused) 7), lpS (defScope s_l_are_refused) (lamP (defBody s_l_are_refused) 7), t6⟩) T r0 r1 r2 r3 r4 r5 r6)) (by rfl) h⟩
end
end K43

set_option Elab.async false
set_option linter.all false
set_option maxRecDepth 100000
set_option maxHeartbeats 8000000
namespace K43
open PySem PySem.Spec PyProof.Rows L2 Evl LamX TX EV2 DN
theorem check_grid_ok {gs : List (Str × D)} {s : DN.PS} : M_check_grid [.obj 4 gs] s = .ok .non s := rfl
def pbody : MS := (sIf (mOr (mNot (mB (mCall 1 M_is_integer [] (mCons (mVar 3) mNil)))) (mB (mOp dLt (mVar 3) (mC (.int 1))))) (sRaise 0 "value" (mCons (mVar 3) mNil)) sNext)
theorem pbody_ok {a b c : Sl} {x : Int} {s : DN.PS} (hx : 1 ≤ x) : pbody [a, b, c, .val (.int x)] s = .nx [a, b, c, .val (.int x)] s := by
  have h : decide (x < 1) = false := decide_eq_false (by omega)
  have t : mB (mOp dLt (mVar 3) (mC (.int 1))) [a, b, c, .val (.int x)] s = .ok false s := by rw [← h]; exact EVL.tB (EVL.op (EVL.var rfl) rfl rfl)
  have u : mNot (mB (mCall 1 M_is_integer [] (mCons (mVar 3) mNil))) [a, b, c, .val (.int x)] s = .ok false s := EVL.tNot (v := true) (EVL.tB (EVL.call (EVL.cons (EVL.var rfl) EVL.nil) rfl rfl))
  exact EVL.if_f (EVL.tOr_f u t) rfl
theorem drop_ok {e : ME} {d : D} {τ : Sto} {s s1 : DN.PS} (h : e τ s = .ok d s1) : sDrop e τ s = .nx τ s1 := by
  unfold sDrop; rw [h]; rfl
theorem part_at_ok {gs : List (Str × D)} {row col : Int} {d : D} {s : DN.PS} (hr : 1 ≤ row) (hc : 1 ≤ col) (h : M__value_for [.obj 4 gs, .int row, .int col] s = .ok d s) : M_part_at [.obj 4 gs, .int row, .int col] s = .ok d s := by
  have e : M_part_at = mDef 1 (sSeq (sDrop (mCall 1 M_check_grid [] (mCons (mVar 0) mNil))) (sSeq (sForT (mTup (mCons (mVar 1) (mCons (mVar 2) mNil))) (gN 3) pbody) (sRet (mCall 3 M__value_for [] (mCons (mVar 0) (mCons (mVar 1) (mCons (mVar 2) mNil))))))) := rfl
  have f : sForT (mTup (mCons (mVar 1) (mCons (mVar 2) mNil))) (gN 3) pbody [.val (.obj 4 gs), .val (.int row), .val (.int col), .emp] s = .nx [.val (.obj 4 gs), .val (.int row), .val (.int col), .val (.int col)] s := by
    have t : mTup (mCons (mVar 1) (mCons (mVar 2) mNil)) [.val (.obj 4 gs), .val (.int row), .val (.int col), .emp] s = .ok (.tup [.int row, .int col]) s := EVL.tup (EVL.cons (EVL.var rfl) (EVL.cons (EVL.var rfl) EVL.nil)) (EVL.len rfl)
    unfold sForT
    rw [t]
    dsimp only [bndS]
    unfold forD
    dsimp only [gN, List.set_cons_succ, List.set_cons_zero]
    rw [pbody_ok hr]
    dsimp only
    unfold forD
    dsimp only [gN, List.set_cons_succ, List.set_cons_zero]
    rw [pbody_ok hc]
    rfl
  rw [e]
  exact EVL.mdef (EVL.seq (drop_ok (EVL.call (EVL.cons (EVL.var rfl) EVL.nil) rfl check_grid_ok)) (EVL.seq f (EVL.ret (EVL.call (EVL.cons (EVL.var rfl) (EVL.cons (EVL.var rfl) (EVL.cons (EVL.var rfl) EVL.nil))) rfl h))))
/-! ### the sizes of all -/
theorem intsD_map : ∀ hs : List Int, intsD (hs.map .int) = some hs
  | [] => rfl
  | h :: hs => by
    rw [List.map_cons, intsD, intsD_map hs]
    rfl
theorem dMaxL_ok {hs : List Int} {m : Int} {s : DN.PS} (h : hs.max? = some m) : dMaxL [.lst (hs.map .int)] s = .ok (.int m) s := by
  unfold dMaxL
  dsimp only
  rw [intsD_map]
  dsimp only
  rw [h]
theorem max_rev {hs : List Int} {m : Int} (h : hs.max? = some m) : hs.reverse.max? = some m := by
  rw [List.max?_eq_some_iff] at h ⊢
  exact ⟨List.mem_reverse.mpr h.1, fun b hb => h.2 b (List.mem_reverse.mp hb)⟩
abbrev gr (t : List (List D)) : D := .obj 4 (gridD t)
def fstD : D → D | .obj _ ((_, _) :: (_, h) :: _) => h | _ => .non
def sndD : D → D | .obj _ ((_, _) :: (_, _) :: (_, w) :: _) => w | _ => .non
theorem fst_map : ∀ ts : List (List (List D)), (ts.map gr).map fstD = (ts.map fun t => (t.length : Int)).map .int
  | [] => rfl
  | t :: ts => by rw [List.map_cons, List.map_cons, fst_map ts]; rfl
theorem snd_map : ∀ ts : List (List (List D)), (ts.map gr).map sndD = (ts.map fun t => ((t.headD []).length : Int)).map .int
  | [] => rfl
  | t :: ts => by rw [List.map_cons, List.map_cons, snd_map ts]; rfl
section
variable {ts : List (List (List D))} {h w : Int} {s : DN.PS}
theorem fld_h {z : D} {τ : Sto} {i : Nat} (hz : τ[i]? = some (.val z)) (hm : ∃ t, z = gr t) : mFld 4 "height" (mVar i) τ s = .ok (fstD z) s := by
  obtain ⟨t, rfl⟩ := hm
  exact fld (EVL.var hz) rfl
theorem fld_w {z : D} {τ : Sto} {i : Nat} (hz : τ[i]? = some (.val z)) (hm : ∃ t, z = gr t) : mFld 4 "width" (mVar i) τ s = .ok (sndD z) s := by
  obtain ⟨t, rfl⟩ := hm
  exact fld (EVL.var hz) rfl
theorem size_gen {d : D} (hd : d = .lst (ts.map gr) ∨ d = .tup (ts.map gr)) (hl : ts.length ≤ 10000) (h1 : (ts.map fun t => (t.length : Int)).max? = some h) (h2 : (ts.map fun t => ((t.headD []).length : Int)).max? = some w) : M__size_of_all [d] s = .ok (.tup [.int h, .int w]) s := by
  have hm : ∀ z ∈ ts.map gr, ∃ t, z = gr t := fun z hz => by
    obtain ⟨t, _, rfl⟩ := List.mem_map.mp hz
    exact ⟨t, rfl⟩
  have e1 : mLcE 1 (mVar 0) mYes (mFld 4 "height" (mVar 1)) [.val d, .emp] s = .ok (.lst ((ts.map gr).map fstD)) s := by
    rcases hd with rfl | rfl
    · exact lcE_L (EVL.var rfl) (fun z hz => fld_h rfl (hm z hz)) (by rw [List.length_map]; omega)
    · exact lcE_T (EVL.var rfl) (fun z hz => fld_h rfl (hm z hz)) (by rw [List.length_map]; omega)
  have e2 : mLcE 1 (mVar 0) mYes (mFld 4 "width" (mVar 1)) [.val d, .emp] s = .ok (.lst ((ts.map gr).map sndD)) s := by
    rcases hd with rfl | rfl
    · exact lcE_L (EVL.var rfl) (fun z hz => fld_w rfl (hm z hz)) (by rw [List.length_map]; omega)
    · exact lcE_T (EVL.var rfl) (fun z hz => fld_w rfl (hm z hz)) (by rw [List.length_map]; omega)
  rw [fst_map] at e1
  rw [snd_map] at e2
  exact EVL.mdef (EVL.ret (EVL.tup (EVL.cons (EVL.cb (EVL.cons e1 EVL.nil) (dMaxL_ok h1)) (EVL.cons (EVL.cb (EVL.cons e2 EVL.nil) (dMaxL_ok h2)) EVL.nil)) (EVL.len rfl)))
def cgbody : MS := (sDrop (mCall 1 M_check_grid [] (mCons (mVar 1) mNil)))
theorem cgloop {a : Sl} : ∀ (ts : List (List (List D))) (c : Sl), ∃ c', forD (gN 1) cgbody (ts.map gr) [a, c] s = .nx [a, c'] s
  | [], c => ⟨c, rfl⟩
  | t :: ts, c => by
    obtain ⟨c', e⟩ := cgloop (a := a) ts (.val (gr t))
    have hb : cgbody [a, .val (gr t)] s = .nx [a, .val (gr t)] s := drop_ok (EVL.call (EVL.cons (EVL.var rfl) EVL.nil) rfl check_grid_ok)
    refine ⟨c', ?_⟩
    rw [List.map_cons]
    unfold forD
    dsimp only [gN, List.set_cons_succ, List.set_cons_zero]
    rw [hb]
    exact e
theorem stretched_ok {d : D} (hd : d = .lst (ts.map gr) ∨ d = .tup (ts.map gr)) (h0 : ts ≠ []) (hl : ts.length ≤ 10000) (h1 : (ts.map fun t => (t.length : Int)).max? = some h) (h2 : (ts.map fun t => ((t.headD []).length : Int)).max? = some w) : M_stretched [d] s = .ok (.tup [.int h, .int w]) s := by
  obtain ⟨c', e1⟩ := cgloop (a := .val d) (s := s) ts .emp
  have c1 : M_check_list [d] s = .ok .non s := by rcases hd with rfl | rfl <;> rfl
  have f : sForE (mVar 0) (gN 1) cgbody [.val d, .emp] s = .nx [.val d, c'] s := by
    rcases hd with rfl | rfl <;> exact e1
  have tr : mTru (mVar 0) [.val d, c'] s = .ok true s := by
    cases ts with
    | nil => exact absurd rfl h0
    | cons t ts => rcases hd with rfl | rfl <;> rfl
  have z := size_gen (s := s) hd hl h1 h2
  have e : M_stretched = mDef 1 (sSeq (sDrop (mCall 1 M_check_list [] (mCons (mVar 0) mNil))) (sSeq (sForE (mVar 0) (gN 1) cgbody) (sSeq (sIf (mNot (mTru (mVar 0))) (sRaise 0 "value" (mCons (mVar 0) mNil)) sNext) (sRet (mCall 1 M__size_of_all [] (mCons (mVar 0) mNil)))))) := rfl
  rw [e]
  exact EVL.mdef (EVL.seq (drop_ok (EVL.call (EVL.cons (EVL.var rfl) EVL.nil) rfl c1)) (EVL.seq f (EVL.seq (EVL.if_f (EVL.tNot (v := true) tr) EVL.next) (EVL.ret (EVL.call (EVL.cons (EVL.var rfl) EVL.nil) rfl z)))))
end
/-! ### what is refused -/
def wrongs : List D := [.non, .int 1, .str "A1", .lst [.lst [.int 1]], .bl true]
def places : List D := [.int 0, .int (-1), .str "1", .non, .bl true, .int (-(10 ^ 20))]
theorem same_w {w : D} (h : w ∈ wrongs) : sameD w w := by
  unfold wrongs at h
  simp only [List.mem_cons, List.not_mem_nil, or_false] at h
  rcases h with rfl | rfl | rfl | rfl | rfl
  · exact ⟨_, _, rfl, rfl, rfl, rfl, rfl⟩
  · exact ⟨_, _, rfl, rfl, rfl, rfl, rfl⟩
  · exact ⟨_, _, rfl, rfl, by decide +kernel, by decide +kernel, by decide +kernel⟩
  · exact ⟨_, _, rfl, rfl, by decide +kernel, by decide +kernel, by decide +kernel⟩
  · exact ⟨_, _, rfl, rfl, rfl, rfl, rfl⟩
theorem same_p {w : D} (h : w ∈ places) : sameD w w := by
  unfold places at h
  simp only [List.mem_cons, List.not_mem_nil, or_false] at h
  rcases h with rfl | rfl | rfl | rfl | rfl | rfl
  · exact ⟨_, _, rfl, rfl, by decide +kernel, by decide +kernel, by decide +kernel⟩
  · exact ⟨_, _, rfl, rfl, by decide +kernel, by decide +kernel, by decide +kernel⟩
  · exact ⟨_, _, rfl, rfl, by decide +kernel, by decide +kernel, by decide +kernel⟩
  · exact ⟨_, _, rfl, rfl, rfl, rfl, rfl⟩
  · exact ⟨_, _, rfl, rfl, rfl, rfl, rfl⟩
  · exact ⟨_, _, rfl, rfl, by decide +kernel, by decide +kernel, by decide +kernel⟩
theorem refused_ok {n : Int} {gs : List (Str × D)} {rs : List D} {s : DN.PS} (g : Good n s) (hn : n < 2 ^ 28) (hr : gs.lookup ("rows" : Str) = some (.tup rs)) : ∃ s', M_l_are_refused [.pen, .obj 4 gs] s = .ok (.bl true) s' := by
  obtain ⟨w, s1, e1, hw, g1⟩ := pick_ok (ds := wrongs) g (by omega) (by unfold wrongs; simp) (by unfold wrongs; simp)
  obtain ⟨pl, s2, e2, hp, g2⟩ := pick_ok (ds := places) g1 (by omega) (by unfold places; simp) (by unfold places; simp)
  refine ⟨s2, ?_⟩
  have a1 : ∀ τ : Sto, mLst (mCons (mC .non) (mCons (mC (.int 1)) (mCons (mC (.str "A1")) (mCons (mLst (mCons (mLst (mCons (mC (.int 1)) mNil)) mNil)) (mCons (mC (.bl true)) mNil))))) τ s = .ok (.lst wrongs) s := fun τ => rfl
  have a2 : ∀ τ : Sto, mLst (mCons (mC (.int 0)) (mCons (mUn dNeg (mC (.int 1))) (mCons (mC (.str "1")) (mCons (mC .non) (mCons (mC (.bl true)) (mCons (mUn dNeg (mOp dPow (mC (.int 10)) (mC (.int 20)))) mNil)))))) τ s1 = .ok (.lst places) s1 := fun τ => rfl
  have st1 := EVL.asgG (g := gT 2 (gsC (gN 4) (gsC (gN 3) gsN))) (τ1 := [.val .pen, .val (.obj 4 gs), .emp, .val pl, .val w, .emp, .emp]) (EVL.tup (s1 := s2) (EVL.cons (EVL.call (n := 2) (EVL.cons (e := mVar 0) (τ := [.val .pen, .val (.obj 4 gs), .emp, .emp, .emp, .emp, .emp]) (EVL.var rfl) (EVL.cons (a1 _) EVL.nil)) rfl e1) (EVL.cons (EVL.call (n := 2) (EVL.cons (e := mVar 0) (EVL.var rfl) (EVL.cons (a2 _) EVL.nil)) rfl e2) EVL.nil)) (EVL.len rfl)) rfl
  have C : PairsC gs w pl [.val .pen, .val (.obj 4 gs), .emp, .val pl, .val w, .emp, .emp] s2 := by
    refine ⟨⟨rs, hr⟩, same_w hw, same_p hp, ⟨_, _, rfl, rfl, rfl, rfl, rfl⟩, ?_, ?_, ?_, ?_, ?_, ?_⟩
    · unfold wrongs at hw
      simp only [List.mem_cons, List.not_mem_nil, or_false] at hw
      rcases hw with rfl | rfl | rfl | rfl | rfl <;> rfl
    · unfold places at hp
      simp only [List.mem_cons, List.not_mem_nil, or_false] at hp
      rcases hp with rfl | rfl | rfl | rfl | rfl | rfl <;> rfl
    · unfold places at hp
      simp only [List.mem_cons, List.not_mem_nil, or_false] at hp
      rcases hp with rfl | rfl | rfl | rfl | rfl | rfl <;> rfl
    · unfold places at hp
      simp only [List.mem_cons, List.not_mem_nil, or_false] at hp
      rcases hp with rfl | rfl | rfl | rfl | rfl | rfl <;> rfl
    · unfold wrongs at hw
      simp only [List.mem_cons, List.not_mem_nil, or_false] at hw
      rcases hw with rfl | rfl | rfl | rfl | rfl <;> rfl
    · rfl
  refine EVL.mdef (k := 5) (EVL.seq st1 ?_)
  unfold sPairs
  have hno : ∀ (i : Nat) (z : Option Addr) (d : D), ([.val .pen, .val (.obj 4 gs), .emp, .val pl, .val w, .emp, .emp] : Sto)[i]? ≠ some (Sl.own z d) := fun i z d h => by
    match i, h with
    | 0, h => cases h
    | 1, h => cases h
    | 2, h => cases h
    | 3, h => cases h
    | 4, h => cases h
    | 5, h => cases h
    | 6, h => cases h
    | i + 7, h => simp at h
  exact if_pos ⟨C, rfl, hno⟩
end K43

set_option Elab.async false
set_option linter.all false
set_option maxRecDepth 100000
set_option maxHeartbeats 4000000
namespace K43
open PySem PySem.Spec PyProof.Rows L2 Evl LamX TX EV2 DN
section
variable {P : Program} {w : World} {K : PySem.W.Frag} {mg : Str → Option Value} {base : Heap} {x qual : Str} {st : Stmt} {f c : Addr} {fd : FuncData}
theorem fun_okG {N ps : List Str} {k : Nat} {sp : Sp} (F : Fun K x qual st f fd) (Sc : FnScope N ps (defScope st)) (len : ∀ vs H Q E, sp vs H Q E → vs.length = ps.length)
    (hb : ∀ (cdv : Value) (A : Around) (outer : List Env) (s : Shared) (H : Hp) (vs : List V) (Q : VK) (E : XK), A.guards = some [] → Room k (A.deeper (envOfC qual (defScope st) s.heap.objs.size f cdv)) → sp vs H Q E →
      ∃ t, PSs (cxOf CX0 P w K mg base N qual (defScope st) f cdv A outer s H E).nox (defBody st) t ∧ t { nx := fun _ H' => Q .non H', rt := Q } (L2.start N vs) H) : FnG P w K mg base CX0 (k + 1) f fd ps sp := by
  obtain ⟨oc, od, kV, doc, pm, an, cdv, ct, osl, rfl, l, q⟩ := F.ex
  refine ⟨len, fun A outer s H args us vs Q E hg hr e0 hbd rv hs => run_ofS l q Sc hr e0 hbd rv (len _ _ _ _ hs) fun hr' => ?_⟩
  obtain ⟨t, a, b⟩ := hb cdv A outer s H vs Q E hg hr' hs
  exact ⟨t, a.nox, b⟩
end
/-- a new pen -/
def spBegin (K : PySem.W.Frag) : Sp := fun vs H Q _ => ∃ (a : Addr) (ns : List Int), vs = [.ref a] ∧ SqL K H a (ns.map V.int) ∧ ns.length ≤ 63 ∧ ∀ (p c : Addr) (H' : Hp), H p = none → Same H H' → Pen.At "cells" "begun" "left" H' p c ns 0 0 → Q (.ref p) H'
section
variable {P : Program} {w : World} {K : PySem.W.Frag} {mg : Str → Option Value} {base : Heap}
theorem ok_l_begin {f : Addr} {fd : FuncData} (F : Fun K "_law_begin" "_law_begin" s_l_begin f fd) (n1 : mg "list" = none) : FnOk P w K mg base CX0 1 f fd P_l_begin (spBegin K) := by
  refine F.ok sc_l_begin (fun vs H Q E h => ?_) (fun cdv A outer s H vs Q E hr h => ?_)
  · obtain ⟨a, ns, rfl, _⟩ := h
    rfl
  · obtain ⟨a, ns, rfl, hS, hl, k⟩ := h
    refine ⟨_, (pss_one (ps_ret (pe_disp (pps_cons pe_str (pe_callTy (T := "list") call_list_of (by rfl) n1 (by decide +kernel) (pa_cons (pe_slice sl_list (pv 0) po_none (po_some pe_int)) pa_nil))
      (pps_cons pe_str pe_int (pps_cons pe_str pe_int pps_nil))) (by rfl) (by rfl) (fun z => by cases z) (by decide)))), ?_⟩
    intro p hp
    have s1 : Same H (upd H p (.dK [])) := fun b o e => by rw [upd_ne (ne_of_none e hp)]; exact e
    refine ⟨_, rfl, _, rfl, a, _, rfl, s1.seq hS, fun q hq => ?_⟩
    have s2 : Same (upd H p (.dK [])) (upd (upd H p (.dK [])) q (.lst (cutV (ns.map V.int) none (some 63)))) := fun b o e => by rw [upd_ne (ne_of_none e hq)]; exact e
    refine ⟨q, _, rfl, .inl (SqL.of upd_same), fun r hr2 => ?_⟩
    generalize e2 : upd (upd H p (.dK [])) q (.lst (cutV (ns.map V.int) none (some 63))) = H2 at s2 hr2
    have hcut : cutV (ns.map V.int) none (some 63) = ns.map V.int := Pen.cut_all (n := 63) (by rw [List.length_map]; exact hl)
    rw [hcut]
    have s6 : Same H2 (upd H2 r (.lst (ns.map V.int))) := fun b o e => by rw [upd_ne (ne_of_none e hr2)]; exact e
    have all : Same (upd H p (.dK [])) (upd H2 r (.lst (ns.map V.int))) := fun b o e => s6 b o (s2 b o e)
    have hp3 := all p _ upd_same
    refine ⟨hp3, Pen.kvs "cells" "begun" "left" r 0 0, rfl, (by show 3 ≤ 15; decide), ?_⟩
    have em : mergeK ([] : List (Key × V)) (Pen.kvs "cells" "begun" "left" r 0 0) = Pen.kvs "cells" "begun" "left" r 0 0 := by rfl
    rw [em]
    have np : r ≠ p := ne_of upd_same hp3 (by intro z; cases z)
    refine k p r _ hp (fun b o e => ?_) ⟨upd_same, ?_, by omega, by decide, by decide⟩
    · rw [upd_ne (ne_of_none e hp)]
      exact all b o (s1 b o e)
    · rw [upd_ne np, upd_same]
end
end K43

set_option Elab.async false
set_option linter.all false
set_option maxRecDepth 100000
set_option maxHeartbeats 4000000
namespace K43
open PySem PySem.Spec PyProof.Rows L2 Evl LamX TX EV2 DN
noncomputable def M_rest : MS := (sSeq (sAsg (mLstN (nLcR1 2 (mCons (mOp dAdd (mC (.int 1)) (mCall 2 M_l_draw [] (mCons (mVar 1) (mCons (mC (.int 5)) mNil)))) mNil) mYes (mCall 1 M_l_rows [] (mCons (mVar 1) mNil)))) (gN 3))
 (sSeq (sAsg (mLcL 12 (mVar 3) mYes (mMake 4 2 M_Grid_init [.non] (mCons (mLcL 4 (mVar 12) mYes (mCB dTupOf (mCons (mVar 4) mNil))) mNil))) (gN 5))
 (sSeq (sPar 6 7 (mCons (mCB dMaxL (mCons (mLcL 12 (mVar 3) mYes (mCB dLen (mCons (mVar 12) mNil))) mNil)) (mCons (mCB dMaxL (mCons (mLcL 12 (mVar 3) mYes (mCB dLen (mCons (mOp dIxL (mVar 12) (mC (.int 0))) mNil))) mNil)) mNil)))
 (sKept 5 8 9 (mCall 1 M_stretched [] (mCons (mVar 5) mNil)) (mOr (mB (mOp (dEqD true) (mVar 9) (mTup (mCons (mVar 6) (mCons (mVar 7) mNil))))) (mOr (mNot (mB (mIsT .tuple [] (mVar 9)))) (mB (mOp (dEqD true) (mCall 1 M_stretched [] (mCons (mCB dTupOf (mCons (mRevL (mVar 5)) mNil)) mNil)) (mTup (mCons (mVar 6) (mCons (mVar 7) mNil))))))) (sRet (mC (.bl false)))
 (sSeq (sForR1 (mCons (mCB dLen (mCons (mVar 3) mNil)) mNil) (gN 2) (sForR1 (mCons (mC (.int 12)) mNil) (gN 10) (sSeq (sPar 4 11 (mCons (mOp dAdd (mC (.int 1)) (mCall 2 M_l_draw [] (mCons (mVar 1) (mCons (mOp dAdd (mVar 6) (mC (.int 2))) mNil)))) (mCons (mOp dAdd (mC (.int 1)) (mCall 2 M_l_draw [] (mCons (mVar 1) (mCons (mOp dAdd (mVar 7) (mC (.int 2))) mNil)))) mNil)))
    (sSeq (sIf (mB (mOp dLt (mVar 10) (mC (.int 4)))) (sSeq (sAsg (mCall 2 M_l_pick [] (mCons (mVar 1) (mCons (mLst (mCons (mCB dLen (mCons (mOp dIxL (mVar 3) (mVar 2)) mNil)) (mCons (mOp dAdd (mCB dLen (mCons (mOp dIxL (mVar 3) (mVar 2)) mNil)) (mC (.int 1))) (mCons (mC (.int 1000000)) (mCons (mOp dPow (mC (.int 10)) (mC (.int 20))) mNil))))) mNil))) (gN 4))
    (sAsg (mCall 2 M_l_pick [] (mCons (mVar 1) (mCons (mLst (mCons (mC (.int 1)) (mCons (mCB dLen (mCons (mOp dIxL (mOp dIxL (mVar 3) (mVar 2)) (mC (.int 0))) mNil)) (mCons (mOp dAdd (mCB dLen (mCons (mOp dIxL (mOp dIxL (mVar 3) (mVar 2)) (mC (.int 0))) mNil)) (mC (.int 1))) mNil)))) mNil))) (gN 11))) sNext)
    (sIf (mNot (mB (mCall 2 M_l_same [] (mCons (mCall 3 M_part_at [] (mCons (mOp dIxL (mVar 5) (mVar 2)) (mCons (mVar 4) (mCons (mVar 11) mNil)))) (mCons (mCall 3 M_l_given [] (mCons (mOp dIxL (mVar 3) (mVar 2)) (mCons (mVar 4) (mCons (mVar 11) mNil)))) mNil))))) (sRet (mC (.bl false))) sNext)))))
    (sRet (mCall 2 M_l_are_refused [] (mCons (mVar 1) (mCons (mOp dIxL (mVar 5) (mC (.int 0))) mNil)))))))))
def spLaw (K : PySem.W.Frag) (TT : List (Addr × Str)) : Sp := fun vs H Q _ => ∃ (a : Addr) (ns : List Int), vs = [.ref a] ∧ SqL K H a (ns.map V.int) ∧ ns.length ≤ 63 ∧ Tabs TT H ∧ ∀ H', Q (.bl true) H'
theorem snds_run {Γ : Gam} {E : XS} {ts : TS} {ms : MS} {q : Option Addr} {H : Hp} {σ : L2.St} {τ : Sto} {s : DN.PS} {De : Ends} (h : SndS Γ E ts ms) (ei : EI Γ q [] H s) (st : StR Γ q [] [] H σ τ) (P : PostS Γ q [] [] H (ms τ s) De E) : ts De σ H := h q [] [] H σ τ s De (fun _ h => h) ei st P
theorem bd_Grid_init_1 {K : PySem.W.Frag} {f : Addr} {fd : FuncData} (F : FunD K "__init__" "Grid.__init__" (defArgs s_Grid_init) (defBody s_Grid_init) (defScope s_Grid_init) [V.non] [] f fd) : ∃ ds, Vals ([V.non].drop 0) ds ∧ Binds K fd P_Grid_init ds :=
  F.binds1 2 0 (by simp) rfl fun T kV doc pm an cdv ct us its h1 h2 => match us, its, h1, h2 with | [_, _], [_], _, _ => ⟨_, rfl, rfl⟩
section
variable {P : Program} {w : World} {K : PySem.W.Frag} {mg : Str → Option Value} {base : Heap} {p : Ad}
theorem ok_law (T : Txt K mg p) (TG : TxtG K mg p) (hTB : TabB base mg p.c_l_are_refused p.t_l_are_refused) (hmT : (p.t_l_are_refused, qOf "_law_are_refused") ∈ p.TT) (hu : ∀ x ∈ p.TT, x.1 = p.t_l_are_refused → x.2 = qOf "_law_are_refused")
    (main : ∀ (ns : List Int) (c : Addr), ns.length ≤ 63 → ∃ s, M_rest [.emp, .val .pen, .emp, .emp, .emp, .emp, .emp, .emp, .emp, .emp, .emp, .emp, .emp] ⟨ns, 0, 0, c⟩ = .rt (.bl true) s) : FnG P w K mg base CX0 18 p.f_law p.d_law P_law (spLaw K p.TT) := by
  have G_l_draw := ok_l_draw (P := P) (w := w) (base := base) T
  have G_l_rows := ok_l_rows (P := P) (w := w) (base := base) T
  have G_Grid_init := ok_Grid_init (P := P) (w := w) (base := base) T
  have G_stretched := ok_stretched (P := P) (w := w) (base := base) T
  have G_l_pick := ok_l_pick (P := P) (w := w) (base := base) T
  have G_l_given := ok_l_given (P := P) (w := w) (base := base) T
  have G_part_at := ok_part_at (P := P) (w := w) (base := base) T
  have G_l_same := ok_l_same (P := P) (w := w) (base := base) T
  have G_l_are_refused := ok_l_are_refused (P := P) (w := w) (base := base) T TG hTB hmT hu
  obtain ⟨ds_Grid_init_1, v_Grid_init_1, b_Grid_init_1⟩ := bd_Grid_init_1 T.F_Grid_init
  have G_l_begin := ok_l_begin (P := P) (w := w) (base := base) TG.F_l_begin T.n_list
  refine fun_okG TG.F_law sc_law (fun vs H Q E h => ?_) (fun cdv A outer s H vs Q E gd hr h => ?_)
  · obtain ⟨a, ns, rfl, _⟩ := h
    rfl
  · obtain ⟨a, ns, rfl, hS, hl, hT, k⟩ := h
    refine ⟨_, pss_cons (ps_set (i := 1) sc_law.nd rfl (Or.inr rfl) (pe_call G_l_begin (hr.mono (by decide)) (by rfl) TG.mg_l_begin TG.F_l_begin.kp TG.b_l_begin .nil pass0 (pa_cons (pv 0) pa_nil)))
      (pss_cons (ps_setLc (i := 3) (own := [("_law_k", 2)]) (g := gName 2) (tt := tYes) rfl sc_law.nd rfl rfl (sw_true rfl rfl rfl (by decide +kernel)) (pi_range1 (by rfl) T.n_range (pa_cons (pe_op op_add pe_int (pe_call G_l_draw (hr.mono (by decide)) (by rfl) T.mg_l_draw T.F_l_draw.kp T.b_l_draw .nil pass0 (pa_cons (pv 1) (pa_cons pe_int pa_nil)))) pa_nil)) (blkOk_by (own := [("_law_k", 2)]) (N := N_law) (sc := defScope s_law) (by decide +kernel)) (fun _ _ _ _ _ => pg_name (i := 2) sc_law.nd rfl (Or.inl rfl)) (fun _ _ _ _ _ => pts_nil) (fun _ _ _ _ _ => by exact (pe_call G_l_rows (hr.mono (by decide)) (by rfl) T.mg_l_rows T.F_l_rows.kp T.b_l_rows .nil pass0 (pa_cons (pv 1) pa_nil))))
 (pss_cons (ps_setLc (i := 5) (own := [("_law_rows_here", 12)]) (g := gName 12) (tt := tYes) rfl sc_law.nd rfl rfl (sw_true rfl rfl rfl (by decide +kernel)) (pi_list (pv 3)) (blkOk_by (own := [("_law_rows_here", 12)]) (N := N_law) (sc := defScope s_law) (by decide +kernel)) (fun _ _ _ _ _ => pg_name (i := 12) sc_law.nd rfl (by first | exact Or.inl rfl | exact Or.inr rfl)) (fun _ _ _ _ _ => pts_nil) (fun _ _ _ _ _ => by exact (pe_make T.mk_Grid G_Grid_init (hr.mono (by decide)) (by rfl) T.mg_Grid b_Grid_init_1 v_Grid_init_1 (passF (P := P) (w := w)) (pa_cons (pe_lc (wi := iList K (tVar 12)) (own := [("_law_row", 4)]) (g := gName 4) (tt := tYes) rfl sc_law.nd (pi_list (pv 12)) (blkOk_by (own := [("_law_row", 4)]) (N := N_law) (by rfl)) (fun _ _ _ _ _ => pg_name (i := 4) sc_law.nd rfl (Or.inl rfl)) (fun _ _ _ _ _ => pts_nil) (fun _ _ _ _ _ => by exact (pe_callTy (T := "tuple") (r := rTupK K) call_tuple_of (by rfl) T.n_tuple (by decide +kernel) (pa_cons (pv 4) pa_nil)))) pa_nil))))
 (pss_cons (ps_par (i := 6) (j := 7) (by rfl) sc_law.nd rfl rfl (by decide) rfl rfl (pa_cons (pe_callB (id := "max") (cr_max rfl) (by rfl) T.n_max (by decide +kernel) (pa_cons (pe_lc (own := [("_law_rows_here", 12)]) (g := gName 12) (tt := tYes) rfl sc_law.nd (pi_list (pv 3)) (blkOk_by (own := [("_law_rows_here", 12)]) (N := N_law) (sc := defScope s_law) (by decide +kernel)) (fun _ _ _ _ _ => pg_name (i := 12) sc_law.nd rfl (Or.inl rfl)) (fun _ _ _ _ _ => pts_nil) (fun _ _ _ _ _ => by exact (pe_callB (id := "len") (r := rLenK K) call_len (by rfl) T.n_len (by decide +kernel) (pa_cons (pv 12) pa_nil)))) pa_nil)) (pa_cons (pe_callB (id := "max") (cr_max rfl) (by rfl) T.n_max (by decide +kernel) (pa_cons (pe_lc (own := [("_law_rows_here", 12)]) (g := gName 12) (tt := tYes) rfl sc_law.nd (pi_list (pv 3)) (blkOk_by (own := [("_law_rows_here", 12)]) (N := N_law) (sc := defScope s_law) (by decide +kernel)) (fun _ _ _ _ _ => pg_name (i := 12) sc_law.nd rfl (Or.inl rfl)) (fun _ _ _ _ _ => pts_nil) (fun _ _ _ _ _ => by exact (pe_callB (id := "len") (r := rLenK K) call_len (by rfl) T.n_len (by decide +kernel) (pa_cons (pe_ix (r := rIxL K) ix_list (pv 12) pe_int (fun _ _ => rfl)) pa_nil)))) pa_nil)) pa_nil)) (by rfl))
 (pss_cons (ps_set (i := 8) sc_law.nd rfl (Or.inl rfl) (pe_callTy (T := "list") call_list_of (by rfl) T.n_list (by decide +kernel) (pa_cons (pv 5) pa_nil)))
 (pss_cons (ps_set (i := 9) sc_law.nd rfl (Or.inl rfl) (pe_call G_stretched (hr.mono (by decide)) (by rfl) T.mg_stretched T.F_stretched.kp T.b_stretched .nil (passF (P := P) (w := w)) (pa_cons (pv 5) pa_nil)))
 (pss_cons (ps_if (PW.pt (pw_or (pt_cmpR (op_neD hr.units) (pv 9) (pe_tup (pa_cons (pv 6) (pa_cons (pv 7) pa_nil))) (nomark _)) (pw_or (pt_not (pt_val (pe_callB (id := "isinstance") call_isi (by rfl) T.n_isinstance (by decide +kernel) (pa_cons (pv 9) (pa_cons (pe_bltn (v := .ty "tuple") (by rfl) T.n_tuple (by decide +kernel) rfl) pa_nil))))) (pw_or (pt_cmpR (op_neD hr.units) (pe_call G_stretched (hr.mono (by decide)) (by rfl) T.mg_stretched T.F_stretched.kp T.b_stretched .nil (passF (P := P) (w := w)) (pa_cons (pe_callTy (T := "tuple") call_tuple_of (by rfl) T.n_tuple (by decide +kernel) (pa_cons (pe_revL (pv 5)) pa_nil)) pa_nil)) (pe_tup (pa_cons (pv 6) (pa_cons (pv 7) pa_nil))) (nomark _)) (pw_or1 (pt_cmpR (op_neSame hr.units) (pv 5) (pv 8) (nomark _))))))) (pss_one (ps_ret pe_bl)) pss_nil)
 (pss_cons (ps_for PassesOwn.never rfl (pi_range1 (by rfl) T.n_range (pa_cons (pe_callB (id := "len") call_len (by rfl) T.n_len (by decide +kernel) (pa_cons (pv 3) pa_nil)) pa_nil)) (pg_name (i := 2) sc_law.nd rfl (Or.inl rfl)) (pss_one (ps_for PassesOwn.never rfl (pi_range1 (by rfl) T.n_range (pa_cons pe_int pa_nil)) (pg_name (i := 10) sc_law.nd rfl (Or.inl rfl)) (pss_cons (ps_par (i := 4) (j := 11) (by rfl) sc_law.nd rfl rfl (by decide) rfl rfl (pa_cons (pe_op op_add pe_int (pe_call G_l_draw (hr.mono (by decide)) (by rfl) T.mg_l_draw T.F_l_draw.kp T.b_l_draw .nil pass0 (pa_cons (pv 1) (pa_cons (pe_op op_add (pv 6) pe_int) pa_nil)))) (pa_cons (pe_op op_add pe_int (pe_call G_l_draw (hr.mono (by decide)) (by rfl) T.mg_l_draw T.F_l_draw.kp T.b_l_draw .nil pass0 (pa_cons (pv 1) (pa_cons (pe_op op_add (pv 7) pe_int) pa_nil)))) pa_nil)) (by rfl))
      (pss_cons (ps_if (pt_cmpR op_lt (pv 10) pe_int (nomark _)) (pss_cons (ps_set (i := 4) sc_law.nd rfl (Or.inl rfl) (pe_call G_l_pick (hr.mono (by decide)) (by rfl) T.mg_l_pick T.F_l_pick.kp T.b_l_pick .nil pass0 (pa_cons (pv 1) (pa_cons (pe_lst (pa_cons (pe_callB (id := "len") call_len (by rfl) T.n_len (by decide +kernel) (pa_cons (pe_ix ix_list (pv 3) (pv 2) (fun _ _ => rfl)) pa_nil)) (pa_cons (pe_op op_add (pe_callB (id := "len") call_len (by rfl) T.n_len (by decide +kernel) (pa_cons (pe_ix ix_list (pv 3) (pv 2) (fun _ _ => rfl)) pa_nil)) pe_int) (pa_cons pe_int (pa_cons (pe_op op_pow pe_int pe_int) pa_nil))))) pa_nil))))
      (pss_one (ps_set (i := 11) sc_law.nd rfl (Or.inl rfl) (pe_call G_l_pick (hr.mono (by decide)) (by rfl) T.mg_l_pick T.F_l_pick.kp T.b_l_pick .nil pass0 (pa_cons (pv 1) (pa_cons (pe_lst (pa_cons pe_int (pa_cons (pe_callB (id := "len") call_len (by rfl) T.n_len (by decide +kernel) (pa_cons (pe_ix ix_list (pe_ix ix_list (pv 3) (pv 2) (fun _ _ => rfl)) pe_int (fun _ _ => rfl)) pa_nil)) (pa_cons (pe_op op_add (pe_callB (id := "len") call_len (by rfl) T.n_len (by decide +kernel) (pa_cons (pe_ix ix_list (pe_ix ix_list (pv 3) (pv 2) (fun _ _ => rfl)) pe_int (fun _ _ => rfl)) pa_nil)) pe_int) pa_nil)))) pa_nil)))))) pss_nil)
      (pss_one (ps_if (pt_not (pt_val (pe_call G_l_same (hr.mono (by decide)) (by rfl) T.mg_l_same T.F_l_same.kp T.b_l_same .nil pass0 (pa_cons (pe_call G_part_at (hr.mono (by decide)) (by rfl) T.mg_part_at T.F_part_at.kp T.b_part_at .nil (passF (P := P) (w := w)) (pa_cons (pe_ix ix_list (pv 5) (pv 2) (fun _ _ => rfl)) (pa_cons (pv 4) (pa_cons (pv 11) pa_nil)))) (pa_cons (pe_call G_l_given (hr.mono (by decide)) (by rfl) T.mg_l_given T.F_l_given.kp T.b_l_given .nil pass0 (pa_cons (pe_ix ix_list (pv 3) (pv 2) (fun _ _ => rfl)) (pa_cons (pv 4) (pa_cons (pv 11) pa_nil)))) pa_nil))))) (pss_one (ps_ret pe_bl)) pss_nil)))))))
      (pss_one (ps_ret (pe_callG G_l_are_refused gd (hr.mono (by decide)) (by rfl) TG.mg_l_are_refused TG.F_l_are_refused.kp TG.b_l_are_refused .nil pass0 (pa_cons (pv 1) (pa_cons (pe_ix ix_list (pv 5) pe_int (fun _ _ => rfl)) pa_nil)))))))))))), ?_⟩
    refine ⟨_, rfl, a, ns, rfl, hS, hl, fun p0 c H1 hp s1 P1 => ?_⟩
    have ei : EI (gam K p) (some p0) [] H1 ⟨ns, 0, 0, c⟩ := ⟨fun b hb => by cases hb; exact ⟨c, List.not_mem_nil, P1, rfl⟩, hT.ext s1, fun b hb => absurd hb List.not_mem_nil⟩
    have st : StR (gam K p) (some p0) [] [] H1 [some (.ref a), some (.ref p0), none, none, none, none, none, none, none, none, none, none, none] [.emp, .val .pen, .emp, .emp, .emp, .emp, .emp, .emp, .emp, .emp, .emp, .emp, .emp] := by
      refine ⟨rfl, fun i d hi => ?_, fun i z d hi => ?_⟩
      · match i, hi with
        | 0, hi => cases hi
        | 1, hi => cases hi; exact ⟨_, rfl, .pen rfl⟩
        | 2, hi => cases hi
        | 3, hi => cases hi
        | 4, hi => cases hi
        | 5, hi => cases hi
        | 6, hi => cases hi
        | 7, hi => cases hi
        | 8, hi => cases hi
        | 9, hi => cases hi
        | 10, hi => cases hi
        | 11, hi => cases hi
        | 12, hi => cases hi
        | i + 13, hi => simp at hi
      · match i, hi with
        | 0, hi => cases hi
        | 1, hi => cases hi
        | 2, hi => cases hi
        | 3, hi => cases hi
        | 4, hi => cases hi
        | 5, hi => cases hi
        | 6, hi => cases hi
        | 7, hi => cases hi
        | 8, hi => cases hi
        | 9, hi => cases hi
        | 10, hi => cases hi
        | 11, hi => cases hi
        | 12, hi => cases hi
        | i + 13, hi => simp at hi
    obtain ⟨s2, e⟩ := main ns c hl
    dsimp only [gName]
    refine snds_run (Γ := gam K p) (ms := M_rest) (E := fun _ => DN.E0) ?hs ei st ?_
    case hs => exact (ss_seq (ss_asg (se_N (sn_lcR1 (sa_cons (se_op so_add se_int (se_callL (sa_cons se_var (sa_cons se_int sa_nil)))) sa_nil) st_yes (se_callL (sa_cons se_var sa_nil)))) sg_name)
 (ss_seq (ss_asg (se_lcL se_var st_yes (se_makeR (Γ := gam K p) hI_Grid_init (by intro q H; exact (.cons .non .nil)) (sa_cons (se_lcL se_var st_yes (se_CB sc_tupOf (sa_cons se_var sa_nil))) sa_nil))) sg_name)
 (ss_seq (ss_par (sa_cons (se_CB sc_maxL (sa_cons (se_lcL se_var st_yes (se_CB sc_len (sa_cons se_var sa_nil))) sa_nil)) (sa_cons (se_CB sc_maxL (sa_cons (se_lcL se_var st_yes (se_CB sc_len (sa_cons (se_op so_ixL se_var se_int) sa_nil))) sa_nil)) sa_nil)))
 (ss_kept (Γ := gam K p) (i := 5) (k := 8) (j := 9) (se_call (sa_cons se_var sa_nil)) (st_or (st_test (se_op so_neD se_var (se_tup (sa_cons se_var (sa_cons se_var sa_nil))))) (st_or (st_not (st_B (se_isT (Γ := gam K p) (b := .tuple) (by decide) (by intro c hc; cases hc) se_var))) (st_test (se_op so_neD (se_call (sa_cons (se_CB sc_tupOf (sa_cons (se_revL se_var) sa_nil)) sa_nil)) (se_tup (sa_cons se_var (sa_cons se_var sa_nil))))))) (ss_ret se_bl)
 (ss_seq (ss_forR1 (sa_cons (se_CB sc_len (sa_cons se_var sa_nil)) sa_nil) sg_name (ss_forR1 (sa_cons se_int sa_nil) sg_name (ss_seq (ss_par (sa_cons (se_op so_add se_int (se_callL (sa_cons se_var (sa_cons (se_op so_add se_var se_int) sa_nil)))) (sa_cons (se_op so_add se_int (se_callL (sa_cons se_var (sa_cons (se_op so_add se_var se_int) sa_nil)))) sa_nil)))
      (ss_seq (ss_if (st_test (se_op so_lt se_var se_int)) (ss_seq (ss_asg (se_callL (sa_cons se_var (sa_cons (se_lst (sa_cons (se_CB sc_len (sa_cons (se_op so_ixL se_var se_var) sa_nil)) (sa_cons (se_op so_add (se_CB sc_len (sa_cons (se_op so_ixL se_var se_var) sa_nil)) se_int) (sa_cons se_int (sa_cons (se_op so_pow se_int se_int) sa_nil))))) sa_nil))) sg_name)
      (ss_asg (se_callL (sa_cons se_var (sa_cons (se_lst (sa_cons se_int (sa_cons (se_CB sc_len (sa_cons (se_op so_ixL (se_op so_ixL se_var se_var) se_int) sa_nil)) (sa_cons (se_op so_add (se_CB sc_len (sa_cons (se_op so_ixL (se_op so_ixL se_var se_var) se_int) sa_nil)) se_int) sa_nil)))) sa_nil))) sg_name)) ss_next)
      (ss_if (st_not (st_B (se_callL (sa_cons (se_call (sa_cons (se_op so_ixL se_var se_var) (sa_cons se_var (sa_cons se_var sa_nil)))) (sa_cons (se_callL (sa_cons (se_op so_ixL se_var se_var) (sa_cons se_var (sa_cons se_var sa_nil)))) sa_nil))))) (ss_ret se_bl) ss_next)))))
      (ss_ret (se_callL (sa_cons se_var (sa_cons (se_op so_ixL se_var se_int) sa_nil)))))))))
    rw [e]
    intro A' H' v t e' rv
    cases rv
    exact k H'
end
end K43

set_option Elab.async false
set_option linter.all false
set_option maxRecDepth 100000
set_option maxHeartbeats 8000000
namespace K43
open PySem PySem.Spec PyProof.Rows L2 Evl LamX TX EV2 DN
abbrev enc (t : List (List D)) : D := .lst (t.map .lst)
def isTab (d : D) : Prop := ∃ t w, d = enc t ∧ Tab t w
theorem tabs_of : ∀ {ds : List D}, (∀ d ∈ ds, isTab d) → ∃ ts : List (List (List D)), ds = ts.map enc ∧ (∀ t ∈ ts, ∃ w, Tab t w)
  | [], _ => ⟨[], rfl, by simp⟩
  | d :: ds, h => by
    obtain ⟨ts, e, ht⟩ := tabs_of (ds := ds) fun x hx => h x (List.mem_cons_of_mem _ hx)
    obtain ⟨t, w, rfl, h2⟩ := h d List.mem_cons_self
    exact ⟨t :: ts, by rw [e]; rfl, fun q hq => by
      rcases List.mem_cons.mp hq with z | z
      · rw [z]; exact ⟨w, h2⟩
      · exact ht q z⟩
theorem at_mapG {α : Type} {xs : List α} {f : α → D} {k : Nat} (h1 : k < xs.length) : ∃ r, r ∈ xs ∧ L2.atI (xs.map f) (k : Int) = some (f r) ∧ xs[k]? = some r := by
  refine ⟨xs[k], List.getElem_mem h1, ?_, List.getElem?_eq_getElem h1⟩
  unfold atI ixN
  rw [List.length_map, if_pos (by omega), if_pos (by omega), Option.bind_some, List.getElem?_map]
  rw [show ((k : Int)).toNat = k from Int.toNat_natCast k, List.getElem?_eq_getElem h1]
  rfl
theorem rngN_ev2 {e : ME} {j : Nat} {a : MA} {τ : Sto} {K : Int} {k : Nat} {s s1 s' : DN.PS} {ds : List D} (ha : a τ s = .ok [.int K] s1) (r1 : -(2 ^ 62) ≤ K ∧ K < 2 ^ 62) (hk : K.toNat = k) (h : lcS mYes e ((rngD 0 k).map fun d => τ.set j (.val d)) [] s1 = .ok ds s') : mLstN (nLcR1 j a mYes e) τ s = .ok (.lst ds) s' := by
  unfold mLstN nLcR1
  rw [ha]
  dsimp only [DN.bnd]
  rw [if_pos r1, hk, h]
theorem for1_ev {a : MA} {g : D → Sto → Option Sto} {b : MS} {τ : Sto} {K : Int} {k : Nat} {s s1 : DN.PS} (ha : a τ s = .ok [.int K] s1) (r1 : -(2 ^ 62) ≤ K ∧ K < 2 ^ 62) (hk : K.toNat = k) : sForR1 a g b τ s = forD g b (rngD 0 k) τ s1 := by
  unfold sForR1
  rw [ha]
  dsimp only [bndS]
  rw [if_pos r1, hk]
/-! ### the grids, the sizes -/
def toTup : D → D | .lst r => .tup r | x => x
def unl : D → List D | .lst r => r | _ => []
theorem toTup_map : ∀ t : List (List D), (t.map D.lst).map toTup = t.map .tup
  | [] => rfl
  | r :: t => by rw [List.map_cons, List.map_cons, toTup_map t]; rfl
theorem unl_map : ∀ t : List (List D), (t.map D.lst).map unl = t
  | [] => rfl
  | r :: t => by rw [List.map_cons, List.map_cons, unl_map t]; rfl
theorem tupsD_map : ∀ t : List (List D), tupsD (t.map .tup) = some t
  | [] => rfl
  | r :: t => by rw [List.map_cons, tupsD, tupsD_map t]; rfl
theorem grid_make {t : List (List D)} {w : Nat} {s : DN.PS} (T : Tab t w) : M_Grid_init [.lst (t.map .tup), .non] s = .ok (gr t) s := by
  unfold M_Grid_init
  dsimp only
  rw [tupsD_map]
  dsimp only
  rw [if_pos (of_rowsOk T.ok)]
def toGr : D → D | .lst rs => gr (rs.map unl) | x => x
theorem toGr_map : ∀ ts : List (List (List D)), (ts.map enc).map toGr = ts.map gr
  | [] => rfl
  | t :: ts => by
    rw [List.map_cons, List.map_cons, toGr_map ts, List.map_cons]
    show gr ((t.map D.lst).map unl) :: _ = _
    rw [unl_map]
def lenD : D → D | .lst xs => .int xs.length | x => x
def wdD : D → D | .lst (.lst r :: _) => .int r.length | _ => .int 0
theorem lenD_map : ∀ ts : List (List (List D)), (ts.map enc).map lenD = (ts.map fun t => (t.length : Int)).map .int
  | [] => rfl
  | t :: ts => by
    rw [List.map_cons, List.map_cons, lenD_map ts, List.map_cons, List.map_cons]
    show D.int ((t.map D.lst).length : Nat) :: _ = _
    rw [List.length_map]
theorem wdD_map : ∀ ts : List (List (List D)), (ts.map enc).map wdD = (ts.map fun t => ((t.headD []).length : Int)).map .int
  | [] => rfl
  | t :: ts => by
    rw [List.map_cons, List.map_cons, wdD_map ts, List.map_cons, List.map_cons]
    cases t <;> rfl
theorem max_some {hs : List Int} (h : hs ≠ []) : ∃ m, hs.max? = some m := by
  cases e : hs.max? with
  | none => exact absurd (List.max?_eq_none_iff.mp e) h
  | some m => exact ⟨m, rfl⟩
structure Tabs43 (ts : List (List (List D))) : Prop where
  tab : ∀ t ∈ ts, ∃ w, Tab t w
  n0 : 0 < ts.length
  n5 : ts.length ≤ 5
section
variable {ts : List (List (List D))} {s : DN.PS} {τ : Sto}
theorem grids_ok (H : Tabs43 ts) (h3 : τ[3]? = some (.val (.lst (ts.map enc)))) (hl : 12 < τ.length) : mLcL 12 (mVar 3) mYes (mMake 4 2 M_Grid_init [.non] (mCons (mLcL 4 (mVar 12) mYes (mCB dTupOf (mCons (mVar 4) mNil))) mNil)) τ s = .ok (.lst (ts.map gr)) s := by
  have e := lcL (a := mVar 3) (e := mMake 4 2 M_Grid_init [.non] (mCons (mLcL 4 (mVar 12) mYes (mCB dTupOf (mCons (mVar 4) mNil))) mNil)) (j := 12) (τ := τ) (s := s) (s1 := s) (f := toGr) (xs := ts.map enc) (EVL.var h3) (fun z hz => by
    obtain ⟨t, ht, rfl⟩ := List.mem_map.mp hz
    obtain ⟨w, T⟩ := H.tab t ht
    have i1 := lcL (a := mVar 12) (e := mCB dTupOf (mCons (mVar 4) mNil)) (j := 4) (τ := τ.set 12 (.val (enc t))) (s := s) (s1 := s) (f := toTup) (xs := t.map .lst) (EVL.var (by rw [List.getElem?_set_self hl])) (fun y hy => by
      obtain ⟨r, hr, rfl⟩ := List.mem_map.mp hy
      exact EVL.cb (EVL.cons (EVL.var (by rw [List.getElem?_set_self (by rw [List.length_set]; omega)])) EVL.nil) rfl) (by rw [List.length_map]; have := T.ok.len; omega)
    rw [toTup_map] at i1
    have g := grid_make (s := s) T
    have e2 : toGr (enc t) = gr t := by show gr ((t.map D.lst).map unl) = _; rw [unl_map]
    rw [e2]
    exact EVL.make (dd := [.non]) (EVL.cons i1 EVL.nil) rfl g) (by rw [List.length_map]; have := H.n5; omega)
  rw [toGr_map] at e
  exact e
theorem heights_ok {m : Int} (H : Tabs43 ts) (h3 : τ[3]? = some (.val (.lst (ts.map enc)))) (hl : 12 < τ.length) (hm : (ts.map fun t => (t.length : Int)).max? = some m) : mCB dMaxL (mCons (mLcL 12 (mVar 3) mYes (mCB dLen (mCons (mVar 12) mNil))) mNil) τ s = .ok (.int m) s := by
  have e := lcL (a := mVar 3) (e := mCB dLen (mCons (mVar 12) mNil)) (j := 12) (τ := τ) (s := s) (s1 := s) (f := lenD) (xs := ts.map enc) (EVL.var h3) (fun z hz => by
    obtain ⟨t, ht, rfl⟩ := List.mem_map.mp hz
    exact len_L (EVL.var (by rw [List.getElem?_set_self hl]))) (by rw [List.length_map]; have := H.n5; omega)
  rw [lenD_map] at e
  exact EVL.cb (EVL.cons e EVL.nil) (dMaxL_ok hm)
theorem widths_ok {m : Int} (H : Tabs43 ts) (h3 : τ[3]? = some (.val (.lst (ts.map enc)))) (hl : 12 < τ.length) (hm : (ts.map fun t => ((t.headD []).length : Int)).max? = some m) : mCB dMaxL (mCons (mLcL 12 (mVar 3) mYes (mCB dLen (mCons (mOp dIxL (mVar 12) (mC (.int 0))) mNil))) mNil) τ s = .ok (.int m) s := by
  have e := lcL (a := mVar 3) (e := mCB dLen (mCons (mOp dIxL (mVar 12) (mC (.int 0))) mNil)) (j := 12) (τ := τ) (s := s) (s1 := s) (f := wdD) (xs := ts.map enc) (EVL.var h3) (fun z hz => by
    obtain ⟨t, ht, rfl⟩ := List.mem_map.mp hz
    obtain ⟨w, T⟩ := H.tab t ht
    obtain ⟨r, rs, rfl, hr⟩ := T.ok.head
    exact len_L (EVL.op (s1 := s) (s2 := s) (x := enc (r :: rs)) (y := .int 0) (EVL.var (by rw [List.getElem?_set_self hl])) rfl (by show dIxL (.lst (D.lst r :: rs.map .lst)) (.int 0) s = _; unfold dIxL; dsimp only; rw [atI0]))) (by rw [List.length_map]; have := H.n5; omega)
  rw [wdD_map] at e
  exact EVL.cb (EVL.cons e EVL.nil) (dMaxL_ok hm)
theorem eq_hw {h w : Int} : dEqD true (.tup [.int h, .int w]) (.tup [.int h, .int w]) s = .ok (.bl false) s := by
  have h1 : toPd (.tup [.int h, .int w]) = some (.tuple [.int h, .int w]) := rfl
  have h3 : SeqAt.shaped (.tuple [.int h, .int w]) = true := rfl
  have h4 : PyData.eqv (.tuple [.int h, .int w]) (.tuple [.int h, .int w]) = true := by simp [PyData.eqv, PyData.eqvAll]
  unfold dEqD
  rw [h1]
  dsimp only
  rw [if_pos ⟨h3, h3⟩, h4]
  rfl
end
end K43

set_option Elab.async false
set_option linter.all false
set_option maxRecDepth 100000
set_option maxHeartbeats 8000000
namespace K43
open PySem PySem.Spec PyProof.Rows L2 Evl LamX TX EV2 DN

noncomputable def bPar : MS := (sPar 4 11 (mCons (mOp dAdd (mC (.int 1)) (mCall 2 M_l_draw [] (mCons (mVar 1) (mCons (mOp dAdd (mVar 6) (mC (.int 2))) mNil)))) (mCons (mOp dAdd (mC (.int 1)) (mCall 2 M_l_draw [] (mCons (mVar 1) (mCons (mOp dAdd (mVar 7) (mC (.int 2))) mNil)))) mNil)))
noncomputable def bIf : MS := (sIf (mB (mOp dLt (mVar 10) (mC (.int 4)))) (sSeq (sAsg (mCall 2 M_l_pick [] (mCons (mVar 1) (mCons (mLst (mCons (mCB dLen (mCons (mOp dIxL (mVar 3) (mVar 2)) mNil)) (mCons (mOp dAdd (mCB dLen (mCons (mOp dIxL (mVar 3) (mVar 2)) mNil)) (mC (.int 1))) (mCons (mC (.int 1000000)) (mCons (mOp dPow (mC (.int 10)) (mC (.int 20))) mNil))))) mNil))) (gN 4))
    (sAsg (mCall 2 M_l_pick [] (mCons (mVar 1) (mCons (mLst (mCons (mC (.int 1)) (mCons (mCB dLen (mCons (mOp dIxL (mOp dIxL (mVar 3) (mVar 2)) (mC (.int 0))) mNil)) (mCons (mOp dAdd (mCB dLen (mCons (mOp dIxL (mOp dIxL (mVar 3) (mVar 2)) (mC (.int 0))) mNil)) (mC (.int 1))) mNil)))) mNil))) (gN 11))) sNext)
noncomputable def bSame : MS := (sIf (mNot (mB (mCall 2 M_l_same [] (mCons (mCall 3 M_part_at [] (mCons (mOp dIxL (mVar 5) (mVar 2)) (mCons (mVar 4) (mCons (mVar 11) mNil)))) (mCons (mCall 3 M_l_given [] (mCons (mOp dIxL (mVar 3) (mVar 2)) (mCons (mVar 4) (mCons (mVar 11) mNil)))) mNil))))) (sRet (mC (.bl false))) sNext)
noncomputable def ibody : MS := sSeq bPar (sSeq bIf bSame)
noncomputable def obody : MS := sForR1 (mCons (mC (.int 12)) mNil) (gN 10) ibody
noncomputable def tabsS : MS := (sAsg (mLstN (nLcR1 2 (mCons (mOp dAdd (mC (.int 1)) (mCall 2 M_l_draw [] (mCons (mVar 1) (mCons (mC (.int 5)) mNil)))) mNil) mYes (mCall 1 M_l_rows [] (mCons (mVar 1) mNil)))) (gN 3))
noncomputable def keptT : MT := (mOr (mB (mOp (dEqD true) (mVar 9) (mTup (mCons (mVar 6) (mCons (mVar 7) mNil))))) (mOr (mNot (mB (mIsT .tuple [] (mVar 9)))) (mB (mOp (dEqD true) (mCall 1 M_stretched [] (mCons (mCB dTupOf (mCons (mRevL (mVar 5)) mNil)) mNil)) (mTup (mCons (mVar 6) (mCons (mVar 7) mNil)))))))

section
variable {ts : List (List (List D))} {h w t : Int} {k : Nat} {told : D} {n : Int} {s : DN.PS}
abbrev sto (ts : List (List (List D))) (h w : Int) (told : D) (y2 y4 y10 y11 : Sl) : Sto := [.emp, .val .pen, y2, .val (.lst (ts.map enc)), y4, .val (.lst (ts.map gr)), .val (.int h), .val (.int w), .emp, .val told, y10, y11, .emp]
theorem dDraw {e : ME} {τ : Sto} {i : Nat} {m z : Int} {s s1 : DN.PS} (hp : τ[1]? = some (.val .pen)) (hi : τ[i]? = some (.val (.int m))) (e1 : M_l_draw [.pen, .int (m + 2)] s = .ok (.int z) s1) :
    mOp dAdd (mC (.int 1)) (mCall 2 M_l_draw [] (mCons (mVar 1) (mCons (mOp dAdd (mVar i) (mC (.int 2))) mNil))) τ s = .ok (.int (1 + z)) s1 :=
  EVL.op (x := .int 1) (y := .int z) rfl (EVL.call (EVL.cons (EVL.var hp) (EVL.cons (EVL.op (x := .int m) (y := .int 2) (EVL.var hi) rfl rfl) EVL.nil)) rfl e1) rfl
theorem bPar_ok {y2 y4 y10 y11 : Sl} (hh : 0 ≤ h ∧ h ≤ 10000) (hw : 0 ≤ w ∧ w ≤ 10000) (g : Good n s) (hn : n < 2 ^ 28) :
    ∃ (r c : Int) (s' : DN.PS), bPar (sto ts h w told y2 y4 y10 y11) s = .nx (sto ts h w told y2 (.val (.int r)) y10 (.val (.int c))) s' ∧ 1 ≤ r ∧ 1 ≤ c ∧ Good (n + 2) s' := by
  obtain ⟨z1, s1, e1, a1, _, g1⟩ := draw_ok (m := h + 2) g (by omega) (by omega) (small_log (by omega) (by omega))
  obtain ⟨z2, s2, e2, a2, _, g2⟩ := draw_ok (m := w + 2) g1 (by omega) (by omega) (small_log (by omega) (by omega))
  refine ⟨1 + z1, 1 + z2, s2, ?_, by omega, by omega, by rw [show n + 2 = n + 1 + 1 by omega]; exact g2⟩
  exact EVL.par (i := 4) (j := 11) (EVL.cons (dDraw (e := mC .non) (i := 6) rfl rfl e1) (EVL.cons (dDraw (e := mC .non) (i := 7) rfl rfl e2) EVL.nil))
theorem tab_at (H : Tabs43 ts) (hk : k < ts.length) : ∃ t w, Tab t w ∧ L2.atI (ts.map enc) (k : Int) = some (enc t) ∧ L2.atI (ts.map gr) (k : Int) = some (gr t) := by
  obtain ⟨t, ht, e, q⟩ := at_mapG (f := enc) (xs := ts) hk
  obtain ⟨t2, ht2, e2, q2⟩ := at_mapG (f := gr) (xs := ts) hk
  obtain rfl : t = t2 := by rw [q] at q2; exact Option.some.inj q2
  obtain ⟨w, T⟩ := H.tab t ht
  exact ⟨t, w, T, e, e2⟩
theorem tab_e {τ : Sto} {d : D} (h3 : τ[3]? = some (.val (.lst (ts.map enc)))) (h2 : τ[2]? = some (.val (.int (k : Int)))) (e : L2.atI (ts.map enc) (k : Int) = some d) : mOp dIxL (mVar 3) (mVar 2) τ s = .ok d s :=
  EVL.op (x := .lst (ts.map enc)) (y := .int (k : Int)) (EVL.var h3) (EVL.var h2) (by unfold dIxL; dsimp only; rw [e])
theorem grd_e {τ : Sto} {d : D} (h3 : τ[5]? = some (.val (.lst (ts.map gr)))) (h2 : τ[2]? = some (.val (.int (k : Int)))) (e : L2.atI (ts.map gr) (k : Int) = some d) : mOp dIxL (mVar 5) (mVar 2) τ s = .ok d s :=
  EVL.op (x := .lst (ts.map gr)) (y := .int (k : Int)) (EVL.var h3) (EVL.var h2) (by unfold dIxL; dsimp only; rw [e])
theorem pickI {cs : List Int} (g : Good n s) (hn : n < 2 ^ 29) (h0 : cs ≠ []) (hl : cs.length < 1000) (h1 : ∀ c ∈ cs, 1 ≤ c) : ∃ (r : Int) (s' : DN.PS), M_l_pick [.pen, .lst (cs.map .int)] s = .ok (.int r) s' ∧ 1 ≤ r ∧ Good (n + 1) s' := by
  obtain ⟨d, s', e, m, g'⟩ := pick_ok (ds := cs.map .int) g hn (by intro z; exact h0 (List.map_eq_nil_iff.mp z)) (by rw [List.length_map]; exact hl)
  obtain ⟨c, hc, rfl⟩ := List.mem_map.mp m
  exact ⟨c, s', e, h1 c hc, g'⟩
theorem p10 {τ : Sto} : mOp dPow (mC (.int 10)) (mC (.int 20)) τ s = .ok (.int 100000000000000000000) s := by
  refine EVL.op (x := .int 10) (y := .int 20) rfl rfl ?_
  unfold dPow o2C
  dsimp only
  rw [if_pos (by decide)]
  rfl
theorem bIf_ok {y4 y11 : Sl} {r c : Int} (H : Tabs43 ts) (hk : k < ts.length) (hr : 1 ≤ r) (hc : 1 ≤ c) (g : Good n s) (hn : n < 2 ^ 28) :
    ∃ (r' c' : Int) (s' : DN.PS), bIf (sto ts h w told (.val (.int (k : Int))) (.val (.int r)) (.val (.int t)) (.val (.int c))) s = .nx (sto ts h w told (.val (.int (k : Int))) (.val (.int r')) (.val (.int t)) (.val (.int c'))) s' ∧ 1 ≤ r' ∧ 1 ≤ c' ∧ Good (n + 2) s' := by
  by_cases q : t < 4
  · obtain ⟨tb, wd, T, e1, e2⟩ := tab_at H hk
    obtain ⟨x, xs, rfl, hx⟩ := T.ok.head
    have w0 := T.ok.w0
    obtain ⟨r', s1, p1, q1, g1⟩ := pickI (cs := [((x :: xs).length : Int), ((x :: xs).length : Int) + 1, 1000000, 100000000000000000000]) g (by omega) (by simp) (by simp) (by
      intro c hc
      simp only [List.mem_cons, List.not_mem_nil, or_false] at hc
      have : 1 ≤ (x :: xs).length := by simp
      omega)
    obtain ⟨c', s2, p2, q2, g2⟩ := pickI (cs := [1, (x.length : Int), (x.length : Int) + 1]) g1 (by omega) (by simp) (by simp) (by
      intro c hc
      simp only [List.mem_cons, List.not_mem_nil, or_false] at hc
      omega)
    have hlen : ((enc (x :: xs)) : D) = .lst ((x :: xs).map .lst) := rfl
    have l1 : ∀ (τ : Sto) (s : DN.PS), τ[3]? = some (.val (.lst (ts.map enc))) → τ[2]? = some (.val (.int (k : Int))) → mCB dLen (mCons (mOp dIxL (mVar 3) (mVar 2)) mNil) τ s = .ok (.int ((x :: xs).length : Int)) s := fun τ s a b => by
      have := len_L (xs := (x :: xs).map .lst) (tab_e (s := s) a b e1)
      rw [List.length_map] at this
      exact this
    have l2 : ∀ (τ : Sto) (s : DN.PS), τ[3]? = some (.val (.lst (ts.map enc))) → τ[2]? = some (.val (.int (k : Int))) → mCB dLen (mCons (mOp dIxL (mOp dIxL (mVar 3) (mVar 2)) (mC (.int 0))) mNil) τ s = .ok (.int (x.length : Int)) s := fun τ s a b =>
      len_L (xs := x) (EVL.op (x := enc (x :: xs)) (y := .int 0) (tab_e (s := s) a b e1) rfl (by show dIxL (.lst (D.lst x :: xs.map .lst)) (.int 0) s = _; unfold dIxL; dsimp only; rw [atI0]))
    refine ⟨r', c', s2, ?_, q1, q2, by rw [show n + 2 = n + 1 + 1 by omega]; exact g2⟩
    unfold bIf
    refine EVL.if_t (s1 := s) (EVL.tB (EVL.op (x := .int t) (y := .int 4) (EVL.var rfl) rfl (by show _ = DN.Res.ok (D.bl true) s; unfold dLt o2I; dsimp only; rw [decide_eq_true q]))) ?_
    refine EVL.seq (τ1 := sto ts h w told (.val (.int (k : Int))) (.val (.int r')) (.val (.int t)) (.val (.int c))) (s1 := s1) (EVL.asg (i := 4) (EVL.call (EVL.cons (EVL.var rfl) (EVL.cons (EVL.lst (EVL.cons (l1 _ _ rfl rfl) (EVL.cons (EVL.op (l1 _ _ rfl rfl) rfl rfl) (EVL.cons rfl (EVL.cons p10 EVL.nil)))) (EVL.len rfl)) EVL.nil)) rfl p1)) ?_
    exact EVL.asg (i := 11) (EVL.call (EVL.cons (EVL.var rfl) (EVL.cons (EVL.lst (EVL.cons rfl (EVL.cons (l2 _ _ rfl rfl) (EVL.cons (EVL.op (l2 _ _ rfl rfl) rfl rfl) EVL.nil))) (EVL.len rfl)) EVL.nil)) rfl p2)
  · refine ⟨r, c, s, ?_, hr, hc, g.mono (by omega)⟩
    unfold bIf
    exact EVL.if_f (s1 := s) (EVL.tB (EVL.op (x := .int t) (y := .int 4) (EVL.var rfl) rfl (by show _ = DN.Res.ok (D.bl false) s; unfold dLt o2I; dsimp only; rw [decide_eq_false q]))) EVL.next
theorem bSame_ok {y10 : Sl} {r c : Int} (H : Tabs43 ts) (hk : k < ts.length) (hr : 1 ≤ r) (hc : 1 ≤ c) :
    bSame (sto ts h w told (.val (.int (k : Int))) (.val (.int r)) y10 (.val (.int c))) s = .nx (sto ts h w told (.val (.int (k : Int))) (.val (.int r)) y10 (.val (.int c))) s := by
  obtain ⟨tb, wd, T, e1, e2⟩ := tab_at H hk
  obtain ⟨d, hd, p1, p2⟩ := place (s := s) T hr hc
  unfold bSame
  exact EVL.if_f (EVL.tNot (v := true) (EVL.tB (EVL.call (EVL.cons (EVL.call (EVL.cons (grd_e rfl rfl e2) (EVL.cons (EVL.var rfl) (EVL.cons (EVL.var rfl) EVL.nil))) rfl (part_at_ok hr hc p1)) (EVL.cons (EVL.call (EVL.cons (tab_e rfl rfl e1) (EVL.cons (EVL.var rfl) (EVL.cons (EVL.var rfl) EVL.nil))) rfl p2) EVL.nil)) rfl (same_ok hd)))) EVL.next
theorem ibody_ok {y4 y11 : Sl} (H : Tabs43 ts) (hk : k < ts.length) (hh : 0 ≤ h ∧ h ≤ 10000) (hw : 0 ≤ w ∧ w ≤ 10000) (g : Good n s) (hn : n < 2 ^ 27) :
    ∃ (y4' y11' : Sl) (s' : DN.PS), ibody (sto ts h w told (.val (.int (k : Int))) y4 (.val (.int t)) y11) s = .nx (sto ts h w told (.val (.int (k : Int))) y4' (.val (.int t)) y11') s' ∧ Good (n + 4) s' := by
  obtain ⟨r, c, s1, e1, a1, b1, g1⟩ := bPar_ok (ts := ts) (told := told) (y2 := .val (.int (k : Int))) (y4 := y4) (y10 := .val (.int t)) (y11 := y11) hh hw g (by omega)
  obtain ⟨r2, c2, s2, e2, a2, b2, g2⟩ := bIf_ok (h := h) (w := w) (told := told) (t := t) (y4 := y4) (y11 := y11) H hk a1 b1 g1 (by omega)
  refine ⟨.val (.int r2), .val (.int c2), s2, ?_, by rw [show n + 4 = n + 2 + 2 by omega]; exact g2⟩
  exact EVL.seq e1 (EVL.seq e2 (bSame_ok H hk a2 b2))
theorem iloop (H : Tabs43 ts) (hk : k < ts.length) (hh : 0 ≤ h ∧ h ≤ 10000) (hw : 0 ≤ w ∧ w ≤ 10000) : ∀ (ds : List D) (n : Int) (s : DN.PS) (y4 y10 y11 : Sl), (∀ d ∈ ds, ∃ t : Int, d = .int t) → Good n s → n + 4 * ds.length < 2 ^ 27 →
    ∃ (y4' y10' y11' : Sl) (s' : DN.PS), forD (gN 10) ibody ds (sto ts h w told (.val (.int (k : Int))) y4 y10 y11) s = .nx (sto ts h w told (.val (.int (k : Int))) y4' y10' y11') s' ∧ Good (n + 4 * ds.length) s'
  | [], n, s, y4, y10, y11, _, g, _ => ⟨y4, y10, y11, s, rfl, by simpa using g⟩
  | d :: ds, n, s, y4, y10, y11, hd, g, hn => by
    obtain ⟨t, rfl⟩ := hd d List.mem_cons_self
    rw [List.length_cons] at hn
    obtain ⟨a, b, s1, e1, g1⟩ := ibody_ok (told := told) (t := t) (y4 := y4) (y11 := y11) H hk hh hw g (by omega)
    obtain ⟨a2, b2, c2, s2, e2, g2⟩ := iloop H hk hh hw ds (n + 4) s1 a (.val (.int t)) b (fun x hx => hd x (List.mem_cons_of_mem _ hx)) g1 (by omega)
    refine ⟨a2, b2, c2, s2, ?_, by rw [List.length_cons, show n + 4 * ((ds.length + 1 : Nat) : Int) = n + 4 + 4 * (ds.length : Int) by omega]; exact g2⟩
    unfold forD
    dsimp only [gN]
    rw [show (sto ts h w told (.val (.int (k : Int))) y4 y10 y11).set 10 (.val (.int t)) = sto ts h w told (.val (.int (k : Int))) y4 (.val (.int t)) y11 from rfl, e1]
    exact e2
theorem obody_ok {y4 y10 y11 : Sl} (H : Tabs43 ts) (hk : k < ts.length) (hh : 0 ≤ h ∧ h ≤ 10000) (hw : 0 ≤ w ∧ w ≤ 10000) (g : Good n s) (hn : n < 2 ^ 26) :
    ∃ (y4' y10' y11' : Sl) (s' : DN.PS), obody (sto ts h w told (.val (.int (k : Int))) y4 y10 y11) s = .nx (sto ts h w told (.val (.int (k : Int))) y4' y10' y11') s' ∧ Good (n + 48) s' := by
  have hl : (rngD 0 12).length = 12 := rng_len 12
  obtain ⟨a, b, c, s1, e1, g1⟩ := iloop (told := told) H hk hh hw (rngD 0 12) n s y4 y10 y11 (fun d hd => by obtain ⟨i, _, rfl⟩ := rng_mem hd; exact ⟨_, rfl⟩) g (by rw [hl]; omega)
  refine ⟨a, b, c, s1, ?_, by rw [hl] at g1; exact g1⟩
  unfold obody
  rw [for1_ev (K := 12) (k := 12) (s1 := s) rfl (by omega) rfl]
  exact e1
theorem oloop (H : Tabs43 ts) (hh : 0 ≤ h ∧ h ≤ 10000) (hw : 0 ≤ w ∧ w ≤ 10000) : ∀ (ds : List D) (n : Int) (s : DN.PS) (y2 y4 y10 y11 : Sl), (∀ d ∈ ds, ∃ i : Nat, i < ts.length ∧ d = .int (i : Int)) → Good n s → n + 48 * ds.length < 2 ^ 26 →
    ∃ (y2' y4' y10' y11' : Sl) (s' : DN.PS), forD (gN 2) obody ds (sto ts h w told y2 y4 y10 y11) s = .nx (sto ts h w told y2' y4' y10' y11') s' ∧ Good (n + 48 * ds.length) s'
  | [], n, s, y2, y4, y10, y11, _, g, _ => ⟨y2, y4, y10, y11, s, rfl, by simpa using g⟩
  | d :: ds, n, s, y2, y4, y10, y11, hd, g, hn => by
    obtain ⟨k, hk, rfl⟩ := hd d List.mem_cons_self
    rw [List.length_cons] at hn
    obtain ⟨a, b, c, s1, e1, g1⟩ := obody_ok (told := told) (y4 := y4) (y10 := y10) (y11 := y11) H hk hh hw g (by omega)
    obtain ⟨z2, a2, b2, c2, s2, e2, g2⟩ := oloop H hh hw ds (n + 48) s1 (.val (.int (k : Int))) a b c (fun x hx => hd x (List.mem_cons_of_mem _ hx)) g1 (by omega)
    refine ⟨z2, a2, b2, c2, s2, ?_, by rw [List.length_cons, show n + 48 * ((ds.length + 1 : Nat) : Int) = n + 48 + 48 * (ds.length : Int) by omega]; exact g2⟩
    unfold forD
    dsimp only [gN]
    rw [show (sto ts h w told y2 y4 y10 y11).set 2 (.val (.int (k : Int))) = sto ts h w told (.val (.int (k : Int))) y4 y10 y11 from rfl, e1]
    exact e2
end
end K43

set_option Elab.async false
set_option linter.all false
set_option maxRecDepth 100000
set_option maxHeartbeats 8000000
namespace K43
open PySem PySem.Spec PyProof.Rows L2 Evl LamX TX EV2 DN

section
variable {ts : List (List (List D))} {h w : Int} {told : D} {n : Int} {s : DN.PS} {τ : Sto}
theorem tabsS_ok {y y2 y4 y5 y6 y7 y8 y9 y10 y11 y12 : Sl} {y3 : Sl} (g : Good n s) (hn : n < 2 ^ 20) : ∃ (ts : List (List (List D))) (s' : DN.PS), tabsS [y, .val .pen, y2, y3, y4, y5, y6, y7, y8, y9, y10, y11, y12] s = .nx [y, .val .pen, y2, .val (.lst (ts.map enc)), y4, y5, y6, y7, y8, y9, y10, y11, y12] s' ∧ Tabs43 ts ∧ Good (n + 1001) s' := by
  obtain ⟨z, s1, e1, a1, b1, g1⟩ := draw_ok (m := 5) g (by omega) (by omega) (small_log (by omega) (by omega))
  have hk : (1 + z).toNat ≤ 5 := by omega
  have hl : ((rngD 0 (1 + z).toNat).map fun d => ([y, .val .pen, y2, y3, y4, y5, y6, y7, y8, y9, y10, y11, y12] : Sto).set 2 (.val d)).length = (1 + z).toNat := by rw [List.length_map, rng_len]
  obtain ⟨ds, s2, e2, l2, v2, g2⟩ := lcS_ok (e := mCall 1 M_l_rows [] (mCons (mVar 1) mNil)) (G := Good) (V := isTab) (c := 200) (by decide) ((rngD 0 (1 + z).toNat).map fun d => ([y, .val .pen, y2, y3, y4, y5, y6, y7, y8, y9, y10, y11, y12] : Sto).set 2 (.val d)) [] (n + 1) s1 g1 (fun τ hτ n' s' h1 h2 hg => by
    obtain ⟨d, _, rfl⟩ := List.mem_map.mp hτ
    rw [hl] at h2
    obtain ⟨rows, w, s3, e3, T, g3⟩ := rows_ok hg (by omega)
    exact ⟨_, s3, EVL.call (EVL.cons (EVL.var rfl) EVL.nil) rfl e3, ⟨rows, w, rfl, T⟩, g3⟩) (by rw [hl]; simp; omega) (by simp)
  rw [hl] at l2 g2
  rw [List.nil_append] at e2
  obtain ⟨ts, rfl, ht⟩ := tabs_of v2
  rw [List.length_map] at l2
  refine ⟨ts, s2, ?_, ⟨ht, by omega, by omega⟩, g2.mono (by omega)⟩
  unfold tabsS
  exact EVL.asg (i := 3) (rngN_ev2 (K := 1 + z) (k := (1 + z).toNat) (s1 := s1) (EVL.cons (EVL.op (x := .int 1) (y := .int z) rfl (EVL.call (EVL.cons (EVL.var rfl) (EVL.cons rfl EVL.nil)) rfl e1) rfl) EVL.nil) (by omega) rfl e2)
theorem keptT_ok (H : Tabs43 ts) (h5 : τ[5]? = some (.val (.lst (ts.map gr)))) (h6 : τ[6]? = some (.val (.int h))) (h7 : τ[7]? = some (.val (.int w))) (h9 : τ[9]? = some (.val (.tup [.int h, .int w])))
    (h1 : (ts.map fun t => (t.length : Int)).max? = some h) (h2 : (ts.map fun t => ((t.headD []).length : Int)).max? = some w) : keptT τ s = .ok false s := by
  have n0 : ts ≠ [] := fun z => by have := H.n0; rw [z] at this; simp at this
  have eT : mTup (mCons (mVar 6) (mCons (mVar 7) mNil)) τ s = .ok (.tup [.int h, .int w]) s := EVL.tup (EVL.cons (EVL.var h6) (EVL.cons (EVL.var h7) EVL.nil)) (EVL.len rfl)
  have st := stretched_ok (ts := ts.reverse) (h := h) (w := w) (s := s) (d := .tup (ts.reverse.map gr)) (.inr rfl) (by simpa using n0) (by rw [List.length_reverse]; have := H.n5; omega) (by rw [List.map_reverse]; exact max_rev h1) (by rw [List.map_reverse]; exact max_rev h2)
  unfold keptT
  refine EVL.tOr_f (EVL.tB (EVL.op (EVL.var h9) eT eq_hw)) (EVL.tOr_f (s1 := s) (EVL.tNot (v := true) (EVL.tB ?_)) (EVL.tB (EVL.op (EVL.call (EVL.cons (EVL.cb (ds := [.lst (ts.map gr).reverse]) (EVL.cons ?_ EVL.nil) rfl) EVL.nil) rfl (by rw [← List.map_reverse]; exact st)) eT eq_hw)))
  · have := EVL.var (s := s) h9
    unfold mIsT
    rw [this]
    rfl
  · have := EVL.var (s := s) h5
    unfold mRevL
    rw [this]
    rfl
theorem kept_ev {i k j : Nat} {me : ME} {mt : MT} {ms mu : MS} {ds : List D} {R : RS} (hi : τ[i]? = some (.val (.lst ds))) (hc : ds.all isObjD = true ∧ i ≠ k ∧ j ≠ k ∧ j ≠ i ∧ k < τ.length) (h : sSeq (sAsg me (gN j)) (sSeq (sIf mt ms sNext) mu) (τ.set k .emp) s = R) : sKept i k j me mt ms mu τ s = R := by
  unfold sKept
  rw [hi]
  dsimp only
  rw [if_pos hc]
  exact h
theorem all_obj : ∀ ts : List (List (List D)), (ts.map gr).all isObjD = true
  | [] => rfl
  | t :: ts => by rw [List.map_cons, List.all_cons, all_obj ts]; rfl
theorem grd_0 {d : D} {τ : Sto} (h5 : τ[5]? = some (.val (.lst (ts.map gr)))) (e : L2.atI (ts.map gr) ((0 : Nat) : Int) = some d) : mOp dIxL (mVar 5) (mC (.int 0)) τ s = .ok d s :=
  EVL.op (x := .lst (ts.map gr)) (y := .int 0) (EVL.var h5) rfl (by unfold dIxL; dsimp only; rw [show (0 : Int) = ((0 : Nat) : Int) from rfl, e])
theorem max_le {hs : List Int} {m b : Int} (h : hs.max? = some m) (hb : ∀ x ∈ hs, 0 ≤ x ∧ x ≤ b) : 0 ≤ m ∧ m ≤ b := hb m (List.max?_mem h)
theorem main (ns : List Int) (c : Addr) (hns : ns.length ≤ 63) : ∃ s, M_rest [.emp, .val .pen, .emp, .emp, .emp, .emp, .emp, .emp, .emp, .emp, .emp, .emp, .emp] ⟨ns, 0, 0, c⟩ = .rt (.bl true) s := by
  have g : Good 0 ⟨ns, 0, 0, c⟩ := ⟨by show ns.length ≤ 64; omega, Int.le_refl _, Int.le_refl _⟩
  obtain ⟨ts, s1, e1, H, g1⟩ := tabsS_ok (y := .emp) (y2 := .emp) (y3 := .emp) (y4 := .emp) (y5 := .emp) (y6 := .emp) (y7 := .emp) (y8 := .emp) (y9 := .emp) (y10 := .emp) (y11 := .emp) (y12 := .emp) g (by decide)
  have n0 : ts ≠ [] := fun z => by have := H.n0; rw [z] at this; simp at this
  obtain ⟨h, hh⟩ := max_some (hs := ts.map fun t => (t.length : Int)) (by simpa using n0)
  obtain ⟨w, hw⟩ := max_some (hs := ts.map fun t => ((t.headD []).length : Int)) (by simpa using n0)
  have bh : 0 ≤ h ∧ h ≤ 10000 := max_le hh fun x hx => by
    obtain ⟨t, ht, rfl⟩ := List.mem_map.mp hx
    obtain ⟨w, T⟩ := H.tab t ht
    have := T.ok.len
    omega
  have bw : 0 ≤ w ∧ w ≤ 10000 := max_le hw fun x hx => by
    obtain ⟨t, ht, rfl⟩ := List.mem_map.mp hx
    obtain ⟨w, T⟩ := H.tab t ht
    have := T.ok.wid
    rw [head_w T]
    omega
  have n5 := H.n5
  have hl : (rngD 0 ts.length).length = ts.length := rng_len _
  obtain ⟨a, b, d, f, s2, e2, g2⟩ := oloop (told := .tup [.int h, .int w]) H bh bw (rngD 0 ts.length) (0 + 1001) s1 .emp .emp .emp .emp (fun x hx => rng_mem hx) g1 (by rw [hl]; omega)
  obtain ⟨t0, w0, T, _, e3⟩ := tab_at H H.n0
  obtain ⟨s3, e4⟩ := refused_ok (gs := gridD t0) g2 (by rw [hl]; omega) g_rows
  refine ⟨s3, ?_⟩
  unfold M_rest
  refine EVL.seq e1 ?_
  refine EVL.seq (EVL.asg (i := 5) (grids_ok H rfl (by show 12 < 13; decide))) ?_
  refine EVL.seq (EVL.par (i := 6) (j := 7) (EVL.cons (heights_ok H rfl (by show 12 < 13; decide) hh) (EVL.cons (widths_ok H rfl (by show 12 < 13; decide) hw) EVL.nil))) ?_
  refine kept_ev (ds := ts.map gr) rfl ⟨all_obj ts, by decide, by decide, by decide, by show 8 < 13; decide⟩ ?_
  refine EVL.seq (EVL.asg (i := 9) (EVL.call (EVL.cons (EVL.var rfl) EVL.nil) rfl (stretched_ok (.inl rfl) n0 (by omega) hh hw))) ?_
  refine EVL.seq (EVL.if_f (keptT_ok H rfl rfl rfl rfl hh hw) EVL.next) ?_
  refine EVL.seq (τ1 := sto ts h w (.tup [.int h, .int w]) a b d f) (s1 := s2) ?_ ?_
  · refine Eq.trans (for1_ev (K := (ts.length : Int)) (k := ts.length) (s1 := s1) (EVL.cons ?_ EVL.nil) (by omega) (by omega)) e2
    have := len_L (xs := ts.map enc) (EVL.var (τ := sto ts h w (.tup [.int h, .int w]) .emp .emp .emp .emp) (i := 3) (s := s1) rfl)
    rw [List.length_map] at this
    exact this
  · exact EVL.ret (EVL.call (EVL.cons (EVL.var rfl) (EVL.cons (grd_0 rfl e3) EVL.nil)) rfl e4)
end
end K43

set_option Elab.async false
set_option linter.all false
set_option maxRecDepth 100000
set_option maxHeartbeats 4000000
namespace K43
open PySem PySem.Spec PyProof.Rows L2 Pen EV2 Evl TX LamX DN
theorem kitB_ {K : PySem.W.Frag} {C : Addr} {T : String} (s : PySem.W.subIn K (.ref C) (.type T) = some false) (h : PySem.W.kitMeta T = true) : PySem.W.kitOne K (.ref C) (.type T) = some false := by
  unfold PySem.W.kitOne
  rw [if_neg (by simp)]
  unfold PySem.W.kitCls
  dsimp only
  rw [if_pos h]
  exact s
theorem some_cls {K : PySem.W.Frag} {C : Addr} (hd : PySem.W.hasDictIn K C = true) : (PySem.W.clsIn K C).isSome = true := by
  unfold PySem.W.hasDictIn at hd
  cases h : PySem.W.clsIn K C with
  | none => rw [h] at hd; cases hd
  | some _ => rfl
theorem kitC_ {K : PySem.W.Frag} {A C : Addr} (ne : A ≠ C) (hd : PySem.W.hasDictIn K C = true) (ty : PySem.W.typeIn K (.ref C) = some (.type "type")) (s : PySem.W.subIn K (.ref A) (.ref C) = some false) : PySem.W.kitOne K (.ref A) (.ref C) = some false := by
  have z := some_cls hd
  unfold PySem.W.kitOne
  rw [if_neg (by simpa using ne)]
  unfold PySem.W.kitCls
  dsimp only
  rw [z, ty]
  simpa using s
theorem kitA2 {K : PySem.W.Frag} {C : Addr} (hd : PySem.W.hasDictIn K C = true) (ty : PySem.W.typeIn K (.ref C) = some (.type "type")) {n : String} (s : PySem.W.subIn K (.type n) (.ref C) = some false) : PySem.W.kitOne K (.type n) (.ref C) = some false := by
  have z := some_cls hd
  unfold PySem.W.kitOne
  rw [if_neg (by simp)]
  unfold PySem.W.kitCls
  dsimp only
  rw [z, ty]
  simpa using s
theorem kitA {K : PySem.W.Frag} {C N : Addr} {nm q : Str} {bs sub : List Value} {hd : Bool} {sn : List Str} {ab : Bool} {col : Option Bool} {dd : Option Addr} {k0 k1 k2 k3 k5 : Option Value} {nw : String} (L : K.lookup C = some (excClassObj nm q C N bs [.type "object"] hd sn sub ab col dd k0 k1 k2 k3 k5 nw)) (ty : PySem.W.typeIn K (.ref C) = some (.type "type")) {n : String} (s : PySem.W.subIn K (.type n) (.ref C) = some false) : PySem.W.kitOne K (.type n) (.ref C) = some false := by
  have z : (PySem.W.clsIn K C).isSome = true := by
    unfold PySem.W.clsIn
    rw [L] <;> rfl
  unfold PySem.W.kitOne
  rw [if_neg (by simp)]
  unfold PySem.W.kitCls
  dsimp only
  rw [z, ty]
  simpa using s
theorem all_mk {l : PySem.W.OpenLaw} {w : World} {K : PySem.W.Frag} {h : Heap} {mg : Str → Option Value} {fa S C_B f_B C_D C_T N_T i_at_T m_T___eq__ C_F N_F i_at_F m_F___eq__ C_G N_G i_at_G m_G___eq__ dT dG C_Z C_M aFK g_is_integer g_is_plain g_check_integer g_check_list g_is_number g_is_text g_is_value g_check_grid g__is_row g__is_table g_is_corner g__size_of_all g_stretched g__value_for g_part_at g_l_begin g_l_draw g_l_pick g_l_value g_l_rows g_l_given g_l_same g_l_refused g_l_are_refused g_law c_R : Addr} (tR : Addr)
    (X : K.In h) (G : h.Ns mainGlobals mg) (hfa : mg "law" = some (.ref fa))
    (a_B : PySem.W.nsIn K mainGlobals "BadValue" = some (some (.ref C_B)))
    {nm_B q_B : Str} {N_B : Addr} {bs_B sub_B : List Value} {sn_B : List Str} {ab_B : Bool} {col_B : Option Bool} {dd_B : Option Addr} {k0_B k1_B k2_B k3_B k5_B : Option Value}
    (L_B : K.lookup C_B = some (excClassObj nm_B q_B C_B N_B bs_B (BM S) true sn_B sub_B ab_B col_B dd_B k0_B k1_B k2_B k3_B k5_B "ValueError.__new__"))
    (hg_B : PySem.W.findIn K (.ref C_B) "__getattribute__" = some (some (.builtin "BaseException.__getattribute__")))
    (hk_B : PySem.W.findIn K (.ref C_B) "__getattr__" = some none)
    (no0_B : PySem.W.findIn K (.ref C_B) "value" = some none)
    (i_B : PySem.W.findIn K (.ref C_B) "__init__" = some (some (.ref f_B)))
    (kC_B : PySem.W.keepIn K (.ref C_B) = true)
    (sa_B : PySem.W.findIn K (.ref C_B) "__setattr__" = some (some (.builtin "object.__setattr__")))
    (ty_B : PySem.W.typeIn K (.ref f_B) = some (.type "function"))
    {oc_iB kV_iB dc_iB pm_iB ct_iB cd_iB : Value} {od_iB an_iB : Option Addr} {sl_iB : Array (Option Value)}
    (l_iB : K.lookup f_B = some ⟨oc_iB, od_iB, .func (PySem.W.fnOf "__init__" "BadValue.__init__" (defArgs s_BadValue_init) (defBody s_BadValue_init) (defScope s_BadValue_init) .none kV_iB dc_iB pm_iB an_iB cd_iB ct_iB), sl_iB⟩)
    (c_iB : PySem.W.codeIn K cd_iB "BadValue.__init__" = true)
    (k_iB : PySem.W.keepIn K (.ref f_B) = true)
    (a_D : PySem.W.nsIn K mainGlobals "NoDivisor" = some (some (.ref C_D)))
    {nm_D q_D : Str} {N_D : Addr} {bs_D sub_D : List Value} {sn_D : List Str} {ab_D : Bool} {col_D : Option Bool} {dd_D : Option Addr} {k0_D k1_D k2_D k3_D k5_D : Option Value}
    (L_D : K.lookup C_D = some (excClassObj nm_D q_D C_D N_D bs_D (BM S) true sn_D sub_D ab_D col_D dd_D k0_D k1_D k2_D k3_D k5_D "ValueError.__new__"))
    (hg_D : PySem.W.findIn K (.ref C_D) "__getattribute__" = some (some (.builtin "BaseException.__getattribute__")))
    (hk_D : PySem.W.findIn K (.ref C_D) "__getattr__" = some none)
    (nBS : C_B ≠ S)
    (nDS : C_D ≠ S)
    (xC_D : PySem.W.excIn K C_D [.type "ValueError", .type "Exception", .type "BaseException", .type "object"] "ValueError.__new__" = true)
    (kC_D : PySem.W.keepIn K (.ref C_D) = true)
    (hn : PySem.W.specialIn K (.builtin "object.__class__") "__get__" = some (some (.builtin "getset_descriptor.__get__")))
    (ht : PySem.W.takesIn K (.builtin "object.__class__") = some true)
    (a_T : PySem.W.nsIn K mainGlobals "Ratio" = some (some (.ref C_T)))
    {nm_T q_T : Str} {hd_T : Bool} {bs_T sub_T : List Value} {sn_T : List Str} {ab_T : Bool} {col_T : Option Bool} {dd_T : Option Addr} {k0_T k1_T k2_T k3_T k5_T : Option Value} {new_T : String}
    (L_T : K.lookup C_T = some (excClassObj nm_T q_T C_T N_T bs_T [.type "object"] hd_T sn_T sub_T ab_T col_T dd_T k0_T k1_T k2_T k3_T k5_T new_T))
    (pg_T : PySem.W.plainGet K C_T Str.empty = true)
    (hd2_T : PySem.W.hasDictIn K C_T = true)
    (po_T : PySem.W.plainOver K C_T = true)
    (sa_T : PySem.W.findIn K (.ref C_T) "__setattr__" = some (some (.builtin "object.__setattr__")))
    (nA_T_top : PySem.W.findIn K (.ref C_T) "top" = some none)
    (nA_T_bottom : PySem.W.findIn K (.ref C_T) "bottom" = some none)
    (mk_T : PySem.W.makesIn K C_T = true)
    (i_T : PySem.W.findIn K (.ref C_T) "__init__" = some (some (.ref i_at_T)))
    (if_T : PySem.W.isFn K (.ref i_at_T) = true)
    (kC_T : PySem.W.keepIn K (.ref C_T) = true)
    (ha_T : PySem.W.findIn K (.ref C_T) "__class__" = some (some (.builtin "object.__class__")))
    (hm_T : PySem.W.mroIn K C_T (.type "object") = some true)
    (ok_T : PySem.W.nsOkIn K N_T = true)
    {oc_iT dc_iT pm_iT ct_iT cd_iT : Value} {od_iT an_iT : Option Addr} {sl_iT : Array (Option Value)}
    (l_iT : K.lookup i_at_T = some ⟨oc_iT, od_iT, .func (PySem.W.fnOf "__init__" "Ratio.__init__" (defArgs s_Ratio_init) (defBody s_Ratio_init) (defScope s_Ratio_init) (.ref dT) .none dc_iT pm_iT an_iT cd_iT ct_iT), sl_iT⟩)
    (c_iT : PySem.W.codeIn K cd_iT "Ratio.__init__" = true)
    (k_iT : PySem.W.keepIn K (.ref i_at_T) = true)
    (tyT_T : PySem.W.typeIn K (.ref C_T) = some (.type "type"))
    (f_T___eq__ : PySem.W.findIn K (.ref C_T) "__eq__" = some (some (.ref m_T___eq__)))
    (if_T___eq__ : PySem.W.isFn K (.ref m_T___eq__) = true)
    {kV_T___eq__ dc_T___eq__ pm_T___eq__ ct_T___eq__ cd_T___eq__ : Value} {od_T___eq__ an_T___eq__ : Option Addr} {sl_T___eq__ : Array (Option Value)}
    (l_T___eq__ : K.lookup m_T___eq__ = some ⟨(.type "function"), od_T___eq__, .func (PySem.W.fnOf "__eq__" "Ratio.__eq__" (defArgs s_Ratio___eq__) (defBody s_Ratio___eq__) (defScope s_Ratio___eq__) .none kV_T___eq__ dc_T___eq__ pm_T___eq__ an_T___eq__ cd_T___eq__ ct_T___eq__), sl_T___eq__⟩)
    (c_T___eq__ : PySem.W.codeIn K cd_T___eq__ "Ratio.__eq__" = true)
    (k_T___eq__ : PySem.W.keepIn K (.ref m_T___eq__) = true)
    (y1_T_NoneType : PySem.W.subIn K (.type "NoneType") (.ref C_T) = some false)
    (y1_T_bool : PySem.W.subIn K (.type "bool") (.ref C_T) = some false)
    (y1_T_int : PySem.W.subIn K (.type "int") (.ref C_T) = some false)
    (y1_T_str : PySem.W.subIn K (.type "str") (.ref C_T) = some false)
    (y1_T_tuple : PySem.W.subIn K (.type "tuple") (.ref C_T) = some false)
    (y1_T_list : PySem.W.subIn K (.type "list") (.ref C_T) = some false)
    (y1_T_dict : PySem.W.subIn K (.type "dict") (.ref C_T) = some false)
    (a_F : PySem.W.nsIn K mainGlobals "Fault" = some (some (.ref C_F)))
    {nm_F q_F : Str} {hd_F : Bool} {bs_F sub_F : List Value} {sn_F : List Str} {ab_F : Bool} {col_F : Option Bool} {dd_F : Option Addr} {k0_F k1_F k2_F k3_F k5_F : Option Value} {new_F : String}
    (L_F : K.lookup C_F = some (excClassObj nm_F q_F C_F N_F bs_F [.type "object"] hd_F sn_F sub_F ab_F col_F dd_F k0_F k1_F k2_F k3_F k5_F new_F))
    (pg_F : PySem.W.plainGet K C_F Str.empty = true)
    (hd2_F : PySem.W.hasDictIn K C_F = true)
    (po_F : PySem.W.plainOver K C_F = true)
    (sa_F : PySem.W.findIn K (.ref C_F) "__setattr__" = some (some (.builtin "object.__setattr__")))
    (nA_F_kind : PySem.W.findIn K (.ref C_F) "kind" = some none)
    (mk_F : PySem.W.makesIn K C_F = true)
    (i_F : PySem.W.findIn K (.ref C_F) "__init__" = some (some (.ref i_at_F)))
    (if_F : PySem.W.isFn K (.ref i_at_F) = true)
    (kC_F : PySem.W.keepIn K (.ref C_F) = true)
    (ha_F : PySem.W.findIn K (.ref C_F) "__class__" = some (some (.builtin "object.__class__")))
    (hm_F : PySem.W.mroIn K C_F (.type "object") = some true)
    (ok_F : PySem.W.nsOkIn K N_F = true)
    {oc_iF kV_iF dc_iF pm_iF ct_iF cd_iF : Value} {od_iF an_iF : Option Addr} {sl_iF : Array (Option Value)}
    (l_iF : K.lookup i_at_F = some ⟨oc_iF, od_iF, .func (PySem.W.fnOf "__init__" "Fault.__init__" (defArgs s_Fault_init) (defBody s_Fault_init) (defScope s_Fault_init) .none kV_iF dc_iF pm_iF an_iF cd_iF ct_iF), sl_iF⟩)
    (c_iF : PySem.W.codeIn K cd_iF "Fault.__init__" = true)
    (k_iF : PySem.W.keepIn K (.ref i_at_F) = true)
    (tyT_F : PySem.W.typeIn K (.ref C_F) = some (.type "type"))
    (f_F___eq__ : PySem.W.findIn K (.ref C_F) "__eq__" = some (some (.ref m_F___eq__)))
    (if_F___eq__ : PySem.W.isFn K (.ref m_F___eq__) = true)
    {kV_F___eq__ dc_F___eq__ pm_F___eq__ ct_F___eq__ cd_F___eq__ : Value} {od_F___eq__ an_F___eq__ : Option Addr} {sl_F___eq__ : Array (Option Value)}
    (l_F___eq__ : K.lookup m_F___eq__ = some ⟨(.type "function"), od_F___eq__, .func (PySem.W.fnOf "__eq__" "Fault.__eq__" (defArgs s_Fault___eq__) (defBody s_Fault___eq__) (defScope s_Fault___eq__) .none kV_F___eq__ dc_F___eq__ pm_F___eq__ an_F___eq__ cd_F___eq__ ct_F___eq__), sl_F___eq__⟩)
    (c_F___eq__ : PySem.W.codeIn K cd_F___eq__ "Fault.__eq__" = true)
    (k_F___eq__ : PySem.W.keepIn K (.ref m_F___eq__) = true)
    (y1_F_NoneType : PySem.W.subIn K (.type "NoneType") (.ref C_F) = some false)
    (y1_F_bool : PySem.W.subIn K (.type "bool") (.ref C_F) = some false)
    (y1_F_int : PySem.W.subIn K (.type "int") (.ref C_F) = some false)
    (y1_F_str : PySem.W.subIn K (.type "str") (.ref C_F) = some false)
    (y1_F_tuple : PySem.W.subIn K (.type "tuple") (.ref C_F) = some false)
    (y1_F_list : PySem.W.subIn K (.type "list") (.ref C_F) = some false)
    (y1_F_dict : PySem.W.subIn K (.type "dict") (.ref C_F) = some false)
    (a_G : PySem.W.nsIn K mainGlobals "Grid" = some (some (.ref C_G)))
    {nm_G q_G : Str} {hd_G : Bool} {bs_G sub_G : List Value} {sn_G : List Str} {ab_G : Bool} {col_G : Option Bool} {dd_G : Option Addr} {k0_G k1_G k2_G k3_G k5_G : Option Value} {new_G : String}
    (L_G : K.lookup C_G = some (excClassObj nm_G q_G C_G N_G bs_G [.type "object"] hd_G sn_G sub_G ab_G col_G dd_G k0_G k1_G k2_G k3_G k5_G new_G))
    (pg_G : PySem.W.plainGet K C_G Str.empty = true)
    (hd2_G : PySem.W.hasDictIn K C_G = true)
    (po_G : PySem.W.plainOver K C_G = true)
    (sa_G : PySem.W.findIn K (.ref C_G) "__setattr__" = some (some (.builtin "object.__setattr__")))
    (nA_G_rows : PySem.W.findIn K (.ref C_G) "rows" = some none)
    (nA_G_height : PySem.W.findIn K (.ref C_G) "height" = some none)
    (nA_G_width : PySem.W.findIn K (.ref C_G) "width" = some none)
    (nA_G_corner : PySem.W.findIn K (.ref C_G) "corner" = some none)
    (mk_G : PySem.W.makesIn K C_G = true)
    (i_G : PySem.W.findIn K (.ref C_G) "__init__" = some (some (.ref i_at_G)))
    (if_G : PySem.W.isFn K (.ref i_at_G) = true)
    (kC_G : PySem.W.keepIn K (.ref C_G) = true)
    (ha_G : PySem.W.findIn K (.ref C_G) "__class__" = some (some (.builtin "object.__class__")))
    (hm_G : PySem.W.mroIn K C_G (.type "object") = some true)
    (ok_G : PySem.W.nsOkIn K N_G = true)
    {oc_iG dc_iG pm_iG ct_iG cd_iG : Value} {od_iG an_iG : Option Addr} {sl_iG : Array (Option Value)}
    (l_iG : K.lookup i_at_G = some ⟨oc_iG, od_iG, .func (PySem.W.fnOf "__init__" "Grid.__init__" (defArgs s_Grid_init) (defBody s_Grid_init) (defScope s_Grid_init) (.ref dG) .none dc_iG pm_iG an_iG cd_iG ct_iG), sl_iG⟩)
    (c_iG : PySem.W.codeIn K cd_iG "Grid.__init__" = true)
    (k_iG : PySem.W.keepIn K (.ref i_at_G) = true)
    (tyT_G : PySem.W.typeIn K (.ref C_G) = some (.type "type"))
    (f_G___eq__ : PySem.W.findIn K (.ref C_G) "__eq__" = some (some (.ref m_G___eq__)))
    (if_G___eq__ : PySem.W.isFn K (.ref m_G___eq__) = true)
    {kV_G___eq__ dc_G___eq__ pm_G___eq__ ct_G___eq__ cd_G___eq__ : Value} {od_G___eq__ an_G___eq__ : Option Addr} {sl_G___eq__ : Array (Option Value)}
    (l_G___eq__ : K.lookup m_G___eq__ = some ⟨(.type "function"), od_G___eq__, .func (PySem.W.fnOf "__eq__" "Grid.__eq__" (defArgs s_Grid___eq__) (defBody s_Grid___eq__) (defScope s_Grid___eq__) .none kV_G___eq__ dc_G___eq__ pm_G___eq__ an_G___eq__ cd_G___eq__ ct_G___eq__), sl_G___eq__⟩)
    (c_G___eq__ : PySem.W.codeIn K cd_G___eq__ "Grid.__eq__" = true)
    (k_G___eq__ : PySem.W.keepIn K (.ref m_G___eq__) = true)
    (y1_G_NoneType : PySem.W.subIn K (.type "NoneType") (.ref C_G) = some false)
    (y1_G_bool : PySem.W.subIn K (.type "bool") (.ref C_G) = some false)
    (y1_G_int : PySem.W.subIn K (.type "int") (.ref C_G) = some false)
    (y1_G_str : PySem.W.subIn K (.type "str") (.ref C_G) = some false)
    (y1_G_tuple : PySem.W.subIn K (.type "tuple") (.ref C_G) = some false)
    (y1_G_list : PySem.W.subIn K (.type "list") (.ref C_G) = some false)
    (y1_G_dict : PySem.W.subIn K (.type "dict") (.ref C_G) = some false)
    {tkT : Tok} {odT : Option Addr} {slT : Array (Option Value)} {nT : Nat}
    (l_dT : K.lookup dT = some { cls := .type "tuple", dict := odT, data := .seq #[.int 1 tkT] nT, slots := slT })
    {odG : Option Addr} {slG : Array (Option Value)} {nG : Nat}
    (l_dG : K.lookup dG = some { cls := .type "tuple", dict := odG, data := .seq #[.none] nG, slots := slG })
    (a_Z : PySem.W.nsIn K mainGlobals "Strand" = some (some (.ref C_Z)))
    (pg_Z : PySem.W.plainGet K C_Z Str.empty = true)
    (hd2_Z : PySem.W.hasDictIn K C_Z = true)
    (po_Z : PySem.W.plainOver K C_Z = true)
    (sa_Z : PySem.W.findIn K (.ref C_Z) "__setattr__" = some (some (.builtin "object.__setattr__")))
    (ha_Z : PySem.W.findIn K (.ref C_Z) "__class__" = some (some (.builtin "object.__class__")))
    (hm_Z : PySem.W.mroIn K C_Z (.type "object") = some true)
    (tyT_Z : PySem.W.typeIn K (.ref C_Z) = some (.type "type"))
    (y1_Z_NoneType : PySem.W.subIn K (.type "NoneType") (.ref C_Z) = some false)
    (y1_Z_bool : PySem.W.subIn K (.type "bool") (.ref C_Z) = some false)
    (y1_Z_int : PySem.W.subIn K (.type "int") (.ref C_Z) = some false)
    (y1_Z_str : PySem.W.subIn K (.type "str") (.ref C_Z) = some false)
    (y1_Z_tuple : PySem.W.subIn K (.type "tuple") (.ref C_Z) = some false)
    (y1_Z_list : PySem.W.subIn K (.type "list") (.ref C_Z) = some false)
    (y1_Z_dict : PySem.W.subIn K (.type "dict") (.ref C_Z) = some false)
    (a_M : PySem.W.nsIn K mainGlobals "Member" = some (some (.ref C_M)))
    (pg_M : PySem.W.plainGet K C_M Str.empty = true)
    (hd2_M : PySem.W.hasDictIn K C_M = true)
    (po_M : PySem.W.plainOver K C_M = true)
    (sa_M : PySem.W.findIn K (.ref C_M) "__setattr__" = some (some (.builtin "object.__setattr__")))
    (ha_M : PySem.W.findIn K (.ref C_M) "__class__" = some (some (.builtin "object.__class__")))
    (hm_M : PySem.W.mroIn K C_M (.type "object") = some true)
    (tyT_M : PySem.W.typeIn K (.ref C_M) = some (.type "type"))
    (y1_M_NoneType : PySem.W.subIn K (.type "NoneType") (.ref C_M) = some false)
    (y1_M_bool : PySem.W.subIn K (.type "bool") (.ref C_M) = some false)
    (y1_M_int : PySem.W.subIn K (.type "int") (.ref C_M) = some false)
    (y1_M_str : PySem.W.subIn K (.type "str") (.ref C_M) = some false)
    (y1_M_tuple : PySem.W.subIn K (.type "tuple") (.ref C_M) = some false)
    (y1_M_list : PySem.W.subIn K (.type "list") (.ref C_M) = some false)
    (y1_M_dict : PySem.W.subIn K (.type "dict") (.ref C_M) = some false)
    (y3_T_bool : PySem.W.subIn K (.ref C_T) (.type "bool") = some false)
    (y3_T_int : PySem.W.subIn K (.ref C_T) (.type "int") = some false)
    (y3_T_str : PySem.W.subIn K (.ref C_T) (.type "str") = some false)
    (y3_T_list : PySem.W.subIn K (.ref C_T) (.type "list") = some false)
    (y3_T_tuple : PySem.W.subIn K (.ref C_T) (.type "tuple") = some false)
    (y3_F_bool : PySem.W.subIn K (.ref C_F) (.type "bool") = some false)
    (y3_F_int : PySem.W.subIn K (.ref C_F) (.type "int") = some false)
    (y3_F_str : PySem.W.subIn K (.ref C_F) (.type "str") = some false)
    (y3_F_list : PySem.W.subIn K (.ref C_F) (.type "list") = some false)
    (y3_F_tuple : PySem.W.subIn K (.ref C_F) (.type "tuple") = some false)
    (y3_G_list : PySem.W.subIn K (.ref C_G) (.type "list") = some false)
    (y3_G_tuple : PySem.W.subIn K (.ref C_G) (.type "tuple") = some false)
    (nTF : C_T ≠ C_F)
    (nTG : C_T ≠ C_G)
    (nTZ : C_T ≠ C_Z)
    (nTM : C_T ≠ C_M)
    (nFG : C_F ≠ C_G)
    (nFZ : C_F ≠ C_Z)
    (nFM : C_F ≠ C_M)
    (nGZ : C_G ≠ C_Z)
    (nGM : C_G ≠ C_M)
    (nZM : C_Z ≠ C_M)
    (y4_TF : PySem.W.subIn K (.ref C_T) (.ref C_F) = some false)
    (y4_TG : PySem.W.subIn K (.ref C_T) (.ref C_G) = some false)
    (y4_TZ : PySem.W.subIn K (.ref C_T) (.ref C_Z) = some false)
    (y4_TM : PySem.W.subIn K (.ref C_T) (.ref C_M) = some false)
    (y4_FT : PySem.W.subIn K (.ref C_F) (.ref C_T) = some false)
    (y4_FG : PySem.W.subIn K (.ref C_F) (.ref C_G) = some false)
    (y4_FZ : PySem.W.subIn K (.ref C_F) (.ref C_Z) = some false)
    (y4_FM : PySem.W.subIn K (.ref C_F) (.ref C_M) = some false)
    (y4_GT : PySem.W.subIn K (.ref C_G) (.ref C_T) = some false)
    (y4_GF : PySem.W.subIn K (.ref C_G) (.ref C_F) = some false)
    (y4_GZ : PySem.W.subIn K (.ref C_G) (.ref C_Z) = some false)
    (y4_GM : PySem.W.subIn K (.ref C_G) (.ref C_M) = some false)
    (y4_ZT : PySem.W.subIn K (.ref C_Z) (.ref C_T) = some false)
    (y4_ZF : PySem.W.subIn K (.ref C_Z) (.ref C_F) = some false)
    (y4_ZG : PySem.W.subIn K (.ref C_Z) (.ref C_G) = some false)
    (y4_ZM : PySem.W.subIn K (.ref C_Z) (.ref C_M) = some false)
    (y4_MT : PySem.W.subIn K (.ref C_M) (.ref C_T) = some false)
    (y4_MF : PySem.W.subIn K (.ref C_M) (.ref C_F) = some false)
    (y4_MG : PySem.W.subIn K (.ref C_M) (.ref C_G) = some false)
    (y4_MZ : PySem.W.subIn K (.ref C_M) (.ref C_Z) = some false)
    {tk_MC : Tok}
    (a_MC : PySem.W.nsIn K mainGlobals "MOST_CHARACTERS" = some (some (.int 1000 tk_MC)))
    {tk_MV : Tok}
    (a_MV : PySem.W.nsIn K mainGlobals "MOST_VALUES" = some (some (.int 10000 tk_MV)))
    (a_gcd : PySem.W.nsIn K mainGlobals "gcd" = some (some (.builtin "math.gcd")))
    (a_FK : PySem.W.nsIn K mainGlobals "FAULT_KINDS" = some (some (.ref aFK)))
    {tkK0 tkK1 tkK2 tkK3 tkK4 tkK5 tkK6 tkK7 : Tok} {odK : Option Addr} {slK : Array (Option Value)} {nK : Nat}
    (l_FK : K.lookup aFK = some { cls := .type "tuple", dict := odK, data := .seq #[.str "DIV" tkK0, .str "VALUE" tkK1, .str "REF" tkK2, .str "NAME" tkK3, .str "NUM" tkK4, .str "NA" tkK5, .str "SPILL" tkK6, .str "RING" tkK7] nK, slots := slK })
    (z_abs : PySem.W.nsIn K mainGlobals "abs" = some none)
    (z_all : PySem.W.nsIn K mainGlobals "all" = some none)
    (z_bool : PySem.W.nsIn K mainGlobals "bool" = some none)
    (z_int : PySem.W.nsIn K mainGlobals "int" = some none)
    (z_isinstance : PySem.W.nsIn K mainGlobals "isinstance" = some none)
    (z_len : PySem.W.nsIn K mainGlobals "len" = some none)
    (z_list : PySem.W.nsIn K mainGlobals "list" = some none)
    (z_max : PySem.W.nsIn K mainGlobals "max" = some none)
    (z_range : PySem.W.nsIn K mainGlobals "range" = some none)
    (z_repr : PySem.W.nsIn K mainGlobals "repr" = some none)
    (z_str : PySem.W.nsIn K mainGlobals "str" = some none)
    (z_tuple : PySem.W.nsIn K mainGlobals "tuple" = some none)
    (a_is_integer : PySem.W.nsIn K mainGlobals "is_integer" = some (some (.ref g_is_integer)))
    {oc_is_integer kV_is_integer dc_is_integer pm_is_integer ct_is_integer cd_is_integer : Value} {od_is_integer an_is_integer : Option Addr} {sl_is_integer : Array (Option Value)}
    (l_is_integer : K.lookup g_is_integer = some ⟨oc_is_integer, od_is_integer, .func (PySem.W.fnOf "is_integer" "is_integer" (defArgs s_is_integer) (defBody s_is_integer) (defScope s_is_integer) .none kV_is_integer dc_is_integer pm_is_integer an_is_integer cd_is_integer ct_is_integer), sl_is_integer⟩)
    (c_is_integer : PySem.W.codeIn K cd_is_integer "is_integer" = true)
    (k_is_integer : PySem.W.keepIn K (.ref g_is_integer) = true)
    (a_is_plain : PySem.W.nsIn K mainGlobals "is_plain" = some (some (.ref g_is_plain)))
    {oc_is_plain kV_is_plain dc_is_plain pm_is_plain ct_is_plain cd_is_plain : Value} {od_is_plain an_is_plain : Option Addr} {sl_is_plain : Array (Option Value)}
    (l_is_plain : K.lookup g_is_plain = some ⟨oc_is_plain, od_is_plain, .func (PySem.W.fnOf "is_plain" "is_plain" (defArgs s_is_plain) (defBody s_is_plain) (defScope s_is_plain) .none kV_is_plain dc_is_plain pm_is_plain an_is_plain cd_is_plain ct_is_plain), sl_is_plain⟩)
    (c_is_plain : PySem.W.codeIn K cd_is_plain "is_plain" = true)
    (k_is_plain : PySem.W.keepIn K (.ref g_is_plain) = true)
    (a_check_integer : PySem.W.nsIn K mainGlobals "check_integer" = some (some (.ref g_check_integer)))
    {oc_check_integer kV_check_integer dc_check_integer pm_check_integer ct_check_integer cd_check_integer : Value} {od_check_integer an_check_integer : Option Addr} {sl_check_integer : Array (Option Value)}
    (l_check_integer : K.lookup g_check_integer = some ⟨oc_check_integer, od_check_integer, .func (PySem.W.fnOf "check_integer" "check_integer" (defArgs s_check_integer) (defBody s_check_integer) (defScope s_check_integer) .none kV_check_integer dc_check_integer pm_check_integer an_check_integer cd_check_integer ct_check_integer), sl_check_integer⟩)
    (c_check_integer : PySem.W.codeIn K cd_check_integer "check_integer" = true)
    (k_check_integer : PySem.W.keepIn K (.ref g_check_integer) = true)
    (a_check_list : PySem.W.nsIn K mainGlobals "check_list" = some (some (.ref g_check_list)))
    {oc_check_list kV_check_list dc_check_list pm_check_list ct_check_list cd_check_list : Value} {od_check_list an_check_list : Option Addr} {sl_check_list : Array (Option Value)}
    (l_check_list : K.lookup g_check_list = some ⟨oc_check_list, od_check_list, .func (PySem.W.fnOf "check_list" "check_list" (defArgs s_check_list) (defBody s_check_list) (defScope s_check_list) .none kV_check_list dc_check_list pm_check_list an_check_list cd_check_list ct_check_list), sl_check_list⟩)
    (c_check_list : PySem.W.codeIn K cd_check_list "check_list" = true)
    (k_check_list : PySem.W.keepIn K (.ref g_check_list) = true)
    (a_is_number : PySem.W.nsIn K mainGlobals "is_number" = some (some (.ref g_is_number)))
    {oc_is_number kV_is_number dc_is_number pm_is_number ct_is_number cd_is_number : Value} {od_is_number an_is_number : Option Addr} {sl_is_number : Array (Option Value)}
    (l_is_number : K.lookup g_is_number = some ⟨oc_is_number, od_is_number, .func (PySem.W.fnOf "is_number" "is_number" (defArgs s_is_number) (defBody s_is_number) (defScope s_is_number) .none kV_is_number dc_is_number pm_is_number an_is_number cd_is_number ct_is_number), sl_is_number⟩)
    (c_is_number : PySem.W.codeIn K cd_is_number "is_number" = true)
    (k_is_number : PySem.W.keepIn K (.ref g_is_number) = true)
    (a_is_text : PySem.W.nsIn K mainGlobals "is_text" = some (some (.ref g_is_text)))
    {oc_is_text kV_is_text dc_is_text pm_is_text ct_is_text cd_is_text : Value} {od_is_text an_is_text : Option Addr} {sl_is_text : Array (Option Value)}
    (l_is_text : K.lookup g_is_text = some ⟨oc_is_text, od_is_text, .func (PySem.W.fnOf "is_text" "is_text" (defArgs s_is_text) (defBody s_is_text) (defScope s_is_text) .none kV_is_text dc_is_text pm_is_text an_is_text cd_is_text ct_is_text), sl_is_text⟩)
    (c_is_text : PySem.W.codeIn K cd_is_text "is_text" = true)
    (k_is_text : PySem.W.keepIn K (.ref g_is_text) = true)
    (a_is_value : PySem.W.nsIn K mainGlobals "is_value" = some (some (.ref g_is_value)))
    {oc_is_value kV_is_value dc_is_value pm_is_value ct_is_value cd_is_value : Value} {od_is_value an_is_value : Option Addr} {sl_is_value : Array (Option Value)}
    (l_is_value : K.lookup g_is_value = some ⟨oc_is_value, od_is_value, .func (PySem.W.fnOf "is_value" "is_value" (defArgs s_is_value) (defBody s_is_value) (defScope s_is_value) .none kV_is_value dc_is_value pm_is_value an_is_value cd_is_value ct_is_value), sl_is_value⟩)
    (c_is_value : PySem.W.codeIn K cd_is_value "is_value" = true)
    (k_is_value : PySem.W.keepIn K (.ref g_is_value) = true)
    (a_check_grid : PySem.W.nsIn K mainGlobals "check_grid" = some (some (.ref g_check_grid)))
    {oc_check_grid kV_check_grid dc_check_grid pm_check_grid ct_check_grid cd_check_grid : Value} {od_check_grid an_check_grid : Option Addr} {sl_check_grid : Array (Option Value)}
    (l_check_grid : K.lookup g_check_grid = some ⟨oc_check_grid, od_check_grid, .func (PySem.W.fnOf "check_grid" "check_grid" (defArgs s_check_grid) (defBody s_check_grid) (defScope s_check_grid) .none kV_check_grid dc_check_grid pm_check_grid an_check_grid cd_check_grid ct_check_grid), sl_check_grid⟩)
    (c_check_grid : PySem.W.codeIn K cd_check_grid "check_grid" = true)
    (k_check_grid : PySem.W.keepIn K (.ref g_check_grid) = true)
    (a__is_row : PySem.W.nsIn K mainGlobals "_is_row" = some (some (.ref g__is_row)))
    {oc__is_row kV__is_row dc__is_row pm__is_row ct__is_row cd__is_row : Value} {od__is_row an__is_row : Option Addr} {sl__is_row : Array (Option Value)}
    (l__is_row : K.lookup g__is_row = some ⟨oc__is_row, od__is_row, .func (PySem.W.fnOf "_is_row" "_is_row" (defArgs s__is_row) (defBody s__is_row) (defScope s__is_row) .none kV__is_row dc__is_row pm__is_row an__is_row cd__is_row ct__is_row), sl__is_row⟩)
    (c__is_row : PySem.W.codeIn K cd__is_row "_is_row" = true)
    (k__is_row : PySem.W.keepIn K (.ref g__is_row) = true)
    (a__is_table : PySem.W.nsIn K mainGlobals "_is_table" = some (some (.ref g__is_table)))
    {oc__is_table kV__is_table dc__is_table pm__is_table ct__is_table cd__is_table : Value} {od__is_table an__is_table : Option Addr} {sl__is_table : Array (Option Value)}
    (l__is_table : K.lookup g__is_table = some ⟨oc__is_table, od__is_table, .func (PySem.W.fnOf "_is_table" "_is_table" (defArgs s__is_table) (defBody s__is_table) (defScope s__is_table) .none kV__is_table dc__is_table pm__is_table an__is_table cd__is_table ct__is_table), sl__is_table⟩)
    (c__is_table : PySem.W.codeIn K cd__is_table "_is_table" = true)
    (k__is_table : PySem.W.keepIn K (.ref g__is_table) = true)
    (a_is_corner : PySem.W.nsIn K mainGlobals "is_corner" = some (some (.ref g_is_corner)))
    {oc_is_corner kV_is_corner dc_is_corner pm_is_corner ct_is_corner cd_is_corner : Value} {od_is_corner an_is_corner : Option Addr} {sl_is_corner : Array (Option Value)}
    (l_is_corner : K.lookup g_is_corner = some ⟨oc_is_corner, od_is_corner, .func (PySem.W.fnOf "is_corner" "is_corner" (defArgs s_is_corner) (defBody s_is_corner) (defScope s_is_corner) .none kV_is_corner dc_is_corner pm_is_corner an_is_corner cd_is_corner ct_is_corner), sl_is_corner⟩)
    (c_is_corner : PySem.W.codeIn K cd_is_corner "is_corner" = true)
    (k_is_corner : PySem.W.keepIn K (.ref g_is_corner) = true)
    (a__size_of_all : PySem.W.nsIn K mainGlobals "_size_of_all" = some (some (.ref g__size_of_all)))
    {oc__size_of_all kV__size_of_all dc__size_of_all pm__size_of_all ct__size_of_all cd__size_of_all : Value} {od__size_of_all an__size_of_all : Option Addr} {sl__size_of_all : Array (Option Value)}
    (l__size_of_all : K.lookup g__size_of_all = some ⟨oc__size_of_all, od__size_of_all, .func (PySem.W.fnOf "_size_of_all" "_size_of_all" (defArgs s__size_of_all) (defBody s__size_of_all) (defScope s__size_of_all) .none kV__size_of_all dc__size_of_all pm__size_of_all an__size_of_all cd__size_of_all ct__size_of_all), sl__size_of_all⟩)
    (c__size_of_all : PySem.W.codeIn K cd__size_of_all "_size_of_all" = true)
    (k__size_of_all : PySem.W.keepIn K (.ref g__size_of_all) = true)
    (a_stretched : PySem.W.nsIn K mainGlobals "stretched" = some (some (.ref g_stretched)))
    {oc_stretched kV_stretched dc_stretched pm_stretched ct_stretched cd_stretched : Value} {od_stretched an_stretched : Option Addr} {sl_stretched : Array (Option Value)}
    (l_stretched : K.lookup g_stretched = some ⟨oc_stretched, od_stretched, .func (PySem.W.fnOf "stretched" "stretched" (defArgs s_stretched) (defBody s_stretched) (defScope s_stretched) .none kV_stretched dc_stretched pm_stretched an_stretched cd_stretched ct_stretched), sl_stretched⟩)
    (c_stretched : PySem.W.codeIn K cd_stretched "stretched" = true)
    (k_stretched : PySem.W.keepIn K (.ref g_stretched) = true)
    (a__value_for : PySem.W.nsIn K mainGlobals "_value_for" = some (some (.ref g__value_for)))
    {oc__value_for kV__value_for dc__value_for pm__value_for ct__value_for cd__value_for : Value} {od__value_for an__value_for : Option Addr} {sl__value_for : Array (Option Value)}
    (l__value_for : K.lookup g__value_for = some ⟨oc__value_for, od__value_for, .func (PySem.W.fnOf "_value_for" "_value_for" (defArgs s__value_for) (defBody s__value_for) (defScope s__value_for) .none kV__value_for dc__value_for pm__value_for an__value_for cd__value_for ct__value_for), sl__value_for⟩)
    (c__value_for : PySem.W.codeIn K cd__value_for "_value_for" = true)
    (k__value_for : PySem.W.keepIn K (.ref g__value_for) = true)
    (a_part_at : PySem.W.nsIn K mainGlobals "part_at" = some (some (.ref g_part_at)))
    {oc_part_at kV_part_at dc_part_at pm_part_at ct_part_at cd_part_at : Value} {od_part_at an_part_at : Option Addr} {sl_part_at : Array (Option Value)}
    (l_part_at : K.lookup g_part_at = some ⟨oc_part_at, od_part_at, .func (PySem.W.fnOf "part_at" "part_at" (defArgs s_part_at) (defBody s_part_at) (defScope s_part_at) .none kV_part_at dc_part_at pm_part_at an_part_at cd_part_at ct_part_at), sl_part_at⟩)
    (c_part_at : PySem.W.codeIn K cd_part_at "part_at" = true)
    (k_part_at : PySem.W.keepIn K (.ref g_part_at) = true)
    (a_l_begin : PySem.W.nsIn K mainGlobals "_law_begin" = some (some (.ref g_l_begin)))
    {oc_l_begin kV_l_begin dc_l_begin pm_l_begin ct_l_begin cd_l_begin : Value} {od_l_begin an_l_begin : Option Addr} {sl_l_begin : Array (Option Value)}
    (l_l_begin : K.lookup g_l_begin = some ⟨oc_l_begin, od_l_begin, .func (PySem.W.fnOf "_law_begin" "_law_begin" (defArgs s_l_begin) (defBody s_l_begin) (defScope s_l_begin) .none kV_l_begin dc_l_begin pm_l_begin an_l_begin cd_l_begin ct_l_begin), sl_l_begin⟩)
    (c_l_begin : PySem.W.codeIn K cd_l_begin "_law_begin" = true)
    (k_l_begin : PySem.W.keepIn K (.ref g_l_begin) = true)
    (a_l_draw : PySem.W.nsIn K mainGlobals "_law_draw" = some (some (.ref g_l_draw)))
    {oc_l_draw kV_l_draw dc_l_draw pm_l_draw ct_l_draw cd_l_draw : Value} {od_l_draw an_l_draw : Option Addr} {sl_l_draw : Array (Option Value)}
    (l_l_draw : K.lookup g_l_draw = some ⟨oc_l_draw, od_l_draw, .func (PySem.W.fnOf "_law_draw" "_law_draw" (defArgs s_l_draw) (defBody s_l_draw) (defScope s_l_draw) .none kV_l_draw dc_l_draw pm_l_draw an_l_draw cd_l_draw ct_l_draw), sl_l_draw⟩)
    (c_l_draw : PySem.W.codeIn K cd_l_draw "_law_draw" = true)
    (k_l_draw : PySem.W.keepIn K (.ref g_l_draw) = true)
    (a_l_pick : PySem.W.nsIn K mainGlobals "_law_pick" = some (some (.ref g_l_pick)))
    {oc_l_pick kV_l_pick dc_l_pick pm_l_pick ct_l_pick cd_l_pick : Value} {od_l_pick an_l_pick : Option Addr} {sl_l_pick : Array (Option Value)}
    (l_l_pick : K.lookup g_l_pick = some ⟨oc_l_pick, od_l_pick, .func (PySem.W.fnOf "_law_pick" "_law_pick" (defArgs s_l_pick) (defBody s_l_pick) (defScope s_l_pick) .none kV_l_pick dc_l_pick pm_l_pick an_l_pick cd_l_pick ct_l_pick), sl_l_pick⟩)
    (c_l_pick : PySem.W.codeIn K cd_l_pick "_law_pick" = true)
    (k_l_pick : PySem.W.keepIn K (.ref g_l_pick) = true)
    (a_l_value : PySem.W.nsIn K mainGlobals "_law_value" = some (some (.ref g_l_value)))
    {oc_l_value kV_l_value dc_l_value pm_l_value ct_l_value cd_l_value : Value} {od_l_value an_l_value : Option Addr} {sl_l_value : Array (Option Value)}
    (l_l_value : K.lookup g_l_value = some ⟨oc_l_value, od_l_value, .func (PySem.W.fnOf "_law_value" "_law_value" (defArgs s_l_value) (defBody s_l_value) (defScope s_l_value) .none kV_l_value dc_l_value pm_l_value an_l_value cd_l_value ct_l_value), sl_l_value⟩)
    (c_l_value : PySem.W.codeIn K cd_l_value "_law_value" = true)
    (k_l_value : PySem.W.keepIn K (.ref g_l_value) = true)
    (a_l_rows : PySem.W.nsIn K mainGlobals "_law_rows" = some (some (.ref g_l_rows)))
    {oc_l_rows kV_l_rows dc_l_rows pm_l_rows ct_l_rows cd_l_rows : Value} {od_l_rows an_l_rows : Option Addr} {sl_l_rows : Array (Option Value)}
    (l_l_rows : K.lookup g_l_rows = some ⟨oc_l_rows, od_l_rows, .func (PySem.W.fnOf "_law_rows" "_law_rows" (defArgs s_l_rows) (defBody s_l_rows) (defScope s_l_rows) .none kV_l_rows dc_l_rows pm_l_rows an_l_rows cd_l_rows ct_l_rows), sl_l_rows⟩)
    (c_l_rows : PySem.W.codeIn K cd_l_rows "_law_rows" = true)
    (k_l_rows : PySem.W.keepIn K (.ref g_l_rows) = true)
    (a_l_given : PySem.W.nsIn K mainGlobals "_law_given" = some (some (.ref g_l_given)))
    {oc_l_given kV_l_given dc_l_given pm_l_given ct_l_given cd_l_given : Value} {od_l_given an_l_given : Option Addr} {sl_l_given : Array (Option Value)}
    (l_l_given : K.lookup g_l_given = some ⟨oc_l_given, od_l_given, .func (PySem.W.fnOf "_law_given" "_law_given" (defArgs s_l_given) (defBody s_l_given) (defScope s_l_given) .none kV_l_given dc_l_given pm_l_given an_l_given cd_l_given ct_l_given), sl_l_given⟩)
    (c_l_given : PySem.W.codeIn K cd_l_given "_law_given" = true)
    (k_l_given : PySem.W.keepIn K (.ref g_l_given) = true)
    (a_l_same : PySem.W.nsIn K mainGlobals "_law_same" = some (some (.ref g_l_same)))
    {oc_l_same kV_l_same dc_l_same pm_l_same ct_l_same cd_l_same : Value} {od_l_same an_l_same : Option Addr} {sl_l_same : Array (Option Value)}
    (l_l_same : K.lookup g_l_same = some ⟨oc_l_same, od_l_same, .func (PySem.W.fnOf "_law_same" "_law_same" (defArgs s_l_same) (defBody s_l_same) (defScope s_l_same) .none kV_l_same dc_l_same pm_l_same an_l_same cd_l_same ct_l_same), sl_l_same⟩)
    (c_l_same : PySem.W.codeIn K cd_l_same "_law_same" = true)
    (k_l_same : PySem.W.keepIn K (.ref g_l_same) = true)
    (a_l_refused : PySem.W.nsIn K mainGlobals "_law_refused" = some (some (.ref g_l_refused)))
    {oc_l_refused kV_l_refused dc_l_refused pm_l_refused ct_l_refused cd_l_refused : Value} {od_l_refused an_l_refused : Option Addr} {sl_l_refused : Array (Option Value)}
    (l_l_refused : K.lookup g_l_refused = some ⟨oc_l_refused, od_l_refused, .func (PySem.W.fnOf "_law_refused" "_law_refused" (defArgs s_l_refused) (defBody s_l_refused) (defScope s_l_refused) .none kV_l_refused dc_l_refused pm_l_refused an_l_refused cd_l_refused ct_l_refused), sl_l_refused⟩)
    (c_l_refused : PySem.W.codeIn K cd_l_refused "_law_refused" = true)
    (k_l_refused : PySem.W.keepIn K (.ref g_l_refused) = true)
    (a_l_are_refused : PySem.W.nsIn K mainGlobals "_law_are_refused" = some (some (.ref g_l_are_refused)))
    {oc_l_are_refused kV_l_are_refused dc_l_are_refused pm_l_are_refused ct_l_are_refused : Value} {od_l_are_refused an_l_are_refused : Option Addr} {sl_l_are_refused : Array (Option Value)}
    (l_l_are_refused : K.lookup g_l_are_refused = some ⟨oc_l_are_refused, od_l_are_refused, .func (PySem.W.fnOf "_law_are_refused" "_law_are_refused" (defArgs s_l_are_refused) (defBody s_l_are_refused) (defScope s_l_are_refused) .none kV_l_are_refused dc_l_are_refused pm_l_are_refused an_l_are_refused (.ref c_R) ct_l_are_refused), sl_l_are_refused⟩)
    (c_l_are_refused : PySem.W.codeIn K (.ref c_R) "_law_are_refused" = true)
    (k_l_are_refused : PySem.W.keepIn K (.ref g_l_are_refused) = true)
    (a_law : PySem.W.nsIn K mainGlobals "law" = some (some (.ref g_law)))
    {oc_law kV_law dc_law pm_law ct_law cd_law : Value} {od_law an_law : Option Addr} {sl_law : Array (Option Value)}
    (l_law : K.lookup g_law = some ⟨oc_law, od_law, .func (PySem.W.fnOf "law" "law" (defArgs s_law) (defBody s_law) (defScope s_law) .none kV_law dc_law pm_law an_law cd_law ct_law), sl_law⟩)
    (c_law : PySem.W.codeIn K cd_law "law" = true)
    (k_law : PySem.W.keepIn K (.ref g_law) = true)
    (hdR : PySem.W.codeHdIn K c_R tR = true)
    (ntR : K.lookup tR = none)
    (tbR : h.get? tR = some (PySem.W.tabObj #[]))
    : LawAtG l w K CX0 18 63 "_law_script" mg fa h := by
  have e := hfa.symm.trans (PySem.W.mg_of X G a_law)
  cases e
  have ln_B : LineOf K S C_B := ⟨_, _, _, _, _, _, _, _, _, _, _, _, _, _, L_B⟩
  have ln_D : LineOf K S C_D := ⟨_, _, _, _, _, _, _, _, _, _, _, _, _, _, L_D⟩
  have e_B : Er K mg "BadValue" "BadValue.__init__" s_BadValue_init "value" S C_B f_B (PySem.W.fnOf "__init__" "BadValue.__init__" (defArgs s_BadValue_init) (defBody s_BadValue_init) (defScope s_BadValue_init) .none kV_iB dc_iB pm_iB an_iB cd_iB ct_iB) := ⟨PySem.W.mg_of X G a_B, ⟨ln_B.ox sa_B kC_B, i_B, ty_B⟩, ln_B.xf hg_B hk_B, no0_B, fun_mk (st := s_BadValue_init) l_iB c_iB k_iB, ln_B, nBS⟩
  have e_D : ErN K mg "NoDivisor" S C_D := ⟨PySem.W.mg_of X G a_D, xC_D, kC_D, ln_D, nDS⟩
  have cl_T : Cls K C_T := ⟨pg_T, hd2_T, po_T, sa_T⟩
  have mk2_T : Mk K C_T i_at_T := ⟨mk_T, i_T, if_T, kC_T⟩
  have F_T___eq__ := fun_mk (st := s_Ratio___eq__) l_T___eq__ c_T___eq__ k_T___eq__
  have b_T___eq__ := F_T___eq__.binds (ps := P_Ratio___eq__) fun _ _ _ _ _ _ us hl => match us, hl with | [_, _], _ => rfl
  have h_T___eq__ : Meth K C_T "__eq__" m_T___eq__ := ⟨f_T___eq__, if_T___eq__, k_T___eq__⟩
  have z1_T_NoneType := kitA L_T tyT_T y1_T_NoneType
  have z1_T_bool := kitA L_T tyT_T y1_T_bool
  have z1_T_int := kitA L_T tyT_T y1_T_int
  have z1_T_str := kitA L_T tyT_T y1_T_str
  have z1_T_tuple := kitA L_T tyT_T y1_T_tuple
  have z1_T_list := kitA L_T tyT_T y1_T_list
  have z1_T_dict := kitA L_T tyT_T y1_T_dict
  have cl_F : Cls K C_F := ⟨pg_F, hd2_F, po_F, sa_F⟩
  have mk2_F : Mk K C_F i_at_F := ⟨mk_F, i_F, if_F, kC_F⟩
  have F_F___eq__ := fun_mk (st := s_Fault___eq__) l_F___eq__ c_F___eq__ k_F___eq__
  have b_F___eq__ := F_F___eq__.binds (ps := P_Fault___eq__) fun _ _ _ _ _ _ us hl => match us, hl with | [_, _], _ => rfl
  have h_F___eq__ : Meth K C_F "__eq__" m_F___eq__ := ⟨f_F___eq__, if_F___eq__, k_F___eq__⟩
  have z1_F_NoneType := kitA L_F tyT_F y1_F_NoneType
  have z1_F_bool := kitA L_F tyT_F y1_F_bool
  have z1_F_int := kitA L_F tyT_F y1_F_int
  have z1_F_str := kitA L_F tyT_F y1_F_str
  have z1_F_tuple := kitA L_F tyT_F y1_F_tuple
  have z1_F_list := kitA L_F tyT_F y1_F_list
  have z1_F_dict := kitA L_F tyT_F y1_F_dict
  have F_iF := fun_mk (st := s_Fault_init) l_iF c_iF k_iF
  have b_iF := F_iF.binds (ps := P_Fault_init) fun _ _ _ _ _ _ us hl => match us, hl with | [_, _], _ => rfl
  have cl_G : Cls K C_G := ⟨pg_G, hd2_G, po_G, sa_G⟩
  have mk2_G : Mk K C_G i_at_G := ⟨mk_G, i_G, if_G, kC_G⟩
  have F_G___eq__ := fun_mk (st := s_Grid___eq__) l_G___eq__ c_G___eq__ k_G___eq__
  have b_G___eq__ := F_G___eq__.binds (ps := P_Grid___eq__) fun _ _ _ _ _ _ us hl => match us, hl with | [_, _], _ => rfl
  have h_G___eq__ : Meth K C_G "__eq__" m_G___eq__ := ⟨f_G___eq__, if_G___eq__, k_G___eq__⟩
  have z1_G_NoneType := kitA L_G tyT_G y1_G_NoneType
  have z1_G_bool := kitA L_G tyT_G y1_G_bool
  have z1_G_int := kitA L_G tyT_G y1_G_int
  have z1_G_str := kitA L_G tyT_G y1_G_str
  have z1_G_tuple := kitA L_G tyT_G y1_G_tuple
  have z1_G_list := kitA L_G tyT_G y1_G_list
  have z1_G_dict := kitA L_G tyT_G y1_G_dict
  have F_Ti : FunD K "__init__" "Ratio.__init__" (defArgs s_Ratio_init) (defBody s_Ratio_init) (defScope s_Ratio_init) [V.int 1] [] i_at_T (PySem.W.fnOf "__init__" "Ratio.__init__" (defArgs s_Ratio_init) (defBody s_Ratio_init) (defScope s_Ratio_init) (.ref dT) .none dc_iT pm_iT an_iT cd_iT ct_iT) := ⟨⟨_, _, _, _, _, _, _, _, _, _, rfl, l_iT, c_iT, .inr ⟨List.cons_ne_nil _ _, dT, _, _, _, rfl, l_dT, rfl, .cons ⟨_, rfl⟩ .nil⟩, .inl rfl⟩, k_iT⟩
  have F_Gi : FunD K "__init__" "Grid.__init__" (defArgs s_Grid_init) (defBody s_Grid_init) (defScope s_Grid_init) [V.non] [] i_at_G (PySem.W.fnOf "__init__" "Grid.__init__" (defArgs s_Grid_init) (defBody s_Grid_init) (defScope s_Grid_init) (.ref dG) .none dc_iG pm_iG an_iG cd_iG ct_iG) := ⟨⟨_, _, _, _, _, _, _, _, _, _, rfl, l_iG, c_iG, .inr ⟨List.cons_ne_nil _ _, dG, _, _, _, rfl, l_dG, rfl, .cons rfl .nil⟩, .inl rfl⟩, k_iG⟩
  have cl_Z : Cls K C_Z := ⟨pg_Z, hd2_Z, po_Z, sa_Z⟩
  have z1_Z_NoneType := kitA2 hd2_Z tyT_Z y1_Z_NoneType
  have z1_Z_bool := kitA2 hd2_Z tyT_Z y1_Z_bool
  have z1_Z_int := kitA2 hd2_Z tyT_Z y1_Z_int
  have z1_Z_str := kitA2 hd2_Z tyT_Z y1_Z_str
  have z1_Z_tuple := kitA2 hd2_Z tyT_Z y1_Z_tuple
  have z1_Z_list := kitA2 hd2_Z tyT_Z y1_Z_list
  have z1_Z_dict := kitA2 hd2_Z tyT_Z y1_Z_dict
  have cl_M : Cls K C_M := ⟨pg_M, hd2_M, po_M, sa_M⟩
  have z1_M_NoneType := kitA2 hd2_M tyT_M y1_M_NoneType
  have z1_M_bool := kitA2 hd2_M tyT_M y1_M_bool
  have z1_M_int := kitA2 hd2_M tyT_M y1_M_int
  have z1_M_str := kitA2 hd2_M tyT_M y1_M_str
  have z1_M_tuple := kitA2 hd2_M tyT_M y1_M_tuple
  have z1_M_list := kitA2 hd2_M tyT_M y1_M_list
  have z1_M_dict := kitA2 hd2_M tyT_M y1_M_dict
  have kt_T_bool := kitB_ (T := "bool") (C := C_T) y3_T_bool (by decide +kernel)
  have kt_T_int := kitB_ (T := "int") (C := C_T) y3_T_int (by decide +kernel)
  have kt_T_str := kitB_ (T := "str") (C := C_T) y3_T_str (by decide +kernel)
  have kt_T_list := kitB_ (T := "list") (C := C_T) y3_T_list (by decide +kernel)
  have kt_T_tuple := kitB_ (T := "tuple") (C := C_T) y3_T_tuple (by decide +kernel)
  have kt_F_bool := kitB_ (T := "bool") (C := C_F) y3_F_bool (by decide +kernel)
  have kt_F_int := kitB_ (T := "int") (C := C_F) y3_F_int (by decide +kernel)
  have kt_F_str := kitB_ (T := "str") (C := C_F) y3_F_str (by decide +kernel)
  have kt_F_list := kitB_ (T := "list") (C := C_F) y3_F_list (by decide +kernel)
  have kt_F_tuple := kitB_ (T := "tuple") (C := C_F) y3_F_tuple (by decide +kernel)
  have kt_G_list := kitB_ (T := "list") (C := C_G) y3_G_list (by decide +kernel)
  have kt_G_tuple := kitB_ (T := "tuple") (C := C_G) y3_G_tuple (by decide +kernel)
  have kk_TF := kitC_ nTF hd2_F tyT_F y4_TF
  have kk_TG := kitC_ nTG hd2_G tyT_G y4_TG
  have kk_TZ := kitC_ nTZ hd2_Z tyT_Z y4_TZ
  have kk_TM := kitC_ nTM hd2_M tyT_M y4_TM
  have kk_FT := kitC_ nTF.symm hd2_T tyT_T y4_FT
  have kk_FG := kitC_ nFG hd2_G tyT_G y4_FG
  have kk_FZ := kitC_ nFZ hd2_Z tyT_Z y4_FZ
  have kk_FM := kitC_ nFM hd2_M tyT_M y4_FM
  have kk_GT := kitC_ nTG.symm hd2_T tyT_T y4_GT
  have kk_GF := kitC_ nFG.symm hd2_F tyT_F y4_GF
  have kk_GZ := kitC_ nGZ hd2_Z tyT_Z y4_GZ
  have kk_GM := kitC_ nGM hd2_M tyT_M y4_GM
  have kk_ZT := kitC_ nTZ.symm hd2_T tyT_T y4_ZT
  have kk_ZF := kitC_ nFZ.symm hd2_F tyT_F y4_ZF
  have kk_ZG := kitC_ nGZ.symm hd2_G tyT_G y4_ZG
  have kk_ZM := kitC_ nZM hd2_M tyT_M y4_ZM
  have kk_MT := kitC_ nTM.symm hd2_T tyT_T y4_MT
  have kk_MF := kitC_ nFM.symm hd2_F tyT_F y4_MF
  have kk_MG := kitC_ nGM.symm hd2_G tyT_G y4_MG
  have kk_MZ := kitC_ nZM.symm hd2_Z tyT_Z y4_MZ
  have kt_FK : KTup K aFK ((["DIV", "VALUE", "REF", "NAME", "NUM", "NA", "SPILL", "RING"] : List Str).map V.str) := ⟨_, _, _, l_FK, rfl, rfl, by show 8 ≤ _; decide +kernel, (.cons ⟨_, rfl⟩ (.cons ⟨_, rfl⟩ (.cons ⟨_, rfl⟩ (.cons ⟨_, rfl⟩ (.cons ⟨_, rfl⟩ (.cons ⟨_, rfl⟩ (.cons ⟨_, rfl⟩ (.cons ⟨_, rfl⟩ .nil))))))))⟩
  have F_is_integer := fun_mk (st := s_is_integer) l_is_integer c_is_integer k_is_integer
  have b_is_integer := F_is_integer.binds (ps := P_is_integer) fun _ _ _ _ _ _ us hl => match us, hl with | [_], _ => rfl
  have F_is_plain := fun_mk (st := s_is_plain) l_is_plain c_is_plain k_is_plain
  have b_is_plain := F_is_plain.binds (ps := P_is_plain) fun _ _ _ _ _ _ us hl => match us, hl with | [_], _ => rfl
  have F_check_integer := fun_mk (st := s_check_integer) l_check_integer c_check_integer k_check_integer
  have b_check_integer := F_check_integer.binds (ps := P_check_integer) fun _ _ _ _ _ _ us hl => match us, hl with | [_], _ => rfl
  have F_check_list := fun_mk (st := s_check_list) l_check_list c_check_list k_check_list
  have b_check_list := F_check_list.binds (ps := P_check_list) fun _ _ _ _ _ _ us hl => match us, hl with | [_], _ => rfl
  have F_is_number := fun_mk (st := s_is_number) l_is_number c_is_number k_is_number
  have b_is_number := F_is_number.binds (ps := P_is_number) fun _ _ _ _ _ _ us hl => match us, hl with | [_], _ => rfl
  have F_is_text := fun_mk (st := s_is_text) l_is_text c_is_text k_is_text
  have b_is_text := F_is_text.binds (ps := P_is_text) fun _ _ _ _ _ _ us hl => match us, hl with | [_], _ => rfl
  have F_is_value := fun_mk (st := s_is_value) l_is_value c_is_value k_is_value
  have b_is_value := F_is_value.binds (ps := P_is_value) fun _ _ _ _ _ _ us hl => match us, hl with | [_], _ => rfl
  have F_check_grid := fun_mk (st := s_check_grid) l_check_grid c_check_grid k_check_grid
  have b_check_grid := F_check_grid.binds (ps := P_check_grid) fun _ _ _ _ _ _ us hl => match us, hl with | [_], _ => rfl
  have F__is_row := fun_mk (st := s__is_row) l__is_row c__is_row k__is_row
  have b__is_row := F__is_row.binds (ps := P__is_row) fun _ _ _ _ _ _ us hl => match us, hl with | [_], _ => rfl
  have F__is_table := fun_mk (st := s__is_table) l__is_table c__is_table k__is_table
  have b__is_table := F__is_table.binds (ps := P__is_table) fun _ _ _ _ _ _ us hl => match us, hl with | [_], _ => rfl
  have F_is_corner := fun_mk (st := s_is_corner) l_is_corner c_is_corner k_is_corner
  have b_is_corner := F_is_corner.binds (ps := P_is_corner) fun _ _ _ _ _ _ us hl => match us, hl with | [_], _ => rfl
  have F__size_of_all := fun_mk (st := s__size_of_all) l__size_of_all c__size_of_all k__size_of_all
  have b__size_of_all := F__size_of_all.binds (ps := P__size_of_all) fun _ _ _ _ _ _ us hl => match us, hl with | [_], _ => rfl
  have F_stretched := fun_mk (st := s_stretched) l_stretched c_stretched k_stretched
  have b_stretched := F_stretched.binds (ps := P_stretched) fun _ _ _ _ _ _ us hl => match us, hl with | [_], _ => rfl
  have F__value_for := fun_mk (st := s__value_for) l__value_for c__value_for k__value_for
  have b__value_for := F__value_for.binds (ps := P__value_for) fun _ _ _ _ _ _ us hl => match us, hl with | [_, _, _], _ => rfl
  have F_part_at := fun_mk (st := s_part_at) l_part_at c_part_at k_part_at
  have b_part_at := F_part_at.binds (ps := P_part_at) fun _ _ _ _ _ _ us hl => match us, hl with | [_, _, _], _ => rfl
  have F_l_begin := fun_mk (st := s_l_begin) l_l_begin c_l_begin k_l_begin
  have b_l_begin := F_l_begin.binds (ps := P_l_begin) fun _ _ _ _ _ _ us hl => match us, hl with | [_], _ => rfl
  have F_l_draw := fun_mk (st := s_l_draw) l_l_draw c_l_draw k_l_draw
  have b_l_draw := F_l_draw.binds (ps := P_l_draw) fun _ _ _ _ _ _ us hl => match us, hl with | [_, _], _ => rfl
  have F_l_pick := fun_mk (st := s_l_pick) l_l_pick c_l_pick k_l_pick
  have b_l_pick := F_l_pick.binds (ps := P_l_pick) fun _ _ _ _ _ _ us hl => match us, hl with | [_, _], _ => rfl
  have F_l_value := fun_mk (st := s_l_value) l_l_value c_l_value k_l_value
  have b_l_value := F_l_value.binds (ps := P_l_value) fun _ _ _ _ _ _ us hl => match us, hl with | [_], _ => rfl
  have F_l_rows := fun_mk (st := s_l_rows) l_l_rows c_l_rows k_l_rows
  have b_l_rows := F_l_rows.binds (ps := P_l_rows) fun _ _ _ _ _ _ us hl => match us, hl with | [_], _ => rfl
  have F_l_given := fun_mk (st := s_l_given) l_l_given c_l_given k_l_given
  have b_l_given := F_l_given.binds (ps := P_l_given) fun _ _ _ _ _ _ us hl => match us, hl with | [_, _, _], _ => rfl
  have F_l_same := fun_mk (st := s_l_same) l_l_same c_l_same k_l_same
  have b_l_same := F_l_same.binds (ps := P_l_same) fun _ _ _ _ _ _ us hl => match us, hl with | [_, _], _ => rfl
  have F_l_refused := fun_mk (st := s_l_refused) l_l_refused c_l_refused k_l_refused
  have b_l_refused := F_l_refused.binds (ps := P_l_refused) fun _ _ _ _ _ _ us hl => match us, hl with | [_, _], _ => rfl
  have FC_l_are_refused : FunC K "_law_are_refused" "_law_are_refused" s_l_are_refused g_l_are_refused c_R (PySem.W.fnOf "_law_are_refused" "_law_are_refused" (defArgs s_l_are_refused) (defBody s_l_are_refused) (defScope s_l_are_refused) .none kV_l_are_refused dc_l_are_refused pm_l_are_refused an_l_are_refused (.ref c_R) ct_l_are_refused) := ⟨⟨_, _, _, _, _, _, _, _, rfl, l_l_are_refused, c_l_are_refused⟩, k_l_are_refused⟩
  have F_l_are_refused := FC_l_are_refused.toFun
  have b_l_are_refused := F_l_are_refused.binds (ps := P_l_are_refused) fun _ _ _ _ _ _ us hl => match us, hl with | [_, _], _ => rfl
  have F_law := fun_mk (st := s_law) l_law c_law k_law
  have b_law := F_law.binds (ps := P_law) fun _ _ _ _ _ _ us hl => match us, hl with | [_], _ => rfl
  have T : Txt K mg ({ f_l_are_refused := g_l_are_refused, d_l_are_refused := (PySem.W.fnOf "_law_are_refused" "_law_are_refused" (defArgs s_l_are_refused) (defBody s_l_are_refused) (defScope s_l_are_refused) .none kV_l_are_refused dc_l_are_refused pm_l_are_refused an_l_are_refused (.ref c_R) ct_l_are_refused), c_l_are_refused := c_R, t_l_are_refused := tR, f_law := fa, d_law := (PySem.W.fnOf "law" "law" (defArgs s_law) (defBody s_law) (defScope s_law) .none kV_law dc_law pm_law an_law cd_law ct_law), c_law := S, t_law := S, a_FAULT_KINDS := aFK, f_l_begin := g_l_begin, d_l_begin := (PySem.W.fnOf "_law_begin" "_law_begin" (defArgs s_l_begin) (defBody s_l_begin) (defScope s_l_begin) .none kV_l_begin dc_l_begin pm_l_begin an_l_begin cd_l_begin ct_l_begin), f_l_refused := g_l_refused, d_l_refused := (PySem.W.fnOf "_law_refused" "_law_refused" (defArgs s_l_refused) (defBody s_l_refused) (defScope s_l_refused) .none kV_l_refused dc_l_refused pm_l_refused an_l_refused cd_l_refused ct_l_refused), f_Grid___eq__ := m_G___eq__, d_Grid___eq__ := (PySem.W.fnOf "__eq__" "Grid.__eq__" (defArgs s_Grid___eq__) (defBody s_Grid___eq__) (defScope s_Grid___eq__) .none kV_G___eq__ dc_G___eq__ pm_G___eq__ an_G___eq__ cd_G___eq__ ct_G___eq__), S := S, TT := [(tR, qOf "_law_are_refused")], C_BadValue := C_B, i_BadValue := f_B, e_BadValue := (PySem.W.fnOf "__init__" "BadValue.__init__" (defArgs s_BadValue_init) (defBody s_BadValue_init) (defScope s_BadValue_init) .none kV_iB dc_iB pm_iB an_iB cd_iB ct_iB), C_NoDivisor := C_D, C_Ratio := C_T, C_Fault := C_F, C_Grid := C_G, C_Strand := C_Z, C_Member := C_M, f_is_integer := g_is_integer, d_is_integer := (PySem.W.fnOf "is_integer" "is_integer" (defArgs s_is_integer) (defBody s_is_integer) (defScope s_is_integer) .none kV_is_integer dc_is_integer pm_is_integer an_is_integer cd_is_integer ct_is_integer), f_is_plain := g_is_plain, d_is_plain := (PySem.W.fnOf "is_plain" "is_plain" (defArgs s_is_plain) (defBody s_is_plain) (defScope s_is_plain) .none kV_is_plain dc_is_plain pm_is_plain an_is_plain cd_is_plain ct_is_plain), f_check_integer := g_check_integer, d_check_integer := (PySem.W.fnOf "check_integer" "check_integer" (defArgs s_check_integer) (defBody s_check_integer) (defScope s_check_integer) .none kV_check_integer dc_check_integer pm_check_integer an_check_integer cd_check_integer ct_check_integer), f_check_list := g_check_list, d_check_list := (PySem.W.fnOf "check_list" "check_list" (defArgs s_check_list) (defBody s_check_list) (defScope s_check_list) .none kV_check_list dc_check_list pm_check_list an_check_list cd_check_list ct_check_list), f_Ratio_init := i_at_T, d_Ratio_init := (PySem.W.fnOf "__init__" "Ratio.__init__" (defArgs s_Ratio_init) (defBody s_Ratio_init) (defScope s_Ratio_init) (.ref dT) .none dc_iT pm_iT an_iT cd_iT ct_iT), f_Ratio___eq__ := m_T___eq__, d_Ratio___eq__ := (PySem.W.fnOf "__eq__" "Ratio.__eq__" (defArgs s_Ratio___eq__) (defBody s_Ratio___eq__) (defScope s_Ratio___eq__) .none kV_T___eq__ dc_T___eq__ pm_T___eq__ an_T___eq__ cd_T___eq__ ct_T___eq__), f_Fault_init := i_at_F, d_Fault_init := (PySem.W.fnOf "__init__" "Fault.__init__" (defArgs s_Fault_init) (defBody s_Fault_init) (defScope s_Fault_init) .none kV_iF dc_iF pm_iF an_iF cd_iF ct_iF), f_Fault___eq__ := m_F___eq__, d_Fault___eq__ := (PySem.W.fnOf "__eq__" "Fault.__eq__" (defArgs s_Fault___eq__) (defBody s_Fault___eq__) (defScope s_Fault___eq__) .none kV_F___eq__ dc_F___eq__ pm_F___eq__ an_F___eq__ cd_F___eq__ ct_F___eq__), f_is_number := g_is_number, d_is_number := (PySem.W.fnOf "is_number" "is_number" (defArgs s_is_number) (defBody s_is_number) (defScope s_is_number) .none kV_is_number dc_is_number pm_is_number an_is_number cd_is_number ct_is_number), f_is_text := g_is_text, d_is_text := (PySem.W.fnOf "is_text" "is_text" (defArgs s_is_text) (defBody s_is_text) (defScope s_is_text) .none kV_is_text dc_is_text pm_is_text an_is_text cd_is_text ct_is_text), f_is_value := g_is_value, d_is_value := (PySem.W.fnOf "is_value" "is_value" (defArgs s_is_value) (defBody s_is_value) (defScope s_is_value) .none kV_is_value dc_is_value pm_is_value an_is_value cd_is_value ct_is_value), f_check_grid := g_check_grid, d_check_grid := (PySem.W.fnOf "check_grid" "check_grid" (defArgs s_check_grid) (defBody s_check_grid) (defScope s_check_grid) .none kV_check_grid dc_check_grid pm_check_grid an_check_grid cd_check_grid ct_check_grid), f__is_row := g__is_row, d__is_row := (PySem.W.fnOf "_is_row" "_is_row" (defArgs s__is_row) (defBody s__is_row) (defScope s__is_row) .none kV__is_row dc__is_row pm__is_row an__is_row cd__is_row ct__is_row), f__is_table := g__is_table, d__is_table := (PySem.W.fnOf "_is_table" "_is_table" (defArgs s__is_table) (defBody s__is_table) (defScope s__is_table) .none kV__is_table dc__is_table pm__is_table an__is_table cd__is_table ct__is_table), f_is_corner := g_is_corner, d_is_corner := (PySem.W.fnOf "is_corner" "is_corner" (defArgs s_is_corner) (defBody s_is_corner) (defScope s_is_corner) .none kV_is_corner dc_is_corner pm_is_corner an_is_corner cd_is_corner ct_is_corner), f_Grid_init := i_at_G, d_Grid_init := (PySem.W.fnOf "__init__" "Grid.__init__" (defArgs s_Grid_init) (defBody s_Grid_init) (defScope s_Grid_init) (.ref dG) .none dc_iG pm_iG an_iG cd_iG ct_iG), f__size_of_all := g__size_of_all, d__size_of_all := (PySem.W.fnOf "_size_of_all" "_size_of_all" (defArgs s__size_of_all) (defBody s__size_of_all) (defScope s__size_of_all) .none kV__size_of_all dc__size_of_all pm__size_of_all an__size_of_all cd__size_of_all ct__size_of_all), f_stretched := g_stretched, d_stretched := (PySem.W.fnOf "stretched" "stretched" (defArgs s_stretched) (defBody s_stretched) (defScope s_stretched) .none kV_stretched dc_stretched pm_stretched an_stretched cd_stretched ct_stretched), f__value_for := g__value_for, d__value_for := (PySem.W.fnOf "_value_for" "_value_for" (defArgs s__value_for) (defBody s__value_for) (defScope s__value_for) .none kV__value_for dc__value_for pm__value_for an__value_for cd__value_for ct__value_for), f_part_at := g_part_at, d_part_at := (PySem.W.fnOf "part_at" "part_at" (defArgs s_part_at) (defBody s_part_at) (defScope s_part_at) .none kV_part_at dc_part_at pm_part_at an_part_at cd_part_at ct_part_at), f_l_draw := g_l_draw, d_l_draw := (PySem.W.fnOf "_law_draw" "_law_draw" (defArgs s_l_draw) (defBody s_l_draw) (defScope s_l_draw) .none kV_l_draw dc_l_draw pm_l_draw an_l_draw cd_l_draw ct_l_draw), f_l_pick := g_l_pick, d_l_pick := (PySem.W.fnOf "_law_pick" "_law_pick" (defArgs s_l_pick) (defBody s_l_pick) (defScope s_l_pick) .none kV_l_pick dc_l_pick pm_l_pick an_l_pick cd_l_pick ct_l_pick), f_l_value := g_l_value, d_l_value := (PySem.W.fnOf "_law_value" "_law_value" (defArgs s_l_value) (defBody s_l_value) (defScope s_l_value) .none kV_l_value dc_l_value pm_l_value an_l_value cd_l_value ct_l_value), f_l_rows := g_l_rows, d_l_rows := (PySem.W.fnOf "_law_rows" "_law_rows" (defArgs s_l_rows) (defBody s_l_rows) (defScope s_l_rows) .none kV_l_rows dc_l_rows pm_l_rows an_l_rows cd_l_rows ct_l_rows), f_l_given := g_l_given, d_l_given := (PySem.W.fnOf "_law_given" "_law_given" (defArgs s_l_given) (defBody s_l_given) (defScope s_l_given) .none kV_l_given dc_l_given pm_l_given an_l_given cd_l_given ct_l_given), f_l_same := g_l_same, d_l_same := (PySem.W.fnOf "_law_same" "_law_same" (defArgs s_l_same) (defBody s_l_same) (defScope s_l_same) .none kV_l_same dc_l_same pm_l_same an_l_same cd_l_same ct_l_same) } : Ad) := { n_abs := PySem.W.mg_none_of X G z_abs, n_all := PySem.W.mg_none_of X G z_all, n_bool := PySem.W.mg_none_of X G z_bool, n_int := PySem.W.mg_none_of X G z_int, n_isinstance := PySem.W.mg_none_of X G z_isinstance, n_len := PySem.W.mg_none_of X G z_len, n_list := PySem.W.mg_none_of X G z_list, n_max := PySem.W.mg_none_of X G z_max, n_range := PySem.W.mg_none_of X G z_range, n_repr := PySem.W.mg_none_of X G z_repr, n_str := PySem.W.mg_none_of X G z_str, n_tuple := PySem.W.mg_none_of X G z_tuple, mg_MOST_CHARACTERS := ⟨_, PySem.W.mg_of X G a_MC⟩, mg_MOST_VALUES := ⟨_, PySem.W.mg_of X G a_MV⟩, mg_gcd := PySem.W.mg_of X G a_gcd, e_BadValue := e_B, e_NoDivisor := e_D, mg_Ratio := PySem.W.mg_of X G a_T, oc_Ratio := ⟨cl_T, ha_T, hn, ht, hm_T⟩, mk_Ratio := mk2_T, nA_Ratio_top := nA_T_top, nA_Ratio_bottom := nA_T_bottom, kb_Ratio := fun b => match b with | .non => z1_T_NoneType | .bool => z1_T_bool | .int => z1_T_int | .str => z1_T_str | .tuple => z1_T_tuple | .list => z1_T_list | .dict => z1_T_dict, kt_Ratio_bool := kt_T_bool, kt_Ratio_int := kt_T_int, kt_Ratio_str := kt_T_str, kt_Ratio_list := kt_T_list, kt_Ratio_tuple := kt_T_tuple, kk_Ratio_Fault := kk_TF, kk_Ratio_Grid := kk_TG, kk_Ratio_Strand := kk_TZ, kk_Ratio_Member := kk_TM, mg_Fault := PySem.W.mg_of X G a_F, oc_Fault := ⟨cl_F, ha_F, hn, ht, hm_F⟩, mk_Fault := mk2_F, nA_Fault_kind := nA_F_kind, kb_Fault := fun b => match b with | .non => z1_F_NoneType | .bool => z1_F_bool | .int => z1_F_int | .str => z1_F_str | .tuple => z1_F_tuple | .list => z1_F_list | .dict => z1_F_dict, kt_Fault_bool := kt_F_bool, kt_Fault_int := kt_F_int, kt_Fault_str := kt_F_str, kt_Fault_list := kt_F_list, kt_Fault_tuple := kt_F_tuple, kk_Fault_Ratio := kk_FT, kk_Fault_Grid := kk_FG, kk_Fault_Strand := kk_FZ, kk_Fault_Member := kk_FM, mg_Grid := PySem.W.mg_of X G a_G, oc_Grid := ⟨cl_G, ha_G, hn, ht, hm_G⟩, mk_Grid := mk2_G, nA_Grid_rows := nA_G_rows, nA_Grid_height := nA_G_height, nA_Grid_width := nA_G_width, nA_Grid_corner := nA_G_corner, kb_Grid := fun b => match b with | .non => z1_G_NoneType | .bool => z1_G_bool | .int => z1_G_int | .str => z1_G_str | .tuple => z1_G_tuple | .list => z1_G_list | .dict => z1_G_dict, kt_Grid_list := kt_G_list, kt_Grid_tuple := kt_G_tuple, kk_Grid_Ratio := kk_GT, kk_Grid_Fault := kk_GF, kk_Grid_Strand := kk_GZ, kk_Grid_Member := kk_GM, mg_Strand := PySem.W.mg_of X G a_Z, oc_Strand := ⟨cl_Z, ha_Z, hn, ht, hm_Z⟩, kb_Strand := fun b => match b with | .non => z1_Z_NoneType | .bool => z1_Z_bool | .int => z1_Z_int | .str => z1_Z_str | .tuple => z1_Z_tuple | .list => z1_Z_list | .dict => z1_Z_dict, kk_Strand_Ratio := kk_ZT, kk_Strand_Fault := kk_ZF, kk_Strand_Grid := kk_ZG, kk_Strand_Member := kk_ZM, mg_Member := PySem.W.mg_of X G a_M, oc_Member := ⟨cl_M, ha_M, hn, ht, hm_M⟩, kb_Member := fun b => match b with | .non => z1_M_NoneType | .bool => z1_M_bool | .int => z1_M_int | .str => z1_M_str | .tuple => z1_M_tuple | .list => z1_M_list | .dict => z1_M_dict, kk_Member_Ratio := kk_MT, kk_Member_Fault := kk_MF, kk_Member_Grid := kk_MG, kk_Member_Strand := kk_MZ, mg_is_integer := PySem.W.mg_of X G a_is_integer, F_is_integer := F_is_integer, b_is_integer := b_is_integer, mg_is_plain := PySem.W.mg_of X G a_is_plain, F_is_plain := F_is_plain, b_is_plain := b_is_plain, mg_check_integer := PySem.W.mg_of X G a_check_integer, F_check_integer := F_check_integer, b_check_integer := b_check_integer, mg_check_list := PySem.W.mg_of X G a_check_list, F_check_list := F_check_list, b_check_list := b_check_list, F_Ratio_init := F_Ti, F_Ratio___eq__ := F_T___eq__, b_Ratio___eq__ := b_T___eq__, h_Ratio___eq__ := h_T___eq__, F_Fault_init := F_iF, b_Fault_init := b_iF, F_Fault___eq__ := F_F___eq__, b_Fault___eq__ := b_F___eq__, h_Fault___eq__ := h_F___eq__, mg_is_number := PySem.W.mg_of X G a_is_number, F_is_number := F_is_number, b_is_number := b_is_number, mg_is_text := PySem.W.mg_of X G a_is_text, F_is_text := F_is_text, b_is_text := b_is_text, mg_is_value := PySem.W.mg_of X G a_is_value, F_is_value := F_is_value, b_is_value := b_is_value, mg_check_grid := PySem.W.mg_of X G a_check_grid, F_check_grid := F_check_grid, b_check_grid := b_check_grid, mg__is_row := PySem.W.mg_of X G a__is_row, F__is_row := F__is_row, b__is_row := b__is_row, mg__is_table := PySem.W.mg_of X G a__is_table, F__is_table := F__is_table, b__is_table := b__is_table, mg_is_corner := PySem.W.mg_of X G a_is_corner, F_is_corner := F_is_corner, b_is_corner := b_is_corner, F_Grid_init := F_Gi, mg__size_of_all := PySem.W.mg_of X G a__size_of_all, F__size_of_all := F__size_of_all, b__size_of_all := b__size_of_all, mg_stretched := PySem.W.mg_of X G a_stretched, F_stretched := F_stretched, b_stretched := b_stretched, mg__value_for := PySem.W.mg_of X G a__value_for, F__value_for := F__value_for, b__value_for := b__value_for, mg_part_at := PySem.W.mg_of X G a_part_at, F_part_at := F_part_at, b_part_at := b_part_at, mg_l_draw := PySem.W.mg_of X G a_l_draw, F_l_draw := F_l_draw, b_l_draw := b_l_draw, mg_l_pick := PySem.W.mg_of X G a_l_pick, F_l_pick := F_l_pick, b_l_pick := b_l_pick, mg_l_value := PySem.W.mg_of X G a_l_value, F_l_value := F_l_value, b_l_value := b_l_value, mg_l_rows := PySem.W.mg_of X G a_l_rows, F_l_rows := F_l_rows, b_l_rows := b_l_rows, mg_l_given := PySem.W.mg_of X G a_l_given, F_l_given := F_l_given, b_l_given := b_l_given, mg_l_same := PySem.W.mg_of X G a_l_same, F_l_same := F_l_same, b_l_same := b_l_same, mg_FAULT_KINDS := PySem.W.mg_of X G a_FK, kt_FAULT_KINDS := kt_FK }
  have TG : TxtG K mg ({ f_l_are_refused := g_l_are_refused, d_l_are_refused := (PySem.W.fnOf "_law_are_refused" "_law_are_refused" (defArgs s_l_are_refused) (defBody s_l_are_refused) (defScope s_l_are_refused) .none kV_l_are_refused dc_l_are_refused pm_l_are_refused an_l_are_refused (.ref c_R) ct_l_are_refused), c_l_are_refused := c_R, t_l_are_refused := tR, f_law := fa, d_law := (PySem.W.fnOf "law" "law" (defArgs s_law) (defBody s_law) (defScope s_law) .none kV_law dc_law pm_law an_law cd_law ct_law), c_law := S, t_law := S, a_FAULT_KINDS := aFK, f_l_begin := g_l_begin, d_l_begin := (PySem.W.fnOf "_law_begin" "_law_begin" (defArgs s_l_begin) (defBody s_l_begin) (defScope s_l_begin) .none kV_l_begin dc_l_begin pm_l_begin an_l_begin cd_l_begin ct_l_begin), f_l_refused := g_l_refused, d_l_refused := (PySem.W.fnOf "_law_refused" "_law_refused" (defArgs s_l_refused) (defBody s_l_refused) (defScope s_l_refused) .none kV_l_refused dc_l_refused pm_l_refused an_l_refused cd_l_refused ct_l_refused), f_Grid___eq__ := m_G___eq__, d_Grid___eq__ := (PySem.W.fnOf "__eq__" "Grid.__eq__" (defArgs s_Grid___eq__) (defBody s_Grid___eq__) (defScope s_Grid___eq__) .none kV_G___eq__ dc_G___eq__ pm_G___eq__ an_G___eq__ cd_G___eq__ ct_G___eq__), S := S, TT := [(tR, qOf "_law_are_refused")], C_BadValue := C_B, i_BadValue := f_B, e_BadValue := (PySem.W.fnOf "__init__" "BadValue.__init__" (defArgs s_BadValue_init) (defBody s_BadValue_init) (defScope s_BadValue_init) .none kV_iB dc_iB pm_iB an_iB cd_iB ct_iB), C_NoDivisor := C_D, C_Ratio := C_T, C_Fault := C_F, C_Grid := C_G, C_Strand := C_Z, C_Member := C_M, f_is_integer := g_is_integer, d_is_integer := (PySem.W.fnOf "is_integer" "is_integer" (defArgs s_is_integer) (defBody s_is_integer) (defScope s_is_integer) .none kV_is_integer dc_is_integer pm_is_integer an_is_integer cd_is_integer ct_is_integer), f_is_plain := g_is_plain, d_is_plain := (PySem.W.fnOf "is_plain" "is_plain" (defArgs s_is_plain) (defBody s_is_plain) (defScope s_is_plain) .none kV_is_plain dc_is_plain pm_is_plain an_is_plain cd_is_plain ct_is_plain), f_check_integer := g_check_integer, d_check_integer := (PySem.W.fnOf "check_integer" "check_integer" (defArgs s_check_integer) (defBody s_check_integer) (defScope s_check_integer) .none kV_check_integer dc_check_integer pm_check_integer an_check_integer cd_check_integer ct_check_integer), f_check_list := g_check_list, d_check_list := (PySem.W.fnOf "check_list" "check_list" (defArgs s_check_list) (defBody s_check_list) (defScope s_check_list) .none kV_check_list dc_check_list pm_check_list an_check_list cd_check_list ct_check_list), f_Ratio_init := i_at_T, d_Ratio_init := (PySem.W.fnOf "__init__" "Ratio.__init__" (defArgs s_Ratio_init) (defBody s_Ratio_init) (defScope s_Ratio_init) (.ref dT) .none dc_iT pm_iT an_iT cd_iT ct_iT), f_Ratio___eq__ := m_T___eq__, d_Ratio___eq__ := (PySem.W.fnOf "__eq__" "Ratio.__eq__" (defArgs s_Ratio___eq__) (defBody s_Ratio___eq__) (defScope s_Ratio___eq__) .none kV_T___eq__ dc_T___eq__ pm_T___eq__ an_T___eq__ cd_T___eq__ ct_T___eq__), f_Fault_init := i_at_F, d_Fault_init := (PySem.W.fnOf "__init__" "Fault.__init__" (defArgs s_Fault_init) (defBody s_Fault_init) (defScope s_Fault_init) .none kV_iF dc_iF pm_iF an_iF cd_iF ct_iF), f_Fault___eq__ := m_F___eq__, d_Fault___eq__ := (PySem.W.fnOf "__eq__" "Fault.__eq__" (defArgs s_Fault___eq__) (defBody s_Fault___eq__) (defScope s_Fault___eq__) .none kV_F___eq__ dc_F___eq__ pm_F___eq__ an_F___eq__ cd_F___eq__ ct_F___eq__), f_is_number := g_is_number, d_is_number := (PySem.W.fnOf "is_number" "is_number" (defArgs s_is_number) (defBody s_is_number) (defScope s_is_number) .none kV_is_number dc_is_number pm_is_number an_is_number cd_is_number ct_is_number), f_is_text := g_is_text, d_is_text := (PySem.W.fnOf "is_text" "is_text" (defArgs s_is_text) (defBody s_is_text) (defScope s_is_text) .none kV_is_text dc_is_text pm_is_text an_is_text cd_is_text ct_is_text), f_is_value := g_is_value, d_is_value := (PySem.W.fnOf "is_value" "is_value" (defArgs s_is_value) (defBody s_is_value) (defScope s_is_value) .none kV_is_value dc_is_value pm_is_value an_is_value cd_is_value ct_is_value), f_check_grid := g_check_grid, d_check_grid := (PySem.W.fnOf "check_grid" "check_grid" (defArgs s_check_grid) (defBody s_check_grid) (defScope s_check_grid) .none kV_check_grid dc_check_grid pm_check_grid an_check_grid cd_check_grid ct_check_grid), f__is_row := g__is_row, d__is_row := (PySem.W.fnOf "_is_row" "_is_row" (defArgs s__is_row) (defBody s__is_row) (defScope s__is_row) .none kV__is_row dc__is_row pm__is_row an__is_row cd__is_row ct__is_row), f__is_table := g__is_table, d__is_table := (PySem.W.fnOf "_is_table" "_is_table" (defArgs s__is_table) (defBody s__is_table) (defScope s__is_table) .none kV__is_table dc__is_table pm__is_table an__is_table cd__is_table ct__is_table), f_is_corner := g_is_corner, d_is_corner := (PySem.W.fnOf "is_corner" "is_corner" (defArgs s_is_corner) (defBody s_is_corner) (defScope s_is_corner) .none kV_is_corner dc_is_corner pm_is_corner an_is_corner cd_is_corner ct_is_corner), f_Grid_init := i_at_G, d_Grid_init := (PySem.W.fnOf "__init__" "Grid.__init__" (defArgs s_Grid_init) (defBody s_Grid_init) (defScope s_Grid_init) (.ref dG) .none dc_iG pm_iG an_iG cd_iG ct_iG), f__size_of_all := g__size_of_all, d__size_of_all := (PySem.W.fnOf "_size_of_all" "_size_of_all" (defArgs s__size_of_all) (defBody s__size_of_all) (defScope s__size_of_all) .none kV__size_of_all dc__size_of_all pm__size_of_all an__size_of_all cd__size_of_all ct__size_of_all), f_stretched := g_stretched, d_stretched := (PySem.W.fnOf "stretched" "stretched" (defArgs s_stretched) (defBody s_stretched) (defScope s_stretched) .none kV_stretched dc_stretched pm_stretched an_stretched cd_stretched ct_stretched), f__value_for := g__value_for, d__value_for := (PySem.W.fnOf "_value_for" "_value_for" (defArgs s__value_for) (defBody s__value_for) (defScope s__value_for) .none kV__value_for dc__value_for pm__value_for an__value_for cd__value_for ct__value_for), f_part_at := g_part_at, d_part_at := (PySem.W.fnOf "part_at" "part_at" (defArgs s_part_at) (defBody s_part_at) (defScope s_part_at) .none kV_part_at dc_part_at pm_part_at an_part_at cd_part_at ct_part_at), f_l_draw := g_l_draw, d_l_draw := (PySem.W.fnOf "_law_draw" "_law_draw" (defArgs s_l_draw) (defBody s_l_draw) (defScope s_l_draw) .none kV_l_draw dc_l_draw pm_l_draw an_l_draw cd_l_draw ct_l_draw), f_l_pick := g_l_pick, d_l_pick := (PySem.W.fnOf "_law_pick" "_law_pick" (defArgs s_l_pick) (defBody s_l_pick) (defScope s_l_pick) .none kV_l_pick dc_l_pick pm_l_pick an_l_pick cd_l_pick ct_l_pick), f_l_value := g_l_value, d_l_value := (PySem.W.fnOf "_law_value" "_law_value" (defArgs s_l_value) (defBody s_l_value) (defScope s_l_value) .none kV_l_value dc_l_value pm_l_value an_l_value cd_l_value ct_l_value), f_l_rows := g_l_rows, d_l_rows := (PySem.W.fnOf "_law_rows" "_law_rows" (defArgs s_l_rows) (defBody s_l_rows) (defScope s_l_rows) .none kV_l_rows dc_l_rows pm_l_rows an_l_rows cd_l_rows ct_l_rows), f_l_given := g_l_given, d_l_given := (PySem.W.fnOf "_law_given" "_law_given" (defArgs s_l_given) (defBody s_l_given) (defScope s_l_given) .none kV_l_given dc_l_given pm_l_given an_l_given cd_l_given ct_l_given), f_l_same := g_l_same, d_l_same := (PySem.W.fnOf "_law_same" "_law_same" (defArgs s_l_same) (defBody s_l_same) (defScope s_l_same) .none kV_l_same dc_l_same pm_l_same an_l_same cd_l_same ct_l_same) } : Ad) := { mg_l_begin := PySem.W.mg_of X G a_l_begin, F_l_begin := F_l_begin, b_l_begin := b_l_begin, mg_l_refused := PySem.W.mg_of X G a_l_refused, F_l_refused := F_l_refused, b_l_refused := b_l_refused, mg_l_are_refused := PySem.W.mg_of X G a_l_are_refused, F_l_are_refused := FC_l_are_refused, b_l_are_refused := b_l_are_refused, mg_law := hfa, F_law := F_law, b_law := b_law, F_Grid___eq__ := F_G___eq__, b_Grid___eq__ := b_G___eq__, h_Grid___eq__ := h_G___eq__ }
  have hmR : (tR, qOf "_law_are_refused") ∈ ([(tR, qOf "_law_are_refused")] : List (Addr × Str)) := (List.mem_cons_self ..)
  have huR : ∀ x ∈ ([(tR, qOf "_law_are_refused")] : List (Addr × Str)), x.1 = tR → x.2 = qOf "_law_are_refused" := List.forall_mem_cons.mpr ⟨fun _ => rfl, fun _ z => absurd z List.not_mem_nil⟩
  refine ⟨(PySem.W.fnOf "law" "law" (defArgs s_law) (defBody s_law) (defScope s_law) .none kV_law dc_law pm_law an_law cd_law ct_law), [(c_R, tR)], spLaw K [(tR, qOf "_law_are_refused")], ?_, ?_, ?_, ?_, ?_, ?_⟩
  · exact List.forall_mem_cons.mpr ⟨tbR, fun _ z => absurd z List.not_mem_nil⟩
  · exact List.forall_mem_cons.mpr ⟨ntR, fun _ z => absurd z List.not_mem_nil⟩
  · exact List.forall_mem_cons.mpr ⟨PySem.W.codeHd_of_K X hdR, fun _ z => absurd z List.not_mem_nil⟩
  · exact fun s v => .of_eq rfl
  · exact fun H a ns hl hbt hH hS => ⟨a, ns, rfl, hS, hl, by
      exact List.forall_mem_cons.mpr ⟨TabS.nil (hH (c_R, tR) (List.mem_cons_self ..)), fun _ z => absurd z List.not_mem_nil⟩
    , fun _ => rfl⟩
  · exact fun base _ _ hB => ok_law T TG (hB _ (List.mem_cons_self ..)) hmR huR K43.main
end K43

set_option Elab.async false
set_option linter.all false
set_option maxRecDepth 100000
set_option maxHeartbeats 4000000
open PySem PySem.W PyProof.Rows
set_option maxRecDepth 100000 in
set_option maxHeartbeats 0 in
theorem PySem.Challenge.cw_allinputs_k43_places_of_grids_holds : PySem.Challenge.rw_allinputs_k43_places_of_grids.Holds := by
  w_on; o_law
  refine holds_open (r := HD_k43.R) (q := HD_k43.qv) (loose := HD_k43.names) (Xt := fun s => xlAt HD_k43.qv [] s && recOk (HD_k43.R).toRowW.records s) (XP := XL HD_k43.qv []) (Yf := Hook.obs HD_k43.H) (Ya := Hook.val HD_k43.H) (YP := Hook.says HD_k43.H) (N := 17804) HD_k43.left (Hook.of HD_k43.H) (Hook.keeps HD_k43.H) (fun s e => xl_of s (Bool.and_eq_true_iff.mp e).1) XL.keeps (by rfl) (by rfl) (by rfl) (fun s e => recFacts_of (Bool.and_eq_true_iff.mp e).2) (by rfl) (by first | assumption | decide +kernel) (by decide +kernel) ⟨rfl, rfl, rfl, rfl, rfl, by decide +kernel⟩ ?hw ?hc
  case hw => w_witness2
  k_fill
  refine DN.walk_G (l := PySem.Challenge.rw_allinputs_k43_places_of_grids) (n := 63) (k := 18) (x := "_law_script") (CX := fun _ => fun _ _ _ _ _ _ => False) rfl (by decide) rfl ⟨rfl, by decide, by decide⟩ ?F (fun _ _ _ _ _ z => z)
  case F =>
    intro w mg fa h Y G hmg
    have KX := PySem.W.km_in_of Y
    refine ⟨_, KX, ?_⟩
    refine' K43.all_mk 1445 KX G hmg ?a_B ?L_B ?hg_B ?hk_B ?no0_B ?i_B ?kC_B ?sa_B ?ty_B ?l_iB ?c_iB ?k_iB ?a_D ?L_D ?hg_D ?hk_D ?nBS ?nDS ?xC_D ?kC_D ?hn ?ht ?a_T ?L_T ?pg_T ?hd2_T ?po_T ?sa_T ?nA_T_top ?nA_T_bottom ?mk_T ?i_T ?if_T ?kC_T ?ha_T ?hm_T ?ok_T ?l_iT ?c_iT ?k_iT ?tyT_T ?f_T___eq__ ?if_T___eq__ ?l_T___eq__ ?c_T___eq__ ?k_T___eq__ ?y1_T_NoneType ?y1_T_bool ?y1_T_int ?y1_T_str ?y1_T_tuple ?y1_T_list ?y1_T_dict ?a_F ?L_F ?pg_F ?hd2_F ?po_F ?sa_F ?nA_F_kind ?mk_F ?i_F ?if_F ?kC_F ?ha_F ?hm_F ?ok_F ?l_iF ?c_iF ?k_iF ?tyT_F ?f_F___eq__ ?if_F___eq__ ?l_F___eq__ ?c_F___eq__ ?k_F___eq__ ?y1_F_NoneType ?y1_F_bool ?y1_F_int ?y1_F_str ?y1_F_tuple ?y1_F_list ?y1_F_dict ?a_G ?L_G ?pg_G ?hd2_G ?po_G ?sa_G ?nA_G_rows ?nA_G_height ?nA_G_width ?nA_G_corner ?mk_G ?i_G ?if_G ?kC_G ?ha_G ?hm_G ?ok_G ?l_iG ?c_iG ?k_iG ?tyT_G ?f_G___eq__ ?if_G___eq__ ?l_G___eq__ ?c_G___eq__ ?k_G___eq__ ?y1_G_NoneType ?y1_G_bool ?y1_G_int ?y1_G_str ?y1_G_tuple ?y1_G_list ?y1_G_dict ?l_dT ?l_dG ?a_Z ?pg_Z ?hd2_Z ?po_Z ?sa_Z ?ha_Z ?hm_Z ?tyT_Z ?y1_Z_NoneType ?y1_Z_bool ?y1_Z_int ?y1_Z_str ?y1_Z_tuple ?y1_Z_list ?y1_Z_dict ?a_M ?pg_M ?hd2_M ?po_M ?sa_M ?ha_M ?hm_M ?tyT_M ?y1_M_NoneType ?y1_M_bool ?y1_M_int ?y1_M_str ?y1_M_tuple ?y1_M_list ?y1_M_dict ?y3_T_bool ?y3_T_int ?y3_T_str ?y3_T_list ?y3_T_tuple ?y3_F_bool ?y3_F_int ?y3_F_str ?y3_F_list ?y3_F_tuple ?y3_G_list ?y3_G_tuple ?nTF ?nTG ?nTZ ?nTM ?nFG ?nFZ ?nFM ?nGZ ?nGM ?nZM ?y4_TF ?y4_TG ?y4_TZ ?y4_TM ?y4_FT ?y4_FG ?y4_FZ ?y4_FM ?y4_GT ?y4_GF ?y4_GZ ?y4_GM ?y4_ZT ?y4_ZF ?y4_ZG ?y4_ZM ?y4_MT ?y4_MF ?y4_MG ?y4_MZ ?a_MC ?a_MV ?a_gcd ?a_FK ?l_FK ?z_abs ?z_all ?z_bool ?z_int ?z_isinstance ?z_len ?z_list ?z_max ?z_range ?z_repr ?z_str ?z_tuple ?a_is_integer ?l_is_integer ?c_is_integer ?k_is_integer ?a_is_plain ?l_is_plain ?c_is_plain ?k_is_plain ?a_check_integer ?l_check_integer ?c_check_integer ?k_check_integer ?a_check_list ?l_check_list ?c_check_list ?k_check_list ?a_is_number ?l_is_number ?c_is_number ?k_is_number ?a_is_text ?l_is_text ?c_is_text ?k_is_text ?a_is_value ?l_is_value ?c_is_value ?k_is_value ?a_check_grid ?l_check_grid ?c_check_grid ?k_check_grid ?a__is_row ?l__is_row ?c__is_row ?k__is_row ?a__is_table ?l__is_table ?c__is_table ?k__is_table ?a_is_corner ?l_is_corner ?c_is_corner ?k_is_corner ?a__size_of_all ?l__size_of_all ?c__size_of_all ?k__size_of_all ?a_stretched ?l_stretched ?c_stretched ?k_stretched ?a__value_for ?l__value_for ?c__value_for ?k__value_for ?a_part_at ?l_part_at ?c_part_at ?k_part_at ?a_l_begin ?l_l_begin ?c_l_begin ?k_l_begin ?a_l_draw ?l_l_draw ?c_l_draw ?k_l_draw ?a_l_pick ?l_l_pick ?c_l_pick ?k_l_pick ?a_l_value ?l_l_value ?c_l_value ?k_l_value ?a_l_rows ?l_l_rows ?c_l_rows ?k_l_rows ?a_l_given ?l_l_given ?c_l_given ?k_l_given ?a_l_same ?l_l_same ?c_l_same ?k_l_same ?a_l_refused ?l_l_refused ?c_l_refused ?k_l_refused ?a_l_are_refused ?l_l_are_refused ?c_l_are_refused ?k_l_are_refused ?a_law ?l_law ?c_law ?k_law ?hdR ?ntR ?tbR
    (case a_B => k_is)
    (case L_B => k_is)
    (case hg_B => k_is)
    (case hk_B => k_is)
    (case no0_B => k_is)
    (case i_B => k_is)
    (case kC_B => k_is)
    (case sa_B => k_is)
    (case ty_B => k_is)
    (case l_iB => k_is)
    (case c_iB => k_is)
    (case k_iB => k_is)
    (case a_D => k_is)
    (case L_D => k_is)
    (case hg_D => k_is)
    (case hk_D => k_is)
    (case nBS => decide)
    (case nDS => decide)
    (case xC_D => k_exc)
    (case kC_D => k_is)
    (case hn => k_is)
    (case ht => k_is)
    (case a_T => k_is)
    (case L_T => k_is)
    (case pg_T => k_is)
    (case hd2_T => k_is)
    (case po_T => k_is)
    (case sa_T => k_is)
    (case nA_T_top => k_is)
    (case nA_T_bottom => k_is)
    (case mk_T => k_is)
    (case i_T => k_is)
    (case if_T => k_is)
    (case kC_T => k_is)
    (case ha_T => k_is)
    (case hm_T => k_is)
    (case ok_T => kernel_rfl)
    (case l_iT => k_is)
    (case c_iT => k_is)
    (case k_iT => k_is)
    (case tyT_T => k_is)
    (case f_T___eq__ => k_is)
    (case if_T___eq__ => k_is)
    (case l_T___eq__ => k_is)
    (case c_T___eq__ => k_is)
    (case k_T___eq__ => k_is)
    (case y1_T_NoneType => k_is)
    (case y1_T_bool => k_is)
    (case y1_T_int => k_is)
    (case y1_T_str => k_is)
    (case y1_T_tuple => k_is)
    (case y1_T_list => k_is)
    (case y1_T_dict => k_is)
    (case a_F => k_is)
    (case L_F => k_is)
    (case pg_F => k_is)
    (case hd2_F => k_is)
    (case po_F => k_is)
    (case sa_F => k_is)
    (case nA_F_kind => k_is)
    (case mk_F => k_is)
    (case i_F => k_is)
    (case if_F => k_is)
    (case kC_F => k_is)
    (case ha_F => k_is)
    (case hm_F => k_is)
    (case ok_F => kernel_rfl)
    (case l_iF => k_is)
    (case c_iF => k_is)
    (case k_iF => k_is)
    (case tyT_F => k_is)
    (case f_F___eq__ => k_is)
    (case if_F___eq__ => k_is)
    (case l_F___eq__ => k_is)
    (case c_F___eq__ => k_is)
    (case k_F___eq__ => k_is)
    (case y1_F_NoneType => k_is)
    (case y1_F_bool => k_is)
    (case y1_F_int => k_is)
    (case y1_F_str => k_is)
    (case y1_F_tuple => k_is)
    (case y1_F_list => k_is)
    (case y1_F_dict => k_is)
    (case a_G => k_is)
    (case L_G => k_is)
    (case pg_G => k_is)
    (case hd2_G => k_is)
    (case po_G => k_is)
    (case sa_G => k_is)
    (case nA_G_rows => k_is)
    (case nA_G_height => k_is)
    (case nA_G_width => k_is)
    (case nA_G_corner => k_is)
    (case mk_G => k_is)
    (case i_G => k_is)
    (case if_G => k_is)
    (case kC_G => k_is)
    (case ha_G => k_is)
    (case hm_G => k_is)
    (case ok_G => kernel_rfl)
    (case l_iG => k_is)
    (case c_iG => k_is)
    (case k_iG => k_is)
    (case tyT_G => k_is)
    (case f_G___eq__ => k_is)
    (case if_G___eq__ => k_is)
    (case l_G___eq__ => k_is)
    (case c_G___eq__ => k_is)
    (case k_G___eq__ => k_is)
    (case y1_G_NoneType => k_is)
    (case y1_G_bool => k_is)
    (case y1_G_int => k_is)
    (case y1_G_str => k_is)
    (case y1_G_tuple => k_is)
    (case y1_G_list => k_is)
    (case y1_G_dict => k_is)
    (case l_dT => k_is)
    (case l_dG => k_is)
    (case a_Z => k_is)
    (case pg_Z => k_is)
    (case hd2_Z => k_is)
    (case po_Z => k_is)
    (case sa_Z => k_is)
    (case ha_Z => k_is)
    (case hm_Z => k_is)
    (case tyT_Z => k_is)
    (case y1_Z_NoneType => k_is)
    (case y1_Z_bool => k_is)
    (case y1_Z_int => k_is)
    (case y1_Z_str => k_is)
    (case y1_Z_tuple => k_is)
    (case y1_Z_list => k_is)
    (case y1_Z_dict => k_is)
    (case a_M => k_is)
    (case pg_M => k_is)
    (case hd2_M => k_is)
    (case po_M => k_is)
    (case sa_M => k_is)
    (case ha_M => k_is)
    (case hm_M => k_is)
    (case tyT_M => k_is)
    (case y1_M_NoneType => k_is)
    (case y1_M_bool => k_is)
    (case y1_M_int => k_is)
    (case y1_M_str => k_is)
    (case y1_M_tuple => k_is)
    (case y1_M_list => k_is)
    (case y1_M_dict => k_is)
    (case y3_T_bool => first | k_is | kernel_rfl)
    (case y3_T_int => first | k_is | kernel_rfl)
    (case y3_T_str => first | k_is | kernel_rfl)
    (case y3_T_list => first | k_is | kernel_rfl)
    (case y3_T_tuple => first | k_is | kernel_rfl)
    (case y3_F_bool => first | k_is | kernel_rfl)
    (case y3_F_int => first | k_is | kernel_rfl)
    (case y3_F_str => first | k_is | kernel_rfl)
    (case y3_F_list => first | k_is | kernel_rfl)
    (case y3_F_tuple => first | k_is | kernel_rfl)
    (case y3_G_list => first | k_is | kernel_rfl)
    (case y3_G_tuple => first | k_is | kernel_rfl)
    (case nTF => decide)
    (case nTG => decide)
    (case nTZ => decide)
    (case nTM => decide)
    (case nFG => decide)
    (case nFZ => decide)
    (case nFM => decide)
    (case nGZ => decide)
    (case nGM => decide)
    (case nZM => decide)
    (case y4_TF => first | k_is | kernel_rfl)
    (case y4_TG => first | k_is | kernel_rfl)
    (case y4_TZ => first | k_is | kernel_rfl)
    (case y4_TM => first | k_is | kernel_rfl)
    (case y4_FT => first | k_is | kernel_rfl)
    (case y4_FG => first | k_is | kernel_rfl)
    (case y4_FZ => first | k_is | kernel_rfl)
    (case y4_FM => first | k_is | kernel_rfl)
    (case y4_GT => first | k_is | kernel_rfl)
    (case y4_GF => first | k_is | kernel_rfl)
    (case y4_GZ => first | k_is | kernel_rfl)
    (case y4_GM => first | k_is | kernel_rfl)
    (case y4_ZT => first | k_is | kernel_rfl)
    (case y4_ZF => first | k_is | kernel_rfl)
    (case y4_ZG => first | k_is | kernel_rfl)
    (case y4_ZM => first | k_is | kernel_rfl)
    (case y4_MT => first | k_is | kernel_rfl)
    (case y4_MF => first | k_is | kernel_rfl)
    (case y4_MG => first | k_is | kernel_rfl)
    (case y4_MZ => first | k_is | kernel_rfl)
    (case a_MC => k_is)
    (case a_MV => k_is)
    (case a_gcd => k_is)
    (case a_FK => k_is)
    (case l_FK => k_is)
    (case z_abs => k_is)
    (case z_all => k_is)
    (case z_bool => k_is)
    (case z_int => k_is)
    (case z_isinstance => k_is)
    (case z_len => k_is)
    (case z_list => k_is)
    (case z_max => k_is)
    (case z_range => k_is)
    (case z_repr => k_is)
    (case z_str => k_is)
    (case z_tuple => k_is)
    (case a_is_integer => k_is)
    (case l_is_integer => k_is)
    (case c_is_integer => k_is)
    (case k_is_integer => k_is)
    (case a_is_plain => k_is)
    (case l_is_plain => k_is)
    (case c_is_plain => k_is)
    (case k_is_plain => k_is)
    (case a_check_integer => k_is)
    (case l_check_integer => k_is)
    (case c_check_integer => k_is)
    (case k_check_integer => k_is)
    (case a_check_list => k_is)
    (case l_check_list => k_is)
    (case c_check_list => k_is)
    (case k_check_list => k_is)
    (case a_is_number => k_is)
    (case l_is_number => k_is)
    (case c_is_number => k_is)
    (case k_is_number => k_is)
    (case a_is_text => k_is)
    (case l_is_text => k_is)
    (case c_is_text => k_is)
    (case k_is_text => k_is)
    (case a_is_value => k_is)
    (case l_is_value => k_is)
    (case c_is_value => k_is)
    (case k_is_value => k_is)
    (case a_check_grid => k_is)
    (case l_check_grid => k_is)
    (case c_check_grid => k_is)
    (case k_check_grid => k_is)
    (case a__is_row => k_is)
    (case l__is_row => k_is)
    (case c__is_row => k_is)
    (case k__is_row => k_is)
    (case a__is_table => k_is)
    (case l__is_table => k_is)
    (case c__is_table => k_is)
    (case k__is_table => k_is)
    (case a_is_corner => k_is)
    (case l_is_corner => k_is)
    (case c_is_corner => k_is)
    (case k_is_corner => k_is)
    (case a__size_of_all => k_is)
    (case l__size_of_all => k_is)
    (case c__size_of_all => k_is)
    (case k__size_of_all => k_is)
    (case a_stretched => k_is)
    (case l_stretched => k_is)
    (case c_stretched => k_is)
    (case k_stretched => k_is)
    (case a__value_for => k_is)
    (case l__value_for => k_is)
    (case c__value_for => k_is)
    (case k__value_for => k_is)
    (case a_part_at => k_is)
    (case l_part_at => k_is)
    (case c_part_at => k_is)
    (case k_part_at => k_is)
    (case a_l_begin => k_is)
    (case l_l_begin => k_is)
    (case c_l_begin => k_is)
    (case k_l_begin => k_is)
    (case a_l_draw => k_is)
    (case l_l_draw => k_is)
    (case c_l_draw => k_is)
    (case k_l_draw => k_is)
    (case a_l_pick => k_is)
    (case l_l_pick => k_is)
    (case c_l_pick => k_is)
    (case k_l_pick => k_is)
    (case a_l_value => k_is)
    (case l_l_value => k_is)
    (case c_l_value => k_is)
    (case k_l_value => k_is)
    (case a_l_rows => k_is)
    (case l_l_rows => k_is)
    (case c_l_rows => k_is)
    (case k_l_rows => k_is)
    (case a_l_given => k_is)
    (case l_l_given => k_is)
    (case c_l_given => k_is)
    (case k_l_given => k_is)
    (case a_l_same => k_is)
    (case l_l_same => k_is)
    (case c_l_same => k_is)
    (case k_l_same => k_is)
    (case a_l_refused => k_is)
    (case l_l_refused => k_is)
    (case c_l_refused => k_is)
    (case k_l_refused => k_is)
    (case a_l_are_refused => k_is)
    (case l_l_are_refused => k_is)
    (case c_l_are_refused => k_is)
    (case k_l_are_refused => k_is)
    (case a_law => k_is)
    (case l_law => k_is)
    (case c_law => k_is)
    (case k_law => k_is)
    (case hdR => kernel_rfl)
    (case ntR => first | rfl | kernel_rfl | k_is)
    (case tbR => exact PySem.W.km_tabs_of Y _ (by simp))

