import Derived.Test.YtljbnicolhhicaaGreatDoorZQI
set_option maxHeartbeats 8000000
set_option maxRecDepth 100000
set_option linter.unusedSimpArgs false
set_option linter.unusedVariables false
namespace Go.Proofs.YtljbnicolhhicaaGreatDoor
open Go.ChangeShapes Go.WideShapes Go.ChangeAt Go.RowKit Go.Lib
def ex1:O26:=⟨3,0,0,0,false,0,0,0,0,⟨#[53,55,56,53,45,77,48,49,45,48,49]⟩⟩
def ex2:O26:=⟨13,0,0,0,false,0,0,0,0,⟨#[]⟩⟩
theorem acE(m:Int)(H1:Yes m 8 #[ex1.v] (A26.v {n:=739162,y:=5785,m:=1,d:=1}))(H2:Yes m 8 #[ex2.v] (A26.v {e:=8})):
  Yes m 5 #[] (.bool true):=by
 intro w hT
 go_enter (vF Tryz.func5),Tryz.ntmps5
 go_wp2_with fail
 refine(H1 _ (hT.below bel)).mono ?_
 rintro e w1 ⟨rfl,hb1⟩
 have hB1:Below w.1.size w w1:=bt bel hb1
 go_wp2_with (refine wpList_store_row rfl _ _ _ rfl _ _ rfl rfl _ _ (al0 _ _) vK rfl vK ?_)
 have hB2:Below w1.1.size w1 ((w1.alloc (.cells #[(0:Int),(0:Int),(0:Int),(0:Int),false,(0:Int),(0:Int),(0:Int),(0:Int),(0:Int),(0:Int),(0:Int),(0:Int),.string ⟨#[]⟩] 39)).setRow w1.1.size (A26.c {n:=739162,y:=5785,m:=1,d:=1})):=below_setRow (ba _ _) (Nat.le_refl _) _
 have hR1:((w1.alloc (.cells #[(0:Int),(0:Int),(0:Int),(0:Int),false,(0:Int),(0:Int),(0:Int),(0:Int),(0:Int),(0:Int),(0:Int),(0:Int),.string ⟨#[]⟩] 39)).setRow w1.1.size (A26.c {n:=739162,y:=5785,m:=1,d:=1})).1[w1.1.size]? =some (.cells (A26.c {n:=739162,y:=5785,m:=1,d:=1}) 39):=setRow_heap _ _ _ _ _ _ (al0 _ _)
 refine(H2 _ (hT.below (bt hB1 hB2))).mono ?_
 rintro e w3 ⟨rfl,hb3⟩
 have hR3:w3.1[w1.1.size]? =some (.cells (A26.c {n:=739162,y:=5785,m:=1,d:=1}) 39):=(hb3.block _ (Array.getElem?_eq_some_iff.1 hR1).1).trans hR1
 have hB3:Below w.1.size w w3:=bt hB1 (bt hB2 hb3)
 have hlt:=(Array.getElem?_eq_some_iff.1 hR3).1
 have hB4:Below w3.1.size w3 ((w3.alloc (.cells #[(0:Int),(0:Int),(0:Int),(0:Int),false,(0:Int),(0:Int),(0:Int),(0:Int),(0:Int),(0:Int),(0:Int),(0:Int),.string ⟨#[]⟩] 39)).setRow w3.1.size (A26.c {e:=8})):=below_setRow (ba _ _) (Nat.le_refl _) _
 have hR4:((w3.alloc (.cells #[(0:Int),(0:Int),(0:Int),(0:Int),false,(0:Int),(0:Int),(0:Int),(0:Int),(0:Int),(0:Int),(0:Int),(0:Int),.string ⟨#[]⟩] 39)).setRow w3.1.size (A26.c {e:=8})).1[w1.1.size]? =some (.cells (A26.c {n:=739162,y:=5785,m:=1,d:=1}) 39):=(hB4.block _ hlt).trans hR3
 have l0:((w3.alloc (.cells #[(0:Int),(0:Int),(0:Int),(0:Int),false,(0:Int),(0:Int),(0:Int),(0:Int),(0:Int),(0:Int),(0:Int),(0:Int),.string ⟨#[]⟩] 39)).setRow w3.1.size (A26.c {e:=8})).cell? ⟨w1.1.size,0,none⟩=some (.int .i64 0):=World.news_of_block hR4 0 _ rfl
 have l1:((w3.alloc (.cells #[(0:Int),(0:Int),(0:Int),(0:Int),false,(0:Int),(0:Int),(0:Int),(0:Int),(0:Int),(0:Int),(0:Int),(0:Int),.string ⟨#[]⟩] 39)).setRow w3.1.size (A26.c {e:=8})).cell? ⟨w1.1.size,1,none⟩=some (.int .i64 739162):=World.news_of_block hR4 1 _ rfl
 have l2:((w3.alloc (.cells #[(0:Int),(0:Int),(0:Int),(0:Int),false,(0:Int),(0:Int),(0:Int),(0:Int),(0:Int),(0:Int),(0:Int),(0:Int),.string ⟨#[]⟩] 39)).setRow w3.1.size (A26.c {e:=8})).cell? ⟨w1.1.size,2,none⟩=some (.int .i64 5785):=World.news_of_block hR4 2 _ rfl
 have l3:((w3.alloc (.cells #[(0:Int),(0:Int),(0:Int),(0:Int),false,(0:Int),(0:Int),(0:Int),(0:Int),(0:Int),(0:Int),(0:Int),(0:Int),.string ⟨#[]⟩] 39)).setRow w3.1.size (A26.c {e:=8})).cell? ⟨w1.1.size,3,none⟩=some (.int .i64 1):=World.news_of_block hR4 3 _ rfl
 have l4:((w3.alloc (.cells #[(0:Int),(0:Int),(0:Int),(0:Int),false,(0:Int),(0:Int),(0:Int),(0:Int),(0:Int),(0:Int),(0:Int),(0:Int),.string ⟨#[]⟩] 39)).setRow w3.1.size (A26.c {e:=8})).cell? ⟨w1.1.size,4,none⟩=some (.bool false):=World.news_of_block hR4 4 _ rfl
 have l5:((w3.alloc (.cells #[(0:Int),(0:Int),(0:Int),(0:Int),false,(0:Int),(0:Int),(0:Int),(0:Int),(0:Int),(0:Int),(0:Int),(0:Int),.string ⟨#[]⟩] 39)).setRow w3.1.size (A26.c {e:=8})).cell? ⟨w1.1.size,5,none⟩=some (.int .i64 1):=World.news_of_block hR4 5 _ rfl
 have l6:((w3.alloc (.cells #[(0:Int),(0:Int),(0:Int),(0:Int),false,(0:Int),(0:Int),(0:Int),(0:Int),(0:Int),(0:Int),(0:Int),(0:Int),.string ⟨#[]⟩] 39)).setRow w3.1.size (A26.c {e:=8})).cell? ⟨w1.1.size,6,none⟩=some (.int .i64 0):=World.news_of_block hR4 6 _ rfl
 have l7:((w3.alloc (.cells #[(0:Int),(0:Int),(0:Int),(0:Int),false,(0:Int),(0:Int),(0:Int),(0:Int),(0:Int),(0:Int),(0:Int),(0:Int),.string ⟨#[]⟩] 39)).setRow w3.1.size (A26.c {e:=8})).cell? ⟨w1.1.size,7,none⟩=some (.int .i64 0):=World.news_of_block hR4 7 _ rfl
 have l8:((w3.alloc (.cells #[(0:Int),(0:Int),(0:Int),(0:Int),false,(0:Int),(0:Int),(0:Int),(0:Int),(0:Int),(0:Int),(0:Int),(0:Int),.string ⟨#[]⟩] 39)).setRow w3.1.size (A26.c {e:=8})).cell? ⟨w1.1.size,8,none⟩=some (.int .i64 0):=World.news_of_block hR4 8 _ rfl
 have l9:((w3.alloc (.cells #[(0:Int),(0:Int),(0:Int),(0:Int),false,(0:Int),(0:Int),(0:Int),(0:Int),(0:Int),(0:Int),(0:Int),(0:Int),.string ⟨#[]⟩] 39)).setRow w3.1.size (A26.c {e:=8})).cell? ⟨w1.1.size,9,none⟩=some (.int .i64 0):=World.news_of_block hR4 9 _ rfl
 have l10:((w3.alloc (.cells #[(0:Int),(0:Int),(0:Int),(0:Int),false,(0:Int),(0:Int),(0:Int),(0:Int),(0:Int),(0:Int),(0:Int),(0:Int),.string ⟨#[]⟩] 39)).setRow w3.1.size (A26.c {e:=8})).cell? ⟨w1.1.size,10,none⟩=some (.int .i64 0):=World.news_of_block hR4 10 _ rfl
 have l11:((w3.alloc (.cells #[(0:Int),(0:Int),(0:Int),(0:Int),false,(0:Int),(0:Int),(0:Int),(0:Int),(0:Int),(0:Int),(0:Int),(0:Int),.string ⟨#[]⟩] 39)).setRow w3.1.size (A26.c {e:=8})).cell? ⟨w1.1.size,11,none⟩=some (.int .i64 0):=World.news_of_block hR4 11 _ rfl
 have l12:((w3.alloc (.cells #[(0:Int),(0:Int),(0:Int),(0:Int),false,(0:Int),(0:Int),(0:Int),(0:Int),(0:Int),(0:Int),(0:Int),(0:Int),.string ⟨#[]⟩] 39)).setRow w3.1.size (A26.c {e:=8})).cell? ⟨w1.1.size,12,none⟩=some (.int .i64 0):=World.news_of_block hR4 12 _ rfl
 have l13:((w3.alloc (.cells #[(0:Int),(0:Int),(0:Int),(0:Int),false,(0:Int),(0:Int),(0:Int),(0:Int),(0:Int),(0:Int),(0:Int),(0:Int),.string ⟨#[]⟩] 39)).setRow w3.1.size (A26.c {e:=8})).cell? ⟨w1.1.size,13,none⟩=some (.string ⟨#[]⟩):=World.news_of_block hR4 13 _ rfl
 have p0:((w3.alloc (.cells #[(0:Int),(0:Int),(0:Int),(0:Int),false,(0:Int),(0:Int),(0:Int),(0:Int),(0:Int),(0:Int),(0:Int),(0:Int),.string ⟨#[]⟩] 39)).setRow w3.1.size (A26.c {e:=8})).cell? ⟨w3.1.size,0,none⟩=some (.int .i64 8):=World.news_of_block (setRow_heap _ _ _ _ _ _ (al0 _ _)) 0 _ rfl
 have p1:((w3.alloc (.cells #[(0:Int),(0:Int),(0:Int),(0:Int),false,(0:Int),(0:Int),(0:Int),(0:Int),(0:Int),(0:Int),(0:Int),(0:Int),.string ⟨#[]⟩] 39)).setRow w3.1.size (A26.c {e:=8})).cell? ⟨w3.1.size,1,none⟩=some (.int .i64 0):=World.news_of_block (setRow_heap _ _ _ _ _ _ (al0 _ _)) 1 _ rfl
 have p2:((w3.alloc (.cells #[(0:Int),(0:Int),(0:Int),(0:Int),false,(0:Int),(0:Int),(0:Int),(0:Int),(0:Int),(0:Int),(0:Int),(0:Int),.string ⟨#[]⟩] 39)).setRow w3.1.size (A26.c {e:=8})).cell? ⟨w3.1.size,2,none⟩=some (.int .i64 0):=World.news_of_block (setRow_heap _ _ _ _ _ _ (al0 _ _)) 2 _ rfl
 have p3:((w3.alloc (.cells #[(0:Int),(0:Int),(0:Int),(0:Int),false,(0:Int),(0:Int),(0:Int),(0:Int),(0:Int),(0:Int),(0:Int),(0:Int),.string ⟨#[]⟩] 39)).setRow w3.1.size (A26.c {e:=8})).cell? ⟨w3.1.size,3,none⟩=some (.int .i64 0):=World.news_of_block (setRow_heap _ _ _ _ _ _ (al0 _ _)) 3 _ rfl
 have p4:((w3.alloc (.cells #[(0:Int),(0:Int),(0:Int),(0:Int),false,(0:Int),(0:Int),(0:Int),(0:Int),(0:Int),(0:Int),(0:Int),(0:Int),.string ⟨#[]⟩] 39)).setRow w3.1.size (A26.c {e:=8})).cell? ⟨w3.1.size,4,none⟩=some (.bool false):=World.news_of_block (setRow_heap _ _ _ _ _ _ (al0 _ _)) 4 _ rfl
 have p5:((w3.alloc (.cells #[(0:Int),(0:Int),(0:Int),(0:Int),false,(0:Int),(0:Int),(0:Int),(0:Int),(0:Int),(0:Int),(0:Int),(0:Int),.string ⟨#[]⟩] 39)).setRow w3.1.size (A26.c {e:=8})).cell? ⟨w3.1.size,5,none⟩=some (.int .i64 0):=World.news_of_block (setRow_heap _ _ _ _ _ _ (al0 _ _)) 5 _ rfl
 have p6:((w3.alloc (.cells #[(0:Int),(0:Int),(0:Int),(0:Int),false,(0:Int),(0:Int),(0:Int),(0:Int),(0:Int),(0:Int),(0:Int),(0:Int),.string ⟨#[]⟩] 39)).setRow w3.1.size (A26.c {e:=8})).cell? ⟨w3.1.size,6,none⟩=some (.int .i64 0):=World.news_of_block (setRow_heap _ _ _ _ _ _ (al0 _ _)) 6 _ rfl
 have p7:((w3.alloc (.cells #[(0:Int),(0:Int),(0:Int),(0:Int),false,(0:Int),(0:Int),(0:Int),(0:Int),(0:Int),(0:Int),(0:Int),(0:Int),.string ⟨#[]⟩] 39)).setRow w3.1.size (A26.c {e:=8})).cell? ⟨w3.1.size,7,none⟩=some (.int .i64 0):=World.news_of_block (setRow_heap _ _ _ _ _ _ (al0 _ _)) 7 _ rfl
 have p8:((w3.alloc (.cells #[(0:Int),(0:Int),(0:Int),(0:Int),false,(0:Int),(0:Int),(0:Int),(0:Int),(0:Int),(0:Int),(0:Int),(0:Int),.string ⟨#[]⟩] 39)).setRow w3.1.size (A26.c {e:=8})).cell? ⟨w3.1.size,8,none⟩=some (.int .i64 0):=World.news_of_block (setRow_heap _ _ _ _ _ _ (al0 _ _)) 8 _ rfl
 have p9:((w3.alloc (.cells #[(0:Int),(0:Int),(0:Int),(0:Int),false,(0:Int),(0:Int),(0:Int),(0:Int),(0:Int),(0:Int),(0:Int),(0:Int),.string ⟨#[]⟩] 39)).setRow w3.1.size (A26.c {e:=8})).cell? ⟨w3.1.size,9,none⟩=some (.int .i64 0):=World.news_of_block (setRow_heap _ _ _ _ _ _ (al0 _ _)) 9 _ rfl
 have p10:((w3.alloc (.cells #[(0:Int),(0:Int),(0:Int),(0:Int),false,(0:Int),(0:Int),(0:Int),(0:Int),(0:Int),(0:Int),(0:Int),(0:Int),.string ⟨#[]⟩] 39)).setRow w3.1.size (A26.c {e:=8})).cell? ⟨w3.1.size,10,none⟩=some (.int .i64 0):=World.news_of_block (setRow_heap _ _ _ _ _ _ (al0 _ _)) 10 _ rfl
 have p11:((w3.alloc (.cells #[(0:Int),(0:Int),(0:Int),(0:Int),false,(0:Int),(0:Int),(0:Int),(0:Int),(0:Int),(0:Int),(0:Int),(0:Int),.string ⟨#[]⟩] 39)).setRow w3.1.size (A26.c {e:=8})).cell? ⟨w3.1.size,11,none⟩=some (.int .i64 0):=World.news_of_block (setRow_heap _ _ _ _ _ _ (al0 _ _)) 11 _ rfl
 have p12:((w3.alloc (.cells #[(0:Int),(0:Int),(0:Int),(0:Int),false,(0:Int),(0:Int),(0:Int),(0:Int),(0:Int),(0:Int),(0:Int),(0:Int),.string ⟨#[]⟩] 39)).setRow w3.1.size (A26.c {e:=8})).cell? ⟨w3.1.size,12,none⟩=some (.int .i64 0):=World.news_of_block (setRow_heap _ _ _ _ _ _ (al0 _ _)) 12 _ rfl
 have p13:((w3.alloc (.cells #[(0:Int),(0:Int),(0:Int),(0:Int),false,(0:Int),(0:Int),(0:Int),(0:Int),(0:Int),(0:Int),(0:Int),(0:Int),.string ⟨#[]⟩] 39)).setRow w3.1.size (A26.c {e:=8})).cell? ⟨w3.1.size,13,none⟩=some (.string ⟨#[]⟩):=World.news_of_block (setRow_heap _ _ _ _ _ _ (al0 _ _)) 13 _ rfl
 go_wp2_with (refine wpList_store_row rfl _ _ _ rfl _ _ rfl rfl _ _ (al0 _ _) vK rfl vK ?_)
 go_ret
 exact⟨rfl,bt hB3 hB4⟩
end Go.Proofs.YtljbnicolhhicaaGreatDoor
