import Derived.Test.YtljbnicolhhicaaGreatDoorRows
import Derived.JoinedOf
set_option maxHeartbeats 8000000
set_option maxRecDepth 100000
namespace Go.Proofs.YtljbnicolhhicaaGreatDoor
theorem and_t{a b:Bool}(h:a=true)(h':b=true):(a&&b)=true:=by rw [h,h'];rfl
theorem tl(s:String)(l:List Char)(h:s=String.ofList l):s.toList=l:=by rw [h,String.toList_ofList]
theorem w_finals: "finals".toList= [Char.ofNat 102,Char.ofNat 105,Char.ofNat 110,Char.ofNat 97,Char.ofNat 108,Char.ofNat 115]:=tl _ _ (by kernel_rfl)
theorem w_reflectrows: "reflectrows".toList= [Char.ofNat 114,Char.ofNat 101,Char.ofNat 102,Char.ofNat 108,Char.ofNat 101,Char.ofNat 99,Char.ofNat 116,Char.ofNat 114,Char.ofNat 111,Char.ofNat 119,Char.ofNat 115]:=tl _ _ (by kernel_rfl)
theorem w_leanrows: "leanrows".toList= [Char.ofNat 108,Char.ofNat 101,Char.ofNat 97,Char.ofNat 110,Char.ofNat 114,Char.ofNat 111,Char.ofNat 119,Char.ofNat 115]:=tl _ _ (by kernel_rfl)
theorem w_onebuild: "onebuild".toList= [Char.ofNat 111,Char.ofNat 110,Char.ofNat 101,Char.ofNat 98,Char.ofNat 117,Char.ofNat 105,Char.ofNat 108,Char.ofNat 100]:=tl _ _ (by kernel_rfl)
theorem w_publicsums: "publicsums".toList= [Char.ofNat 112,Char.ofNat 117,Char.ofNat 98,Char.ofNat 108,Char.ofNat 105,Char.ofNat 99,Char.ofNat 115,Char.ofNat 117,Char.ofNat 109,Char.ofNat 115]:=tl _ _ (by kernel_rfl)
theorem w_eqguard: "eqguard".toList= [Char.ofNat 101,Char.ofNat 113,Char.ofNat 103,Char.ofNat 117,Char.ofNat 97,Char.ofNat 114,Char.ofNat 100]:=tl _ _ (by kernel_rfl)
theorem w_ownunsafe: "ownunsafe".toList= [Char.ofNat 111,Char.ofNat 119,Char.ofNat 110,Char.ofNat 117,Char.ofNat 110,Char.ofNat 115,Char.ofNat 97,Char.ofNat 102,Char.ofNat 101]:=tl _ _ (by kernel_rfl)
theorem w_libbeside: "libbeside".toList= [Char.ofNat 108,Char.ofNat 105,Char.ofNat 98,Char.ofNat 98,Char.ofNat 101,Char.ofNat 115,Char.ofNat 105,Char.ofNat 100,Char.ofNat 101]:=tl _ _ (by kernel_rfl)
theorem w_ownbeside: "ownbeside".toList= [Char.ofNat 111,Char.ofNat 119,Char.ofNat 110,Char.ofNat 98,Char.ofNat 101,Char.ofNat 115,Char.ofNat 105,Char.ofNat 100,Char.ofNat 101]:=tl _ _ (by kernel_rfl)
theorem w_reflbeside: "reflbeside".toList= [Char.ofNat 114,Char.ofNat 101,Char.ofNat 102,Char.ofNat 108,Char.ofNat 98,Char.ofNat 101,Char.ofNat 115,Char.ofNat 105,Char.ofNat 100,Char.ofNat 101]:=tl _ _ (by kernel_rfl)
theorem w_aliases: "aliases".toList= [Char.ofNat 97,Char.ofNat 108,Char.ofNat 105,Char.ofNat 97,Char.ofNat 115,Char.ofNat 101,Char.ofNat 115]:=tl _ _ (by kernel_rfl)
theorem w_afterinit: "afterinit".toList= [Char.ofNat 97,Char.ofNat 102,Char.ofNat 116,Char.ofNat 101,Char.ofNat 114,Char.ofNat 105,Char.ofNat 110,Char.ofNat 105,Char.ofNat 116]:=tl _ _ (by kernel_rfl)
theorem w_crcplain: "crcplain".toList= [Char.ofNat 99,Char.ofNat 114,Char.ofNat 99,Char.ofNat 112,Char.ofNat 108,Char.ofNat 97,Char.ofNat 105,Char.ofNat 110]:=tl _ _ (by kernel_rfl)
theorem w_roadunsafe: "roadunsafe".toList= [Char.ofNat 114,Char.ofNat 111,Char.ofNat 97,Char.ofNat 100,Char.ofNat 117,Char.ofNat 110,Char.ofNat 115,Char.ofNat 97,Char.ofNat 102,Char.ofNat 101]:=tl _ _ (by kernel_rfl)
theorem w_fmthandon: "fmthandon".toList= [Char.ofNat 102,Char.ofNat 109,Char.ofNat 116,Char.ofNat 104,Char.ofNat 97,Char.ofNat 110,Char.ofNat 100,Char.ofNat 111,Char.ofNat 110]:=tl _ _ (by kernel_rfl)
theorem w_harness: "harness".toList= [Char.ofNat 104,Char.ofNat 97,Char.ofNat 114,Char.ofNat 110,Char.ofNat 101,Char.ofNat 115,Char.ofNat 115]:=tl _ _ (by kernel_rfl)
theorem w_ownmain: "ownmain".toList= [Char.ofNat 111,Char.ofNat 119,Char.ofNat 110,Char.ofNat 109,Char.ofNat 97,Char.ofNat 105,Char.ofNat 110]:=tl _ _ (by kernel_rfl)
theorem w_gc: "gc".toList= [Char.ofNat 103,Char.ofNat 99]:=tl _ _ (by kernel_rfl)
theorem w_spec: "spec".toList= [Char.ofNat 115,Char.ofNat 112,Char.ofNat 101,Char.ofNat 99]:=tl _ _ (by kernel_rfl)
theorem w_carried: "carried".toList= [Char.ofNat 99,Char.ofNat 97,Char.ofNat 114,Char.ofNat 114,Char.ofNat 105,Char.ofNat 101,Char.ofNat 100]:=tl _ _ (by kernel_rfl)
theorem w_cut: "cut".toList= [Char.ofNat 99,Char.ofNat 117,Char.ofNat 116]:=tl _ _ (by kernel_rfl)
theorem w_stop: "stop".toList= [Char.ofNat 115,Char.ofNat 116,Char.ofNat 111,Char.ofNat 112]:=tl _ _ (by kernel_rfl)
def cutW:List Char:= [Char.ofNat 99,Char.ofNat 117,Char.ofNat 116]
def sumW:List Char:= [Char.ofNat 99,Char.ofNat 52,Char.ofNat 98,Char.ofNat 98,Char.ofNat 100,Char.ofNat 100,Char.ofNat 99,Char.ofNat 98,Char.ofNat 56,Char.ofNat 99,Char.ofNat 97,Char.ofNat 50,Char.ofNat 100,Char.ofNat 50,Char.ofNat 51,Char.ofNat 54,Char.ofNat 101,Char.ofNat 97,Char.ofNat 100,Char.ofNat 56,Char.ofNat 97,Char.ofNat 50,Char.ofNat 56,Char.ofNat 50,Char.ofNat 54,Char.ofNat 55,Char.ofNat 52,Char.ofNat 49,Char.ofNat 53,Char.ofNat 100,Char.ofNat 53,Char.ofNat 97,Char.ofNat 53,Char.ofNat 54,Char.ofNat 98,Char.ofNat 49,Char.ofNat 98,Char.ofNat 100,Char.ofNat 51,Char.ofNat 49,Char.ofNat 52,Char.ofNat 101,Char.ofNat 101,Char.ofNat 50,Char.ofNat 49,Char.ofNat 51,Char.ofNat 97,Char.ofNat 51,Char.ofNat 50,Char.ofNat 97,Char.ofNat 51,Char.ofNat 56,Char.ofNat 48,Char.ofNat 100,Char.ofNat 52,Char.ofNat 54,Char.ofNat 99,Char.ofNat 57,Char.ofNat 100,Char.ofNat 50,Char.ofNat 102,Char.ofNat 55,Char.ofNat 48,Char.ofNat 49]
theorem strip_cut(R:List (List Char)):stripLifts liftWords (cutW :: R)=([],cutW :: R):=by
 unfold liftWords
 simp only [stripLifts,w_finals,w_reflectrows,w_leanrows,w_onebuild,w_publicsums,w_eqguard,w_ownunsafe,w_libbeside,w_ownbeside,w_reflbeside,w_aliases,w_afterinit,w_crcplain,w_roadunsafe,w_fmthandon]
 rfl
def headSigns:List Char:= [Char.ofNat 104,Char.ofNat 97,Char.ofNat 114,Char.ofNat 110,Char.ofNat 101,Char.ofNat 115,Char.ofNat 115,Char.ofNat 32,Char.ofNat 99,Char.ofNat 52,Char.ofNat 98,Char.ofNat 98,Char.ofNat 100,Char.ofNat 100,Char.ofNat 99,Char.ofNat 98,Char.ofNat 56,Char.ofNat 99,Char.ofNat 97,Char.ofNat 50,Char.ofNat 100,Char.ofNat 50,Char.ofNat 51,Char.ofNat 54,Char.ofNat 101,Char.ofNat 97,Char.ofNat 100,Char.ofNat 56,Char.ofNat 97,Char.ofNat 50,Char.ofNat 56,Char.ofNat 50,Char.ofNat 54,Char.ofNat 55,Char.ofNat 52,Char.ofNat 49,Char.ofNat 53,Char.ofNat 100,Char.ofNat 53,Char.ofNat 97,Char.ofNat 53,Char.ofNat 54,Char.ofNat 98,Char.ofNat 49,Char.ofNat 98,Char.ofNat 100,Char.ofNat 51,Char.ofNat 49,Char.ofNat 52,Char.ofNat 101,Char.ofNat 101,Char.ofNat 50,Char.ofNat 49,Char.ofNat 51,Char.ofNat 97,Char.ofNat 51,Char.ofNat 50,Char.ofNat 97,Char.ofNat 51,Char.ofNat 56,Char.ofNat 48,Char.ofNat 100,Char.ofNat 52,Char.ofNat 54,Char.ofNat 99,Char.ofNat 57,Char.ofNat 100,Char.ofNat 50,Char.ofNat 102,Char.ofNat 55,Char.ofNat 48,Char.ofNat 49,Char.ofNat 32,Char.ofNat 99,Char.ofNat 117,Char.ofNat 116,Char.ofNat 32,Char.ofNat 97,Char.ofNat 116,Char.ofNat 32,Char.ofNat 97,Char.ofNat 108,Char.ofNat 109,Char.ofNat 97,Char.ofNat 110,Char.ofNat 97,Char.ofNat 99,Char.ofNat 107,Char.ofNat 101,Char.ofNat 114,Char.ofNat 47,Char.ofNat 97,Char.ofNat 108,Char.ofNat 109,Char.ofNat 97,Char.ofNat 110,Char.ofNat 97,Char.ofNat 99,Char.ofNat 107,Char.ofNat 101,Char.ofNat 114,Char.ofNat 108,Char.ofNat 97,Char.ofNat 119,Char.ofNat 50,Char.ofNat 54,Char.ofNat 46,Char.ofNat 83,Char.ofNat 99,Char.ofNat 114,Char.ofNat 105,Char.ofNat 112,Char.ofNat 116,Char.ofNat 80,Char.ofNat 97,Char.ofNat 114,Char.ofNat 116,Char.ofNat 115]
theorem headSays:Tryz.prog.initOrder=String.ofList headSigns:=by kernel_rfl
theorem headList:Tryz.prog.initOrder.toList=headSigns:=by rw [headSays,String.toList_ofList]
theorem headTake:(wordsSigns headSigns).take 3= [[Char.ofNat 104,Char.ofNat 97,Char.ofNat 114,Char.ofNat 110,Char.ofNat 101,Char.ofNat 115,Char.ofNat 115],sumW,cutW]:=by kernel_rfl
theorem headWords:wordsSigns headSigns= [Char.ofNat 104,Char.ofNat 97,Char.ofNat 114,Char.ofNat 110,Char.ofNat 101,Char.ofNat 115,Char.ofNat 115] :: sumW :: cutW :: (wordsSigns headSigns).drop 3:=by
 have h:=List.take_append_drop 3 (wordsSigns headSigns)
 rw [headTake]at h
 exact h.symm
theorem behind_any(R:List (List Char)):behindMainWord ([Char.ofNat 104,Char.ofNat 97,Char.ofNat 114,Char.ofNat 110,Char.ofNat 101,Char.ofNat 115,Char.ofNat 115] :: sumW :: cutW :: R)=cutW :: R:=by
 unfold behindMainWord
 have h1:isSumSigns sumW=true:=by kernel_rfl
 simp only [h1,w_harness]
 rfl
theorem headBehind:behindMainWord (wordsSigns headSigns)=cutW :: (wordsSigns headSigns).drop 3:=
 (congrArg behindMainWord headWords).trans (behind_any _)
theorem laysLater:Tryz.prog.laysLater=false:=by kernel_rfl
theorem bearsReflect:Tryz.prog.bearsReflect=false:=by kernel_rfl
theorem doorFits:Tryz.prog.doorFits []=true:=by kernel_rfl
theorem mayEnter_of(P:Program)(R:List (List Char))(h:behindMainWord (wordsSigns P.initOrder.toList)=cutW :: R)(h1:P.laysLater=false)(h2:P.bearsReflect=false)(h3:P.doorFits []=true):P.mayEnter=true:=by
 unfold Program.mayEnter
 rw [h]
 simp only [strip_cut,h1,h2,h3,w_gc,w_spec,w_carried,w_cut,w_stop]
 rfl
theorem headLifts_of(P:Program)(R:List (List Char))(h:behindMainWord (wordsSigns P.initOrder.toList)=cutW :: R):P.headLifts= []:=by
 unfold Program.headLifts
 rw [h]
 simp only [strip_cut]
 exact ite_self _
theorem liftsFinal_of(P:Program)(R:List (List Char))(h:behindMainWord (wordsSigns P.initOrder.toList)=cutW :: R):P.liftsFinal=false:=by
 unfold Program.liftsFinal
 rw [headLifts_of P R h,h]
 simp only [w_carried]
 rfl
theorem make_of(P:Program)(R:List (List Char))(h:behindMainWord (wordsSigns P.initOrder.toList)=cutW :: R):P.make=some .cut:=by
 unfold Program.make
 rw [h]
 simp only [w_gc,w_spec,w_cut]
 rfl
theorem headAll:behindMainWord (wordsSigns Tryz.prog.initOrder.toList)=cutW :: (wordsSigns headSigns).drop 3:=
 (congrArg (fun l=>behindMainWord (wordsSigns l)) headList).trans headBehind
theorem mayEnter:Tryz.prog.mayEnter=true:=mayEnter_of _ _ headAll laysLater bearsReflect doorFits
theorem mayEnterP:Tryz.pinned.checked.prog.mayEnter=true:=mayEnter
theorem liftsFinalP:Tryz.pinned.checked.prog.liftsFinal=false:=liftsFinal_of Tryz.prog _ headAll
theorem makeP:Tryz.pinned.checked.prog.make=some .cut:=make_of Tryz.prog _ headAll
theorem own:ownKnob Tryz.prog.godebug=none:=by kernel_rfl
theorem mainIs_of(P:Program)(R:List (List Char))(h:wordsSigns P.initOrder.toList= [Char.ofNat 104,Char.ofNat 97,Char.ofNat 114,Char.ofNat 110,Char.ofNat 101,Char.ofNat 115,Char.ofNat 115] :: sumW :: R):P.mainIs=some (true,sumW):=by
 unfold Program.mainIs
 rw [h]
 have h1:isSumSigns sumW=true:=by kernel_rfl
 simp only [h1,w_harness]
 rfl
theorem sumSays: "c4bbddcb8ca2d236ead8a28267415d5a56b1bd314ee213a32a380d46c9d2f701".toList=sumW:=tl _ _ (by kernel_rfl)
theorem mainIsP:Tryz.pinned.checked.prog.mainIs=some (true, "c4bbddcb8ca2d236ead8a28267415d5a56b1bd314ee213a32a380d46c9d2f701".toList):=by
 rw [sumSays]
 exact mainIs_of Tryz.prog _ ((congrArg wordsSigns headList).trans headWords)
theorem laidOut:laidOutB Tryz.prog=true:=by kernel_rfl
theorem laidOutP:laidOutB Tryz.pinned.checked.prog=true:=laidOut
theorem mapsRowedP:mapsRowed Tryz.pinned.checked.prog=true:=by kernel_rfl
end Go.Proofs.YtljbnicolhhicaaGreatDoor
