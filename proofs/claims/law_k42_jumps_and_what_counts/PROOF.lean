import PyProof.Rows.All
import OpenK.KLine
import OpenK.KWalk
import OpenK.KRaise
import Open.Line
import Wide.Line
import KE.IntBitsLaws
import KE.KIsAll
import KE.KTryMore
import KE.KNest
import KE.KLam
import Wide.FinOn
import Lean
import PyProof.EqAt
import PyProof.EqKinds
import PyProof.TupleCall
import PyProof.ZipIter
import PyProof.Rows.ZipGen
import PyProof.EnumMake
import PyProof.EnumFor
import PyProof.EnumStmt
import KE.KDictOf
import PyProof.AttrMissHeap
import PyProof.NeKinds
import KE.KItem
import KE.KDictSum
import KE.KSortTup
import PySem.Challenge.RW_askpaper_k42_jumps_and_what_counts
local macro_rules | `(tactic| symm) => `(tactic| decide +kernel)
set_option Elab.async false
set_option linter.all false
set_option maxRecDepth 100000
namespace PySem.W.Fast
def tw10003662956087819490 := ()
def tw10004603293348010870 := ()
def tw10052523674001089817 := ()
def tw10116289880965374487 := ()
def tw10227071976819001523 := ()
def tw10307825186288695530 := ()
def tw10316663372115527984 := ()
def tw10391879739024403195 := ()
def tw10477054886792068325 := ()
def tw10492258641623788529 := ()
def tw1053170701906600245 := ()
def tw10575477686198998877 := ()
def tw10630488487527114540 := ()
def tw10667863697627774091 := ()
def tw10688830441009818052 := ()
def tw10739352360442935071 := ()
def tw10769636211873791267 := ()
def tw10834349426565946623 := ()
def tw10867868422364456427 := ()
def tw11146564633381802332 := ()
def tw1117659453431609128 := ()
def tw11249248457030916071 := ()
def tw11273073019997616856 := ()
def tw11329035166026955052 := ()
def tw11341166173041313729 := ()
def tw1137983779117040759 := ()
def tw11400044750804008355 := ()
def tw11512171999048144345 := ()
def tw11599689828687424396 := ()
def tw11684339668915465271 := ()
def tw11768617692701436519 := ()
def tw11797065821095404144 := ()
def tw11824804677820699020 := ()
def tw11890843423314216476 := ()
def tw12031128627933759045 := ()
def tw12067713731683165288 := ()
def tw1210119759240509059 := ()
def tw12133914498818523655 := ()
def tw12159694732962411555 := ()
def tw12297435713577842776 := ()
def tw12426115019304159314 := ()
def tw12455380157869135280 := ()
def tw12619086117734368102 := ()
def tw12763271496068237827 := ()
def tw12884543071236471315 := ()
def tw12906363301853879459 := ()
def tw1302339400514320491 := ()
def tw13024528653095319670 := ()
def tw13046183838670862145 := ()
def tw13218911008252830971 := ()
def tw13222169525587969639 := ()
def tw13342829731113643325 := ()
def tw13393356809300506855 := ()
def tw13393819502994831708 := ()
def tw13415772651799433736 := ()
def tw1344364237985736693 := ()
def tw13528944245396373372 := ()
def tw13576085685972198793 := ()
def tw1366846781036730418 := ()
def tw13878215723442051760 := ()
def tw13885727036679043763 := ()
def tw14087356084539355012 := ()
def tw14154605116755542644 := ()
def tw14157330044304784448 := ()
def tw14549590801655600040 := ()
def tw14636095220137285436 := ()
def tw14810735387709019639 := ()
def tw14861558502459881228 := ()
def tw14981910119630922513 := ()
def tw1501407186067114315 := ()
def tw15120502639154893824 := ()
def tw15244646901523155380 := ()
def tw15255690332550554849 := ()
def tw15255965324723166075 := ()
def tw15258128387529719842 := ()
def tw15332236505508325989 := ()
def tw15472095064861333514 := ()
def tw15496136378590618271 := ()
def tw15537598805053819892 := ()
def tw1555237907426577813 := ()
def tw1576253011526562963 := ()
def tw15840293543722016145 := ()
def tw15893844021700631263 := ()
def tw16032287919263680473 := ()
def tw16171959592079886287 := ()
def tw16221399634157245866 := ()
def tw1627323300530452327 := ()
def tw16295618589032162103 := ()
def tw16338310275624900430 := ()
def tw16342604445160126318 := ()
def tw1638762612731513303 := ()
def tw16478704162010821927 := ()
def tw16479004638679586112 := ()
def tw16562922621050609035 := ()
def tw16565601089434217530 := ()
def tw16567863018178000083 := ()
def tw16839489950484078399 := ()
def tw16847650511264675196 := ()
def tw16883206546987409869 := ()
def tw16905184133506934775 := ()
def tw16917092604222606337 := ()
def tw16928634585883405878 := ()
def tw16945611814830325884 := ()
def tw16991201964391515236 := ()
def tw16998574776378577753 := ()
def tw17017622891874510962 := ()
def tw17139199258225782011 := ()
def tw17219656623721667119 := ()
def tw17304636843499845223 := ()
def tw17341921605023590370 := ()
def tw17360578238432987344 := ()
def tw17477148216330163526 := ()
def tw175089840255804173 := ()
def tw17510157421993878265 := ()
def tw17591885925397265250 := ()
def tw17705779150363470697 := ()
def tw1772289553599155846 := ()
def tw17749139085778807699 := ()
def tw17777879935079425220 := ()
def tw1789396557702067647 := ()
def tw17898855207369144318 := ()
def tw17907864285862187647 := ()
def tw1791449488965097063 := ()
def tw17927130930791278174 := ()
def tw18355910510520734827 := ()
def tw1940383119731569090 := ()
def tw2039825762996194214 := ()
def tw2045085650592483325 := ()
def tw2097170195286555010 := ()
def tw2106474634106059324 := ()
def tw2128441392603202963 := ()
def tw213734847363854080 := ()
def tw2242691566359849383 := ()
def tw2258939883697423204 := ()
def tw2282165164856166063 := ()
def tw2426796954050626126 := ()
def tw247696743542165831 := ()
def tw2564492209306921931 := ()
def tw2618405218349845368 := ()
def tw2650787394462124659 := ()
def tw2715657749306565318 := ()
def tw282399833658030278 := ()
def tw2844875564840349587 := ()
def tw2976385252344172699 := ()
def tw3064720888252892524 := ()
def tw3106809713960187547 := ()
def tw3204697290583580903 := ()
def tw3221841222390293642 := ()
def tw3290562298109739924 := ()
def tw3320090663792271025 := ()
def tw3354549378234289967 := ()
def tw3424178076901731542 := ()
def tw3446535905336763631 := ()
def tw3514604554015725699 := ()
def tw3528222348851154453 := ()
def tw3530315186602825576 := ()
def tw3548162458958001180 := ()
def tw3587880930160324 := ()
def tw3623323243271926553 := ()
def tw3677681073490426956 := ()
def tw3858571324918334805 := ()
def tw3978616443818501576 := ()
def tw402781488758694482 := ()
def tw4040394995811647474 := ()
def tw4051674359702909358 := ()
def tw405556697533262661 := ()
def tw4061204993231528720 := ()
def tw408291067144662911 := ()
def tw4094865854466577524 := ()
def tw4155579453234827800 := ()
def tw4223567302117897359 := ()
def tw4409376778785019534 := ()
def tw4440565050468134293 := ()
def tw4475068800323938313 := ()
def tw452230989484807842 := ()
def tw4546332916364518740 := ()
def tw4606949412042732843 := ()
def tw464003740514942596 := ()
def tw4776787897839619016 := ()
def tw4805100899438077089 := ()
def tw4836689213828444853 := ()
def tw4901529964475356609 := ()
def tw5068839293031331447 := ()
def tw5108251615302164826 := ()
def tw5110921653326288096 := ()
def tw5143609528562052976 := ()
def tw5167481946244089369 := ()
def tw5250337058775198009 := ()
def tw5290734038783400728 := ()
def tw5294695629262132040 := ()
def tw5397593106712347982 := ()
def tw5413621915086136967 := ()
def tw5436678270141448589 := ()
def tw5474365251212879577 := ()
def tw5557114889480548630 := ()
def tw5602342505637734471 := ()
def tw5637588330763196716 := ()
def tw5707638234830248952 := ()
def tw5717226886049159965 := ()
def tw5757708944826771124 := ()
def tw5827638199492738114 := ()
def tw5863291738762504413 := ()
def tw5867480010423702643 := ()
def tw5884155322574176613 := ()
def tw5933135742765856513 := ()
def tw5938146209758905163 := ()
def tw6008629293544596209 := ()
def tw603974409099868518 := ()
def tw6257141686987174977 := ()
def tw6294225154763560089 := ()
def tw6415025193857640530 := ()
def tw6503025735641293713 := ()
def tw6607408172671036597 := ()
def tw6730883421452337755 := ()
def tw6927918026234694107 := ()
def tw7057261944901596041 := ()
def tw7232878316947212345 := ()
def tw7244834619711921777 := ()
def tw7315885066420700810 := ()
def tw748268648117578586 := ()
def tw7520853312251644810 := ()
def tw7530308788769103538 := ()
def tw7675053535585926730 := ()
def tw77358521549453725 := ()
def tw7982675188941474980 := ()
def tw79865144302549099 := ()
def tw8037938936929323235 := ()
def tw8060099929179684516 := ()
def tw8090687642199312342 := ()
def tw8167832307105920674 := ()
def tw8224597035591372280 := ()
def tw82520984348888174 := ()
def tw8291020036908399692 := ()
def tw8391508245408733750 := ()
def tw8422502486258799635 := ()
def tw8422783772420709917 := ()
def tw8439429325441398278 := ()
def tw8483772557131764652 := ()
def tw8537804780871358011 := ()
def tw8634958755718993118 := ()
def tw8789870876068953477 := ()
def tw887817280348455350 := ()
def tw8883149810486582246 := ()
def tw8890487258422596874 := ()
def tw9008687802499704894 := ()
def tw9010584443904819929 := ()
def tw9048373443848773850 := ()
def tw9115385671051797499 := ()
def tw9159538225492704034 := ()
def tw9215069484245016819 := ()
def tw9298353204045757275 := ()
def tw9335599465631294331 := ()
def tw938155810211483980 := ()
def tw940265499172067174 := ()
def tw9515709258912751270 := ()
def tw9533679750118020280 := ()
def tw9810459813449956376 := ()
def tw9815662092005134676 := ()
def tw9865872253088029170 := ()
def tw9950823598934097213 := ()
def tw997413038188252095 := ()
end PySem.W.Fast
section
namespace Hk
open PySem PySem.W
theorem chs {α β : Type} {f : β → α} {l : List β} {γ : Type} {g : γ → α} {l2 : List γ} {n m k : Nat} (h1 : ((l.drop n).take m).map f = ((l2.drop n).take m).map g) (hk : n + m = k) (h2 : (l.drop k).map f = (l2.drop k).map g) : (l.drop n).map f = (l2.drop n).map g := by
  subst hk
  rw [← List.take_append_drop m (l.drop n), ← List.take_append_drop m (l2.drop n), List.map_append, List.map_append, h1, List.drop_drop, List.drop_drop, h2]
theorem ch {K : Params → Frag} {as : List Addr} (e : ∀ P, as = (K P).map (·.1)) (w : World) (s : Shared) (x : ((((((as.drop 0).take 64).map s.heap.get?, ((as.drop 64).take 64).map s.heap.get?), (((as.drop 128).take 64).map s.heap.get?, ((as.drop 192).take 64).map s.heap.get?)), ((((as.drop 256).take 64).map s.heap.get?, ((as.drop 320).take 64).map s.heap.get?), (((as.drop 384).take 64).map s.heap.get?, ((as.drop 448).take 64).map s.heap.get?))), (((((as.drop 512).take 64).map s.heap.get?, ((as.drop 576).take 64).map s.heap.get?), (((as.drop 640).take 64).map s.heap.get?, ((as.drop 704).take 64).map s.heap.get?)), ((((as.drop 768).take 64).map s.heap.get?, ((as.drop 832).take 64).map s.heap.get?), (((as.drop 896).take 64).map s.heap.get?, (as.drop 960).map s.heap.get?)))) = (((((((K w.params).drop 0).take 64).map (fun p => some p.2), (((K w.params).drop 64).take 64).map (fun p => some p.2)), ((((K w.params).drop 128).take 64).map (fun p => some p.2), (((K w.params).drop 192).take 64).map (fun p => some p.2))), (((((K w.params).drop 256).take 64).map (fun p => some p.2), (((K w.params).drop 320).take 64).map (fun p => some p.2)), ((((K w.params).drop 384).take 64).map (fun p => some p.2), (((K w.params).drop 448).take 64).map (fun p => some p.2)))), ((((((K w.params).drop 512).take 64).map (fun p => some p.2), (((K w.params).drop 576).take 64).map (fun p => some p.2)), ((((K w.params).drop 640).take 64).map (fun p => some p.2), (((K w.params).drop 704).take 64).map (fun p => some p.2))), (((((K w.params).drop 768).take 64).map (fun p => some p.2), (((K w.params).drop 832).take 64).map (fun p => some p.2)), ((((K w.params).drop 896).take 64).map (fun p => some p.2), ((K w.params).drop 960).map (fun p => some p.2)))))) : InK K w s.heap := by
  simp only [Prod.mk.injEq] at x
  obtain ⟨⟨⟨⟨x0, x1⟩, ⟨x2, x3⟩⟩, ⟨⟨x4, x5⟩, ⟨x6, x7⟩⟩⟩, ⟨⟨⟨x8, x9⟩, ⟨x10, x11⟩⟩, ⟨⟨x12, x13⟩, ⟨x14, x15⟩⟩⟩⟩ := x
  have y15 := x15
  have y14 := chs x14 (by decide) y15
  have y13 := chs x13 (by decide) y14
  have y12 := chs x12 (by decide) y13
  have y11 := chs x11 (by decide) y12
  have y10 := chs x10 (by decide) y11
  have y9 := chs x9 (by decide) y10
  have y8 := chs x8 (by decide) y9
  have y7 := chs x7 (by decide) y8
  have y6 := chs x6 (by decide) y7
  have y5 := chs x5 (by decide) y6
  have y4 := chs x4 (by decide) y5
  have y3 := chs x3 (by decide) y4
  have y2 := chs x2 (by decide) y3
  have y1 := chs x1 (by decide) y2
  have y0 := chs x0 (by decide) y1
  exact InK.of e w s y0
end Hk
open Lean in
local macro_rules
  | `($f:ident $h:term) => do
    let n := f.getId.eraseMacroScopes
    unless n == `Hook.obs || n == `Hook.val || n == `Hook.of do Macro.throwUnsupported
    match h with
    | `(($g:ident $k $a $e)) =>
      unless g.getId.eraseMacroScopes == `kHook do Macro.throwUnsupported
      if n == `Hook.obs then `(fun (s : PySem.Shared) => ((((((($a).drop 0).take 64).map s.heap.get?, ((($a).drop 64).take 64).map s.heap.get?), (((($a).drop 128).take 64).map s.heap.get?, ((($a).drop 192).take 64).map s.heap.get?)), ((((($a).drop 256).take 64).map s.heap.get?, ((($a).drop 320).take 64).map s.heap.get?), (((($a).drop 384).take 64).map s.heap.get?, ((($a).drop 448).take 64).map s.heap.get?))), (((((($a).drop 512).take 64).map s.heap.get?, ((($a).drop 576).take 64).map s.heap.get?), (((($a).drop 640).take 64).map s.heap.get?, ((($a).drop 704).take 64).map s.heap.get?)), ((((($a).drop 768).take 64).map s.heap.get?, ((($a).drop 832).take 64).map s.heap.get?), (((($a).drop 896).take 64).map s.heap.get?, (($a).drop 960).map s.heap.get?)))))
      else if n == `Hook.val then `(fun (w : PySem.World) => (((((((($k) w.params).drop 0).take 64).map (fun p => some p.2), (((($k) w.params).drop 64).take 64).map (fun p => some p.2)), ((((($k) w.params).drop 128).take 64).map (fun p => some p.2), (((($k) w.params).drop 192).take 64).map (fun p => some p.2))), (((((($k) w.params).drop 256).take 64).map (fun p => some p.2), (((($k) w.params).drop 320).take 64).map (fun p => some p.2)), ((((($k) w.params).drop 384).take 64).map (fun p => some p.2), (((($k) w.params).drop 448).take 64).map (fun p => some p.2)))), ((((((($k) w.params).drop 512).take 64).map (fun p => some p.2), (((($k) w.params).drop 576).take 64).map (fun p => some p.2)), ((((($k) w.params).drop 640).take 64).map (fun p => some p.2), (((($k) w.params).drop 704).take 64).map (fun p => some p.2))), (((((($k) w.params).drop 768).take 64).map (fun p => some p.2), (((($k) w.params).drop 832).take 64).map (fun p => some p.2)), ((((($k) w.params).drop 896).take 64).map (fun p => some p.2), ((($k) w.params).drop 960).map (fun p => some p.2))))))
      else `(Hk.ch (K := $k) (as := $a) $e)
    | _ => Macro.throwUnsupported
open PySem PySem.W PyProof.Rows
set_option maxHeartbeats 0 in
open_top PySem.Challenge.hd42 for PySem.Challenge.rw_askpaper_k42_jumps_and_what_counts
end
namespace L2
open PySem PySem.Spec PyProof.Rows
abbrev Key := Sum Int Str
def keyIs : Key → Value → Bool
 | .inl k, v => Value.isInt k v
 | .inr x, v => Value.isStrOf x v
def keyH (w : World) : Key → Int
 | .inl k => hashInt k
 | .inr x => hashStr w x
theorem yW : ∀ {k : Key} {v : Value}, keyIs k v = true → (∃ i t, k = Sum.inl i ∧ v = Value.int i t) ∨ (∃ x t, k = Sum.inr x ∧ v = Value.str x t)
 | .inl i, v, h => by
   obtain ⟨t, e⟩ := Value.isInt_shape (k := i) (v := v) h
   exact .inl ⟨i, t, rfl, e⟩
 | .inr x, v, h => by
   obtain ⟨t, e⟩ := Value.isStrOf_shape (x := x) (v := v) h
   exact .inr ⟨x, t, rfl, e⟩
theorem keyIs_int (i : Int) (t : Tok) : keyIs (.inl i) (.int i t) = true := by simp [keyIs, Value.isInt]
theorem keyIs_str (x : Str) (t : Tok) : keyIs (.inr x) (.str x t) = true := by simp [keyIs, Value.isStrOf]
theorem key_ll (a b : Int) : decide ((Sum.inl a : Key) = Sum.inl b) = (a == b) := by
 by_cases e : a = b
 · subst e; simp
 · have h : ¬ (Sum.inl a : Key) = Sum.inl b := fun q => e (Sum.inl.inj q)
   rw [decide_eq_false h]
   exact (beq_eq_false_iff_ne.mpr e).symm
theorem key_rr (a b : Str) : decide ((Sum.inr a : Key) = Sum.inr b) = decide (a = b) := by
 by_cases e : a = b
 · subst e; simp
 · have h : ¬ (Sum.inr a : Key) = Sum.inr b := fun q => e (Sum.inr.inj q)
   rw [decide_eq_false h, decide_eq_false e]
theorem key_lr (a : Int) (b : Str) : decide ((Sum.inl a : Key) = Sum.inr b) = false := decide_eq_false (fun q => nomatch q)
theorem key_rl (a : Str) (b : Int) : decide ((Sum.inr a : Key) = Sum.inl b) = false := decide_eq_false (fun q => nomatch q)
def mixKind (prog : Program) (w : World) : PySem.KeyKind prog w Key where
 is := keyIs
 hash := keyH w
 inj := fun v a b ha hb => by
   rcases yW ha with ⟨i, t, rfl, rfl⟩ | ⟨x, t, rfl, rfl⟩
   · rcases yW hb with ⟨j, u, rfl, e⟩ | ⟨y, u, rfl, e⟩
     · injection e with e1 _; rw [e1]
     · exact nomatch e
   · rcases yW hb with ⟨j, u, rfl, e⟩ | ⟨y, u, rfl, e⟩
     · exact nomatch e
     · injection e with e1 _; rw [e1]
 byValue := fun k v h => by
   rcases yW h with ⟨i, t, rfl, rfl⟩ | ⟨x, t, rfl, rfl⟩ <;> rfl
 pyHash := fun hv h => by
   rcases yW hv with ⟨i, t, rfl, rfl⟩ | ⟨x, t, rfl, rfl⟩
   · exact wpAny_pyHash_int h
   · exact wpAny_pyHash_str h
 eqBool := fun hu hv h => by
   rcases yW hu with ⟨i, t, rfl, rfl⟩ | ⟨x, t, rfl, rfl⟩
   · rcases yW hv with ⟨j, u, rfl, rfl⟩ | ⟨y, u, rfl, rfl⟩
     · rw [key_ll] at h; exact wpAny_eqBool_int h
     · rw [key_lr] at h; exact SeqAt.EqAt.int_str i t y u _ _ _ _ h
   · rcases yW hv with ⟨j, u, rfl, rfl⟩ | ⟨y, u, rfl, rfl⟩
     · rw [key_rl] at h; exact SeqAt.EqAt.str_int x t j u _ _ _ _ h
     · rw [key_rr] at h; exact wpAny_eqBool_str h
 «strs» := fun k x t v h => by
   rcases yW h with ⟨i, u, rfl, e⟩ | ⟨y, u, rfl, e⟩
   · exact nomatch e
   · injection e with e1 _
     subst e1
     cases v <;> rfl
theorem mixKind_int (prog : Program) (w : World) (i : Int) (t : Tok) : (mixKind prog w).is (.inl i) (.int i t) = true := keyIs_int i t
theorem mixKind_str (prog : Program) (w : World) (x : Str) (t : Tok) : (mixKind prog w).is (.inr x) (.str x t) = true := keyIs_str x t
end L2
namespace L2
open PySem PySem.Spec PyProof.Rows
inductive V where
 | non | bl (b : Bool) | int (i : Int) | str (x : Str) | byt (b : Array UInt8) | flt (b : UInt64) | ref (a : Addr) | ty (n : String)
 deriving DecidableEq
def RelV : V → Value → Prop
 | .non, u => u = Value.none
 | .bl b, u => u = Value.bool b
 | .int i, u => ∃ t, u = Value.int i t
 | .str x, u => ∃ t, u = Value.str x t
 | .byt b, u => ∃ t, u = Value.bytes b t
 | .flt b, u => ∃ t, u = Value.float b t
 | .ref a, u => u = Value.ref a
 | .ty n, u => u = Value.type n
abbrev Vals : List V → List Value → Prop := Paired RelV
theorem Vals.length {xs : List V} {us : List Value} (r : Vals xs us) : xs.length = us.length := Paired.length r
theorem Vals.get : ∀ {xs : List V} {us : List Value} {i : Nat} {x : V}, Vals xs us → xs[i]? = some x → ∃ u, us[i]? = some u ∧ RelV x u
 | _, _, _, _, .nil, e => by simp at e
 | _, _, 0, _, .cons r _, e => by simp at e; subst e; exact ⟨_, rfl, r⟩
 | _, _, i + 1, x, .cons _ t, e => by
   obtain ⟨u, h1, h2⟩ := Vals.get (i := i) (x := x) t (by simpa using e)
   exact ⟨u, by simpa using h1, h2⟩
theorem Vals.set {x : V} {u : Value} (r : RelV x u) : ∀ {xs : List V} {us : List Value} (i : Nat), Vals xs us → Vals (xs.set i x) (us.set i u)
 | _, _, _, .nil => .nil
 | _, _, 0, .cons _ t => .cons r t
 | _, _, i + 1, .cons q t => .cons q (Vals.set r i t)
theorem Vals.append : ∀ {xs ys : List V} {us ws : List Value}, Vals xs us → Vals ys ws → Vals (xs ++ ys) (us ++ ws)
 | _, _, _, _, .nil, s => s
 | _, _, _, _, .cons r t, s => .cons r (Vals.append t s)
theorem Vals.take : ∀ {xs : List V} {us : List Value} (n : Nat), Vals xs us → Vals (xs.take n) (us.take n)
 | _, _, 0, _ => .nil
 | _, _, _ + 1, .nil => .nil
 | _, _, n + 1, .cons r t => .cons r (Vals.take n t)
theorem Vals.drop : ∀ {xs : List V} {us : List Value} (n : Nat), Vals xs us → Vals (xs.drop n) (us.drop n)
 | _, _, 0, r => r
 | _, _, _ + 1, .nil => .nil
 | _, _, n + 1, .cons _ t => Vals.drop n t
theorem Vals.none_of : ∀ {xs : List V} {us : List Value} {i : Nat}, Vals xs us → xs[i]? = none → us[i]? = none := fun {xs us i} r e => by
 have h1 := r.length
 have h2 : xs.length ≤ i := List.getElem?_eq_none_iff.mp e
 exact List.getElem?_eq_none_iff.mpr (by omega)
def RelO : Option V → Option Value → Prop
 | some v, some u => RelV v u
 | none, none => True
 | _, _ => False
def KV {κ : Type} : List (κ × V) → List (κ × Value) → Prop := Paired fun (p : κ × V) (q : κ × Value) => p.1 = q.1 ∧ RelV p.2 q.2
def kV : Key → V
 | .inl i => .int i
 | .inr x => .str x
inductive HO where
 | lst (xs : List V)
 | tup (xs : List V)
 | dK (kvs : List (Key × V)) | dT (kvs : List (List Key × V))
 | set (S : Int → Bool) (n : Nat)
 | ins (C dx : Addr) (fs : List (Str × V))
 | own (x : Addr)
 | xd (fs : List (Str × V))
 | met (f x : Addr)
 | rng (lo hi : Int)
 | frz (o : Obj) (u : HO)
 | tbl (ps : Array Value)
 | ext (φ : Heap → Prop)
abbrev Hp := Addr → Option HO
def upd (H : Hp) (a : Addr) (o : HO) : Hp := fun b => if b = a then some o else H b
theorem zB {H : Hp} {a : Addr} {o : HO} : upd H a o a = some o := by unfold upd; rw [if_pos rfl]
theorem zF {H : Hp} {a b : Addr} {o : HO} (h : b ≠ a) : upd H a o b = H b := by unfold upd; rw [if_neg h]
theorem upd_upd {H : Hp} {a : Addr} {o u : HO} : upd (upd H a o) a u = upd H a u := by
 funext b; unfold upd; split <;> rfl
theorem yE {H : Hp} {a b : Addr} {o u : HO} (h : H a = some o) (h' : H b = some u) (d : o ≠ u) : a ≠ b := by
 intro e; subst e; rw [h] at h'; exact d (Option.some.inj h')
theorem zI {H : Hp} {a b : Addr} {o : HO} (h : H a = some o) (h' : H b = none) : a ≠ b := by
 intro e; subst e; rw [h] at h'; cases h'
section
variable (P : Program) (w : World)
def ObjOk (H : Hp) (h : Heap) (a : Addr) : HO → Prop
 | .lst xs => xs.length ≤ sizeLine ∧ ∃ (its : List Value) (n : Nat), Vals xs its ∧ h.get? a = some { cls := .type "list", data := .seq its.toArray n }
 | .tup xs => xs.length ≤ sizeLine ∧ ∃ its : List Value, Vals xs its ∧ IsTup h a its.toArray
 | .dK kvs => kvs.length ≤ sizeLine ∧ (a == sysModules) = false ∧ ∃ vs, KV kvs vs ∧ h.DictOf (mixKind P w) a vs
 | .dT kvs => kvs.length ≤ sizeLine ∧ (a == sysModules) = false ∧ ∃ xs : List (List Key × Addr × Value),
     Paired (fun (p : List Key × V) (q : List Key × Addr × Value) => p.1 = q.1 ∧ H q.2.1 = some (.tup (p.1.map kV)) ∧ RelV p.2 q.2.2) kvs xs ∧
     ∃ o es ep, h.get? a = some o ∧ o.ExactDict ∧ o.data = .dict es ep ∧ es.toList = xs.map (entryOfKey (tupleKind (mixKind P w))) ∧ (xs.map (·.1)).Nodup
 | .set S n => h.SetOf (intKind P w) a S n
 | .ins C dx fs => H dx = some (.own a) ∧ fs.length ≤ 1000 ∧ dx ≠ a ∧ h.get? a = some (PySem.W.instObj C dx) ∧
     ∃ mA, h.Ns1 dx mA ∧ (∀ f, RelO (fs.lookup f) (mA f)) ∧ PySem.Within mA (fs.map (·.1))
 | .own _ => ∃ o, h.get? a = some o
 | .xd fs => ∃ mA, h.Ns1 a mA ∧ ∀ f, RelO (fs.lookup f) (mA f)
 | .rng lo hi => ∃ t u v, h.get? a = some { cls := .type "range", data := .fields #[.int lo t, .int hi u, .int 1 v] }
 | .frz o u => h.get? a = some o ∧ ObjOk H h a u
 | .tbl ps => h.get? a = some { cls := .none, data := .fields ps }
 | .met f x => h.get? a = some (PySem.W.methodObj (.ref f) (.ref x))
 | .ext φ => φ h ∧ (∃ o, h.get? a = some o) ∧ ∀ h1 h2 : Heap, φ h1 → (∀ o, h1.get? a = some o → h2.get? a = some o) → φ h2
def HOk (H : Hp) (h : Heap) : Prop := ∀ a o, H a = some o → ObjOk P w H h a o
end
section
variable {P : Program} {w : World} {H H' : Hp} {h h' : Heap} {a : Addr} {o : HO}
theorem ObjOk.lt (x : ObjOk P w H h a o) : a < h.objs.size := by
 cases o with
 | lst xs => obtain ⟨_, _, _, _, e⟩ := x; exact Heap.lt_size e
 | tup xs => obtain ⟨_, _, _, p⟩ := x; exact p.lt
 | dK kvs => obtain ⟨_, _, _, _, o, _, _, e, _⟩ := x; exact Heap.lt_size e
 | dT kvs => obtain ⟨_, _, _, _, o, _, _, e, _⟩ := x; exact Heap.lt_size e
 | set S n => obtain ⟨o, _, _, _, e, _⟩ := x; exact Heap.lt_size e
 | ins C dx fs => obtain ⟨_, _, _, e, _⟩ := x; exact Heap.lt_size e
 | own y => obtain ⟨_, e⟩ := x; exact Heap.lt_size e
 | xd fs => obtain ⟨_, ⟨_, _, _, e, _⟩, _⟩ := x; exact Heap.lt_size e
 | rng lo hi => obtain ⟨_, _, _, e⟩ := x; exact Heap.lt_size e
 | frz ob u => obtain ⟨e, _⟩ := x; exact Heap.lt_size e
 | tbl ps => exact Heap.lt_size (show h.get? a = some _ from x)
 | met f y => exact Heap.lt_size (show h.get? a = some _ from x)
 | ext φ => obtain ⟨_, ⟨_, e⟩, _⟩ := x; exact Heap.lt_size e
theorem Paired.mapP {α β : Type} {F G : α → β → Prop} : ∀ {l₁ : List α} {l₂ : List β}, Paired F l₁ l₂ → (∀ a b, F a b → G a b) → Paired G l₁ l₂
 | _, _, .nil, _ => .nil
 | _, _, .cons r t, f => .cons (f _ _ r) (Paired.mapP t f)
theorem ObjOk.stay (x : ObjOk P w H h a o) (k : ∀ b u, (b = a ∨ H b = some (.own a)) → h.get? b = some u → h'.get? b = some u)
   (ho : ∀ b, H b = some (.own a) → H' b = some (.own a)) (ht : ∀ b xs, H b = some (.tup xs) → H' b = some (.tup xs)) : ObjOk P w H' h' a o := by
 induction o with
 | lst xs => obtain ⟨z, its, n, r, e⟩ := x; exact ⟨z, its, n, r, k _ _ (.inl rfl) e⟩
 | tup xs => obtain ⟨z, its, r, ob, e, c⟩ := x; exact ⟨z, its, r, ob, k _ _ (.inl rfl) e, c⟩
 | dK kvs => obtain ⟨z, y, vs, r, ob, es, ep, e, c⟩ := x; exact ⟨z, y, vs, r, ob, es, ep, k _ _ (.inl rfl) e, c⟩
 | dT kvs =>
   obtain ⟨z, y, xs, r, ob, es, ep, e, c⟩ := x
   exact ⟨z, y, xs, Paired.mapP r fun p q z => ⟨z.1, ht _ _ z.2.1, z.2.2⟩, ob, es, ep, k _ _ (.inl rfl) e, c⟩
 | set S n => obtain ⟨ob, es, ep, t, e, c⟩ := x; exact ⟨ob, es, ep, t, k _ _ (.inl rfl) e, c⟩
 | ins C dx fs =>
   obtain ⟨d, z, ne, e, mA, ⟨od, es, ep, e2, c⟩, r⟩ := x
   exact ⟨ho _ d, z, ne, k _ _ (.inl rfl) e, mA, ⟨od, es, ep, k _ _ (.inr d) e2, c⟩, r⟩
 | own y => obtain ⟨ob, e⟩ := x; exact ⟨ob, k _ _ (.inl rfl) e⟩
 | xd fs => obtain ⟨mA, ⟨od, es, ep, e, c⟩, r⟩ := x; exact ⟨mA, ⟨od, es, ep, k _ _ (.inl rfl) e, c⟩, r⟩
 | rng lo hi => obtain ⟨t, u, v, e⟩ := x; exact ⟨t, u, v, k _ _ (.inl rfl) e⟩
 | frz ob u ih => obtain ⟨e, q⟩ := x; exact ⟨k _ _ (.inl rfl) e, ih q⟩
 | tbl ps =>
   have e : h.get? a = some { cls := .none, data := .fields ps } := x
   show h'.get? a = some { cls := .none, data := .fields ps }
   exact k a _ (.inl rfl) e
 | met f y =>
   have e : h.get? a = some (PySem.W.methodObj (.ref f) (.ref y)) := x
   show h'.get? a = some (PySem.W.methodObj (.ref f) (.ref y))
   exact k a _ (.inl rfl) e
 | ext φ => obtain ⟨p, ⟨o, e⟩, st⟩ := x; exact ⟨st _ _ p fun o q => k _ _ (.inl rfl) q, ⟨o, k _ _ (.inl rfl) e⟩, st⟩
theorem HOk.lt (x : HOk P w H h) (e : H a = some o) : a < h.objs.size := (x a o e).lt
theorem HOk.fresh (x : HOk P w H h) (e : h.objs.size ≤ a) : H a = none := by
 cases q : H a with
 | none => rfl
 | some u => exact absurd (Nat.lt_of_lt_of_le (x.lt q) e) (Nat.lt_irrefl _)
theorem HOk.kept (x : HOk P w H h) (k : ∀ b u, h.get? b = some u → h'.get? b = some u) : HOk P w H h' := fun a o e =>
 (x a o e).stay (fun b u _ q => k b u q) (fun _ q => q) fun _ _ q => q
theorem HOk.laid (x : HOk P w H h) (k : ∀ b u, h.get? b = some u → h'.get? b = some u) (hp : h.objs.size ≤ a) (new : ObjOk P w (upd H a o) h' a o) : HOk P w (upd H a o) h' := fun b u e => by
 have hn := x.fresh hp
 by_cases hb : b = a
 · subst hb; rw [zB] at e; cases e; exact new
 · rw [zF hb] at e
   exact (x b u e).stay (fun c v _ q => k c v q) (fun c q => by rw [zF (zI q hn)]; exact q) fun c xs q => by rw [zF (zI q hn)]; exact q
end
def Rd (H : Hp) (a : Addr) (u : HO) : Prop := H a = some u ∨ ∃ o, H a = some (.frz o u)
theorem Rd.of {H : Hp} {a : Addr} {u : HO} (h : H a = some u) : Rd H a u := .inl h
theorem Rd.ok {P : Program} {w : World} {H : Hp} {h : Heap} {a : Addr} {u : HO} (r : Rd H a u) (x : HOk P w H h) : ObjOk P w H h a u := by
 rcases r with r | ⟨o, r⟩
 · exact x a u r
 · obtain ⟨_, q⟩ := x a _ r
   exact q
def Mut : Option HO → Prop
 | some (.lst _) => True
 | some (.dK _) => True
 | some (.dT _) => True
 | some (.set _ _) => True
 | some (.ins _ _ _) => True
 | some (.ext _) => True
 | _ => False
section
variable {P : Program} {w : World} {H : Hp} {h h' : Heap} {x e : Addr} {o' : HO}
theorem HOk.write (ok : HOk P w H h) (mu : Mut (H x)) (he : e = x ∨ H e = some (.own x)) (k : ∀ b u, b ≠ e → h.get? b = some u → h'.get? b = some u) (heo : ∃ u, h'.get? e = some u)
   (new : ObjOk P w (upd H x o') h' x o') : HOk P w (upd H x o') h' := fun b u q => by
 have nown : ∀ c y, H c = some (.own y) → c ≠ x := fun c y r z => by subst z; rw [r] at mu; exact mu
 have ntup : ∀ c xs, H c = some (.tup xs) → c ≠ x := fun c xs r z => by subst z; rw [r] at mu; exact mu
 by_cases hb : b = x
 · subst hb; rw [zB] at q; cases q; exact new
 · rw [zF hb] at q
   by_cases hbe : b = e
   · have q' : H b = some (.own x) := by
       rcases he with z | z
       · exact absurd (hbe.trans z) hb
       · rw [hbe]; exact z
     rw [q] at q'; cases q'
     obtain ⟨v, hv⟩ := heo
     exact ⟨v, by rw [hbe]; exact hv⟩
   · refine (ok b u q).stay (fun c v hc r => k c v ?_ r) (fun c r => by rw [zF (nown c b r)]; exact r) fun c xs r => by rw [zF (ntup c xs r)]; exact r
     rcases hc with rfl | hc
     · exact hbe
     · rintro rfl
       rcases he with z | z
       · exact nown c b hc z
       · rw [hc] at z; cases z; exact hb rfl
end
structure Un (fs ex : List Addr) (H H' : Hp) (h h' : Heap) : Prop where
 keep : ∀ b o, h.get? b = some o → H b = none → b ∉ fs → b ∉ ex → h'.get? b = some o
 slot : ∀ b o, h.get? b = some o → H b = none → b ∈ fs → b ∉ ex → ∃ sl, h'.get? b = some { o with slots := sl }
 free : ∀ b o, h.get? b = some o → H b = none → b ∉ ex → H' b = none
 there : ∀ b o, h.get? b = some o → b ∉ ex → ∃ o', h'.get? b = some o'
 tups : ∀ b xs, H b = some (.tup xs) → H' b = some (.tup xs)
 frzs : ∀ b o u, H b = some (.frz o u) → H' b = some (.frz o u)
 tbls : ∀ b ps, H b = some (.tbl ps) → ∃ more, H' b = some (.tbl (ps ++ more))
section
variable {fs fs' ex ex' : List Addr} {H H1 H2 : Hp} {h h1 h2 h' : Heap} {a x e : Addr} {o : HO}
theorem Un.any (u : Un fs ex H H1 h h1) {b : Addr} {ob : Obj} (q : h.get? b = some ob) (n : H b = none) (hx : b ∉ ex) : ∃ sl, h1.get? b = some { ob with slots := sl } := by
 by_cases hb : b ∈ fs
 · exact u.slot b ob q n hb hx
 · exact ⟨ob.slots, u.keep b ob q n hb hx⟩
theorem Un.trans (a : Un fs ex H H1 h h1) (b : Un fs ex H1 H2 h1 h2) : Un fs ex H H2 h h2 where
 keep := fun c ob q n hc hx => b.keep c ob (a.keep c ob q n hc hx) (a.free c ob q n hx) hc hx
 slot := fun c ob q n hc hx => by
   obtain ⟨sl, e1⟩ := a.slot c ob q n hc hx
   obtain ⟨sl', e2⟩ := b.slot c _ e1 (a.free c ob q n hx) hc hx
   exact ⟨sl', e2⟩
 free := fun c ob q n hx => by
   obtain ⟨o', e1⟩ := a.there c ob q hx
   exact b.free c o' e1 (a.free c ob q n hx) hx
 there := fun c ob q hx => by
   obtain ⟨o', e1⟩ := a.there c ob q hx
   exact b.there c o' e1 hx
 tups := fun c xs q => b.tups c xs (a.tups c xs q)
 frzs := fun c ob xs q => b.frzs c ob xs (a.frzs c ob xs q)
 tbls := fun c ps q => by
   obtain ⟨m1, e1⟩ := a.tbls c ps q
   obtain ⟨m2, e2⟩ := b.tbls c _ e1
   exact ⟨m1 ++ m2, by rw [e2, Array.append_assoc]⟩
theorem Un.kept (k : ∀ b u, h.get? b = some u → h'.get? b = some u) : Un fs ex H H h h' :=
 ⟨fun b ob q _ _ _ => k b ob q, fun b ob q _ _ _ => ⟨ob.slots, k b ob q⟩, fun _ _ _ n _ => n, fun b ob q _ => ⟨ob, k b ob q⟩, fun _ _ q => q, fun _ _ _ q => q, fun _ ps q => ⟨#[], by rw [q]; simp⟩⟩
theorem Un.refl : Un fs ex H H h h := Un.kept fun _ _ q => q
theorem Un.laid (k : ∀ b u, h.get? b = some u → h'.get? b = some u) (hp : h.objs.size ≤ a) (hn : H a = none) : Un fs ex H (upd H a o) h h' where
 keep := fun b u q _ _ _ => k b u q
 slot := fun b u q _ _ _ => ⟨u.slots, k b u q⟩
 free := fun b u q n _ => by rw [zF (Nat.ne_of_lt (Nat.lt_of_lt_of_le (Heap.lt_size q) hp))]; exact n
 there := fun b u q _ => ⟨u, k b u q⟩
 tups := fun b xs q => by rw [zF (zI q hn)]; exact q
 frzs := fun b u xs q => by rw [zF (zI q hn)]; exact q
 tbls := fun b ps q => ⟨#[], by rw [zF (zI q hn), q]; simp⟩
theorem Un.write (mu : Mut (H x)) (he : e = x ∨ H e = some (.own x)) (k : ∀ b u, b ≠ e → h.get? b = some u → h'.get? b = some u) (heo : ∃ u, h'.get? e = some u) : Un fs ex H (upd H x o) h h' := by
 have hx : ∀ b, H b = none → b ≠ x := fun b n z => by subst z; rw [n] at mu; exact mu
 have hb : ∀ b, H b = none → b ≠ e := fun b n z => by
   subst z
   rcases he with r | r
   · exact hx b n r
   · rw [n] at r; cases r
 have hm : ∀ b u, H b = some u → ¬ Mut (some u) → b ≠ x := fun b u q nm z => by subst z; rw [q] at mu; exact nm mu
 refine ⟨fun b u q n _ _ => k b u (hb b n) q, fun b u q n _ _ => ⟨u.slots, k b u (hb b n) q⟩, fun b u q n _ => by rw [zF (hx b n)]; exact n, fun b u q _ => ?_,
   fun b xs q => by rw [zF (hm b _ q fun z => z)]; exact q, fun b u xs q => by rw [zF (hm b _ q fun z => z)]; exact q, fun b ps q => ⟨#[], by rw [zF (hm b _ q fun z => z), q]; simp⟩⟩
 by_cases hbe : b = e
 · subst hbe; exact heo
 · exact ⟨u, k b u hbe q⟩
theorem Un.mono (u : Un fs ex H H1 h h1) (hs : ∀ b ∈ fs, b ∈ fs') (hx : ∀ b ∈ ex, b ∈ ex') : Un fs' ex' H H1 h h1 :=
 ⟨fun b ob q n hb he => u.keep b ob q n (fun z => hb (hs b z)) fun z => he (hx b z), fun _ _ q n _ he => u.any q n fun z => he (hx _ z), fun b ob q n he => u.free b ob q n fun z => he (hx b z), fun b ob q he => u.there b ob q fun z => he (hx b z), u.tups, u.frzs, u.tbls⟩
end
def trk (h : Heap) (H : Hp) : List Addr := (List.range h.objs.size).filter fun a => (H a).isSome
def hidT (h : Heap) (H : Hp) : Heap := PySem.W.hideAll h (trk h H)
theorem hidT_size (h : Heap) (H : Hp) : (hidT h H).objs.size = h.objs.size := PySem.W.hideAll_size _ _
theorem hidT_get {h : Heap} {H : Hp} {b : Addr} {o : Obj} (e : h.get? b = some o) (n : H b = none) : (hidT h H).get? b = some o :=
 PySem.W.hideAll_get _ e fun hm => by
   have q : (H b).isSome = true := (List.mem_filter.mp hm).2
   rw [n] at q; simp at q
theorem of_hidT {h : Heap} {H : Hp} {b : Addr} {o : Obj} (e : (hidT h H).get? b = some o) : h.get? b = some o ∧ H b = none := by
 have e' : h.get? b = some o := PySem.W.of_hideAll (trk h H) e
 refine ⟨e', ?_⟩
 cases q : H b with
 | none => rfl
 | some x =>
   have hm : b ∈ trk h H := List.mem_filter.mpr ⟨List.mem_range.mpr (Heap.lt_size e'), by simp [q]⟩
   have z : (hidT h H).get? b = none := PySem.W.hideAll_none (trk h H) hm
   rw [z] at e; cases e
def allNews (g h : Heap) (L : Addr) : List (Addr × Obj) := (List.range h.objs.size).filterMap fun a => if a = L ∨ (g.get? a).isSome = true then none else (h.get? a).map fun o => (a, o)
def rest (g h : Heap) (L d : Addr) : List (Addr × Obj) := (allNews g h L).filter fun p => decide (p.1 ≠ d)
end L2
namespace L2
open PySem PySem.Spec PyProof.Rows
structure Mod (K : PySem.W.Frag) (mg : Str → Option Value) (base : Heap) : Prop where
 kin : K.In base
 glob : base.Ns mainGlobals mg
 blt : ∃ mb, base.Ns builtinsNs mb ∧ ∀ x : Str, x ≠ "__name__" → mb x = bootBuiltins x
 nolimit : base.NoLimit
structure Cx where
 prog : Program
 w : World
 K : PySem.W.Frag
 mg : Str → Option Value
 base : Heap
 A : Around
 N : List Str
 s₀ : Shared
 H₀ : Hp
 env : Env
 outer : List Env
 stack : List Env
 ex : List Addr
 fn : Str → Bool
 calm : Bool
 pn : List (Addr × Obj)
 xe : Value → Shared → Prop
def frs (l : List Env) : List Addr := l.filterMap (·.frame)
abbrev Cx.fs (X : Cx) : List Addr := frs X.outer
def Vis (sc : Scope) (x : Str) : Prop := sc.names.lookup x = some .local ∨ sc.names.lookup x = some .cell ∨ sc.names.lookup x = some .free
def Loc (sc : Scope) (x : Str) : Prop := sc.names.lookup x = some .local ∨ sc.names.lookup x = some .cell
def Look (env : Env) (h : Heap) (m : Str → Option Value) (x : Str) (u : Value) : Prop :=
 (env.kindOf x = some .local ∧ m x = some u) ∨ ((env.kindOf x = some .cell ∨ env.kindOf x = some .free) ∧ ∃ c, env.cells.lookup x = some c ∧ h.IsCell c (some u))
structure Cx.Ok (X : Cx) : Prop where
 mod : Mod X.K X.mg X.base
 kind : X.env.scope.kind = .function
 glob : X.env.globals = mainGlobals
 blt : X.env.builtins = builtinsNs
 above : X.s₀.heap.objs.size ≤ X.env.locals
 inj : ∀ x y c, X.env.cells.lookup x = some c → X.env.cells.lookup y = some c → x = y
 has : ∀ x, (X.env.kindOf x = some .cell ∨ X.env.kindOf x = some .free) → ∃ c, X.env.cells.lookup x = some c
 cab : ∀ x c, X.fn x = true → X.env.cells.lookup x = some c → X.s₀.heap.objs.size ≤ c
 hd : X.calm = true → X.A.handled = none
 frames : X.A.frames = some X.stack
 stk : X.stack = X.outer ∨ (X.stack = X.env :: X.outer ∧ X.env.frame = some X.env.locals)
 exf : ∀ b ∈ X.ex, b ≠ X.env.locals ∧ ∀ x c, X.env.cells.lookup x = some c → c ≠ b
 bs : ∀ b o, X.base.get? b = some o → X.s₀.heap.get? b = some o ∧ X.H₀ b = none
 bsz : X.base.objs.size ≤ X.s₀.heap.objs.size
 noex : ∀ b o, X.base.get? b = some o → b ∉ X.ex
 exfs : ∀ b ∈ X.ex, b ∉ X.fs
 funs : X.s₀.heap.FunFrames X.base X.outer
 frf : ∀ b ∈ X.fs, X.H₀ b = none
structure Inv (X : Cx) (pins : List (Addr × Obj)) (σ : List (Option V)) (H : Hp) (s : Shared) : Prop where
 ok : X.Ok
 os : s.os = X.s₀.os
 bare : AllBare s.gens
 base : Un X.fs X.ex X.H₀ H X.s₀.heap s.heap
 loc : ∃ m, s.heap.Ns X.env.locals m ∧ ∀ (i : Nat) (x : Str) (v : V), X.N[i]? = some x → σ[i]? = some (some v) → Vis X.env.scope x → ∃ u, RelV v u ∧ Look X.env s.heap m x u
 cell : ∀ x c, X.env.cells.lookup x = some c → ∃ v, s.heap.IsCell c v
 free : H X.env.locals = none
 freeC : ∀ x c, X.env.cells.lookup x = some c → H c = none
 pin : ∀ p ∈ X.pn ++ pins, s.heap.get? p.1 = some p.2 ∧ H p.1 = none ∧ p.1 ≠ X.env.locals ∧ p.1 ∉ X.fs ∧ ∀ v, p.2.data ≠ .cell v
 hok : HOk X.prog X.w H s.heap
 len : σ.length = X.N.length
section
variable {X : Cx} {pins : List (Addr × Obj)} {σ : List (Option V)} {H H' : Hp} {s : Shared} {h' : Heap}
theorem Cx.Ok.nofr (ok : X.Ok) {b : Addr} {o : Obj} (e : X.base.get? b = some o) : b ∉ X.fs := fun hb => by
 have := (ok.funs.mem hb).1
 rw [e] at this; cases this
theorem Inv.bs (I : Inv X pins σ H s) : ∀ b o, X.base.get? b = some o → s.heap.get? b = some o ∧ H b = none := fun b o e =>
 ⟨I.base.keep b o (I.ok.bs b o e).1 (I.ok.bs b o e).2 (I.ok.nofr e) (I.ok.noex b o e), I.base.free b o (I.ok.bs b o e).1 (I.ok.bs b o e).2 (I.ok.noex b o e)⟩
theorem Inv.bk (I : Inv X pins σ H s) : ∀ b o, X.base.get? b = some o → s.heap.get? b = some o := fun b o e => (I.bs b o e).1
theorem Inv.mod (I : Inv X pins σ H s) : Mod X.K X.mg X.base := I.ok.mod
theorem Inv.kIn (I : Inv X pins σ H s) : X.K.In s.heap := I.ok.mod.kin.keeps I.bk
theorem Inv.nolimit (I : Inv X pins σ H s) : s.heap.NoLimit := I.ok.mod.nolimit.keeps I.bk
theorem Inv.fr (I : Inv X pins σ H s) : ∃ m, Fr X.base X.env.locals s.heap m :=
 let ⟨m, hn, _⟩ := I.loc
 ⟨m, hn, I.bk, Nat.le_trans I.ok.bsz I.ok.above⟩
theorem Inv.lt (I : Inv X pins σ H s) : X.env.locals < s.heap.objs.size := let ⟨_, hn, _⟩ := I.loc; hn.lt
theorem Inv.sz (I : Inv X pins σ H s) : X.s₀.heap.objs.size ≤ s.heap.objs.size := Nat.le_trans I.ok.above (Nat.le_of_lt I.lt)
theorem Inv.nofs (I : Inv X pins σ H s) {a : Addr} (h : s.heap.objs.size ≤ a) : a ∉ X.fs := fun hb => by
 obtain ⟨_, o, ho, _⟩ := I.ok.funs.mem hb
 exact absurd (Nat.lt_of_lt_of_le (Heap.lt_size ho) (Nat.le_trans I.sz h)) (Nat.lt_irrefl _)
theorem Inv.cne (I : Inv X pins σ H s) : ∀ x c, X.env.cells.lookup x = some c → c ≠ X.env.locals := fun x c e z => by
 obtain ⟨v, o, ho, hd⟩ := I.cell x c e
 obtain ⟨m, ⟨o', es, ep, ho', hd', _⟩, _⟩ := I.loc
 rw [z, ho'] at ho; cases ho; rw [hd'] at hd; cases hd
theorem Inv.funs (I : Inv X pins σ H s) : s.heap.FunFrames X.base X.outer := by
 have all : ∀ (l : List Env), (∀ b ∈ frs l, b ∈ X.fs) → X.s₀.heap.FunFrames X.base l → s.heap.FunFrames X.base l := by
   intro l
   induction l with
   | nil => intro _ _; trivial
   | cons env r ih =>
     intro hs hl
     obtain ⟨hk, ⟨L, o, hf, hn, ho, hd⟩, hr⟩ := hl
     have hL : L ∈ X.fs := hs L (by unfold frs; rw [List.filterMap_cons, hf]; exact List.mem_cons_self)
     obtain ⟨sl, e⟩ := I.base.slot L o ho (I.ok.frf L hL) hL fun z => I.ok.exfs L z hL
     exact ⟨hk, ⟨L, _, hf, hn, e, hd⟩, ih (fun b hb => hs b (by unfold frs; rw [List.filterMap_cons, hf]; exact List.mem_cons_of_mem _ hb)) hr⟩
 exact all X.outer (fun _ hb => hb) I.ok.funs
theorem Inv.stack (I : Inv X pins σ H s) : s.heap.FunFrames X.base X.stack := by
 rcases I.ok.stk with e | ⟨e, hf⟩
 · rw [e]; exact I.funs
 · rw [e]
   obtain ⟨m, hn, _⟩ := I.loc
   refine .cons (by rw [I.ok.kind]; decide) hf hn ?_ I.funs
   exact Heap.get?_none_of_le (Nat.le_trans I.ok.bsz I.ok.above)
theorem Inv.stkSub (I : Inv X pins σ H s) : ∀ b ∈ frs X.stack, b ∈ X.env.locals :: X.fs := fun b hb => by
 rcases I.ok.stk with e | ⟨e, hf⟩
 · rw [e] at hb; exact List.mem_cons_of_mem _ hb
 · rw [e] at hb
   unfold frs at hb
   rw [List.filterMap_cons, hf] at hb
   exact hb
theorem Inv.stkFree (I : Inv X pins σ H s) : ∀ b ∈ frs X.stack, H b = none := fun b hb => by
 rcases List.mem_cons.mp (I.stkSub b hb) with e | hb
 · rw [e]; exact I.free
 · obtain ⟨_, o, ho, _⟩ := I.ok.funs.mem hb
   exact I.base.free b o ho (I.ok.frf b hb) fun z => I.ok.exfs b z hb
theorem Inv.step {g' : Array GenState} {t' : Nat} {d' : Drawn} {ch : List Addr} (I : Inv X pins σ H s)
   (hch : ∀ b ∈ ch, (b ∈ X.ex ∨ X.s₀.heap.objs.size ≤ b) ∧ b ≠ X.env.locals ∧ (∀ x c, X.env.cells.lookup x = some c → c ≠ b) ∧ ∀ p ∈ X.pn ++ pins, p.1 ≠ b)
   (keep : ∀ b o, b ≠ X.env.locals → b ∉ X.fs → b ∉ ch → s.heap.get? b = some o → H b = none → h'.get? b = some o)
   (slot : ∀ b o, b ≠ X.env.locals → b ∈ X.fs → b ∉ ch → s.heap.get? b = some o → H b = none → ∃ sl, h'.get? b = some { o with slots := sl }) (free : ∀ b o, b ∉ ch → s.heap.get? b = some o → H b = none → H' b = none)
   (there : ∀ b o, b ∉ ch → s.heap.get? b = some o → ∃ o', h'.get? b = some o')
   (tups : ∀ b xs, H b = some (.tup xs) → H' b = some (.tup xs)) (frzs : ∀ b o u, H b = some (.frz o u) → H' b = some (.frz o u)) (tbls : ∀ b ps, H b = some (.tbl ps) → ∃ more, H' b = some (.tbl (ps ++ more)))
   (ns : ∀ m, s.heap.Ns X.env.locals m → h'.Ns X.env.locals m) (hok : HOk X.prog X.w H' h') (hg : AllBare g') :
   Inv X pins σ H' { s with heap := h', gens := g', drawn := d', toks := t' } := by
 have neL : ∀ b o, X.s₀.heap.get? b = some o → b ≠ X.env.locals := fun b o e => Nat.ne_of_lt (Nat.lt_of_lt_of_le (Heap.lt_size e) I.ok.above)
 have neC : ∀ b o, X.s₀.heap.get? b = some o → b ∉ X.ex → b ∉ ch := fun b o e hx hb => by
   rcases (hch b hb).1 with z | z
   · exact hx z
   · exact absurd (Nat.lt_of_lt_of_le (Heap.lt_size e) z) (Nat.lt_irrefl _)
 have cellK : ∀ x c, X.env.cells.lookup x = some c → ∀ v, s.heap.IsCell c v → h'.IsCell c v := fun x c e v ⟨o, ho, hd⟩ => by
   have nch : c ∉ ch := fun z => (hch c z).2.2.1 x c e rfl
   by_cases hc : c ∈ X.fs
   · obtain ⟨sl, q⟩ := slot c o (I.cne x c e) hc nch ho (I.freeC x c e)
     exact ⟨_, q, hd⟩
   · exact ⟨o, keep c o (I.cne x c e) hc nch ho (I.freeC x c e), hd⟩
 refine ⟨I.ok, I.os, hg, ⟨fun b o e n hb hx => ?_, fun b o e n hb hx => ?_, fun b o e n hx => ?_, fun b o e hx => ?_, fun b xs e => tups b xs (I.base.tups b xs e), fun b o xs e => frzs b o xs (I.base.frzs b o xs e), fun b ps e => ?_⟩, ?_, fun x c e => ?_, ?_, fun x c e => ?_, fun p hp => ?_, hok, I.len⟩
 · exact keep b o (neL b o e) hb (neC b o e hx) (I.base.keep b o e n hb hx) (I.base.free b o e n hx)
 · obtain ⟨sl, e1⟩ := I.base.slot b o e n hb hx
   obtain ⟨sl', e2⟩ := slot b _ (neL b o e) hb (neC b o e hx) e1 (I.base.free b o e n hx)
   exact ⟨sl', e2⟩
 · obtain ⟨o', e1⟩ := I.base.there b o e hx
   exact free b o' (neC b o e hx) e1 (I.base.free b o e n hx)
 · obtain ⟨o', e1⟩ := I.base.there b o e hx
   exact there b o' (neC b o e hx) e1
 · obtain ⟨m1, e1⟩ := I.base.tbls b ps e
   obtain ⟨m2, e2⟩ := tbls b _ e1
   exact ⟨m1 ++ m2, by rw [e2, Array.append_assoc]⟩
 · obtain ⟨m, hn, hl⟩ := I.loc
   refine ⟨m, ns m hn, fun i x v e1 e2 e3 => ?_⟩
   obtain ⟨u, r, l⟩ := hl i x v e1 e2 e3
   refine ⟨u, r, ?_⟩
   rcases l with l | ⟨k, c, e, z⟩
   · exact .inl l
   · exact .inr ⟨k, c, e, cellK x c e _ z⟩
 · obtain ⟨v, z⟩ := I.cell x c e
   exact ⟨v, cellK x c e v z⟩
 · obtain ⟨m, ⟨o, _, _, ho, _⟩, _⟩ := I.loc
   exact free _ o (fun z => (hch _ z).2.1 rfl) ho I.free
 · obtain ⟨v, o, ho, hd⟩ := I.cell x c e
   exact free c o (fun z => (hch c z).2.2.1 x c e rfl) ho (I.freeC x c e)
 · obtain ⟨e, n, ne, nf, d⟩ := I.pin p hp
   have nch : p.1 ∉ ch := fun z => (hch p.1 z).2.2.2 p hp rfl
   exact ⟨keep p.1 p.2 ne nf nch e n, free p.1 p.2 nch e n, ne, nf, d⟩
theorem Inv.un {t' : Nat} (I : Inv X pins σ H s) (u : Un X.fs [] H H' s.heap h') (hok : HOk X.prog X.w H' h') : Inv X pins σ H' { s with heap := h', toks := t' } := by
 obtain ⟨m, ⟨o, es, ep, ho, r⟩, _⟩ := id I.loc
 obtain ⟨sl, hL⟩ := u.any ho I.free (by simp)
 exact I.step (g' := s.gens) (d' := s.drawn) (ch := []) (fun _ z => nomatch z) (fun b o _ hb _ e n => u.keep b o e n hb (by simp)) (fun b o _ hb _ e n => u.slot b o e n hb (by simp)) (fun b o _ e n => u.free b o e n (by simp)) (fun b o _ e => u.there b o e (by simp)) u.tups u.frzs u.tbls (fun m' hm => by
   obtain ⟨o', es', ep', ho', r'⟩ := hm
   rw [ho] at ho'; cases ho'
   exact ⟨_, es', ep', hL, r'⟩) hok I.bare
theorem Inv.call {g' : Array GenState} {t' : Nat} {d' : Drawn} {ch : List Addr} (I : Inv X pins σ H s) (u : Un (frs X.stack) ch H H' s.heap h') (hok : HOk X.prog X.w H' h') (hg : AllBare g')
   (hch : ∀ b ∈ ch, (b ∈ X.ex ∨ X.s₀.heap.objs.size ≤ b) ∧ b ≠ X.env.locals ∧ (∀ x c, X.env.cells.lookup x = some c → c ≠ b) ∧ ∀ p ∈ X.pn ++ pins, p.1 ≠ b) :
   Inv X pins σ H' { s with heap := h', gens := g', drawn := d', toks := t' } := by
 obtain ⟨m, ⟨o, es, ep, ho, r⟩, _⟩ := id I.loc
 obtain ⟨sl, hL⟩ := u.any ho I.free fun z => (hch _ z).2.1 rfl
 exact I.step (ch := ch) hch (fun b o hL hb hc e n => u.keep b o e n (fun z => (List.mem_cons.mp (I.stkSub b z)).elim hL hb) hc) (fun b o _ _ hc e n => u.any e n hc) (fun b o hc e n => u.free b o e n hc) (fun b o hc e => u.there b o e hc) u.tups u.frzs u.tbls (fun m' hm => by
   obtain ⟨o', es', ep', ho', r'⟩ := hm
   rw [ho] at ho'; cases ho'
   exact ⟨_, es', ep', hL, r'⟩) hok hg
theorem Inv.turned {t' : Nat} {it : Addr} (I : Inv X pins σ H s) (k : ∀ b o, b ≠ it → s.heap.get? b = some o → h'.get? b = some o) (hn : H it = none) (hL : it ≠ X.env.locals)
   (h1 : it ∈ X.ex ∨ X.s₀.heap.objs.size ≤ it) (h2 : ∀ x c, X.env.cells.lookup x = some c → c ≠ it) (h3 : ∀ p ∈ X.pn ++ pins, p.1 ≠ it) : Inv X pins σ H { s with heap := h', toks := t' } := by
 have nit : ∀ b u, H b = some u → b ≠ it := fun b u e z => by rw [z, hn] at e; cases e
 refine I.step (g' := s.gens) (d' := s.drawn) (ch := [it]) (fun b hb => ?_) (fun b o _ _ hc e _ => k b o (fun z => hc (by simp [z])) e) (fun b o _ _ hc e _ => ⟨o.slots, k b o (fun z => hc (by simp [z])) e⟩) (fun _ _ _ _ n => n)
   (fun b o hc e => ⟨o, k b o (fun z => hc (by simp [z])) e⟩) (fun _ _ e => e) (fun _ _ _ e => e) (fun b ps e => ⟨#[], by rw [e]; simp⟩) (fun m hm => ?_) (fun b u e => ?_) I.bare
 · have e : b = it := by simpa using hb
   subst e
   exact ⟨h1, hL, h2, h3⟩
 · obtain ⟨o, es, ep, ho, r⟩ := hm
   exact ⟨o, es, ep, k _ o (Ne.symm hL) ho, r⟩
 · refine (I.hok b u e).stay (fun c v hc q => k c v ?_ q) (fun _ q => q) fun _ _ q => q
   rcases hc with z | z
   · rw [z]; exact nit b u e
   · exact nit c _ z
theorem Inv.tok (I : Inv X pins σ H s) (t : Nat) : Inv X pins σ H { s with toks := t } := I.un (h' := s.heap) (t' := t) Un.refl I.hok
theorem Inv.kept {t' : Nat} (I : Inv X pins σ H s) (k : ∀ b u, s.heap.get? b = some u → h'.get? b = some u) : Inv X pins σ H { s with heap := h', toks := t' } := I.un (Un.kept k) (I.hok.kept k)
theorem Inv.laid {a : Addr} {o : HO} {t' : Nat} (I : Inv X pins σ H s) (k : ∀ b u, s.heap.get? b = some u → h'.get? b = some u) (hp : s.heap.objs.size ≤ a) (new : ObjOk X.prog X.w (upd H a o) h' a o) :
   Inv X pins σ (upd H a o) { s with heap := h', toks := t' } := I.un (Un.laid k hp (I.hok.fresh hp)) (I.hok.laid k hp new)
theorem Inv.write {x e : Addr} {o : HO} {t' : Nat} (I : Inv X pins σ H s) (mu : Mut (H x)) (he : e = x ∨ H e = some (.own x)) (k : ∀ b u, b ≠ e → s.heap.get? b = some u → h'.get? b = some u) (heo : ∃ u, h'.get? e = some u)
   (new : ObjOk X.prog X.w (upd H x o) h' x o) : Inv X pins σ (upd H x o) { s with heap := h', toks := t' } := I.un (Un.write mu he k heo) (I.hok.write mu he k heo new)
theorem Inv.weak {σ' : List (Option V)} (I : Inv X pins σ H s) (hl : σ'.length = σ.length) (w : ∀ (i : Nat) v, σ'[i]? = some (some v) → σ[i]? = some (some v)) : Inv X pins σ' H s :=
 ⟨I.ok, I.os, I.bare, I.base, let ⟨m, hn, hl'⟩ := I.loc; ⟨m, hn, fun i x v e1 e2 e3 => hl' i x v e1 (w i v e2) e3⟩, I.cell, I.free, I.freeC, I.pin, I.hok, hl.trans I.len⟩
theorem Inv.pins_of {pins' : List (Addr × Obj)} (I : Inv X pins σ H s) (h : ∀ p ∈ pins', s.heap.get? p.1 = some p.2 ∧ H p.1 = none ∧ p.1 ≠ X.env.locals ∧ p.1 ∉ X.fs ∧ ∀ v, p.2.data ≠ .cell v) : Inv X pins' σ H s :=
 ⟨I.ok, I.os, I.bare, I.base, I.loc, I.cell, I.free, I.freeC, fun p hp => (List.mem_append.mp hp).elim (fun z => I.pin p (List.mem_append_left _ z)) (h p), I.hok, I.len⟩
theorem nodup_ix {N : List Str} (hN : N.Nodup) {i j : Nat} {x : Str} (a : N[i]? = some x) (b : N[j]? = some x) : i = j := by
 obtain ⟨h1, e1⟩ := List.getElem?_eq_some_iff.mp a
 obtain ⟨h2, e2⟩ := List.getElem?_eq_some_iff.mp b
 exact (List.getElem_inj hN).mp (e1.trans e2.symm)
theorem store_ok2 {M : Model} {A : Around} {E : Value → Shared → Prop} {i : Nat} {x : Str} {v : V} {u : Value} {Q : Unit → Shared → Prop} (I : Inv X pins σ H s) (hN : X.N.Nodup) (hi : X.N[i]? = some x) (hx : Loc X.env.scope x) (r : RelV v u)
   (h : ∀ s', Inv X pins (σ.set i (some v)) H s' → (∃ a, Heap.SameBut a s.heap s'.heap ∧ (a = X.env.locals ∨ X.env.cells.lookup x = some a)) → Q () s') (hf : X.fn x = true ∨ X.env.scope.names.lookup x = some .local := by first | exact .inl rfl | exact .inr rfl | assumption) : wpAny M A (storeName X.env x u) Q E s := by
 obtain ⟨m, hn, hl⟩ := id I.loc
 have hcls : (X.env.scope.kind == .class || (X.env.scope.kind == .module && X.env.locals != X.env.globals)) = false := by rw [I.ok.kind]; rfl
 have hiσ : i < σ.length := by rw [I.len]; exact (List.getElem?_eq_some_iff.mp hi).1
 have cne := I.cne
 have tracked : ∀ {a : Addr} {h' : Heap}, (∃ o, s.heap.get? a = some o ∧ H a = none) → Heap.SameBut a s.heap h' → HOk X.prog X.w H h' := fun {a h'} ha hs b ob e => by
   obtain ⟨_, _, hfree⟩ := ha
   refine (I.hok b ob e).stay (fun c w' hc q => (hs.2 c ?_).trans q) (fun _ q => q) fun _ _ q => q
   rintro rfl
   rcases hc with rfl | hc
   · rw [hfree] at e; cases e
   · rw [hfree] at hc; cases hc
 rcases hx with hk | hk
 · refine wpAny_storeName_local hk hn (fun h' hn' hs => ?_) hcls
   obtain ⟨oL, _, _, hoL, _⟩ := id hn
   refine h _ ⟨I.ok, I.os, I.bare, ⟨fun b o e n hb hx => ?_, fun b o e n hb hx => ?_, I.base.free, fun b o e hx => ?_, I.base.tups, I.base.frzs, I.base.tbls⟩, ⟨_, hn', fun j y v' e1 e2 e3 => ?_⟩, fun y c e => ?_, I.free, I.freeC, fun p hp => ?_, tracked ⟨oL, hoL, I.free⟩ hs, by simpa using I.len⟩ ⟨_, hs, .inl rfl⟩
   · exact (hs.2 b (Nat.ne_of_lt (Nat.lt_of_lt_of_le (Heap.lt_size e) I.ok.above))).trans (I.base.keep b o e n hb hx)
   · obtain ⟨sl, e1⟩ := I.base.slot b o e n hb hx
     exact ⟨sl, (hs.2 b (Nat.ne_of_lt (Nat.lt_of_lt_of_le (Heap.lt_size e) I.ok.above))).trans e1⟩
   · obtain ⟨o', e1⟩ := I.base.there b o e hx
     exact ⟨o', (hs.2 b (Nat.ne_of_lt (Nat.lt_of_lt_of_le (Heap.lt_size e) I.ok.above))).trans e1⟩
   · by_cases hj : j = i
     · subst hj
       rw [hi] at e1; cases e1
       rw [List.getElem?_set_self hiσ] at e2
       cases e2
       exact ⟨u, r, .inl ⟨hk, by simp⟩⟩
     · rw [List.getElem?_set_ne (Ne.symm hj)] at e2
       obtain ⟨u', r', q⟩ := hl j y v' e1 e2 e3
       refine ⟨u', r', ?_⟩
       rcases q with ⟨k, e⟩ | ⟨k, c, e, z⟩
       · refine .inl ⟨k, ?_⟩
         have : y ≠ x := fun e => hj (nodup_ix hN e1 (e ▸ hi))
         simp [this, e]
       · exact .inr ⟨k, c, e, z.sameBut hs (cne y c e)⟩
   · obtain ⟨w', z⟩ := I.cell y c e
     exact ⟨w', z.sameBut hs (cne y c e)⟩
   · obtain ⟨e, n, ne, nf, d⟩ := I.pin p hp
     exact ⟨(hs.2 p.1 ne).trans e, n, ne, nf, d⟩
 · have hfn : X.fn x = true := by
     rcases hf with z | z
     · exact z
     · rw [z] at hk; cases hk
   obtain ⟨c, hc⟩ := I.ok.has x (.inl hk)
   obtain ⟨w', z⟩ := I.cell x c hc
   refine wpAny_storeName_cell I.ok.kind hk hc z (fun h' hc' hs => ?_)
   obtain ⟨oc, hoc, hocd⟩ := id z
   refine h { s with heap := h' } ⟨I.ok, I.os, I.bare, ⟨fun b o e n hb hx => ?_, fun b o e n hb hx => ?_, I.base.free, fun b o e hx => ?_, I.base.tups, I.base.frzs, I.base.tbls⟩, ⟨m, hn.sameBut hs (Ne.symm (cne x c hc)), fun j y v' e1 e2 e3 => ?_⟩, fun y c' e => ?_, I.free, I.freeC, fun p hp => ?_, tracked ⟨oc, hoc, I.freeC x c hc⟩ hs, by simpa using I.len⟩ ⟨c, hs, .inr hc⟩
   · exact (hs.2 b (Nat.ne_of_lt (Nat.lt_of_lt_of_le (Heap.lt_size e) (I.ok.cab x c hfn hc)))).trans (I.base.keep b o e n hb hx)
   · obtain ⟨sl, e1⟩ := I.base.slot b o e n hb hx
     exact ⟨sl, (hs.2 b (Nat.ne_of_lt (Nat.lt_of_lt_of_le (Heap.lt_size e) (I.ok.cab x c hfn hc)))).trans e1⟩
   · obtain ⟨o', e1⟩ := I.base.there b o e hx
     exact ⟨o', (hs.2 b (Nat.ne_of_lt (Nat.lt_of_lt_of_le (Heap.lt_size e) (I.ok.cab x c hfn hc)))).trans e1⟩
   · by_cases hj : j = i
     · subst hj
       rw [hi] at e1; cases e1
       rw [List.getElem?_set_self hiσ] at e2
       cases e2
       exact ⟨u, r, .inr ⟨.inl hk, c, hc, hc'⟩⟩
     · rw [List.getElem?_set_ne (Ne.symm hj)] at e2
       obtain ⟨u', r', q⟩ := hl j y v' e1 e2 e3
       refine ⟨u', r', ?_⟩
       rcases q with q | ⟨k, c', e, z'⟩
       · exact .inl q
       · refine .inr ⟨k, c', e, z'.sameBut hs ?_⟩
         rintro rfl
         exact hj (nodup_ix hN e1 (I.ok.inj _ _ _ e hc ▸ hi))
   · by_cases hcc : c' = c
     · subst hcc; exact ⟨_, hc'⟩
     · obtain ⟨w2, z2⟩ := I.cell y c' e
       exact ⟨w2, z2.sameBut hs hcc⟩
   · obtain ⟨e, n, ne, nf, d⟩ := I.pin p hp
     refine ⟨(hs.2 p.1 ?_).trans e, n, ne, nf, d⟩
     intro q
     rw [q, hoc] at e
     have q' : oc = p.2 := Option.some.inj e
     exact d w' (by rw [← q']; exact hocd)
theorem store_ok {M : Model} {A : Around} {E : Value → Shared → Prop} {i : Nat} {x : Str} {v : V} {u : Value} {Q : Unit → Shared → Prop} (I : Inv X pins σ H s) (hN : X.N.Nodup) (hi : X.N[i]? = some x) (hx : Loc X.env.scope x) (r : RelV v u)
   (h : ∀ s', Inv X pins (σ.set i (some v)) H s' → Q () s') (hf : X.fn x = true ∨ X.env.scope.names.lookup x = some .local := by first | exact .inl rfl | exact .inr rfl | assumption) : wpAny M A (storeName X.env x u) Q E s :=
 store_ok2 I hN hi hx r (fun s' I' _ => h s' I') hf
theorem Inv.call' {s' : Shared} {ch : List Addr} (I : Inv X pins σ H s) (ho : s'.os = s.os) (u : Un (frs X.stack) ch H H' s.heap s'.heap) (hok : HOk X.prog X.w H' s'.heap) (hg : AllBare s'.gens)
   (hch : ∀ b ∈ ch, (b ∈ X.ex ∨ X.s₀.heap.objs.size ≤ b) ∧ b ≠ X.env.locals ∧ (∀ x c, X.env.cells.lookup x = some c → c ≠ b) ∧ ∀ p ∈ X.pn ++ pins, p.1 ≠ b) : Inv X pins σ H' s' := by
 obtain ⟨h', g', d', t', o'⟩ := s'
 have e : o' = s.os := ho
 subst e
 exact I.call (g' := g') (t' := t') (d' := d') u hok hg hch
end
abbrev XK := Value → Option Addr → Hp → Prop
abbrev St := List (Option V)
abbrev VK := V → Hp → Prop
abbrev TE := St → Hp → VK → Prop
abbrev TT := St → Hp → (Bool → Hp → Prop) → Prop
abbrev TA := St → Hp → (List V → Hp → Prop) → Prop
structure Ends where
 nx : St → Hp → Prop
 rt : VK
 bk : St → Hp → Prop := fun _ _ => False
 ct : St → Hp → Prop := fun _ _ => False
abbrev TS := Ends → St → Hp → Prop
def EP (X : Cx) (pins : List (Addr × Obj)) (σ : St) (Q : VK) (u : Value) (s' : Shared) : Prop := ∃ v H', Inv X pins σ H' s' ∧ RelV v u ∧ Q v H'
def TP (X : Cx) (pins : List (Addr × Obj)) (σ : St) (Q : Bool → Hp → Prop) (b : Bool) (s' : Shared) : Prop := ∃ H', Inv X pins σ H' s' ∧ Q b H'
def AP (X : Cx) (pins : List (Addr × Obj)) (σ : St) (Q : List V → Hp → Prop) (us : List Value) (s' : Shared) : Prop := ∃ vs H', Inv X pins σ H' s' ∧ Vals vs us ∧ Q vs H'
def SP (X : Cx) (pins : List (Addr × Obj)) (D : Ends) (f : Flow) (s' : Shared) : Prop :=
 match f with
 | .next => ∃ σ' H', Inv X pins σ' H' s' ∧ D.nx σ' H'
 | .brk => ∃ σ' H', Inv X pins σ' H' s' ∧ D.bk σ' H'
 | .cont => ∃ σ' H', Inv X pins σ' H' s' ∧ D.ct σ' H'
 | .ret u => ∃ v σ' H', Inv X pins σ' H' s' ∧ RelV v u ∧ D.rt v H'
def PE (X : Cx) (e : Expr) (t : TE) : Prop :=
 ∀ (pins : List (Addr × Obj)) (s : Shared) (σ : St) (H : Hp) (Q : VK), Inv X pins σ H s → t σ H Q → wpAny (model X.prog X.w) X.A (eval e X.env) (EP X pins σ Q) X.xe s
def PT (X : Cx) (e : Expr) (t : TT) : Prop :=
 ∀ (pins : List (Addr × Obj)) (s : Shared) (σ : St) (H : Hp) (Q : Bool → Hp → Prop), Inv X pins σ H s → t σ H Q → wpAny (model X.prog X.w) X.A (isTrue e X.env (eval e X.env)) (TP X pins σ Q) X.xe s
def PW (X : Cx) (e : Expr) (t : TT) : Prop :=
 ∀ (whole : Sem Value) (pins : List (Addr × Obj)) (s : Shared) (σ : St) (H : Hp) (Q : Bool → Hp → Prop), Inv X pins σ H s → t σ H Q → wpAny (model X.prog X.w) X.A (isTrue e X.env whole) (TP X pins σ Q) X.xe s
theorem PW.pt {X : Cx} {e : Expr} {t : TT} (h : PW X e t) : PT X e t := h _
def PA (X : Cx) (es : List Expr) (t : TA) : Prop :=
 ∀ (pos : Pos) (pins : List (Addr × Obj)) (s : Shared) (σ : St) (H : Hp) (Q : List V → Hp → Prop), Inv X pins σ H s → t σ H Q → wpAny (model X.prog X.w) X.A (spliced (backTo pos (starEach es X.env))) (AP X pins σ Q) X.xe s
def PS (X : Cx) (st : Stmt) (t : TS) : Prop :=
 ∀ (pins : List (Addr × Obj)) (s : Shared) (σ : St) (H : Hp) (D : Ends), Inv X pins σ H s → t D σ H → wpAny (model X.prog X.w) X.A (exec st X.env) (SP X pins D) X.xe s
def PSs (X : Cx) (st : List Stmt) (t : TS) : Prop :=
 ∀ (pins : List (Addr × Obj)) (s : Shared) (σ : St) (H : Hp) (D : Ends), Inv X pins σ H s → t D σ H → wpAny (model X.prog X.w) X.A (execs st X.env) (SP X pins D) X.xe s
theorem thn {α : Type} {t : Sem α} {Q Q' : α → Shared → Prop} {M : Model} {A : Around} {E : Value → Shared → Prop} {s : Shared} (h : wpAny M A t Q E s) (hQ : ∀ a s, Q a s → Q' a s) : wpAny M A t Q' E s := wpAny_mono h hQ fun _ _ x => x
end L2
namespace L2
open PySem PySem.Spec PyProof.Rows
section
variable {X : Cx}
def tVar (i : Nat) : TE := fun σ H Q => ∃ v, σ[i]? = some (some v) ∧ Q v H
def tC (v : V) : TE := fun _ H Q => Q v H
theorem pe_var {i : Nat} {x : Str} {pos : Pos} (hN : X.N[i]? = some x) (hv : Vis X.env.scope x) (hd : (x == ("__debug__" : Str)) = false := by decide) (hcd : (x == ("__classdict__" : Str)) = false := by decide) : PE X (.Name x pos) (tVar i) := by
 intro pins s σ H Q I h
 obtain ⟨v, e, h⟩ := h
 obtain ⟨m, hn, hl⟩ := I.loc
 obtain ⟨u, r, l⟩ := hl i x v hN e hv
 have fin : EP X pins σ Q u s := ⟨v, H, I, r, h⟩
 rcases l with ⟨hk, hm⟩ | ⟨hk, c, hc, hcell⟩
 · exact wpAny_Name (wpAny_loadName_local I.ok.kind hk hn hm fin) hd
 · rcases hk with hk | hk
   · exact wpAny_Name (wpAny_loadName_cell I.ok.kind hk hc hcell fin) hd
   · exact wpAny_Name (wpAny_loadName_free I.ok.kind hk hc hcell fin hcd) hd
theorem zJ {i j pos} : PE X (.Constant (.int i) j pos) (tC (.int i)) := fun _ _ _ H _ I h => wpAny_Constant_int ⟨.int i, H, I.tok _, ⟨_, rfl⟩, h⟩
theorem pe_bl {b j pos} : PE X (.Constant (.bool b) j pos) (tC (.bl b)) := fun _ _ _ H _ I h => Constant_bool ⟨.bl b, H, I, rfl, h⟩
theorem xM {j pos} : PE X (.Constant .none j pos) (tC .non) := fun _ _ _ H _ I h => Constant_none ⟨.non, H, I, rfl, h⟩
theorem zK {x j pos} : PE X (.Constant (.str x) j pos) (tC (.str x)) := fun _ _ _ H _ I h => Calls.Constant_str ⟨.str x, H, I.tok _, ⟨_, rfl⟩, h⟩
def Gl (X : Cx) (x : Str) : Prop := X.env.kindOf x = some .globalImplicit
theorem ld_glob {E : Value → Shared → Prop} {pins : List (Addr × Obj)} {s : Shared} {σ : St} {H : Hp} {x : Str} {u : Value} {pos : Pos} {Q : Value → Shared → Prop} (I : Inv X pins σ H s) (hg : Gl X x) (hm : X.mg x = some u) (h : Q u s)
   (hd : (x == ("__debug__" : Str)) = false := by decide) : wpAny (model X.prog X.w) X.A (eval (.Name x pos) X.env) Q E s :=
 Calls.Name_function_global I.ok.kind hg (Calls.loadGlobal_global (by rw [I.ok.glob]; exact I.mod.glob.keeps I.bk) hm h) hd
theorem ld_blt {E : Value → Shared → Prop} {pins : List (Addr × Obj)} {s : Shared} {σ : St} {H : Hp} {x : Str} {u : Value} {pos : Pos} {Q : Value → Shared → Prop} (I : Inv X pins σ H s) (hg : Gl X x) (hm : X.mg x = none) (hv : bootBuiltins x = some u) (h : Q u s)
   (hn : x ≠ "__name__" := by decide) (hd : (x == ("__debug__" : Str)) = false := by decide) : wpAny (model X.prog X.w) X.A (eval (.Name x pos) X.env) Q E s := by
 obtain ⟨mb, h1, h2⟩ := I.mod.blt
 exact Calls.Name_function_global I.ok.kind hg (Calls.loadGlobal_builtin (by rw [I.ok.glob]; exact I.mod.glob.keeps I.bk) hm (by rw [I.ok.blt]; exact h1.keeps I.bk) ((h2 x hn).trans hv) h) hd
theorem pe_glob {x : Str} {v : V} {u : Value} {pos : Pos} (hg : Gl X x) (hm : X.mg x = some u) (r : RelV v u) (hd : (x == ("__debug__" : Str)) = false := by decide) : PE X (.Name x pos) (tC v) :=
 fun _ _ _ H _ I h => ld_glob I hg hm ⟨v, H, I, r, h⟩ hd
theorem xT {x : Str} {v : V} {u : Value} {pos : Pos} (hg : Gl X x) (hm : X.mg x = none) (hv : bootBuiltins x = some u) (r : RelV v u) (hn : x ≠ "__name__" := by decide) (hd : (x == ("__debug__" : Str)) = false := by decide) : PE X (.Name x pos) (tC v) :=
 fun _ _ _ H _ I h => ld_blt I hg hm hv ⟨v, H, I, r, h⟩ hn hd
variable {a b : Expr} {ta tb : TE} {pos : Pos}
def PC (X : Cx) (op : CmpOp) (a b : Expr) (t : TE) : Prop :=
 ∀ (pins : List (Addr × Obj)) (s : Shared) (σ : St) (H : Hp) (Q : VK), Inv X pins σ H s → t σ H Q →
   wpAny (model X.prog X.w) X.A (eval a X.env) (fun v s₁ => wpAny (model X.prog X.w) X.A (eval b X.env) (fun u s₂ => wpAny (model X.prog X.w) X.A (compareOp op v u) (EP X pins σ Q) X.xe s₂) X.xe s₁) X.xe s
def tB (t : TE) : TT := fun σ H Q => t σ H fun x H1 => ∃ c, x = .bl c ∧ Q c H1
theorem yS {e : Expr} {t : TE} (h : PE X e t) (he : ∀ whole, isTrue e X.env whole = (do let v ← whole; standAt e.pos; holding [v] (truthy v)) := by intro _; rfl) : PT X e (tB t) := by
 intro pins s σ H Q I hw
 refine isTrue_plain (thn (h pins s σ H _ I hw) fun v s1 ⟨x, H1, I1, r1, q1⟩ => ?_) (he _)
 obtain ⟨d, rfl, q⟩ := q1
 cases r1
 exact wpAny_truthy_bool ⟨H1, I1, q⟩
variable {tA tB' : TT} {rest : List Expr}
def tAnd (t u : TT) : TT := fun σ H Q => t σ H fun c H1 => if c = true then u σ H1 Q else Q false H1
def tOr (t u : TT) : TT := fun σ H Q => t σ H fun c H1 => if c = true then Q true H1 else u σ H1 Q
def tNot (t : TT) : TT := fun σ H Q => t σ H fun c H1 => Q (!c) H1
theorem pw_and1 (ha : PT X a tA) : PW X (.BoolOp .And [a] pos) tA := by
 intro wh pins s σ H Q I h
 refine isTrue_and (thn (ha pins s σ H Q I h) fun c s1 e => ?_)
 cases c with
 | true => exact isTrue_and_nil e
 | false => exact e
theorem pw_or1 (ha : PT X a tA) : PW X (.BoolOp .Or [a] pos) tA := by
 intro wh pins s σ H Q I h
 refine isTrue_or (thn (ha pins s σ H Q I h) fun c s1 e => ?_)
 cases c with
 | false => exact isTrue_or_nil e
 | true => exact e
theorem pw_and (ha : PT X a tA) (hb : PW X (.BoolOp .And (b :: rest) pos) tB') : PW X (.BoolOp .And (a :: b :: rest) pos) (tAnd tA tB') := by
 intro wh pins s σ H Q I h
 refine isTrue_and (thn (ha pins s σ H _ I h) fun c s1 ⟨H1, I1, q1⟩ => ?_)
 cases c with
 | true => exact hb wh pins s1 σ H1 Q I1 q1
 | false => exact ⟨H1, I1, q1⟩
theorem pw_or (ha : PT X a tA) (hb : PW X (.BoolOp .Or (b :: rest) pos) tB') : PW X (.BoolOp .Or (a :: b :: rest) pos) (tOr tA tB') := by
 intro wh pins s σ H Q I h
 refine isTrue_or (thn (ha pins s σ H _ I h) fun c s1 ⟨H1, I1, q1⟩ => ?_)
 cases c with
 | true => exact ⟨H1, I1, q1⟩
 | false => exact hb wh pins s1 σ H1 Q I1 q1
theorem xK (ha : PT X a tA) : PT X (.UnaryOp .Not a pos) (tNot tA) := by
 intro pins s σ H Q I h
 exact isTrue_not (ha pins s σ H (fun c H1 => Q (!c) H1) I h)
def tAndV (ta tb : TE) : TE := fun σ H Q => ta σ H fun x H1 => ∃ c, x = .bl c ∧ if c = true then tb σ H1 Q else Q (.bl false) H1
def tOrV (ta tb : TE) : TE := fun σ H Q => ta σ H fun x H1 => ∃ c, x = .bl c ∧ if c = true then Q (.bl true) H1 else tb σ H1 Q
def tNotV (ta : TE) : TE := fun σ H Q => ta σ H fun x H1 => ∃ c, x = .bl c ∧ Q (.bl (!c)) H1
theorem pe_one {op} {t : TE} (h : PE X a t) : PE X (.BoolOp op [a] pos) t := fun pins s σ H Q I hw => BoolOp_one (h pins s σ H Q I hw)
theorem pe_and (ha : PE X a ta) (hb : PE X (.BoolOp .And (b :: rest) pos) tb) : PE X (.BoolOp .And (a :: b :: rest) pos) (tAndV ta tb) := by
 intro pins s σ H Q I h
 refine BoolOp_and (thn (ha pins s σ H _ I h) fun v s1 ⟨x, H1, I1, r1, q1⟩ => ?_)
 obtain ⟨c, rfl, q1⟩ := q1
 cases r1
 refine wpAny_truthy_bool ?_
 cases c with
 | true => exact hb pins s1 σ H1 Q I1 q1
 | false => exact ⟨.bl false, H1, I1, rfl, q1⟩
theorem pe_or (ha : PE X a ta) (hb : PE X (.BoolOp .Or (b :: rest) pos) tb) : PE X (.BoolOp .Or (a :: b :: rest) pos) (tOrV ta tb) := by
 intro pins s σ H Q I h
 refine BoolOp_or (thn (ha pins s σ H _ I h) fun v s1 ⟨x, H1, I1, r1, q1⟩ => ?_)
 obtain ⟨c, rfl, q1⟩ := q1
 cases r1
 refine wpAny_truthy_bool ?_
 cases c with
 | false => exact hb pins s1 σ H1 Q I1 q1
 | true => exact ⟨.bl true, H1, I1, rfl, q1⟩
theorem pe_not (ha : PE X a ta) : PE X (.UnaryOp .Not a pos) (tNotV ta) := by
 intro pins s σ H Q I h
 refine UnaryOp_ (thn (ha pins s σ H _ I h) fun v s1 ⟨x, H1, I1, r1, q1⟩ => ?_)
 obtain ⟨c, rfl, q1⟩ := q1
 cases r1
 exact not_of (wpAny_truthy_bool ⟨.bl (!c), H1, I1, rfl, q1⟩)
def tIf (t : TT) (ta tb : TE) : TE := fun σ H Q => t σ H fun c H1 => if c = true then ta σ H1 Q else tb σ H1 Q
theorem pe_ifExp {c : Expr} (hc : PT X c tA) (ha : PE X a ta) (hb : PE X b tb) : PE X (.IfExp c a b pos) (tIf tA ta tb) := by
 intro pins s σ H Q I h
 refine wpAny_IfExp (thn (hc pins s σ H _ I h) fun d s1 ⟨H1, I1, q1⟩ => ?_)
 cases d with
 | true => exact ha pins s1 σ H1 Q I1 q1
 | false => exact hb pins s1 σ H1 Q I1 q1
end
end L2
namespace L2
open PySem PySem.Spec PyProof.Rows
def SqL (K : PySem.W.Frag) (H : Hp) (a : Addr) (xs : List V) : Prop :=
 Rd H a (.lst xs) ∨
   ∃ (o : Obj) (its : Array Value) (n : Nat), K.lookup a = some o ∧ o.cls = .type "list" ∧ o.dict = none ∧ o.data = .seq its n ∧ its.size ≤ sizeLine ∧ Vals xs its.toList
def SqT (K : PySem.W.Frag) (H : Hp) (a : Addr) (xs : List V) : Prop :=
 Rd H a (.tup xs) ∨
   ∃ (o : Obj) (its : Array Value) (n : Nat), K.lookup a = some o ∧ o.cls = .type "tuple" ∧ o.data = .seq its n ∧ its.size ≤ sizeLine ∧ Vals xs its.toList
def absV : Value → Option V
 | .none => some .non
 | .bool b => some (.bl b)
 | .int i _ => some (.int i)
 | .str x _ => some (.str x)
 | .bytes b _ => some (.byt b)
 | .float b _ => some (.flt b)
 | .ref a => some (.ref a)
 | .type n => some (.ty n)
 | _ => none
theorem RelV.abs {x : V} {u : Value} (r : RelV x u) : absV u = some x := by
 cases x with
 | non => cases r; rfl
 | bl _ => cases r; rfl
 | int _ => obtain ⟨t, rfl⟩ := r; rfl
 | str _ => obtain ⟨t, rfl⟩ := r; rfl
 | byt _ => obtain ⟨t, rfl⟩ := r; rfl
 | flt _ => obtain ⟨t, rfl⟩ := r; rfl
 | ref _ => cases r; rfl
 | ty _ => cases r; rfl
theorem RelV.inj {x y : V} {u : Value} (r : RelV x u) (q : RelV y u) : x = y := Option.some.inj (r.abs.symm.trans q.abs)
theorem Vals.inj : ∀ {xs ys : List V} {us : List Value}, Vals xs us → Vals ys us → xs = ys
 | _, _, _, .nil, .nil => rfl
 | _, _, _, .cons r t, .cons r' t' => by rw [r.inj r', Vals.inj t t']
section
variable {X : Cx} {pins : List (Addr × Obj)} {σ : St} {H : Hp} {s : Shared} {a : Addr} {xs ys : List V}
theorem SqL.of {K : PySem.W.Frag} (h : H a = some (.lst xs)) : SqL K H a xs := .inl (.inl h)
theorem SqT.of {K : PySem.W.Frag} (h : H a = some (.tup xs)) : SqT K H a xs := .inl (.inl h)
theorem Inv.list (I : Inv X pins σ H s) (h : SqL X.K H a xs) : ∃ its : List Value, Vals xs its ∧ PlainL s.heap a its.toArray ∧ xs.length ≤ sizeLine := by
 rcases h with h | ⟨o, its, n, hk, hc, hd, hs, hz, r⟩
 · obtain ⟨z, its, n, r, e⟩ := h.ok I.hok
   exact ⟨its, r, ⟨_, n, e, rfl, rfl, rfl⟩, z⟩
 · refine ⟨its.toList, r, ⟨o, n, I.kIn a o hk, hc, hd, by simpa using hs⟩, ?_⟩
   have e := r.length
   simp only [Array.length_toList] at e
   omega
theorem Inv.tuple (I : Inv X pins σ H s) (h : SqT X.K H a xs) : ∃ its : List Value, Vals xs its ∧ IsTup s.heap a its.toArray ∧ xs.length ≤ sizeLine := by
 rcases h with h | ⟨o, its, n, hk, hc, hs, hz, r⟩
 · obtain ⟨z, its, r, p⟩ := h.ok I.hok
   exact ⟨its, r, p, z⟩
 · refine ⟨its.toList, r, ⟨o, I.kIn a o hk, hc, n, by simpa using hs⟩, ?_⟩
   have e := r.length
   simp only [Array.length_toList] at e
   omega
theorem Inv.list_inj (I : Inv X pins σ H s) (h : SqL X.K H a xs) (h' : SqL X.K H a ys) : xs = ys := by
 obtain ⟨its, r, ⟨o, n, e, _, _, d⟩, _⟩ := I.list h
 obtain ⟨its', r', ⟨o', n', e', _, _, d'⟩, _⟩ := I.list h'
 rw [e] at e'; cases e'
 rw [d] at d'
 injection d' with d1 _
 have : its = its' := by simpa using congrArg Array.toList d1
 subst this
 exact r.inj r'
theorem Inv.tuple_inj (I : Inv X pins σ H s) (h : SqT X.K H a xs) (h' : SqT X.K H a ys) : xs = ys := by
 obtain ⟨its, r, ⟨o, e, _, n, d⟩, _⟩ := I.tuple h
 obtain ⟨its', r', ⟨o', e', _, n', d'⟩, _⟩ := I.tuple h'
 rw [e] at e'; cases e'
 rw [d] at d'
 injection d' with d1 _
 have : its = its' := by simpa using congrArg Array.toList d1
 subst this
 exact r.inj r'
end
abbrev Cx.wish (X : Cx) (E : Value → Shared → Prop) : Cx := { X with xe := E }
abbrev Cx.nox (X : Cx) : Cx := X.wish fun _ _ => False
theorem Cx.Ok.wish {X : Cx} (ok : X.Ok) (E : Value → Shared → Prop) : (X.wish E).Ok :=
 ⟨ok.mod, ok.kind, ok.glob, ok.blt, ok.above, ok.inj, ok.has, ok.cab, ok.hd, ok.frames, ok.stk, ok.exf, ok.bs, ok.bsz, ok.noex, ok.exfs, ok.funs, ok.frf⟩
theorem Cx.Ok.unwish {X : Cx} {E : Value → Shared → Prop} (ok : (X.wish E).Ok) : X.Ok :=
 ⟨ok.mod, ok.kind, ok.glob, ok.blt, ok.above, ok.inj, ok.has, ok.cab, ok.hd, ok.frames, ok.stk, ok.exf, ok.bs, ok.bsz, ok.noex, ok.exfs, ok.funs, ok.frf⟩
section
variable {X : Cx} {pins : List (Addr × Obj)} {σ : St} {H : Hp} {s : Shared} {E : Value → Shared → Prop}
theorem Inv.wish (I : Inv X pins σ H s) (E : Value → Shared → Prop) : Inv (X.wish E) pins σ H s := ⟨I.ok.wish E, I.os, I.bare, I.base, I.loc, I.cell, I.free, I.freeC, I.pin, I.hok, I.len⟩
theorem Inv.unwish (I : Inv (X.wish E) pins σ H s) : Inv X pins σ H s := ⟨I.ok.unwish, I.os, I.bare, I.base, I.loc, I.cell, I.free, I.freeC, I.pin, I.hok, I.len⟩
theorem SP.unwish {D : Ends} {f : Flow} {s' : Shared} (h : SP (X.wish E) pins D f s') : SP X pins D f s' := by
 cases f with
 | next => obtain ⟨σ', H', I, q⟩ := h; exact ⟨σ', H', I.unwish, q⟩
 | brk => obtain ⟨σ', H', I, q⟩ := h; exact ⟨σ', H', I.unwish, q⟩
 | cont => obtain ⟨σ', H', I, q⟩ := h; exact ⟨σ', H', I.unwish, q⟩
 | ret u => obtain ⟨v, σ', H', I, r, q⟩ := h; exact ⟨v, σ', H', I.unwish, r, q⟩
theorem PE.nox {e : Expr} {t : TE} (h : PE X.nox e t) : PE X e t := fun pins s σ H Q I hw =>
 wpAny_mono (h pins s σ H Q (I.wish _) hw) (fun _ _ ⟨v, H', I', r, q⟩ => ⟨v, H', I'.unwish, r, q⟩) fun _ _ z => False.elim z
theorem PT.nox {e : Expr} {t : TT} (h : PT X.nox e t) : PT X e t := fun pins s σ H Q I hw =>
 wpAny_mono (h pins s σ H Q (I.wish _) hw) (fun _ _ ⟨H', I', q⟩ => ⟨H', I'.unwish, q⟩) fun _ _ z => False.elim z
theorem PSs.nox {st : List Stmt} {t : TS} (h : PSs X.nox st t) : PSs X st t := fun pins s σ H D I hw =>
 wpAny_mono (h pins s σ H D (I.wish _) hw) (fun _ _ q => q.unwish) fun _ _ z => False.elim z
end
section
variable {X : Cx} {st : Stmt} {rest : List Stmt} {t u : TS} {e : Expr} {te : TE} {pos : Pos}
def tNext : TS := fun D σ H => D.nx σ H
def tSeq (t u : TS) : TS := fun D σ H => t { D with nx := u D } σ H
theorem zU : PSs X [] tNext := fun _ _ σ H _ I h => wpAny_execs_nil ⟨σ, H, I, h⟩
theorem zD (h1 : PS X st t) (h2 : PSs X rest u) : PSs X (st :: rest) (tSeq t u) := by
 intro pins s σ H D I h
 refine wpAny_execs_cons (thn (h1 pins s σ H { D with nx := u D } I h) fun f s1 q => ?_)
 cases f with
 | next =>
   obtain ⟨σ', H', I', q⟩ := q
   exact h2 pins s1 σ' H' D I' q
 | ret v => exact q
 | brk => exact q
 | cont => exact q
theorem zG (h1 : PS X st t) : PSs X [st] t := by
 intro pins s σ H D I h
 refine wpAny_execs_cons (thn (h1 pins s σ H D I h) fun f s1 q => ?_)
 cases f with
 | next => exact wpAny_execs_nil q
 | ret v => exact q
 | brk => exact q
 | cont => exact q
theorem Inv.quiet {pins : List (Addr × Obj)} {σ : St} {H : Hp} {s : Shared} (I : Inv X pins σ H s) : interactive X.env = false := by simp [interactive, I.ok.kind]
def tDrop (te : TE) : TS := fun D σ H => te σ H fun _ H1 => D.nx σ H1
theorem yP (he : PE X e te) (hs : swapsWith e none pos.line X.env = pure false := by rfl) : PS X (.Expr e pos) (tDrop te) := by
 intro pins s σ H D I h
 exact wpAny_Expr_any (thn (he pins s σ H _ I h) fun v s1 ⟨x, H1, I1, r1, q1⟩ => ⟨σ, H1, I1, q1⟩) I.quiet hs
def tRet (te : TE) : TS := fun D σ H => te σ H D.rt
theorem zP (he : PE X e te) : PS X (.Return (some e) pos) (tRet te) := by
 intro pins s σ H D I h
 exact wpAny_Return_some (thn (he pins s σ H _ I h) fun v s1 ⟨x, H1, I1, r1, q1⟩ => ⟨x, σ, H1, I1, r1, q1⟩)
def tRetN : TS := fun D _ H => D.rt .non H
theorem ps_retN : PS X (.Return none pos) tRetN := fun _ _ σ H _ I h => wpAny_Return_none ⟨.non, σ, H, I, rfl, h⟩
def tIfS (c : TT) (t u : TS) : TS := fun D σ H => c σ H fun b H1 => if b = true then t D σ H1 else u D σ H1
theorem yK {c : Expr} {a b : List Stmt} {tc : TT} (hc : PT X c tc) (ha : PSs X a t) (hb : PSs X b u) : PS X (.If c a b pos) (tIfS tc t u) := by
 intro pins s σ H D I h
 refine wpAny_If (thn (hc pins s σ H _ I h) fun d s1 ⟨H1, I1, q1⟩ => ?_)
 cases d with
 | true => exact ha pins s1 σ H1 D I1 q1
 | false => exact hb pins s1 σ H1 D I1 q1
end
abbrev TG := V → St → Hp → (St → Hp → Prop) → Prop
abbrev TGs := List V → St → Hp → (St → Hp → Prop) → Prop
def PG (X : Cx) (target : Expr) (t : TG) : Prop :=
 ∀ (pins : List (Addr × Obj)) (s : Shared) (σ : St) (H : Hp) (v : V) (u : Value) (Q : St → Hp → Prop), Inv X pins σ H s → RelV v u → t v σ H Q →
   wpAny (model X.prog X.w) X.A (assign target X.env u) (fun _ s' => ∃ σ' H', Inv X pins σ' H' s' ∧ Q σ' H') X.xe s
def PGs (X : Cx) (ts : List Expr) (t : TGs) : Prop :=
 ∀ (pins : List (Addr × Obj)) (s : Shared) (σ : St) (H : Hp) (vs : List V) (us : List Value) (Q : St → Hp → Prop), Inv X pins σ H s → Vals vs us → t vs σ H Q →
   wpAny (model X.prog X.w) X.A (assignInOrder ((assignEach ts X.env).map (·.2)) us) (fun _ s' => ∃ σ' H', Inv X pins σ' H' s' ∧ Q σ' H') X.xe s
abbrev TSet := V → V → V → Hp → (Hp → Prop) → Prop
def PSet (X : Cx) (t : TSet) : Prop :=
 ∀ (pins : List (Addr × Obj)) (s : Shared) (σ : St) (H : Hp) (o i v : V) (ov iv u : Value) (Q : Hp → Prop), Inv X pins σ H s → RelV o ov → RelV i iv → RelV v u → t o i v H Q →
   wpAny (model X.prog X.w) X.A (setItem ov iv u) (fun _ s' => ∃ H', Inv X pins σ H' s' ∧ Q H') X.xe s
section
variable {X : Cx} {pos : Pos}
def gName (i : Nat) : TG := fun v σ H Q => Q (σ.set i (some v)) H
theorem yM {i : Nat} {x : Str} (hN : X.N.Nodup) (hi : X.N[i]? = some x) (hx : Loc X.env.scope x) (hf : X.fn x = true ∨ X.env.scope.names.lookup x = some .local := by first | exact .inl rfl | exact .inr rfl | assumption) : PG X (.Name x pos) (gName i) := by
 intro pins s σ H v u Q I r h
 exact wpAny_assign_Name (store_ok I hN hi hx r (fun s' I' => ⟨_, H, I', h⟩) hf)
def gNil : TGs := fun vs σ H Q => vs = [] ∧ Q σ H
def gCons (t : TG) (u : TGs) : TGs := fun vs σ H Q => ∃ v r, vs = v :: r ∧ t v σ H fun σ' H' => u r σ' H' Q
theorem pgs_nil : PGs X [] gNil := by
 intro pins s σ H vs us Q I r h
 obtain ⟨e, h⟩ := h
 subst e
 cases r
 exact assignInOrder_nil ⟨σ, H, I, h⟩
theorem yY {e : Expr} {es : List Expr} {t : TG} {u : TGs} (h1 : PG X e t) (h2 : PGs X es u)
   (hs : (assignEach (e :: es) X.env).map (·.2) = assign e X.env :: (assignEach es X.env).map (·.2) := by rfl) : PGs X (e :: es) (gCons t u) := by
 intro pins s σ H vs us Q I r h
 obtain ⟨v, vr, e1, h⟩ := h
 subst e1
 cases r with
 | cons r rr =>
   rw [hs]
   refine assignInOrder_cons (thn (h1 pins s σ H _ _ _ I r h) fun _ s1 ⟨σ1, H1, I1, q1⟩ => ?_)
   exact h2 pins s1 σ1 H1 _ _ Q I1 rr q1
def gTup (K : PySem.W.Frag) (n : Nat) (t : TGs) : TG := fun v σ H Q => ∃ a xs, v = .ref a ∧ SqT K H a xs ∧ xs.length = n ∧ t xs σ H Q
theorem pg_tup {es : List Expr} {k : Nat} {t : TGs} {n : Nat} (hc : X.calm = true) (h : PGs X es t)
   (hn : (assignEach es X.env).length = n := by rfl) (hst : (assignEach es X.env).findIdx? (·.1) = none := by rfl) : PG X (.Tuple es k pos) (gTup X.K n t) := by
 intro pins s σ H v u Q I r hw
 obtain ⟨a, xs, e1, hq, hl, hw⟩ := hw
 subst e1
 cases r
 obtain ⟨its, rv, ht, hz⟩ := I.tuple hq
 refine assign_Tuple_tuple (I.ok.hd hc) ht (by simp [hn, ← hl, rv.length]) hst fun h' hx => ?_
 have I1 : Inv X pins σ H { s with heap := h' } := I.kept (t' := s.toks) fun b o e => hx b o (Nat.ne_of_lt (Heap.lt_size e)) e
 exact h pins _ σ H xs _ Q I1 (by simpa using rv) hw
def tAsg (te : TE) (g : TG) : TS := fun D σ H => te σ H fun x H1 => g x σ H1 D.nx
theorem ps_asg {tg e : Expr} {te : TE} {g : TG} (he : PE X e te) (hg : PG X tg g) (hs : swapsWithSole [tg] e pos.line X.env = pure false := by rfl) (hw : swappedStores [tg] e X.env = pure none := by rfl)
   (h1 : (assignEach [tg] X.env).map (·.2) = [assign tg X.env] := by rfl) : PS X (.Assign [tg] e pos) (tAsg te g) := by
 intro pins s σ H D I h
 refine wpAny_Assign_stores (thn (he pins s σ H _ I h) fun v s1 ⟨x, H1, I1, r1, q1⟩ => ?_) hs hw
 rw [h1]
 exact thn (hg pins s1 σ H1 x v _ I1 r1 q1) fun _ s2 q => q
theorem zR {i : Nat} {x : Str} {e : Expr} {te : TE} {pos' : Pos} (hN : X.N.Nodup) (hi : X.N[i]? = some x) (hx : Loc X.env.scope x) (he : PE X e te) (hs : swapsWith e (some (.Name x pos')) pos.line X.env = pure false := by rfl) (hf : X.fn x = true ∨ X.env.scope.names.lookup x = some .local := by first | exact .inl rfl | exact .inr rfl | assumption) :
   PS X (.Assign [.Name x pos'] e pos) (tAsg te (gName i)) := by
 intro pins s σ H D I h
 refine wpAny_Assign_Name (thn (he pins s σ H _ I h) fun v s1 ⟨y, H1, I1, r1, q1⟩ => ?_) hs
 exact store_ok I1 hN hi hx r1 (fun s2 I2 => ⟨_, H1, I2, q1⟩) hf
end
section
variable {X : Cx} {pos : Pos}
def tWhile (c : TT) (tb : TS) : TS := fun D σ H => ∃ W : Nat → St → Hp → Prop, (∃ m, W m σ H) ∧ ∀ m σ H, W m σ H →
 c σ H fun b H1 => if b = true then ∃ N : St → Hp → Prop, (∀ σ' H', N σ' H' → ∃ m', m' < m ∧ W m' σ' H') ∧ tb { D with nx := N, ct := N, bk := D.nx } σ H1 else D.nx σ H1
theorem ps_while {c : Expr} {body : List Stmt} {tc : TT} {tb : TS} (hp : PassesOwn (model X.prog X.w) X.A X.env X.xe) (hc : PT X c tc) (hb : PSs X body tb) : PS X (.While c body [] pos) (tWhile tc tb) := by
 intro pins s σ H D I h
 obtain ⟨W, ⟨m0, w0⟩, turn⟩ := h
 refine wpAny_While (codeAny_whileLoop (fun n s' => ∃ σ' H', Inv X pins σ' H' s' ∧ W n σ' H') ?_ m0 ⟨σ, H, I, w0⟩)
 rintro n s1 ⟨σ1, H1, I1, w1⟩
 refine wpAny_passesOwn hp (thn (hc pins s1 σ1 H1 _ I1 (turn n σ1 H1 w1)) fun b s2 ⟨H2, I2, q2⟩ => ?_)
 cases b with
 | true =>
   obtain ⟨N, hN, q2⟩ := q2
   rw [if_pos rfl]
   refine wpAny_passesOwn hp (thn (hb pins s2 σ1 H2 _ I2 q2) fun f s3 q3 => ?_)
   cases f with
   | next =>
     obtain ⟨σ3, H3, I3, n3⟩ := q3
     obtain ⟨m', hm, w3⟩ := hN σ3 H3 n3
     exact ⟨m', hm, σ3, H3, I3, w3⟩
   | cont =>
     obtain ⟨σ3, H3, I3, n3⟩ := q3
     obtain ⟨m', hm, w3⟩ := hN σ3 H3 n3
     exact ⟨m', hm, σ3, H3, I3, w3⟩
   | brk => exact q3
   | ret v => exact q3
 | false =>
   rw [if_neg Bool.false_ne_true]
   exact wpAny_execs_nil ⟨σ1, H2, I2, q2⟩
end
structure It where
 go : Nat → Hp → Prop
 yld : Nat → Hp → V → Hp → Prop
 stop : Nat → Hp → Prop
def FpOk (X : Cx) (pins : List (Addr × Obj)) (H : Hp) (b : Addr) : Prop :=
 H b = none ∧ b ≠ X.env.locals ∧ b ∉ X.fs ∧ (b ∈ X.ex ∨ X.s₀.heap.objs.size ≤ b) ∧ (∀ x c, X.env.cells.lookup x = some c → c ≠ b) ∧ ∀ p ∈ X.pn ++ pins, p.1 ≠ b
theorem Inv.fpOk {X : Cx} {pins : List (Addr × Obj)} {σ : St} {H H' : Hp} {s : Shared} {b : Addr} (I : Inv X pins σ H s) (hb : s.heap.objs.size ≤ b) (hn : H' b = none) : FpOk X pins H' b := by
 refine ⟨hn, Nat.ne_of_gt (Nat.lt_of_lt_of_le I.lt hb), I.nofs hb, .inr (Nat.le_trans I.sz hb), fun x c e z => ?_, fun p hp z => ?_⟩
 · obtain ⟨v, q⟩ := I.cell x c e
   exact absurd (Nat.lt_of_lt_of_le q.lt (by rw [z]; exact hb)) (Nat.lt_irrefl _)
 · exact absurd (Nat.lt_of_lt_of_le (Heap.lt_size (I.pin p hp).1) (by rw [z]; exact hb)) (Nat.lt_irrefl _)
structure Turn (P : Program) (w : World) (K : PySem.W.Frag) (tg : Expr) (J : It) (fp : List Addr) (it : Addr) (tn : Nat → Heap → Prop) : Prop where
 mem : it ∈ fp
 obj : ∀ i h, tn i h → ∀ b ∈ fp, ∃ o, h.get? b = some o ∧ ∀ v, o.data ≠ .cell v
 keep : ∀ i h h', tn i h → (∀ b ∈ fp, ∀ o, h.get? b = some o → h'.get? b = some o) → tn i h'
 item : ∀ (X : Cx), X.prog = P → X.w = w → X.K = K → X.calm = true → ∀ (i : Nat) (pins : List (Addr × Obj)) (s : Shared) (σ : St) (H : Hp) (E : Value → Shared → Prop), Inv X pins σ H s → (∀ b ∈ fp, FpOk X pins H b) → tn i s.heap → J.go i H →
   wpAny (model P w) X.A (pyNext (.ref it)) (fun r s1 => ∃ u, r = some u ∧
     wpAny (model P w) X.A (letOwnedTupleGo tg (.ref it) u) (fun _ s2 => ∃ x H', Inv X pins σ H' s2 ∧ RelV x u ∧ J.yld i H x H' ∧ tn (i + 1) s2.heap ∧ ∀ b ∈ fp, H' b = none) E s1) E s
 done : ∀ (X : Cx), X.prog = P → X.w = w → X.K = K → X.calm = true → ∀ (i : Nat) (pins : List (Addr × Obj)) (s : Shared) (σ : St) (H : Hp) (E : Value → Shared → Prop), Inv X pins σ H s → (∀ b ∈ fp, FpOk X pins H b) → tn i s.heap → J.stop i H →
   wpAny (model P w) X.A (pyNext (.ref it)) (fun r s1 => r = none ∧ Inv X pins σ H s1) E s
 self : ∀ (A : Around) (i : Nat) (s : Shared) (Q : Value → Shared → Prop) (E : Value → Shared → Prop), tn i s.heap → Q (.ref it) s → wpAny (model P w) A (pyIter (.ref it)) Q E s
abbrev TI := St → Hp → (It → Hp → Prop) → Prop
def PIE (X : Cx) (pins : List (Addr × Obj)) (σ : St) (tg : Expr) (R : It → Hp → Prop) (itv : Value) (s2 : Shared) : Prop :=
 ∃ (it : Addr) (fp : List Addr) (tn : Nat → Heap → Prop) (J : It) (H' : Hp), itv = .ref it ∧ Inv X pins σ H' s2 ∧ Turn X.prog X.w X.K tg J fp it tn ∧ tn 0 s2.heap ∧ (∀ b ∈ fp, FpOk X pins H' b) ∧ R J H'
def PI (X : Cx) (tg iter : Expr) (wi : TI) : Prop :=
 ∀ (pins : List (Addr × Obj)) (s : Shared) (σ : St) (H : Hp) (R : It → Hp → Prop), Inv X pins σ H s → wi σ H R →
   wpAny (model X.prog X.w) X.A (eval iter X.env) (fun v s1 => wpAny (model X.prog X.w) X.A (pyIter v) (PIE X pins σ tg R) X.xe s1) X.xe s
theorem go_of {M : Model} {A : Around} {E : Value → Shared → Prop} {s : Shared} {tg : Expr} {it : Addr} {u : Value} {o : Obj} {n : String} {vs : Array Value} {Q : Unit → Shared → Prop} (ho : s.heap.get? it = some o) (hc : o.cls = .type n) (hd : o.data = .fields vs)
   (hn : ["enumerate", "zip", "dict_itemiterator", "dict_reverseitemiterator", "odict_iterator", "itertools.zip_longest", "itertools.pairwise"].contains n = false) (hQ : Q () s) : wpAny M A (letOwnedTupleGo tg (.ref it) u) Q E s := by
 unfold letOwnedTupleGo
 cases tg <;> first
   | exact wpAny_pure hQ
   | (cases u <;> first
       | exact wpAny_pure hQ
       | (refine wpAny_bind (wpAny_load ho ?_)
          rw [hc, hd]
          show wpAny M A (if (["enumerate", "zip", "dict_itemiterator", "dict_reverseitemiterator", "odict_iterator", "itertools.zip_longest", "itertools.pairwise"].contains n && vs[0]? == some (rawInt _)) = true then _ else _) Q E s
          rw [if_neg (by intro h; rw [hn, Bool.false_and] at h; cases h)]
          exact wpAny_pure hQ))
def Itl (K : PySem.W.Frag) (a : Addr) : It :=
 ⟨fun i H => ∃ xs x, SqL K H a xs ∧ xs[i]? = some x, fun i H x H' => H' = H ∧ ∀ xs, SqL K H a xs → xs[i]? = some x, fun i H => ∃ xs, SqL K H a xs ∧ xs.length ≤ i⟩
def Itr (lo : Int) (n : Nat) : It := ⟨fun i _ => i < n, fun i H x H' => H' = H ∧ x = .int (lo + i), fun i _ => n ≤ i⟩
theorem turn_list {P : Program} {w : World} {K : PySem.W.Frag} {tg : Expr} (a it : Addr) : Turn P w K tg (Itl K a) [it] it (fun i h => h.IsListIter it a i) where
 mem := by simp
 obj := fun i h st b hb => by
   have e : b = it := by simpa using hb
   subst e
   obtain ⟨o, e, c, d⟩ := st
   exact ⟨o, e, fun v z => by rw [d] at z; cases z⟩
 keep := fun i h h' st k => st.at fun o e => k it (by simp) o e
 item := by
   intro X hP hw hK hc i pins s σ H E I hf st hg
   subst hP hw hK
   obtain ⟨xs, x, hq, hx⟩ := hg
   obtain ⟨its, rv, p, hz⟩ := I.list hq
   obtain ⟨u, hu, ru⟩ := rv.get hx
   obtain ⟨f0, f1, f2, f3, f4, f5⟩ := hf it (by simp)
   refine wpAny_pyNext_list_item st p.isList (x := u) (by simpa using hu) fun h' st' sb => ?_
   have I1 : Inv X pins σ H { s with heap := h' } := I.turned (t' := s.toks) (fun b o hb e => (sb.2 b hb).trans e) f0 f1 f3 f4 f5
   obtain ⟨o, e, c, d⟩ := id st'
   exact ⟨u, rfl, go_of (s := { s with heap := h' }) e c d (by decide) ⟨x, H, I1, ru, ⟨rfl, fun ys hy => by rw [I.list_inj hy hq]; exact hx⟩, st', fun b hb => (hf b hb).1⟩⟩
 done := by
   intro X hP hw hK hc i pins s σ H E I hf st hg
   subst hP hw hK
   obtain ⟨xs, hq, hx⟩ := hg
   obtain ⟨its, rv, p, hz⟩ := I.list hq
   obtain ⟨f0, f1, f2, f3, f4, f5⟩ := hf it (by simp)
   have hl := rv.length
   exact wpAny_pyNext_list_end (I.ok.hd hc) st p.isList (by simp; omega) fun h' eb => ⟨rfl, I.turned (t' := s.toks) (fun b o hb e => eb b o hb e) f0 f1 f3 f4 f5⟩
 self := fun _ _ _ _ _ st h => wpAny_pyIter_listiter st h
theorem turn_range {P : Program} {w : World} {K : PySem.W.Frag} {tg : Expr} (it : Addr) (lo : Int) (n : Nat) : Turn P w K tg (Itr lo n) [it] it (fun i h => IsRangeIter h it (lo + (i : Nat) * 1) ((n : Int) - (i : Nat)) 1) where
 mem := by simp
 obj := fun i h st b hb => by
   have e : b = it := by simpa using hb
   subst e
   exact ⟨_, st, fun v z => by
     have z' : Data.fields _ = Data.cell v := z
     cases z'⟩
 keep := fun i h h' st k => k it (by simp) _ st
 item := by
   intro X hP hw hK hc i pins s σ H E I hf st hg
   subst hP hw hK
   obtain ⟨f0, f1, f2, f3, f4, f5⟩ := hf it (by simp)
   have W := Walks.range (prog := X.prog) (w := X.w) (I.ok.hd hc) it lo 1 n
   refine W.item i s _ _ hg st fun v h' tk hv st' kk => ?_
   obtain ⟨t, rfl⟩ := hv
   have I1 : Inv X pins σ H { s with heap := h', toks := tk } := I.turned (fun b o hb e => kk b o (by simpa using hb) e) f0 f1 f3 f4 f5
   refine ⟨_, rfl, go_of (s := { s with heap := h', toks := tk }) (n := "range_iterator") st' rfl rfl (by decide) ⟨.int (lo + i), H, I1, ⟨t, ?_⟩, ⟨rfl, rfl⟩, st', fun b hb => (hf b hb).1⟩⟩
   rw [Int.mul_one]
 done := by
   intro X hP hw hK hc i pins s σ H E I hf st hg
   subst hP hw hK
   obtain ⟨f0, f1, f2, f3, f4, f5⟩ := hf it (by simp)
   exact wpAny_pyNext_range_end (I.ok.hd hc) st (by have : n ≤ i := hg; omega) fun h' eb => ⟨rfl, I.turned (t' := s.toks) (fun b o hb e => eb b o hb e) f0 f1 f3 f4 f5⟩
 self := fun _ _ _ _ _ st h => wpAny_pyIter_rangeiter st h
end L2
namespace L2
open PySem PySem.Spec PyProof.Rows
section
variable {X : Cx} {tg : Expr}
def iList (K : PySem.W.Frag) (tl : TE) : TI := fun σ H R => tl σ H fun x H1 => ∃ a, x = .ref a ∧ (∃ xs, SqL K H1 a xs) ∧ R (Itl K a) H1
theorem yQ {l : Expr} {tl : TE} (hl : PE X l tl) : PI X tg l (iList X.K tl) := by
 intro pins s σ H R I h
 refine thn (hl pins s σ H _ I h) fun v s1 ⟨x, H1, I1, r1, q1⟩ => ?_
 obtain ⟨a, e, ⟨xs, hq⟩, q⟩ := q1
 subst e
 cases r1
 obtain ⟨its, rv, p, hz⟩ := I1.list hq
 refine wpAny_pyIter_list p.isList ?_
 refine ⟨s1.heap.objs.size, [s1.heap.objs.size], _, _, H1, rfl, I1.kept (t' := s1.toks) fun b o e => Heap.get?_push_of_some _ e, turn_list a _, ⟨_, Heap.get?_push_size _ rfl, rfl, rfl⟩, fun b hb => ?_, q⟩
 have e : b = s1.heap.objs.size := by simpa using hb
 subst e
 exact I1.fpOk (Nat.le_refl _) (I1.hok.fresh (Nat.le_refl _))
theorem range_it {pins : List (Addr × Obj)} {σ : St} {H : Hp} {s : Shared} {R : It → Hp → Prop} {E : Value → Shared → Prop} {lo hi : Int} {t u v : Tok} {tk : Nat} (I : Inv X pins σ H s) (h1 : -(2 ^ 62) ≤ lo) (h2 : lo < 2 ^ 62) (h3 : -(2 ^ 62) ≤ hi) (h4 : hi < 2 ^ 62)
   (q : R (Itr lo (hi - lo).toNat) H) : wpAny (model X.prog X.w) X.A (pyIter (.ref s.heap.objs.size)) (PIE X pins σ tg R) E { s with heap := s.heap.push { cls := .type "range", data := .fields #[.int lo t, .int hi u, .int 1 v] }, toks := tk } := by
 refine wpAny_pyIter_range (IsRange.new ..) (small_one h1 h2 h3 h4) ?_
 have I1 : Inv X pins σ H { s with heap := s.heap.push { cls := .type "range", data := .fields #[.int lo t, .int hi u, .int 1 v] }, toks := tk } := I.kept fun b o e => Heap.get?_push_of_some _ e
 refine ⟨(s.heap.push { cls := .type "range", data := .fields #[.int lo t, .int hi u, .int 1 v] }).objs.size, [(s.heap.push { cls := .type "range", data := .fields #[.int lo t, .int hi u, .int 1 v] }).objs.size], _, _, H, rfl,
   I1.kept (t' := tk) fun b o e => Heap.get?_push_of_some _ e, turn_range _ lo (hi - lo).toNat, ?_, fun b hb => ?_, q⟩
 · have e1 : lo + ((0 : Nat) : Int) * 1 = lo := by simp
   have e2 : (((hi - lo).toNat : Nat) : Int) - ((0 : Nat) : Int) = Builtin.Range.rangeSize lo hi 1 := by rw [rangeSize_one]; split <;> omega
   show IsRangeIter _ _ (lo + ((0 : Nat) : Int) * 1) ((((hi - lo).toNat : Nat) : Int) - ((0 : Nat) : Int)) 1
   rw [e1, e2]
   exact Heap.get?_push_size _ rfl
 · have e : b = (s.heap.push { cls := .type "range", data := .fields #[.int lo t, .int hi u, .int 1 v] }).objs.size := by simpa using hb
   subst e
   exact I1.fpOk (Nat.le_refl _) (I1.hok.fresh (Nat.le_refl _))
def iRng1 (ta : TA) : TI := fun σ H R => ta σ H fun vs H1 => ∃ j : Int, vs = [.int j] ∧ -(2 ^ 62) ≤ j ∧ j < 2 ^ 62 ∧ R (Itr 0 j.toNat) H1
theorem pi_range1 {a : Expr} {ta : TA} {p pos : Pos} (hg : Gl X "range") (hm : X.mg "range" = none) (ha : PA X [a] ta) (hs : starEach [a] X.env = [(false, eval a X.env)] := by rfl) : PI X tg (.Call (.Name "range" p) [a] [] pos) (iRng1 ta) := by
 intro pins s σ H R I h
 refine Call_ (ld_blt I hg hm boot_range (PyProof.Rows.callWith_type1 (thn (ha pos pins s σ H _ I h) fun us s1 ⟨vs, H1, I1, r1, q1⟩ => ?_) hs rfl))
 obtain ⟨j, e, q1, q2, q⟩ := q1
 subst e
 cases r1 with
 | cons r rr =>
   cases rr
   obtain ⟨t, rfl⟩ := r
   exact call_range_1 (range_it I1 (by omega) (by omega) q1 q2 (by simpa using q))
def tFor (wi : TI) (g : TG) (tb : TS) : TS := fun D σ H => wi σ H fun J H1 => ∃ W : Nat → Nat → St → Hp → Prop, (∃ m, W 0 m σ H1) ∧ ∀ i m σ H, W i m σ H →
 (J.stop i H ∧ D.nx σ H) ∨ (J.go i H ∧ ∃ N : St → Hp → Prop, (∀ σ' H', N σ' H' → ∃ m', m' < m ∧ W (i + 1) m' σ' H') ∧ ∀ x H', J.yld i H x H' → g x σ H' fun σ2 H2 => tb { D with nx := N, ct := N, bk := D.nx } σ2 H2)
def pinsAt (fp : List Addr) (h : Heap) : List (Addr × Obj) := fp.filterMap fun b => (h.get? b).map fun o => (b, o)
theorem yR {fp : List Addr} {h : Heap} {b : Addr} {o : Obj} (hb : b ∈ fp) (e : h.get? b = some o) : (b, o) ∈ pinsAt fp h := List.mem_filterMap.mpr ⟨b, hb, by rw [e]; rfl⟩
theorem of_pinsAt {fp : List Addr} {h : Heap} {p : Addr × Obj} (hp : p ∈ pinsAt fp h) : p.1 ∈ fp ∧ h.get? p.1 = some p.2 := by
 obtain ⟨b, hb, e⟩ := List.mem_filterMap.mp hp
 cases q : h.get? b with
 | none => rw [q] at e; cases e
 | some o =>
   rw [q] at e
   have e' : (b, o) = p := Option.some.inj e
   subst e'
   exact ⟨hb, q⟩
theorem Inv.pinned {pins : List (Addr × Obj)} {σ : St} {H : Hp} {s : Shared} {fp : List Addr} (I : Inv X pins σ H s) (hf : ∀ b ∈ fp, FpOk X pins H b) (ho : ∀ b ∈ fp, ∃ o, s.heap.get? b = some o ∧ ∀ v, o.data ≠ .cell v) : Inv X (pins ++ pinsAt fp s.heap) σ H s :=
 I.pins_of fun p hp => (List.mem_append.mp hp).elim (fun z => I.pin p (List.mem_append_right _ z)) fun z => by
   obtain ⟨hb, e⟩ := of_pinsAt z
   obtain ⟨f0, f1, f2, _⟩ := hf p.1 hb
   obtain ⟨o, e', d⟩ := ho p.1 hb
   rw [e] at e'; cases e'
   exact ⟨e, f0, f1, f2, d⟩
theorem Inv.unpinned {pins pl : List (Addr × Obj)} {σ : St} {H : Hp} {s : Shared} (I : Inv X (pins ++ pl) σ H s) : Inv X pins σ H s := I.pins_of fun p hp => I.pin p (List.mem_append_right _ (List.mem_append_left _ hp))
theorem ps_for {iter : Expr} {body : List Stmt} {wi : TI} {g : TG} {tb : TS} {pos : Pos} (hp : PassesOwn (model X.prog X.w) X.A X.env X.xe) (hc : X.calm = true) (hi : PI X tg iter wi) (hg : PG X tg g) (hb : PSs X body tb)
   (hs : ∀ x, foldedSetIterable iter X.env x = pure x := by intro _; rfl) : PS X (.For tg iter body [] pos) (tFor wi g tb) := by
 intro pins s σ H D I h
 refine wpAny_For (thn (hi pins s σ H _ I h) fun v s1 h1 => thn h1 fun itv s2 h2 => ?_) hs
 obtain ⟨it, fp, tn, J, H2, e, I2, T, st2, f2, W, ⟨m0, w0⟩, turn⟩ := h2
 subst e
 have stat : ∀ {H' : Hp}, (∀ b ∈ fp, H' b = none) → ∀ b ∈ fp, FpOk X pins H' b := fun hn b hb => ⟨hn b hb, (f2 b hb).2⟩
 refine codeAny_forLoop_any (fun n s' => ∃ i σ' H', Inv X pins σ' H' s' ∧ tn i s'.heap ∧ (∀ b ∈ fp, H' b = none) ∧ W i n σ' H') ?_ m0 ⟨0, σ, H2, I2, st2, fun b hb => (f2 b hb).1, w0⟩
 rintro n s3 ⟨i, σ3, H3, I3, st3, fr3, w3⟩
 rcases turn i n σ3 H3 w3 with ⟨stop, qn⟩ | ⟨go, N, hN, step⟩
 · refine wpAny_passesOwn hp (thn (T.done X rfl rfl rfl hc i pins s3 σ3 H3 X.xe I3 (stat fr3) st3 stop) fun r s4 ⟨hr, I4⟩ => ?_)
   subst hr
   exact wpAny_execs_nil ⟨σ3, H3, I4, qn⟩
 · refine wpAny_passesOwn hp (thn (T.item X rfl rfl rfl hc i pins s3 σ3 H3 X.xe I3 (stat fr3) st3 go) fun r s4 ⟨u, hr, h4⟩ => ?_)
   subst hr
   refine wpAny_passesOwn hp (thn h4 fun _ s5 ⟨x, H5, I5, r5, y5, st5, fr5⟩ => ?_)
   have I5' := I5.pinned (stat fr5) (T.obj _ _ st5)
   refine wpAny_passesOwn hp (thn (hg _ s5 σ3 H5 x u _ I5' r5 (step x H5 y5)) fun _ s6 ⟨σ6, H6, I6, q6⟩ => ?_)
   refine wpAny_passesOwn hp (thn (hb _ s6 σ6 H6 _ I6 q6) fun f s7 q7 => ?_)
   have again : ∀ {σ7 : St} {H7 : Hp}, Inv X (pins ++ pinsAt fp s5.heap) σ7 H7 s7 → N σ7 H7 → ∃ m, m < n ∧ ∃ i σ' H', Inv X pins σ' H' s7 ∧ tn i s7.heap ∧ (∀ b ∈ fp, H' b = none) ∧ W i m σ' H' := fun {σ7 H7} I7 n7 => by
     obtain ⟨m', hm, w7⟩ := hN σ7 H7 n7
     refine ⟨m', hm, i + 1, σ7, H7, I7.unpinned, T.keep _ _ _ st5 fun b hb o e => (I7.pin (b, o) (List.mem_append_right _ (List.mem_append_right _ (yR hb e)))).1, fun b hb => ?_, w7⟩
     obtain ⟨o, e, d⟩ := T.obj _ _ st5 b hb
     exact (I7.pin (b, o) (List.mem_append_right _ (List.mem_append_right _ (yR hb e)))).2.1
   cases f with
   | next => obtain ⟨σ7, H7, I7, n7⟩ := q7; exact again I7 n7
   | cont => obtain ⟨σ7, H7, I7, n7⟩ := q7; exact again I7 n7
   | brk => obtain ⟨σ7, H7, I7, q7⟩ := q7; exact ⟨σ7, H7, I7.unpinned, q7⟩
   | ret v => obtain ⟨x7, σ7, H7, I7, r7, q7⟩ := q7; exact ⟨x7, σ7, H7, I7.unpinned, r7, q7⟩
end
theorem for_list {K : PySem.W.Frag} {a : Addr} {xs : List V} {g : TG} {tb : TS} {D : Ends} {σ : St} {H : Hp} (Pv : Nat → St → Hp → Prop) (h0 : Pv 0 σ H) (hl : ∀ i σ H, i ≤ xs.length → Pv i σ H → SqL K H a xs)
   (hs : ∀ i x σ H, xs[i]? = some x → Pv i σ H → g x σ H fun σ2 H2 => tb { D with nx := Pv (i + 1), ct := Pv (i + 1), bk := D.nx } σ2 H2) (hd : ∀ σ H, Pv xs.length σ H → D.nx σ H) :
   ∃ W : Nat → Nat → St → Hp → Prop, (∃ m, W 0 m σ H) ∧ ∀ i m σ H, W i m σ H →
     ((Itl K a).stop i H ∧ D.nx σ H) ∨ ((Itl K a).go i H ∧ ∃ N : St → Hp → Prop, (∀ σ' H', N σ' H' → ∃ m', m' < m ∧ W (i + 1) m' σ' H') ∧ ∀ x H', (Itl K a).yld i H x H' → g x σ H' fun σ2 H2 => tb { D with nx := N, ct := N, bk := D.nx } σ2 H2) := by
 refine ⟨fun i m σ H => m = xs.length - i ∧ i ≤ xs.length ∧ Pv i σ H, ⟨xs.length, by simp, Nat.zero_le _, h0⟩, ?_⟩
 rintro i m σ H ⟨rfl, hi, p⟩
 have q := hl i σ H hi p
 by_cases hlt : i < xs.length
 · refine .inr ⟨⟨xs, xs[i], q, by simp [hlt]⟩, Pv (i + 1), fun σ' H' p' => ⟨xs.length - (i + 1), by omega, rfl, hlt, p'⟩, fun x H' y => ?_⟩
   obtain ⟨e, y⟩ := y
   subst e
   exact hs i x σ _ (y xs q) p
 · have e : i = xs.length := by omega
   subst e
   exact .inl ⟨⟨xs, q, Nat.le_refl _⟩, hd σ H p⟩
theorem for_range {lo : Int} {n : Nat} {g : TG} {tb : TS} {D : Ends} {σ : St} {H : Hp} (Pv : Nat → St → Hp → Prop) (h0 : Pv 0 σ H)
   (hs : ∀ i σ H, i < n → Pv i σ H → g (.int (lo + i)) σ H fun σ2 H2 => tb { D with nx := Pv (i + 1), ct := Pv (i + 1), bk := D.nx } σ2 H2) (hd : ∀ σ H, Pv n σ H → D.nx σ H) :
   ∃ W : Nat → Nat → St → Hp → Prop, (∃ m, W 0 m σ H) ∧ ∀ i m σ H, W i m σ H →
     ((Itr lo n).stop i H ∧ D.nx σ H) ∨ ((Itr lo n).go i H ∧ ∃ N : St → Hp → Prop, (∀ σ' H', N σ' H' → ∃ m', m' < m ∧ W (i + 1) m' σ' H') ∧ ∀ x H', (Itr lo n).yld i H x H' → g x σ H' fun σ2 H2 => tb { D with nx := N, ct := N, bk := D.nx } σ2 H2) := by
 refine ⟨fun i m σ H => m = n - i ∧ i ≤ n ∧ Pv i σ H, ⟨n, by simp, Nat.zero_le _, h0⟩, ?_⟩
 rintro i m σ H ⟨rfl, hi, p⟩
 by_cases hlt : i < n
 · refine .inr ⟨hlt, Pv (i + 1), fun σ' H' p' => ⟨n - (i + 1), by omega, rfl, hlt, p'⟩, fun x H' y => ?_⟩
   obtain ⟨e, y⟩ := y
   subst e y
   exact hs i σ _ hlt p
 · have e : i = n := by omega
   subst e
   exact .inl ⟨Nat.le_refl _, hd σ H p⟩
end L2
namespace L2
open PySem PySem.Spec PyProof.Rows
abbrev R2 := V → V → Hp → VK → Prop
def OpR (X : Cx) (f : Value → Value → Sem Value) (r : R2) : Prop :=
 ∀ (pins : List (Addr × Obj)) (s : Shared) (σ : St) (H : Hp) (x y : V) (v u : Value) (Q : VK), Inv X pins σ H s → RelV x v → RelV y u → r x y H Q →
   wpAny (model X.prog X.w) X.A (f v u) (EP X pins σ Q) X.xe s
def UnR (X : Cx) (f : Value → Sem Value) (r : V → Hp → VK → Prop) : Prop :=
 ∀ (pins : List (Addr × Obj)) (s : Shared) (σ : St) (H : Hp) (x : V) (v : Value) (Q : VK), Inv X pins σ H s → RelV x v → r x H Q →
   wpAny (model X.prog X.w) X.A (f v) (EP X pins σ Q) X.xe s
def CallR (X : Cx) (f : Value) (r : List V → Hp → VK → Prop) : Prop :=
 ∀ (pins : List (Addr × Obj)) (s : Shared) (σ : St) (H : Hp) (xs : List V) (us : List Value) (Q : VK), Inv X pins σ H s → Vals xs us → r xs H Q →
   wpAny (model X.prog X.w) X.A (call f us) (EP X pins σ Q) X.xe s
def TruR (X : Cx) (r : V → Hp → (Bool → Hp → Prop) → Prop) : Prop :=
 ∀ (pins : List (Addr × Obj)) (s : Shared) (σ : St) (H : Hp) (x : V) (v : Value) (Q : Bool → Hp → Prop), Inv X pins σ H s → RelV x v → r x H Q →
   wpAny (model X.prog X.w) X.A (truthy v) (TP X pins σ Q) X.xe s
def tOp (r : R2) (ta tb : TE) : TE := fun σ H Q => ta σ H fun x H1 => tb σ H1 fun y H2 => r x y H2 Q
def tUn (r : V → Hp → VK → Prop) (ta : TE) : TE := fun σ H Q => ta σ H fun x H1 => r x H1 Q
def rI (C : Int → Int → Prop) (g : Int → Int → V) : R2 := fun x y H Q => ∃ i j, x = .int i ∧ y = .int j ∧ C i j ∧ Q (g i j) H
def rI0 (g : Int → Int → V) : R2 := fun x y H Q => ∃ i j, x = .int i ∧ y = .int j ∧ Q (g i j) H
def rU (g : Int → V) : V → Hp → VK → Prop := fun x H Q => ∃ i, x = .int i ∧ Q (g i) H
section
variable {X : Cx} {a b c : Expr} {ta tb tc : TE} {pos : Pos}
theorem binT (ha : PE X a ta) (hb : PE X b tb) {pins : List (Addr × Obj)} {s : Shared} {σ : St} {H : Hp} {R : V → V → Hp → Prop} (I : Inv X pins σ H s)
   (h : ta σ H fun x H1 => tb σ H1 fun y H2 => R x y H2) {Q : Value → Shared → Prop} {f : Value → Value → Sem Value}
   (hf : ∀ v u s2 x y H2, Inv X pins σ H2 s2 → RelV x v → RelV y u → R x y H2 → wpAny (model X.prog X.w) X.A (f v u) Q X.xe s2) :
   wpAny (model X.prog X.w) X.A (eval a X.env) (fun v s₁ => wpAny (model X.prog X.w) X.A (eval b X.env) (fun u s₂ => wpAny (model X.prog X.w) X.A (f v u) Q X.xe s₂) X.xe s₁) X.xe s := by
 refine thn (ha pins s σ H _ I h) fun v s1 ⟨x, H1, I1, r1, q1⟩ => ?_
 refine thn (hb pins s1 σ H1 _ I1 q1) fun u s2 ⟨y, H2, I2, r2, q2⟩ => ?_
 exact hf v u s2 x y H2 I2 r1 r2 q2
theorem yA {op : Operator} {r : R2} (ho : OpR X (binaryOp op) r) (ha : PE X a ta) (hb : PE X b tb) : PE X (.BinOp a op b pos) (tOp r ta tb) := by
 intro pins s σ H Q I h
 exact wpAny_BinOp (binT ha hb I h fun v u s2 x y H2 I2 rx ry q => ho pins s2 σ H2 x y v u Q I2 rx ry q)
theorem pe_un {op : UnaryOp} {r : V → Hp → VK → Prop} (ho : UnR X (unaryOp op) r) (ha : PE X a ta) : PE X (.UnaryOp op a pos) (tUn r ta) := by
 intro pins s σ H Q I h
 exact UnaryOp_ (thn (ha pins s σ H _ I h) fun v s1 ⟨x, H1, I1, r1, q1⟩ => ho pins s1 σ H1 x v Q I1 r1 q1)
theorem opI {f : Value → Value → Sem Value} {C : Int → Int → Prop} {g : Int → Int → Int}
   (rule : ∀ (i j : Int) (t u : Tok) (s : Shared) (Q : Value → Shared → Prop) (E : Value → Shared → Prop), C i j → Q (.int (g i j) s.toks) { s with toks := s.toks + 1 } → wpAny (model X.prog X.w) X.A (f (.int i t) (.int j u)) Q E s) :
   OpR X f (rI C fun i j => .int (g i j)) := by
 intro pins s σ H x y v u Q I rx ry h
 obtain ⟨i, j, rfl, rfl, hc, q⟩ := h
 obtain ⟨t, rfl⟩ := rx
 obtain ⟨t', rfl⟩ := ry
 exact rule i j t t' s _ _ hc ⟨.int (g i j), H, I.tok _, ⟨_, rfl⟩, q⟩
theorem opI0 {f : Value → Value → Sem Value} {g : Int → Int → Int}
   (rule : ∀ (i j : Int) (t u : Tok) (s : Shared) (Q : Value → Shared → Prop) (E : Value → Shared → Prop), Q (.int (g i j) s.toks) { s with toks := s.toks + 1 } → wpAny (model X.prog X.w) X.A (f (.int i t) (.int j u)) Q E s) :
   OpR X f (rI0 fun i j => .int (g i j)) := by
 intro pins s σ H x y v u Q I rx ry h
 obtain ⟨i, j, rfl, rfl, q⟩ := h
 obtain ⟨t, rfl⟩ := rx
 obtain ⟨t', rfl⟩ := ry
 exact rule i j t t' s _ _ ⟨.int (g i j), H, I.tok _, ⟨_, rfl⟩, q⟩
theorem opB0 {f : Value → Value → Sem Value} {g : Int → Int → Bool}
   (rule : ∀ (i j : Int) (t u : Tok) (s : Shared) (Q : Value → Shared → Prop) (E : Value → Shared → Prop), Q (.bool (g i j)) s → wpAny (model X.prog X.w) X.A (f (.int i t) (.int j u)) Q E s) :
   OpR X f (rI0 fun i j => .bl (g i j)) := by
 intro pins s σ H x y v u Q I rx ry h
 obtain ⟨i, j, rfl, rfl, q⟩ := h
 obtain ⟨t, rfl⟩ := rx
 obtain ⟨t', rfl⟩ := ry
 exact rule i j t t' s _ _ ⟨.bl (g i j), H, I, rfl, q⟩
def CDiv (i j : Int) : Prop := 0 < j ∧ j < 1073741824
def CPow (i j : Int) : Prop := 0 ≤ j ∧ j ≤ 1000000 ∧ i.natAbs < 2 ^ 64
def CMul (i j : Int) : Prop := (-(2 ^ 64) < i ∧ i < 2 ^ 64) ∨ (-(2 ^ 64) < j ∧ j < 2 ^ 64)
theorem CMul.ok {i j : Int} (h : CMul i j) : IntMulOk i j := by
 rcases h with ⟨h1, h2⟩ | ⟨h1, h2⟩
 · exact .of_left (intBits_le_64 h1 h2)
 · exact .of_right (intBits_le_64 h1 h2)
theorem xJ : OpR X (binaryOp .Add) (rI0 fun i j => .int (i + j)) := opI0 fun _ _ _ _ _ _ _ q => add_int q
theorem op_sub : OpR X (binaryOp .Sub) (rI0 fun i j => .int (i - j)) := opI0 fun _ _ _ _ _ _ _ q => sub_int q
theorem op_fdiv : OpR X (binaryOp .FloorDiv) (rI CDiv fun i j => .int (i / j)) := opI fun i j _ _ _ _ _ hc q => by
 have h1 : (0 : Int) < j := hc.1
 have h2 : j < 1073741824 := hc.2
 exact floordiv_int (by omega) (by rw [Int.fdiv_eq_ediv_of_nonneg i (by omega)]; exact q) (.inl (PyProof.noPylong_small (by omega)))
theorem xN : OpR X (binaryOp .Mod) (rI (fun _ j => 0 < j) fun i j => .int (i % j)) := opI fun i j _ _ _ _ _ hc q => by
 have h1 : (0 : Int) < j := hc
 exact mod_int' (by omega) (by rw [Int.fmod_eq_emod_of_nonneg i (by omega)]; exact q)
theorem op_pow : OpR X (binaryOp .Pow) (rI CPow fun i j => .int (i ^ j.toNat)) := opI fun _ _ _ _ _ _ _ hc q => pow_int_small hc.1 hc.2.1 hc.2.2 q
theorem unI {f : Value → Sem Value} {g : Int → Int}
   (rule : ∀ (i : Int) (t : Tok) (s : Shared) (Q : Value → Shared → Prop) (E : Value → Shared → Prop), Q (.int (g i) s.toks) { s with toks := s.toks + 1 } → wpAny (model X.prog X.w) X.A (f (.int i t)) Q E s) :
   UnR X f (rU fun i => .int (g i)) := by
 intro pins s σ H x v Q I rx h
 obtain ⟨i, rfl, q⟩ := h
 obtain ⟨t, rfl⟩ := rx
 exact rule i t s _ _ ⟨.int (g i), H, I.tok _, ⟨_, rfl⟩, q⟩
theorem un_neg : UnR X (unaryOp .USub) (rU fun i => .int (-i)) := unI fun _ _ _ _ _ q => neg_int q
end
def scal : V → V → Bool
 | .non, .non => true | .non, .int _ => true | .int _, .non => true | .non, .bl _ => true | .bl _, .non => true | .non, .str _ => true | .str _, .non => true
 | .int _, .int _ => true | .bl _, .bl _ => true | .str _, .str _ => true | .byt _, .byt _ => true
 | .int _, .str _ => true | .str _, .int _ => true | .bl _, .str _ => true | .str _, .bl _ => true
 | _, _ => false
def rEq : R2 := fun x y H Q => scal x y = true ∧ Q (.bl (decide (x = y))) H
def rNe : R2 := fun x y H Q => scal x y = true ∧ Q (.bl (!decide (x = y))) H
theorem dec_int {i j : Int} : decide (V.int i = V.int j) = (i == j) := by
 rw [Bool.eq_iff_iff]
 simp
theorem dec_bl {i j : Bool} : decide (V.bl i = V.bl j) = (i == j) := by
 rw [Bool.eq_iff_iff]
 simp
theorem dec_str {i j : Str} : decide (V.str i = V.str j) = (i == j) := by
 rw [Bool.eq_iff_iff]
 simp
theorem dec_byt {i j : Array UInt8} : decide (V.byt i = V.byt j) = (i.toList == j.toList) := by
 rw [Bool.eq_iff_iff]
 cases i
 cases j
 simp
section
variable {X : Cx} {a b c : Expr} {ta tb tc : TE} {pos : Pos}
theorem yG {pins : List (Addr × Obj)} {σ : St} {H : Hp} {s : Shared} {Q : VK} {k k' : Bool} (I : Inv X pins σ H s) (q : Q (.bl k) H) (e : k = k') : EP X pins σ Q (.bool k') s := by
 subst e
 exact ⟨.bl k, H, I, rfl, q⟩
theorem xP : OpR X (compareOp .Eq) rEq := by
 intro pins s σ H x y v u Q I rx ry h
 obtain ⟨hs, q⟩ := h
 cases x with
 | non =>
   cases rx
   cases y with
   | non => cases ry; exact PySem.EqNone.eq_none_none (yG I q (by simp))
   | bl j => cases ry; exact PySem.EqNone.eq_none_bool (yG I q (by simp))
   | int j => obtain ⟨t', rfl⟩ := ry; exact PySem.EqNone.eq_none_int (yG I q (by simp))
   | str j => obtain ⟨t', rfl⟩ := ry; exact PySem.EqNone.eq_none_str (yG I q (by simp))
   | _ => exact absurd (show false = true from hs) Bool.false_ne_true
 | bl i =>
   cases rx
   cases y with
   | non => cases ry; exact PySem.EqNone.eq_bool_none (yG I q (by simp))
   | bl j => cases ry; exact eq_bool (yG I q dec_bl)
   | str j => obtain ⟨t', rfl⟩ := ry; exact PySem.EqMixed.eq_bool_str (yG I q (by simp))
   | _ => exact absurd (show false = true from hs) Bool.false_ne_true
 | int i =>
   obtain ⟨t, rfl⟩ := rx
   cases y with
   | non => cases ry; exact PySem.EqNone.eq_int_none (yG I q (by simp))
   | int j => obtain ⟨t', rfl⟩ := ry; exact eq_int (yG I q dec_int)
   | str j => obtain ⟨t', rfl⟩ := ry; exact PySem.EqMixed.eq_int_str (yG I q (by simp))
   | _ => exact absurd (show false = true from hs) Bool.false_ne_true
 | str i =>
   obtain ⟨t, rfl⟩ := rx
   cases y with
   | non => cases ry; exact PySem.EqNone.eq_str_none (yG I q (by simp))
   | bl j => cases ry; exact PySem.EqMixed.eq_str_bool (yG I q (by simp))
   | int j => obtain ⟨t', rfl⟩ := ry; exact PySem.EqMixed.eq_str_int (yG I q (by simp))
   | str j => obtain ⟨t', rfl⟩ := ry; exact eq_str (yG I q dec_str)
   | _ => exact absurd (show false = true from hs) Bool.false_ne_true
 | byt i =>
   obtain ⟨t, rfl⟩ := rx
   cases y with
   | byt j => obtain ⟨t', rfl⟩ := ry; exact PySem.W.eq_bytes (yG I q dec_byt)
   | _ => exact absurd (show false = true from hs) Bool.false_ne_true
 | _ => cases y <;> exact absurd (show false = true from hs) Bool.false_ne_true
theorem op_ne : OpR X (compareOp .NotEq) rNe := by
 intro pins s σ H x y v u Q I rx ry h
 obtain ⟨hs, q⟩ := h
 cases x with
 | non =>
   cases rx
   cases y with
   | non => cases ry; exact PySem.EqNone.ne_none_none (yG I q (by simp))
   | bl j => cases ry; exact PySem.EqNone.ne_none_bool (yG I q (by simp))
   | int j => obtain ⟨t', rfl⟩ := ry; exact PySem.EqNone.ne_none_int (yG I q (by simp))
   | str j => obtain ⟨t', rfl⟩ := ry; exact PySem.EqNone.ne_none_str (yG I q (by simp))
   | _ => exact absurd (show false = true from hs) Bool.false_ne_true
 | bl i =>
   cases rx
   cases y with
   | non => cases ry; exact PySem.EqNone.ne_bool_none (yG I q (by simp))
   | bl j => cases ry; exact ne_bool (yG I q (congrArg not dec_bl))
   | str j => obtain ⟨t', rfl⟩ := ry; exact PySem.EqMixed.ne_bool_str (yG I q (by simp))
   | _ => exact absurd (show false = true from hs) Bool.false_ne_true
 | int i =>
   obtain ⟨t, rfl⟩ := rx
   cases y with
   | non => cases ry; exact PySem.EqNone.ne_int_none (yG I q (by simp))
   | int j => obtain ⟨t', rfl⟩ := ry; exact ne_int (yG I q (congrArg not dec_int))
   | str j => obtain ⟨t', rfl⟩ := ry; exact PySem.EqMixed.ne_int_str (yG I q (by simp))
   | _ => exact absurd (show false = true from hs) Bool.false_ne_true
 | str i =>
   obtain ⟨t, rfl⟩ := rx
   cases y with
   | non => cases ry; exact PySem.EqNone.ne_str_none (yG I q (by simp))
   | bl j => cases ry; exact PySem.EqMixed.ne_str_bool (yG I q (by simp))
   | int j => obtain ⟨t', rfl⟩ := ry; exact PySem.EqMixed.ne_str_int (yG I q (by simp))
   | str j => obtain ⟨t', rfl⟩ := ry; exact ne_str (yG I q (congrArg not dec_str))
   | _ => exact absurd (show false = true from hs) Bool.false_ne_true
 | byt i =>
   obtain ⟨t, rfl⟩ := rx
   cases y with
   | byt j => obtain ⟨t', rfl⟩ := ry; exact PySem.W.ne_bytes (yG I q (congrArg not dec_byt))
   | _ => exact absurd (show false = true from hs) Bool.false_ne_true
 | _ => cases y <;> exact absurd (show false = true from hs) Bool.false_ne_true
theorem op_lt : OpR X (compareOp .Lt) (rI0 fun i j => .bl (decide (i < j))) := opB0 fun _ _ _ _ _ _ _ q => lt_int q
theorem op_le : OpR X (compareOp .LtE) (rI0 fun i j => .bl (decide (i ≤ j))) := opB0 fun _ _ _ _ _ _ _ q => le_int q
theorem op_gt : OpR X (compareOp .Gt) (rI0 fun i j => .bl (decide (j < i))) := opB0 fun _ _ _ _ _ _ _ q => gt_int q
theorem op_ge : OpR X (compareOp .GtE) (rI0 fun i j => .bl (decide (j ≤ i))) := opB0 fun _ _ _ _ _ _ _ q => ge_int q
theorem op_in_str : OpR X (compareOp .In) (fun x y H Q => ∃ i j, x = .str i ∧ y = .str j ∧ Q (.bl (!(Builtin.Str.occurrences j i 0 j.length 1).isEmpty)) H) := by
 intro pins s σ H x y v u Q I rx ry h
 obtain ⟨i, j, rfl, rfl, q⟩ := h
 obtain ⟨t, rfl⟩ := rx
 obtain ⟨t', rfl⟩ := ry
 exact in_str (yG I q rfl)
theorem op_isN : OpR X (compareOp .Is) (fun x y H Q => y = .non ∧ Q (.bl (decide (x = .non))) H) := by
 intro pins s σ H x y v u Q I rx ry h
 obtain ⟨rfl, q⟩ := h
 cases ry
 refine is_none_gen (yG I q ?_)
 cases x <;> first
   | (cases rx; rfl)
   | (obtain ⟨t, rfl⟩ := rx; rfl)
theorem op_notN : OpR X (compareOp .IsNot) (fun x y H Q => y = .non ∧ Q (.bl (!decide (x = .non))) H) := by
 intro pins s σ H x y v u Q I rx ry h
 obtain ⟨rfl, q⟩ := h
 cases ry
 refine isnot_none_gen (yG I q ?_)
 cases x <;> first
   | (cases rx; rfl)
   | (obtain ⟨t, rfl⟩ := rx; rfl)
theorem OpR.or {f : Value → Value → Sem Value} {r r' : R2} (h : OpR X f r) (h' : OpR X f r') : OpR X f (fun x y H Q => r x y H Q ∨ r' x y H Q) := by
 intro pins s σ H x y v u Q I rx ry q
 rcases q with q | q
 · exact h pins s σ H x y v u Q I rx ry q
 · exact h' pins s σ H x y v u Q I rx ry q
theorem zW (b : Expr) {op : CmpOp} (h : op ≠ .In := by decide) (h2 : op ≠ .NotIn := by decide) : behindInMarks op b = false := by
 have e1 : (op == CmpOp.In) = false := by cases op <;> first | rfl | exact absurd rfl h
 have e2 : (op == CmpOp.NotIn) = false := by cases op <;> first | rfl | exact absurd rfl h2
 cases b <;> simp [behindInMarks, e1, e2]
theorem xR {op : CmpOp} {r : R2} (ho : OpR X (compareOp op) r) (ha : PE X a ta) (hb : PE X b tb) (hm : behindInMarks op b = false) : PE X (.Compare a [op] [b] pos) (tOp r ta tb) := by
 intro pins s σ H Q I h
 exact wpAny_Compare1 (binT ha hb I h fun v u s2 x y H2 I2 rx ry q => ho pins s2 σ H2 x y v u Q I2 rx ry q) hm
def tTest (t : TE) : TT := fun σ H Q => t σ H fun x H' => ∃ k, x = .bl k ∧ Q k H'
theorem zQ {op : CmpOp} {r : R2} (ho : OpR X (compareOp op) r) (ha : PE X a ta) (hb : PE X b tb) (hm : behindInMarks op b = false) : PT X (.Compare a [op] [b] pos) (tTest (tOp r ta tb)) := by
 intro pins s σ H Q I h
 refine wpAny_isTrue_Compare1 (thn (ha pins s σ H _ I h) fun v s1 ⟨x, H1, I1, r1, q1⟩ => thn (hb pins s1 σ H1 _ I1 q1) fun u s2 ⟨y, H2, I2, r2, q2⟩ =>
   thn (ho pins s2 σ H2 x y v u _ I2 r1 r2 q2) fun c s3 ⟨z, H3, I3, r3, k, e, q3⟩ => ?_) hm
 subst e
 cases r3
 exact wpAny_truthy_bool ⟨H3, I3, q3⟩
def tChain (r r' : R2) (ta tb tc : TE) : TE := fun σ H Q => ta σ H fun x H1 => tb σ H1 fun y H2 => r x y H2 fun z H3 => ∃ k, z = .bl k ∧
 (if k = true then tc σ H3 fun w' H4 => r' y w' H4 Q else Q (.bl false) H3)
theorem pe_chain {op op' : CmpOp} {r r' : R2} (ho : OpR X (compareOp op) r) (ho' : OpR X (compareOp op') r') (ha : PE X a ta) (hb : PE X b tb) (hc : PE X c tc)
   (hm : lastMarks [op, op'] [b, c] = false := by with_unfolding_all rfl) : PE X (.Compare a [op, op'] [b, c] pos) (tChain r r' ta tb tc) := by
 intro pins s σ H Q I h
 refine Compare_chain (thn (ha pins s σ H _ I h) fun v s1 ⟨x, H1, I1, r1, q1⟩ => chain_link (thn (hb pins s1 σ H1 _ I1 q1) fun u s2 ⟨y, H2, I2, r2, q2⟩ =>
   thn (ho pins s2 σ H2 x y v u _ I2 r1 r2 q2) fun d s3 ⟨z, H3, I3, r3, k, e, q3⟩ => ?_)) hm
 subst e
 cases r3
 refine wpAny_truthy_bool ?_
 cases k with
 | false => exact ite_ff ⟨.bl false, H3, I3, rfl, q3⟩
 | true => exact ite_tt (chain_last (thn (hc pins s3 σ H3 _ I3 q3) fun w' s4 ⟨z', H4, I4, r4, q4⟩ => ho' pins s4 σ H4 y z' u w' Q I4 r2 r4 q4))
theorem line63 : (sizeLine : Nat) < 2 ^ 63 := by rw [sizeLine_eq]; decide
theorem op_add_str : OpR X (binaryOp .Add) (fun x y H Q => ∃ i j, x = .str i ∧ y = .str j ∧ i.length + j.length ≤ sizeLine ∧ Q (.str (i ++ j)) H) := by
 intro pins s σ H x y v u Q I rx ry h
 obtain ⟨i, j, rfl, rfl, hz, q⟩ := h
 obtain ⟨t, rfl⟩ := rx
 obtain ⟨t', rfl⟩ := ry
 exact add_str (fun t' tk => ⟨.str (i ++ j), H, I.tok _, ⟨_, rfl⟩, q⟩) hz
theorem vals1 {x : V} {us : List Value} (r : Vals [x] us) : ∃ u, us = [u] ∧ RelV x u := by
 cases r with
 | cons r1 r2 => cases r2; exact ⟨_, rfl, r1⟩
theorem vals2 {x y : V} {us : List Value} (r : Vals [x, y] us) : ∃ u w', us = [u, w'] ∧ RelV x u ∧ RelV y w' := by
 cases r with
 | cons r1 r2 =>
   cases r2 with
   | cons r3 r4 => cases r4; exact ⟨_, _, rfl, r1, r3⟩
theorem call_max2 (hc : X.calm = true) : CallR X (.builtin "max") (fun xs H Q => ∃ i j, xs = [.int i, .int j] ∧ Q (.int (if j > i then j else i)) H) := by
 intro pins s σ H xs us Q I r h
 obtain ⟨i, j, rfl, q⟩ := h
 obtain ⟨u, w', rfl, ⟨t, rfl⟩, ⟨t', rfl⟩⟩ := vals2 r
 refine max_two_ints (I.ok.hd hc) fun h' tk k => ⟨_, H, I.kept k, ?_, q⟩
 by_cases hj : j > i
 · rw [if_pos hj, if_pos hj]; exact ⟨_, rfl⟩
 · rw [if_neg hj, if_neg hj]; exact ⟨_, rfl⟩
theorem call_int1 : CallR X (.type "int") (fun xs H Q => (∃ i, xs = [.int i] ∧ Q (.int i) H) ∨ ∃ k, xs = [.bl k] ∧ Q (.int (if k then 1 else 0)) H) := by
 intro pins s σ H xs us Q I r h
 rcases h with ⟨i, rfl, q⟩ | ⟨k, rfl, q⟩
 · obtain ⟨u, rfl, t, rfl⟩ := vals1 r
   exact call_int_int ⟨.int i, H, I, ⟨_, rfl⟩, q⟩
 · obtain ⟨u, rfl, r1⟩ := vals1 r
   cases r1
   exact call_int_bool ⟨.int (if k then 1 else 0), H, I.tok _, ⟨_, rfl⟩, q⟩
theorem call_str_int : CallR X (.type "str") (fun xs H Q => ∃ i, xs = [.int i] ∧ i.natAbs.log2 < 1920 ∧ Q (.str (toString i)) H) := by
 intro pins s σ H xs us Q I r h
 obtain ⟨i, rfl, hz, q⟩ := h
 obtain ⟨u, rfl, t, rfl⟩ := vals1 r
 exact PySem.P.str_of_int hz ⟨.str _, H, I.tok _, ⟨_, rfl⟩, q⟩
end
end L2
namespace L2
open PySem PySem.Spec PyProof.Rows
structure ObjM (h : Heap) (x dx C : Addr) (mA : Str → Option Value) : Prop where
 obj : h.get? x = some (PySem.W.instObj C dx)
 ns : h.Ns1 dx mA
 ne : dx ≠ x
theorem lookIn_ns {h : Heap} {dx : Addr} {mA : Str → Option Value} (n : h.Ns1 dx mA) : ∃ od, h.get? dx = some od ∧ ∀ name, PySem.W.lookIn name od = some (mA name) := by
 obtain ⟨o, es, ep, ho, hd, hk, _, hm⟩ := n
 refine ⟨o, ho, fun name => ?_⟩
 have e := hm name
 unfold nsFind findBy at e
 rw [← Array.find?_toList] at e
 unfold PySem.W.lookIn
 rw [hd]
 dsimp only
 split
 · rename_i y q
   rw [q] at e
   exact congrArg some e
 · rename_i q
   rw [q] at e
   have a : es.toList.any (·.refKey) = false := by
     rw [List.any_eq_false]
     intro y hy
     obtain ⟨z, t, hkey⟩ := hk y (Array.mem_toList_iff.mp hy)
     simp [DictEntry.refKey, hkey]
   have a' : ¬ es.toList.any (·.refKey) = true := by rw [a]; exact Bool.false_ne_true
   rw [if_neg a']
   exact congrArg some e
theorem ObjM.look {h : Heap} {x dx C : Addr} {mA : Str → Option Value} (I : ObjM h x dx C mA) : ∃ od, PySem.W.InstAt h x (PySem.W.instObj C dx) C (some od) ∧ ∀ name, PySem.W.lookIn name od = some (mA name) :=
 let ⟨od, ho, hl⟩ := lookIn_ns I.ns
 ⟨od, ⟨I.obj, rfl, rfl, ho⟩, hl⟩
section
variable {prog : Program} {w : World} {A : Around} {E : Value → Shared → Prop} {s : Shared} {K : PySem.W.Frag} {x dx C f : Addr} {mA : Str → Option Value} {name : Str} {v : Value}
theorem get_map {expr : Bool} {Q : Value → Shared → Prop} (X : K.In s.heap) (I : ObjM s.heap x dx C mA) (hg : PySem.W.plainGet K C name = true) (hh : PySem.W.hasDictIn K C = true)
   (ha : PySem.W.findIn K (.ref C) name = some none) (hv : mA name = some v) (hv' : PySem.W.handedIn v = true) (h : Q v { s with toks := s.toks + 1 }) :
   wpAny (model prog w) A (getAttr (.ref x) name expr) Q E s := by
 obtain ⟨od, J, hl⟩ := I.look
 exact PySem.W.get_value X J (PySem.W.plainGet_of hg).1 (PySem.W.findObj_own hh ha rfl (by rw [hl, hv])) hv' h
theorem get_meth {pl : Sem Bool} {Q : Value × List Value → Shared → Prop} (X : K.In s.heap) (I : ObjM s.heap x dx C mA) (hg : PySem.W.plainGet K C name = true)
   (hf : PySem.W.findIn K (.ref C) name = some (some (.ref f))) (ht : PySem.W.isFn K (.ref f) = true) (hv : mA name = none) (h : Q (.ref f, [.ref x]) s) :
   wpAny (model prog w) A (getMethod (.ref x) name pl) Q E s := by
 obtain ⟨od, J, hl⟩ := I.look
 exact PySem.W.method_fn X J (PySem.W.plainGet_of hg).1 (PySem.W.plainGet_of hg).2 hf (beq_iff_eq.mp ht) (by show (PySem.W.lookIn name od).map (·.isSome) = some false; rw [hl, hv]; rfl) h
theorem set_map {ns : List Str} {Q : Unit → Shared → Prop} (X : K.In s.heap) (I : ObjM s.heap x dx C mA)
   (hs : PySem.W.findIn K (.ref C) "__setattr__" = some (some (.builtin "object.__setattr__"))) (hp : PySem.W.plainOver K C = true) (ht : PySem.W.takerIn K C name = some none) (hh : PySem.W.hasDictIn K C = true)
   (hw : PySem.Within mA ns) (hsz : ns.length ≤ sizeLine)
   (h : ∀ h', ObjM h' x dx C (fun y => if y = name then some v else mA y) → Heap.SameBut dx s.heap h' → Q () { s with heap := h', toks := s.toks + 2 }) :
   wpAny (model prog w) A (setAttr (.ref x) name v) Q E s := by
 obtain ⟨od, J, hl⟩ := I.look
 refine PySem.W.set_plain X J hs (PySem.W.osa_open (s := { s with toks := s.toks + 1 }) (r := none) X J hp ht fun b => ?_)
 obtain ⟨cd, hc, hd'⟩ := PySem.W.any_some hh
 have hx : s.heap.get? x = some ⟨.ref C, some dx, .plain, #[]⟩ := I.obj
 refine wpAny_bind (wpAny_pure (wpAny_bind (wpAny_bind (wpAny_loadPart hx (wpAny_bind (PySem.W.Looks.here (s := { s with toks := s.toks + 1 }) (PySem.W.looks_clsIn X hc) ?_))))))
 rw [hd']
 refine wpAny_pure (a := some dx) (wpAny_bind (wpAny_pure (wpAny_bind ?_)))
 refine wpAny_nsSet1 (s := { s with toks := s.toks + 1 }) I.ns fun h' hn2 hs2 => ?_
 obtain ⟨oD, esD, epD, hoD, hdD, hcD⟩ := hn2.count (PySem.Within.cons name v hw)
 refine wpAny_bind (wpAny_lookBehind hoD (by rw [hdD]; exact pastItsLine_dict (Nat.le_trans hcD (by rw [List.length_cons]; omega))) ?_)
 exact wpAny_pure (h _ ⟨(hs2.2 _ (Ne.symm I.ne)).trans I.obj, hn2, I.ne⟩ hs2)
theorem make_map {R : Result → Shared → Prop} {vs : List Value} {kw : List (Str × Value)} (X : K.In s.heap) (hm : PySem.W.makesIn K C = true)
   (hi : PySem.W.findIn K (.ref C) "__init__" = some (some (.ref f))) (hf : PySem.W.typeIn K (.ref f) = some (.type "function"))
   (h : codeAny (model prog w) (A.under (.builtin "type.__call__" ⟨.ref C :: vs, kw⟩)) (.call (.ref f) ⟨.ref (s.heap.objs.size + 1) :: vs, kw⟩) (PySem.W.InitBack (s.heap.objs.size + 1) R)
     { s with heap := (s.heap.push PySem.W.emptyDict).push (PySem.W.instObj C s.heap.objs.size) }) :
   codeAny (model prog w) A (.call (.ref C) ⟨vs, kw⟩) R s := by
 obtain ⟨hh, g, d, t, os⟩ := s
 exact PySem.W.make_core (PySem.W.makes_of X hm) (PySem.W.looks_findIn X hi) (fun self => PySem.W.bind_fn X self hf) (.inl rfl) h
end
def putF (f : Str) (v : V) : List (Str × V) → List (Str × V)
 | [] => [(f, v)]
 | (g, x) :: r => if g = f then (g, v) :: r else (g, x) :: putF f v r
theorem lookup_putF (f g : Str) (v : V) : ∀ fs : List (Str × V), (putF f v fs).lookup g = if g = f then some v else fs.lookup g
 | [] => by
   show List.lookup g [(f, v)] = _
   by_cases h : g = f
   · have hb : (g == f) = true := beq_iff_eq.mpr h
     simp only [List.lookup, hb, if_pos h]
   · have hb : (g == f) = false := beq_eq_false_iff_ne.mpr h
     simp only [List.lookup, hb, if_neg h]
 | (k, x) :: r => by
   have ih := lookup_putF f g v r
   rw [show putF f v ((k, x) :: r) = (if k = f then (k, v) :: r else (k, x) :: putF f v r) from rfl]
   by_cases hk : k = f
   · rw [if_pos hk]
     by_cases h : g = k
     · have hb : (g == k) = true := beq_iff_eq.mpr h
       simp only [List.lookup, hb, if_pos (h.trans hk)]
     · have hb : (g == k) = false := beq_eq_false_iff_ne.mpr h
       simp only [List.lookup, hb, if_neg (fun e : g = f => h (e.trans hk.symm))]
   · rw [if_neg hk]
     by_cases h : g = k
     · have hb : (g == k) = true := beq_iff_eq.mpr h
       simp only [List.lookup, hb, if_neg (fun e : g = f => hk (h.symm.trans e))]
     · have hb : (g == k) = false := beq_eq_false_iff_ne.mpr h
       simp only [List.lookup, hb]
       exact ih
theorem keys_putF (f : Str) (v : V) : ∀ fs : List (Str × V), f ∈ (putF f v fs).map (·.1) ∧ ∀ g, g ∈ fs.map (·.1) → g ∈ (putF f v fs).map (·.1)
 | [] => ⟨by simp [putF], fun g h => by simp at h⟩
 | (k, x) :: r => by
   obtain ⟨i1, i2⟩ := keys_putF f v r
   rw [show putF f v ((k, x) :: r) = (if k = f then (k, v) :: r else (k, x) :: putF f v r) from rfl]
   by_cases hk : k = f
   · rw [if_pos hk]
     subst hk
     exact ⟨by simp, fun g h => by simpa using h⟩
   · rw [if_neg hk]
     refine ⟨?_, fun g h => ?_⟩
     · rw [List.map_cons]
       exact List.mem_cons_of_mem _ i1
     · rw [List.map_cons] at h ⊢
       rcases List.mem_cons.mp h with e | e
       · exact List.mem_cons.mpr (.inl e)
       · exact List.mem_cons_of_mem _ (i2 g e)
theorem length_putF (f : Str) (v : V) : ∀ fs : List (Str × V), (putF f v fs).length ≤ fs.length + 1
 | [] => by simp [putF]
 | (k, x) :: r => by
   have ih := length_putF f v r
   rw [show putF f v ((k, x) :: r) = (if k = f then (k, v) :: r else (k, x) :: putF f v r) from rfl]
   by_cases hk : k = f
   · rw [if_pos hk, List.length_cons, List.length_cons]; omega
   · rw [if_neg hk, List.length_cons, List.length_cons]; omega
theorem RelO.some_of {v : V} {o : Option Value} (r : RelO (some v) o) : ∃ u, o = some u ∧ RelV v u := by
 cases o with
 | none => exact (show False from r).elim
 | some u => exact ⟨u, rfl, r⟩
theorem RelO.none_of {o : Option Value} (r : RelO none o) : o = none := by
 cases o with
 | none => rfl
 | some u => exact (show False from r).elim
theorem handed_of {v : V} {u : Value} (r : RelV v u) : PySem.W.handedIn u = true := by
 cases v with
 | non => cases (show u = Value.none from r); rfl
 | bl b => cases (show u = Value.bool b from r); rfl
 | int i => obtain ⟨t, e⟩ := (show ∃ t, u = Value.int i t from r); cases e; rfl
 | str x => obtain ⟨t, e⟩ := (show ∃ t, u = Value.str x t from r); cases e; rfl
 | byt b => obtain ⟨t, e⟩ := (show ∃ t, u = Value.bytes b t from r); cases e; rfl
 | flt b => obtain ⟨t, e⟩ := (show ∃ t, u = Value.float b t from r); cases e; rfl
 | ref a => cases (show u = Value.ref a from r); rfl
 | ty n => cases (show u = Value.type n from r); rfl
section
variable {P : Program} {w : World} {H H' : Hp} {h h' : Heap} {a C dx : Addr} {fs fs' : List (Str × V)}
theorem ins_get (hok : HOk P w H h) (e : H a = some (.ins C dx fs)) : ∃ mA, ObjM h a dx C mA ∧ (∀ f, RelO (fs.lookup f) (mA f)) ∧ PySem.Within mA (fs.map (·.1)) ∧ fs.length ≤ 1000 ∧ H dx = some (.own a) := by
 obtain ⟨d, z, ne, ob, mA, n, r, q⟩ := (show ObjOk P w H h a (.ins C dx fs) from hok a _ e)
 exact ⟨mA, ⟨ob, n, ne⟩, r, q, z, d⟩
end
structure Cls (K : PySem.W.Frag) (C : Addr) : Prop where
 pg : PySem.W.plainGet K C Str.empty = true
 hd : PySem.W.hasDictIn K C = true
 po : PySem.W.plainOver K C = true
 sa : PySem.W.findIn K (.ref C) "__setattr__" = some (some (.builtin "object.__setattr__"))
theorem Cls.get {K : PySem.W.Frag} {C : Addr} (c : Cls K C) (f : Str) : PySem.W.plainGet K C f = true := c.pg
def NoAttr (K : PySem.W.Frag) (C : Addr) (f : Str) : Prop := PySem.W.findIn K (.ref C) f = some none
theorem NoAttr.taker {K : PySem.W.Frag} {C : Addr} {f : Str} (n : NoAttr K C f) : PySem.W.takerIn K C f = some none := by
 unfold PySem.W.takerIn
 rw [show PySem.W.findIn K (.ref C) f = some none from n]
 rfl
structure Con (K : PySem.W.Frag) (C : Addr) (f : Str) (v : V) (u : Value) : Prop where
 at_ : PySem.W.findIn K (.ref C) f = some (some u)
 rel : RelV v u
 get : PySem.W.specialIn K u "__get__" = some none
 cp : PySem.W.copiedNames.contains f = false
structure Meth (K : PySem.W.Frag) (C : Addr) (m : Str) (f : Addr) : Prop where
 at_ : PySem.W.findIn K (.ref C) m = some (some (.ref f))
 fn : PySem.W.isFn K (.ref f) = true
 kp : PySem.W.keepIn K (.ref f) = true
section
variable {X : Cx} {pins : List (Addr × Obj)} {σ : St} {H : Hp} {s : Shared} {a C dx : Addr} {fs : List (Str × V)} {f : Str} {v : V} {A : Around} {E : Value → Shared → Prop}
theorem getattr_ok {b : Bool} {Q : Value → Shared → Prop} (I : Inv X pins σ H s) (e : H a = some (.ins C dx fs)) (c : Cls X.K C) (n : NoAttr X.K C f) (l : fs.lookup f = some v)
   (h : ∀ u s', Inv X pins σ H s' → RelV v u → Q u s') : wpAny (model X.prog X.w) A (getAttr (.ref a) f b) Q E s := by
 obtain ⟨mA, O, r, _, _, _⟩ := ins_get I.hok e
 obtain ⟨u, hu, ru⟩ := RelO.some_of (v := v) (o := mA f) (by rw [← l]; exact r f)
 exact get_map I.kIn O (c.get f) c.hd n hu (handed_of ru) (h u _ (I.tok _) ru)
theorem getmeth_ok {m : Str} {g : Addr} {pl : Sem Bool} {Q : Value × List Value → Shared → Prop} (I : Inv X pins σ H s) (e : H a = some (.ins C dx fs)) (c : Cls X.K C) (k : Meth X.K C m g) (l : fs.lookup m = none)
   (h : Q (.ref g, [.ref a]) s) : wpAny (model X.prog X.w) A (getMethod (.ref a) m pl) Q E s := by
 obtain ⟨mA, O, r, _, _, _⟩ := ins_get I.hok e
 have hn : mA m = none := RelO.none_of (by rw [← l]; exact r m)
 exact get_meth I.kIn O (c.get m) k.at_ k.fn hn h
theorem setattr_ok {y : V} {u : Value} {Q : Unit → Shared → Prop} (I : Inv X pins σ H s) (e : H a = some (.ins C dx fs)) (c : Cls X.K C) (n : NoAttr X.K C f) (hl : fs.length < 1000) (ry : RelV y u)
   (h : ∀ s', Inv X pins σ (upd H a (.ins C dx (putF f y fs))) s' → Q () s') : wpAny (model X.prog X.w) A (setAttr (.ref a) f u) Q E s := by
 obtain ⟨mA, O, r, wi, _, ho⟩ := ins_get I.hok e
 have hz : (fs.map (·.1)).length ≤ sizeLine := by rw [List.length_map, sizeLine_eq]; omega
 refine set_map I.kIn O c.sa c.po n.taker c.hd wi hz fun h' O' sb => h _ ?_
 have hd : ∃ o, h'.get? dx = some o := let ⟨o, _, _, e', _⟩ := O'.ns; ⟨o, e'⟩
 refine I.write (x := a) (e := dx) (by rw [e]; exact True.intro) (.inr ho) (fun b q hb z => (sb.2 b hb).trans z) hd ?_
 refine ⟨by rw [zF O.ne]; exact ho, ?_, O.ne, O'.obj, _, O'.ns, fun g => ?_, fun g hg => ?_⟩
 · have := length_putF f y fs; omega
 · show RelO ((putF f y fs).lookup g) (if g = f then some u else mA g)
   rw [lookup_putF]
   by_cases q : g = f
   · rw [if_pos q, if_pos q]; exact ry
   · rw [if_neg q, if_neg q]; exact r g
 · by_cases q : g = f
   · rw [q]; exact (keys_putF f y fs).1
   · refine (keys_putF f y fs).2 g (wi g fun z => hg ?_)
     show (if g = f then some u else mA g) = none
     rw [if_neg q]; exact z
theorem Inv.made (I : Inv X pins σ H s) : Inv X pins σ (upd (upd H s.heap.objs.size (.own (s.heap.objs.size + 1))) (s.heap.objs.size + 1) (.ins C s.heap.objs.size []))
   { s with heap := (s.heap.push PySem.W.emptyDict).push (PySem.W.instObj C s.heap.objs.size) } := by
 have e1 : (s.heap.push PySem.W.emptyDict).get? s.heap.objs.size = some PySem.W.emptyDict := Heap.get?_push_size s.heap rfl
 have e2 : ((s.heap.push PySem.W.emptyDict).push (PySem.W.instObj C s.heap.objs.size)).get? (s.heap.objs.size + 1) = some (PySem.W.instObj C s.heap.objs.size) := by
   have := Heap.get?_push_size (s.heap.push PySem.W.emptyDict) (o := PySem.W.instObj C s.heap.objs.size) rfl
   rwa [Heap.size_push] at this
 have e3 : (s.heap.push PySem.W.emptyDict).Ns s.heap.objs.size (fun _ => none) := ⟨PySem.W.emptyDict, #[], _, e1, rfl, (fun e he => absurd he (by simp)), fun _ => rfl⟩
 have I1 := I.laid (a := s.heap.objs.size) (o := .own (s.heap.objs.size + 1)) (h' := s.heap.push PySem.W.emptyDict) (t' := s.toks) (fun b u q => Heap.get?_push_of_some _ q) (Nat.le_refl _) ⟨_, e1⟩
 refine I1.laid (a := s.heap.objs.size + 1) (o := .ins C s.heap.objs.size []) (t' := s.toks) (fun b u q => Heap.get?_push_of_some _ q) (Nat.le_of_eq (Heap.size_push _ _)) ?_
 have ne : s.heap.objs.size ≠ s.heap.objs.size + 1 := Nat.ne_of_lt (Nat.lt_succ_self _)
 refine ⟨by rw [zF ne, zB], Nat.zero_le _, ne, e2, fun _ => none, (Heap.Ns1.of_empty e3).at fun o q => Heap.get?_push_of_some _ q, fun _ => True.intro, fun y hy => absurd rfl hy⟩
theorem attr_of {prog : Program} {w : World} {env : Env} {e : Expr} {f : Str} {pos : Pos} {s : Shared} {Q : Value → Shared → Prop} (hb : attributeBase e f env (eval e env) = eval e env)
   (h : wpAny (model prog w) A (eval e env) (fun o s₁ => wpAny (model prog w) A (getAttr o f true) Q E s₁) E s) : wpAny (model prog w) A (eval (.Attribute e f pos) env) Q E s :=
 Attribute_any_ h (by rw [arm_eval_Attribute, hb])
end
def tFld (K : PySem.W.Frag) (ta : TE) (f : Str) : TE := fun σ H Q => ta σ H fun x H1 => ∃ a C dx fs v, x = .ref a ∧ H1 a = some (.ins C dx fs) ∧ Cls K C ∧ NoAttr K C f ∧ fs.lookup f = some v ∧ Q v H1
def sFld (K : PySem.W.Frag) (ta tv : TE) (f : Str) : TS := fun D σ H => tv σ H fun y H1 => ta σ H1 fun x H2 => ∃ a C dx fs, x = .ref a ∧ H2 a = some (.ins C dx fs) ∧ Cls K C ∧ NoAttr K C f ∧ fs.length < 1000 ∧
 D.nx σ (upd H2 a (.ins C dx (putF f y fs)))
section
variable {X : Cx} {o e value : Expr} {f : Str} {pos pos' tpos : Pos} {ta tv : TE}
theorem zM (he : PE X e ta) (hb : attributeBase e f X.env (eval e X.env) = eval e X.env) : PE X (.Attribute e f pos) (tFld X.K ta f) := by
 intro pins s σ H Q I h
 refine attr_of hb (thn (he pins s σ H _ I h) fun u s1 ⟨x, H1, I1, rx, a, C, dx, fs, v, ex, ea, c, n, l, q⟩ => ?_)
 subst ex
 obtain rfl : u = Value.ref a := rx
 exact getattr_ok I1 ea c n l fun u' s2 I2 ru => ⟨v, H1, I2, ru, q⟩
theorem yN (ha : PE X o ta) (hv : PE X value tv) (hs : swapsWith value (some (.Attribute o f pos')) pos.line X.env = pure false) : PS X (.Assign [.Attribute o f pos'] value pos) (sFld X.K ta tv f) := by
 intro pins s σ H D I h
 refine plainObj_wpAny_Assign_Attribute (thn (hv pins s σ H _ I h) fun u s1 ⟨y, H1, I1, ry, q⟩ => thn (ha pins s1 σ H1 _ I1 q) fun ov s2 ⟨x, H2, I2, rx, a, C, dx, fs, ex, ea, c, n, l, q2⟩ => ?_) hs
 subst ex
 obtain rfl : ov = Value.ref a := rx
 exact setattr_ok I2 ea c n l ry fun s3 I3 => ⟨σ, _, I3, q2⟩
end
section
variable {X : Cx} {pins : List (Addr × Obj)} {σ : St} {H : Hp} {s : Shared} {A : Around} {E : Value → Shared → Prop} {Q : Value → Shared → Prop} {c : Value} {b : Bool}
inductive TyOf (K : PySem.W.Frag) (H : Hp) : V → Value → Prop where
 | non : TyOf K H .non (.type "NoneType")
 | bl (x : Bool) : TyOf K H (.bl x) (.type "bool")
 | int (i : Int) : TyOf K H (.int i) (.type "int")
 | str (x : Str) : TyOf K H (.str x) (.type "str")
 | flt (x : UInt64) : TyOf K H (.flt x) (.type "float")
 | lst {a : Addr} {xs : List V} (e : H a = some (.lst xs)) : TyOf K H (.ref a) (.type "list")
 | frz {a : Addr} {o : Obj} {xs : List V} (e : H a = some (.frz o (.lst xs))) : TyOf K H (.ref a) (.type "list")
 | tup {a : Addr} {xs : List V} (e : H a = some (.tup xs)) : TyOf K H (.ref a) (.type "tuple")
 | dK {a : Addr} {kvs : List (Key × V)} (e : H a = some (.dK kvs)) : TyOf K H (.ref a) (.type "dict")
 | dT {a : Addr} {kvs : List (List Key × V)} (e : H a = some (.dT kvs)) : TyOf K H (.ref a) (.type "dict")
 | ins {a C dx : Addr} {fs : List (Str × V)} (e : H a = some (.ins C dx fs)) (cl : Cls K C) (ha : PySem.W.findIn K (.ref C) "__class__" = some (some (.builtin "object.__class__")))
     (hn : PySem.W.specialIn K (.builtin "object.__class__") "__get__" = some (some (.builtin "getset_descriptor.__get__"))) (htk : PySem.W.takesIn K (.builtin "object.__class__") = some true)
     (hm : PySem.W.mroIn K C (.type "object") = some true) : TyOf K H (.ref a) (.ref C)
end
end L2
namespace L2
open PySem PySem.Spec PyProof.Rows
structure Room (k : Nat) (A : Around) : Prop where
 hd : A.handled = none
 dp : A.depth + 3 * k + 5 < recursionLimit
 un : A.units + 16 * k + 200 < cLine
theorem Room.mono {j k : Nat} {A : Around} (r : Room k A) (h : j ≤ k) : Room j A := ⟨r.hd, by have := r.dp; omega, by have := r.un; omega⟩
theorem Room.deeper {k : Nat} {A : Around} (r : Room (k + 1) A) (env : Env) : Room k (A.deeper env) :=
 ⟨r.hd, by have := r.dp; show A.depth + 1 + 3 * k + 5 < _; omega, by have := r.un; show A.units + 3 + 16 * k + 200 < _; omega⟩
theorem Room.in1 {k : Nat} {A : Around} (r : Room (k + 1) A) : Room k A.in1 :=
 ⟨r.hd, by have := r.dp; show A.depth + 3 * k + 5 < _; omega, by have := r.un; show A.units + 1 + 16 * k + 200 < _; omega⟩
theorem make_depth {A : Around} {C : Addr} {us : List Value} {kw : List (Str × Value)} : (A.under (.builtin "type.__call__" ⟨.ref C :: us, kw⟩)).depth = A.depth + 1 := by
 first | rfl | simp [Around.under, Code.weight, Code.isCreation, Code.isGuard, Code.isCaller, Code.frames, Code.isFrame, guardIds]
theorem make_units {A : Around} {C : Addr} {us : List Value} {kw : List (Str × Value)} : (A.under (.builtin "type.__call__" ⟨.ref C :: us, kw⟩)).units = A.units + 1 := by
 first | rfl | simp [Around.under, Code.cUnits, Code.frames, Code.isFrame]
theorem Room.make {k : Nat} {A : Around} (r : Room (k + 1) A) (C : Addr) (us : List Value) (kw : List (Str × Value)) : Room k (A.under (.builtin "type.__call__" ⟨.ref C :: us, kw⟩)) :=
 ⟨r.hd, by have := r.dp; rw [make_depth]; omega, by have := r.un; rw [make_units]; omega⟩
theorem Room.depth {k : Nat} {A : Around} (r : Room k A) : A.depth < recursionLimit := by have := r.dp; omega
theorem Room.units {k : Nat} {A : Around} (r : Room k A) : A.units + 64 < cLine := by have := r.un; omega
def tNil : TA := fun _ H Q => Q [] H
def tCons (ta : TE) (tr : TA) : TA := fun σ H Q => ta σ H fun x H1 => tr σ H1 fun xs H2 => Q (x :: xs) H2
section
variable {X : Cx} {e : Expr} {es : List Expr} {te : TE} {t : TA} {pos : Pos}
theorem zE : PA X [] tNil := fun _ _ _ _ H Q I h => Calls.spliced_nil ⟨[], H, I, .nil, h⟩
theorem zA (ha : PE X e te) (hr : PA X es t) (hs : starEach (e :: es) X.env = (false, eval e X.env) :: starEach es X.env := by rfl) : PA X (e :: es) (tCons te t) := by
 intro pos pins s σ H Q I h
 rw [hs]
 show wpAny _ _ (spliced ((false, eval e X.env) :: backTo pos (starEach es X.env))) _ _ s
 refine Calls.spliced_cons (thn (ha pins s σ H _ I h) fun u s1 ⟨x, H1, I1, r1, q1⟩ => ?_)
 exact thn (hr pos pins s1 σ H1 _ I1 q1) fun us s2 ⟨xs, H2, I2, r2, q2⟩ => ⟨x :: xs, H2, I2, .cons r1 r2, q2⟩
def tTup (t : TA) : TE := fun σ H Q => t σ H fun xs H1 => xs.length ≤ sizeLine ∧ ∀ p, H1 p = none → Q (.ref p) (upd H1 p (.tup xs))
def tLst (t : TA) : TE := fun σ H Q => t σ H fun xs H1 => xs.length ≤ sizeLine ∧ ∀ p, H1 p = none → Q (.ref p) (upd H1 p (.lst xs))
theorem yI {x1} (h : PA X es t) : PE X (.Tuple es x1 pos) (tTup t) := by
 intro pins s σ H Q I hq
 refine wpAny_Tuple_spliced (thn (h pos pins s σ H _ I hq) fun us s1 ⟨xs, H1, I1, r, z, q⟩ => ⟨by rw [← r.length]; exact z, ?_⟩)
 have hf : H1 s1.heap.objs.size = none := I1.hok.fresh (Nat.le_refl _)
 refine ⟨.ref s1.heap.objs.size, upd H1 s1.heap.objs.size (.tup xs), I1.laid (t' := s1.toks) (fun b u e => Heap.get?_push_of_some _ e) (Nat.le_refl _) ?_, rfl, q _ hf⟩
 exact ⟨z, us, r, ⟨_, Heap.get?_push_size _ rfl, rfl, _, rfl⟩⟩
theorem yT (h : PA X es t) : PE X (.List es pos) (tLst t) := by
 intro pins s σ H Q I hq
 refine wpAny_List_spliced (thn (h pos pins s σ H _ I hq) fun us s1 ⟨xs, H1, I1, r, z, q⟩ => ⟨by rw [← r.length]; exact z, ?_⟩)
 have hf : H1 s1.heap.objs.size = none := I1.hok.fresh (Nat.le_refl _)
 refine ⟨.ref s1.heap.objs.size, upd H1 s1.heap.objs.size (.lst xs), I1.laid (t' := s1.toks) (fun b u e => Heap.get?_push_of_some _ e) (Nat.le_refl _) ?_, rfl, q _ hf⟩
 exact ⟨z, us, 0, r, Heap.get?_push_size _ rfl⟩
end
abbrev Sp := List V → Hp → VK → XK → Prop
abbrev CXT := List Env → Hp → Shared → XK → Value → Shared → Prop
structure Env0 (P : Program) (w : World) (K : PySem.W.Frag) (mg : Str → Option Value) (base : Heap) (A : Around) (outer : List Env) (s : Shared) (H : Hp) : Prop where
 frames : A.frames = some outer
 mod : Mod K mg base
 bs : ∀ b o, base.get? b = some o → s.heap.get? b = some o ∧ H b = none
 bsz : base.objs.size ≤ s.heap.objs.size
 funs : s.heap.FunFrames base outer
 frf : ∀ b ∈ frs outer, H b = none
 hok : HOk P w H s.heap
 bare : AllBare s.gens
def CE (outer : List Env) (P : Program) (w : World) (H : Hp) (s : Shared) (Q : VK) (u : Value) (s' : Shared) : Prop :=
 ∃ v H', s'.os = s.os ∧ AllBare s'.gens ∧ Un (frs outer) [] H H' s.heap s'.heap ∧ HOk P w H' s'.heap ∧ RelV v u ∧ Q v H'
def CR (CX : CXT) (outer : List Env) (P : Program) (w : World) (H : Hp) (s : Shared) (Q : VK) (E : XK) (r : Result) (s' : Shared) : Prop :=
 match r with
 | .ok (.ret u) => CE outer P w H s Q u s'
 | .ok _ => False
 | .error e => CX outer H s E e s'
structure FnOk (P : Program) (w : World) (K : PySem.W.Frag) (mg : Str → Option Value) (base : Heap) (CX : CXT) (k : Nat) (f : Addr) (fd : FuncData) (ps : List Str) (sp : Sp) : Prop where
 len : ∀ vs H Q E, sp vs H Q E → vs.length = ps.length
 run : ∀ (A : Around) (outer : List Env) (s : Shared) (H : Hp) (args : Args) (us : List Value) (vs : List V) (Q : VK) (E : XK), Room k A → Env0 P w K mg base A outer s H → BindsTo s fd args (ps.zip us) → Vals vs us → sp vs H Q E →
   codeAny (model P w) A (.call (.ref f) args) (CR CX outer P w H s Q E) s
theorem FnOk.mono {P : Program} {w : World} {K : PySem.W.Frag} {mg : Str → Option Value} {base : Heap} {CX : CXT} {j k : Nat} {f : Addr} {fd : FuncData} {ps : List Str} {sp : Sp} (F : FnOk P w K mg base CX j f fd ps sp) (h : j ≤ k) :
   FnOk P w K mg base CX k f fd ps sp := ⟨F.len, fun A outer s H args us vs Q E hr => F.run A outer s H args us vs Q E (hr.mono h)⟩
theorem FnOk.imp {P : Program} {w : World} {K : PySem.W.Frag} {mg : Str → Option Value} {base : Heap} {CX : CXT} {k : Nat} {f : Addr} {fd : FuncData} {ps : List Str} {sp sp' : Sp} (F : FnOk P w K mg base CX k f fd ps sp)
   (h : ∀ vs H Q E, sp' vs H Q E → sp vs H Q E) : FnOk P w K mg base CX k f fd ps sp' :=
 ⟨fun vs H Q E q => F.len vs H Q E (h _ _ _ _ q), fun A outer s H args us vs Q E hr he hb hv hs => F.run A outer s H args us vs Q E hr he hb hv (h _ _ _ _ hs)⟩
theorem Env0.make {P : Program} {w : World} {K : PySem.W.Frag} {mg : Str → Option Value} {base : Heap} {A : Around} {outer : List Env} {s : Shared} {H : Hp} (e : Env0 P w K mg base A outer s H) (C : Addr) (us : List Value) (kw : List (Str × Value)) :
   Env0 P w K mg base (A.under (.builtin "type.__call__" ⟨.ref C :: us, kw⟩)) outer s H := ⟨by first | exact e.frames | (simpa [Around.under, Code.envs, Code.isFrame, pushEnvs] using e.frames), e.mod, e.bs, e.bsz, e.funs, e.frf, e.hok, e.bare⟩
theorem Env0.in1 {P : Program} {w : World} {K : PySem.W.Frag} {mg : Str → Option Value} {base : Heap} {A : Around} {outer : List Env} {s : Shared} {H : Hp} (e : Env0 P w K mg base A outer s H) :
   Env0 P w K mg base A.in1 outer s H := ⟨e.frames, e.mod, e.bs, e.bsz, e.funs, e.frf, e.hok, e.bare⟩
section
variable {X : Cx} {pins : List (Addr × Obj)} {σ : St} {H : Hp} {s s' : Shared}
theorem Inv.env0 (I : Inv X pins σ H s) : Env0 X.prog X.w X.K X.mg X.base X.A X.stack s H :=
 ⟨I.ok.frames, I.ok.mod, I.bs, Nat.le_trans I.ok.bsz I.sz, I.stack, I.stkFree, I.hok, I.bare⟩
theorem Inv.after {Q : VK} {u : Value} (I : Inv X pins σ H s) (h : CE X.stack X.prog X.w H s Q u s') : EP X pins σ Q u s' := by
 obtain ⟨v, H', os, bare, un, hok, r, q⟩ := h
 obtain ⟨hh, g, d, t, os'⟩ := s'
 obtain rfl : os' = s.os := os
 exact ⟨v, H', I.call (h' := hh) (g' := g) (d' := d) (t' := t) (ch := []) un hok bare (fun b z => absurd z (by simp)), r, q⟩
end
def tCall (sp : Sp) (dvs : List V) (E : XK) (t : TA) : TE := fun σ H Q => t σ H fun vs H1 => sp (vs ++ dvs) H1 Q E
def tMake (C : Addr) (sp : Sp) (dvs : List V) (E : XK) (t : TA) : TE := fun σ H Q => t σ H fun vs H1 => ∀ x dx, H1 x = none → H1 dx = none → dx ≠ x →
 sp (.ref x :: (vs ++ dvs)) (upd (upd H1 dx (.own x)) x (.ins C dx [])) (fun v H2 => v = .non ∧ Q (.ref x) H2) E
def Binds (K : PySem.W.Frag) (fd : FuncData) (ps : List Str) (ds : List Value) : Prop :=
 ∀ (s : Shared) (us : List Value), K.In s.heap → (us ++ ds).length = ps.length → BindsTo s fd ⟨us, []⟩ (ps.zip (us ++ ds))
theorem Binds.all {K : PySem.W.Frag} {fd : FuncData} {ps : List Str} (h : ∀ us : List Value, us.length = ps.length → bindArgs fd ⟨us, []⟩ = pure (ps.zip us)) : Binds K fd ps [] := fun s us _ hl => by
 rw [List.append_nil] at hl ⊢
 exact .of_eq (h us hl)
def Passes (CX : CXT) (X : Cx) (E : XK) : Prop := ∀ (pins : List (Addr × Obj)) (σ : St) (H : Hp) (s : Shared) (e : Value) (s' : Shared), Inv X pins σ H s → CX X.stack H s E e s' → X.xe e s'
section
variable {X : Cx} {CX : CXT} {k : Nat} {f C : Addr} {fd : FuncData} {ps : List Str} {sp : Sp} {dvs : List V} {ds : List Value} {E : XK} {x m : Str} {p pos apos : Pos} {e o : Expr} {es : List Expr} {ta : TE} {t : TA}
theorem run_fn {pins : List (Addr × Obj)} {σ : St} {H : Hp} {s : Shared} {Q : VK} {us : List Value} {vs : List V} (F : FnOk X.prog X.w X.K X.mg X.base CX k f fd ps sp) (hr : Room k X.A) (hb : Binds X.K fd ps ds) (hd : Vals dvs ds) (hx : Passes CX X E)
   (I : Inv X pins σ H s) (r : Vals vs us) (h : sp (vs ++ dvs) H Q E) : wpAny (model X.prog X.w) X.A (call (.ref f) us) (EP X pins σ Q) X.xe s := by
 have r2 : Vals (vs ++ dvs) (us ++ ds) := r.append hd
 have hl : (us ++ ds).length = ps.length := by rw [← r2.length]; exact F.len _ _ _ _ h
 refine wpAny_call (codeAny_mono (F.run X.A X.stack s H ⟨us, []⟩ (us ++ ds) (vs ++ dvs) Q E hr I.env0 (hb s us I.kIn hl) r2 h) fun r s' hq => ?_)
 cases r with
 | error e => exact hx pins σ H s e s' I hq
 | ok fl =>
   cases fl with
   | ret u => exact I.after hq
   | next => exact False.elim hq
   | brk => exact False.elim hq
   | cont => exact False.elim hq
theorem yH (F : FnOk X.prog X.w X.K X.mg X.base CX k f fd ps sp) (hr : Room k X.A) (hg : Gl X x) (hm : X.mg x = some (.ref f)) (hk : PySem.W.keepIn X.K (.ref f) = true) (hb : Binds X.K fd ps ds) (hd : Vals dvs ds) (hx : Passes CX X E)
   (ha : PA X (e :: es) t) (hdb : (x == ("__debug__" : Str)) = false := by decide) (he : starEach (e :: es) X.env = (false, eval e X.env) :: starEach es X.env := by rfl) (hpl : (backTo pos (starEach es X.env)).any (·.1) = false := by rfl) :
   PE X (.Call (.Name x p) (e :: es) [] pos) (tCall sp dvs E t) := by
 intro pins s σ H Q I h
 refine wpAny_Call_Name_kw (ld_glob I hg hm ?_ hdb)
 refine PySem.W.callWith_K (h₀ := X.base) I.ok.mod.kin hk (thn (ha pos pins s σ H _ I h) fun us s1 ⟨vs, H1, I1, r, q⟩ => ⟨I1.kIn, ?_⟩) he hpl
 exact run_fn F hr hb hd hx I1 r q
structure Mk (K : PySem.W.Frag) (C f : Addr) : Prop where
 makes : PySem.W.makesIn K C = true
 init : PySem.W.findIn K (.ref C) "__init__" = some (some (.ref f))
 fn : PySem.W.isFn K (.ref f) = true
 kp : PySem.W.keepIn K (.ref C) = true
theorem run_make {pins : List (Addr × Obj)} {σ : St} {H : Hp} {s : Shared} {Q : VK} {us : List Value} {vs : List V} (M : Mk X.K C f) (F : FnOk X.prog X.w X.K X.mg X.base CX k f fd ps sp) (hr : Room (k + 1) X.A) (hb : Binds X.K fd ps ds) (hd : Vals dvs ds)
   (hx : Passes CX X E) (I : Inv X pins σ H s) (r : Vals vs us)
   (h : ∀ x dx, H x = none → H dx = none → dx ≠ x → sp (.ref x :: (vs ++ dvs)) (upd (upd H dx (.own x)) x (.ins C dx [])) (fun v H2 => v = .non ∧ Q (.ref x) H2) E) :
   wpAny (model X.prog X.w) X.A (call (.ref C) us) (EP X pins σ Q) X.xe s := by
 have hq := h (s.heap.objs.size + 1) s.heap.objs.size (I.hok.fresh (Nat.le_succ _)) (I.hok.fresh (Nat.le_refl _)) (Nat.ne_of_lt (Nat.lt_succ_self _))
 have I2 := Inv.made (C := C) I
 have r2 : Vals (V.ref (s.heap.objs.size + 1) :: (vs ++ dvs)) (Value.ref (s.heap.objs.size + 1) :: (us ++ ds)) := .cons rfl (r.append hd)
 have hl : (Value.ref (s.heap.objs.size + 1) :: us ++ ds).length = ps.length := by
   have e := r2.length
   rw [F.len _ _ _ _ hq] at e
   exact e.symm
 refine wpAny_call (make_map (f := f) I.kIn M.makes M.init (beq_iff_eq.mp M.fn) (codeAny_mono (F.run _ X.stack _ _ ⟨Value.ref (s.heap.objs.size + 1) :: us, []⟩ (Value.ref (s.heap.objs.size + 1) :: (us ++ ds)) _ _ E (hr.make C us [])
   (I2.env0.make C us []) (hb _ (Value.ref (s.heap.objs.size + 1) :: us) I2.kIn hl) r2 hq) fun r s' hq' => ?_))
 cases r with
 | error e => exact hx pins σ _ _ e s' I2 hq'
 | ok fl =>
   cases fl with
   | ret u =>
     obtain ⟨v, H', I3, rv, ev, q3⟩ := I2.after hq'
     subst ev
     exact ⟨rv, ⟨V.ref (s.heap.objs.size + 1), H', I3, rfl, q3⟩⟩
   | next => exact False.elim hq'
   | brk => exact False.elim hq'
   | cont => exact False.elim hq'
theorem pe_make (M : Mk X.K C f) (F : FnOk X.prog X.w X.K X.mg X.base CX k f fd ps sp) (hr : Room (k + 1) X.A) (hg : Gl X x) (hm : X.mg x = some (.ref C)) (hb : Binds X.K fd ps ds) (hd : Vals dvs ds) (hx : Passes CX X E)
   (ha : PA X (e :: es) t) (hdb : (x == ("__debug__" : Str)) = false := by decide) (he : starEach (e :: es) X.env = (false, eval e X.env) :: starEach es X.env := by rfl) (hpl : (backTo pos (starEach es X.env)).any (·.1) = false := by rfl) :
   PE X (.Call (.Name x p) (e :: es) [] pos) (tMake C sp dvs E t) := by
 intro pins s σ H Q I h
 refine wpAny_Call_Name_kw (ld_glob I hg hm ?_ hdb)
 refine PySem.W.callWith_K (h₀ := X.base) I.ok.mod.kin M.kp (thn (ha pos pins s σ H _ I h) fun us s1 ⟨vs, H1, I1, r, q⟩ => ⟨I1.kIn, ?_⟩) he hpl
 exact run_make M F hr hb hd hx I1 r q
end
section
variable {X : Cx} {CX : CXT} {k : Nat} {f C : Addr} {fd : FuncData} {ps ks : List Str} {sp : Sp} {E : XK} {x m : Str} {p pos apos kpos : Pos} {e o : Expr} {es : List Expr} {kws : List Keyword} {te ta : TE} {t tk : TA} {nm : Option Str}
structure KBinds (K : PySem.W.Frag) (fd : FuncData) (ps ks : List Str) (g : List Value → List Value → List Value) (gV : List V → List V → List V) : Prop where
 to : ∀ (s : Shared) (us ws : List Value), K.In s.heap → (g us ws).length = ps.length → BindsTo s fd ⟨us, ks.zip ws⟩ (ps.zip (g us ws))
 rel : ∀ {vs : List V} {us : List Value} {zs : List V} {ws : List Value}, Vals vs us → Vals zs ws → Vals (gV vs zs) (g us ws)
variable {g : List Value → List Value → List Value} {gV : List V → List V → List V}
end
structure FnScope (N P : List Str) (sc : Scope) : Prop where
 kind : sc.kind = .function
 co : sc.isCoroutine = false
 gen : sc.isGenerator = false
 nd : N.Nodup
 pre : N.take P.length = P
 par : ∀ x ∈ P, sc.names.lookup x = some .local ∨ sc.names.lookup x = some .cell
 nofree : ∀ y ∈ sc.names, y.2 ≠ .free
theorem bindL_out {kindOf : Str → Option NameKind} {x : Str} : ∀ {binds : List (Str × Value)} {m : Str → Option Value}, (∀ v, (x, v) ∉ binds) → bindL kindOf binds m x = m x
 | [], _, _ => rfl
 | (n, v) :: r, m, h => by
   unfold bindL
   rw [bindL_out fun w hw => h w (List.mem_cons_of_mem _ hw)]
   split
   · have : x ≠ n := by rintro rfl; exact h v List.mem_cons_self
     simp [this]
   · rfl
theorem bindC_out {kindOf : Str → Option NameKind} {x : Str} : ∀ {binds : List (Str × Value)} {m : Str → Option Value}, (∀ v, (x, v) ∉ binds) → bindC kindOf binds m x = m x
 | [], _, _ => rfl
 | (n, v) :: r, m, h => by
   unfold bindC
   rw [bindC_out fun w hw => h w (List.mem_cons_of_mem _ hw)]
   split
   · rfl
   · have : x ≠ n := by rintro rfl; exact h v List.mem_cons_self
     simp [this]
theorem bindL_get {kindOf : Str → Option NameKind} {x : Str} {v : Value} : ∀ {P : List Str} {vs : List Value} {i : Nat} {m : Str → Option Value}, P.Nodup → P[i]? = some x → vs[i]? = some v → kindOf x = some .local →
   bindL kindOf (P.zip vs) m x = some v
 | [], _, _, _, _, h, _, _ => by simp at h
 | _ :: _, [], _, _, _, _, h, _ => by simp at h
 | p :: P, w :: vs, 0, m, nd, h1, h2, hk => by
   simp at h1 h2; subst h1; subst h2
   show bindL kindOf ((p, w) :: P.zip vs) m p = _
   unfold bindL
   rw [bindL_out fun v hv => (List.nodup_cons.mp nd).1 (List.of_mem_zip hv).1, if_pos hk]
   simp
 | p :: P, w :: vs, i + 1, m, nd, h1, h2, hk => by
   show bindL kindOf ((p, w) :: P.zip vs) m x = _
   unfold bindL
   exact bindL_get (i := i) (List.nodup_cons.mp nd).2 (by simpa using h1) (by simpa using h2) hk
theorem bindC_get {kindOf : Str → Option NameKind} {x : Str} {v : Value} : ∀ {P : List Str} {vs : List Value} {i : Nat} {m : Str → Option Value}, P.Nodup → P[i]? = some x → vs[i]? = some v → kindOf x ≠ some .local →
   bindC kindOf (P.zip vs) m x = some v
 | [], _, _, _, _, h, _, _ => by simp at h
 | _ :: _, [], _, _, _, _, h, _ => by simp at h
 | p :: P, w :: vs, 0, m, nd, h1, h2, hk => by
   simp at h1 h2; subst h1; subst h2
   show bindC kindOf ((p, w) :: P.zip vs) m p = _
   unfold bindC
   rw [bindC_out fun v hv => (List.nodup_cons.mp nd).1 (List.of_mem_zip hv).1, if_neg hk]
   simp
 | p :: P, w :: vs, i + 1, m, nd, h1, h2, hk => by
   show bindC kindOf ((p, w) :: P.zip vs) m x = _
   unfold bindC
   exact bindC_get (i := i) (List.nodup_cons.mp nd).2 (by simpa using h1) (by simpa using h2) hk
def start (N : List Str) (vs : List V) : St := vs.map some ++ List.replicate (N.length - vs.length) none
def cxOf (CX : CXT) (P : Program) (w : World) (K : PySem.W.Frag) (mg : Str → Option Value) (base : Heap) (N : List Str) (qual : Str) (scope : Scope) (f : Addr) (cd : Value) (A : Around) (outer : List Env) (s : Shared) (H : Hp) (E : XK) : Cx where
 prog := P
 w := w
 K := K
 mg := mg
 base := base
 A := A.deeper (envOfC qual scope s.heap.objs.size f cd)
 N := N
 s₀ := s
 H₀ := H
 env := envOfC qual scope s.heap.objs.size f cd
 outer := outer
 stack := envOfC qual scope s.heap.objs.size f cd :: outer
 ex := []
 calm := true
 fn := fun _ => true
 pn := []
 xe := fun e s' => wpAny (model P w) (A.deeper (envOfC qual scope s.heap.objs.size f cd)) (leaving (envOfC qual scope s.heap.objs.size f cd) e) (fun _ s'' => CX outer H s E e s'') (fun e' s'' => CX outer H s E e' s'') s'
theorem cell_has {sc : Scope} {n : Nat} {x : Str} (h : sc.names.lookup x = some .cell) : ∃ c, (cellsFrom n sc.names []).lookup x = some c := by
 have q := PySem.W.cellsFrom_some sc.names n [] (.inl h)
 exact Option.isSome_iff_exists.mp q
theorem inv_start {CX : CXT} {P : Program} {w : World} {K : PySem.W.Frag} {mg : Str → Option Value} {base : Heap} {N ps : List Str} {qual : Str} {scope : Scope} {f : Addr} {cd : Value} {A : Around} {outer : List Env} {s s1 : Shared} {H : Hp} {E : XK} {us : List Value} {vs : List V}
   (S : FnScope N ps scope) (hd : A.handled = none) (e0 : Env0 P w K mg base A outer s H) (hl : vs.length = ps.length) (r : Vals vs us)
   (x : InCallC s s.heap.objs.size (bindL (envOfC qual scope s.heap.objs.size f cd).kindOf (ps.zip us) fun _ => none) (cellsFrom (s.heap.objs.size + 1) scope.names []) (bindC (envOfC qual scope s.heap.objs.size f cd).kindOf (ps.zip us) fun _ => none) s1) :
   Inv (cxOf CX P w K mg base N qual scope f cd A outer s H E) [] (start N vs) H s1 := by
 have hpl : ps.length ≤ N.length := by have := congrArg List.length S.pre; rw [List.length_take] at this; omega
 obtain ⟨h1, tk, rfl, hk⟩ := x.done
 have noA : ∀ b : Addr, b ∉ (cxOf CX P w K mg base N qual scope f cd A outer s H E).ex := fun b z => absurd (show b ∈ ([] : List Addr) from z) (by simp)
 refine ⟨⟨e0.mod, S.kind, rfl, rfl, Nat.le_refl _, fun y z c h1 h2 => ?_, fun y hy => ?_, fun y c _ h => ?_, fun _ => hd, Around.frames_deeper e0.frames, .inr ⟨rfl, rfl⟩, fun b z => absurd z (noA b), e0.bs, e0.bsz, fun b _ _ => noA b, fun b z => absurd z (noA b), e0.funs, e0.frf⟩,
   rfl, e0.bare, Un.kept hk, ⟨_, x.toInCall.ns, fun i y v h1 h2 h3 => ?_⟩, fun y c h => ⟨_, x.cell y c h⟩, e0.hok.fresh (Nat.le_refl _), fun y c h => ?_, fun p hp => absurd (show p ∈ ([] : List (Addr × Obj)) from hp) (by simp), e0.hok.kept hk, ?_⟩
 · exact name_of_addr x.apart (PySem.mem_of_lookup h1) (PySem.mem_of_lookup h2)
 · have hy : scope.names.lookup y = some .cell ∨ scope.names.lookup y = some .free := hy
   rcases hy with hy | hy
   · exact cell_has hy
   · exact absurd rfl (S.nofree _ (PySem.mem_of_lookup hy))
 · exact Nat.le_of_lt (x.above y c (PySem.mem_of_lookup h))
 · have hi : i < vs.length := by
     unfold start at h2
     by_cases hi : i < vs.length
     · exact hi
     · rw [List.getElem?_append_right (by simpa using hi)] at h2
       rw [List.getElem?_replicate] at h2
       split at h2 <;> cases h2
   have ha : vs[i]? = some v := by
     unfold start at h2
     rw [List.getElem?_append_left (by simpa using hi), List.getElem?_map] at h2
     cases e : vs[i]? with
     | none => rw [e] at h2; cases h2
     | some a => rw [e] at h2; cases h2; rfl
   obtain ⟨u, hu, rv⟩ := r.get ha
   have hp : ps[i]? = some y := by
     rw [← S.pre, List.getElem?_take_of_lt (by omega)]; exact h1
   have ndP : ps.Nodup := by rw [← S.pre]; exact S.nd.sublist (List.take_sublist _ _)
   refine ⟨u, rv, ?_⟩
   rcases S.par y (List.mem_of_getElem? hp) with k | k
   · exact .inl ⟨k, bindL_get ndP hp hu k⟩
   · obtain ⟨c, e⟩ := cell_has (n := s.heap.objs.size + 1) k
     refine .inr ⟨.inl k, c, e, ?_⟩
     have q := x.cell y c e
     rw [bindC_get ndP hp hu (by show scope.names.lookup y ≠ _; rw [k]; decide)] at q
     exact q
 · exact e0.hok.fresh (Nat.le_of_lt (x.above y c (PySem.mem_of_lookup h)))
 · unfold start
   show _ = N.length
   rw [List.length_append, List.length_map, List.length_replicate]
   omega
theorem fn_of {CX : CXT} {P : Program} {w : World} {K : PySem.W.Frag} {mg : Str → Option Value} {base : Heap} {k : Nat} {f : Addr} {name qual : Str} {params : Arguments} {body : List Stmt} {scope : Scope} {dV kV doc pm cdv ct oc : Value} {an od : Option Addr}
   {osl : Array (Option Value)} {N ps : List Str} {sp : Sp} (lk : K.lookup f = some ⟨oc, od, .func (PySem.W.fnOf name qual params body scope dV kV doc pm an cdv ct), osl⟩) (hcd : PySem.W.codeIn K cdv qual = true) (S : FnScope N ps scope)
   (len : ∀ vs H Q E, sp vs H Q E → vs.length = ps.length)
   (hbody : ∀ (A : Around) (outer : List Env) (s : Shared) (H : Hp) (vs : List V) (Q : VK) (E : XK), Room k (A.deeper (envOfC qual scope s.heap.objs.size f cdv)) → sp vs H Q E →
     ∃ t, PSs (cxOf CX P w K mg base N qual scope f cdv A outer s H E) body t ∧ t { nx := fun _ H' => Q .non H', rt := Q } (start N vs) H) :
   FnOk P w K mg base CX (k + 1) f (PySem.W.fnOf name qual params body scope dV kV doc pm an cdv ct) ps sp := by
 refine ⟨len, fun A outer s H args us vs Q E hr e0 hb r hsp => ?_⟩
 have hl := len _ _ _ _ hsp
 have KX : K.In s.heap := e0.mod.kin.keeps fun b o e => (e0.bs b o e).1
 have lim : s.heap.NoLimit := e0.mod.nolimit.keeps fun b o e => (e0.bs b o e).1
 have hkind : ∀ y ∈ ps.zip us, scope.names.lookup y.1 = some .local ∨ (scope.names.lookup y.1 = some .cell ∧ ((cellsFrom (s.heap.objs.size + 1) scope.names []).lookup y.1).isSome = true) := fun ⟨n, v⟩ hy => by
   rcases S.par n (List.of_mem_zip hy).1 with q | q
   · exact .inl q
   · exact .inr ⟨q, PySem.W.cellsFrom_some _ _ _ (.inl q)⟩
 refine codeAny_call_function hr.depth (KX _ _ lk) rfl S.co S.gen rfl (PySem.W.codeRec_of KX hcd) (hb _ _ _ _ ?_)
 refine wpAny_newFunctionEnv_cells S.kind hkind fun env he s1 x => ?_
 subst he
 refine ⟨lim.keeps x.toInCall.keep, codeAny_func ?_⟩
 obtain ⟨t, ht, hq⟩ := hbody A outer s H vs Q E (hr.deeper _) hsp
 have I : Inv (cxOf CX P w K mg base N qual scope f cdv A outer s H E) [] (start N vs) H s1 := inv_start S hr.hd e0 hl r x
 refine wpAny_mono (ht [] s1 (start N vs) H _ I hq) (fun fl s' hs => ?_) fun e s' hs => hs
 have fin : ∀ {σ' : St} {H' : Hp} {v : V} {u : Value}, Inv (cxOf CX P w K mg base N qual scope f cdv A outer s H E) [] σ' H' s' → RelV v u → Q v H' → CE outer P w H s Q u s' :=
   fun {σ' H' v u} J rv q => ⟨v, H', J.os, J.bare, J.base, J.hok, rv, q⟩
 cases fl with
 | ret u =>
   obtain ⟨v, σ', H', J, rv, q⟩ := hs
   exact fin J rv q
 | next =>
   obtain ⟨σ', H', J, q⟩ := hs
   exact fin (v := V.non) (u := Value.none) J rfl q
 | brk =>
   obtain ⟨_, _, _, q⟩ := hs
   exact False.elim q
 | cont =>
   obtain ⟨_, _, _, q⟩ := hs
   exact False.elim q
end L2
namespace L2
open PySem PySem.Spec PyProof.Rows
section
variable {X : Cx} {x : Str} {p pos : Pos} {e : Expr} {es : List Expr} {t : TA} {id T : String} {r : List V → Hp → VK → Prop}
def tCB (r : List V → Hp → VK → Prop) (t : TA) : TE := fun σ H Q => t σ H fun vs H1 => r vs H1 Q
theorem zO (hc : CallR X (.builtin id) r) (hg : Gl X x) (hm : X.mg x = none) (hv : bootBuiltins x = some (.builtin id)) (ha : PA X (e :: es) t) (hn : x ≠ "__name__" := by decide) (hdb : (x == ("__debug__" : Str)) = false := by decide)
   (he : starEach (e :: es) X.env = (false, eval e X.env) :: starEach es X.env := by rfl) (hpl : (backTo pos (starEach es X.env)).any (·.1) = false := by rfl) : PE X (.Call (.Name x p) (e :: es) [] pos) (tCB r t) := by
 intro pins s σ H Q I h
 refine wpAny_Call_Name_kw (ld_blt I hg hm hv ?_ hn hdb)
 exact PyProof.Rows.callWith_builtin1 (thn (ha pos pins s σ H _ I h) fun us s1 ⟨vs, H1, I1, r1, q1⟩ => hc pins s1 σ H1 vs us Q I1 r1 q1) he hpl
theorem yZ (hc : CallR X (.type T) r) (hg : Gl X x) (hm : X.mg x = none) (hv : bootBuiltins x = some (.type T)) (ha : PA X (e :: es) t) (hn : x ≠ "__name__" := by decide) (hdb : (x == ("__debug__" : Str)) = false := by decide)
   (he : starEach (e :: es) X.env = (false, eval e X.env) :: starEach es X.env := by rfl) (hpl : (backTo pos (starEach es X.env)).any (·.1) = false := by rfl) : PE X (.Call (.Name x p) (e :: es) [] pos) (tCB r t) := by
 intro pins s σ H Q I h
 refine wpAny_Call_Name_kw (ld_blt I hg hm hv ?_ hn hdb)
 exact PyProof.Rows.callWith_type1 (thn (ha pos pins s σ H _ I h) fun us s1 ⟨vs, H1, I1, r1, q1⟩ => hc pins s1 σ H1 vs us Q I1 r1 q1) he hpl
end
end L2
namespace HT
open PySem PyProof.Rows
section
open PySem.SeqAt
open PySem.AutoSeq1 (wpAny_loadPart')
open PySem.MeetsSeq PySem.MeetsSeq2 PySem.MeetsSeq3
end
section
variable {prog : Program} {w : World} {A : Around} {E : Value → Shared → Prop} {s : Shared}
theorem cat_tup {t b : Addr} {vs ws : List Value} {Q : Value → Shared → Prop} (ht : IsTup s.heap t vs.toArray) (hb : IsTup s.heap b ws.toArray) (hv : vs ≠ [])
   (h1 : ws = [] → Q (.ref t) s) (h2 : ws ≠ [] → Q (.ref s.heap.objs.size) { s with heap := s.heap.push { cls := .type "tuple", data := .seq (vs ++ ws).toArray } })
   (hsz : vs.length + ws.length ≤ sizeLine) : wpAny (model prog w) A (binaryOp .Add (.ref t) (.ref b)) Q E s := by
 obtain ⟨⟨cls, dd, data, sl⟩, ho, hc, n, hd⟩ := id ht
 obtain ⟨⟨cls2, dd2, data2, sl2⟩, ho2, hc2, n2, hd2⟩ := id hb
 simp only at hc hd hc2 hd2
 subst hc hd hc2 hd2
 have e : vs.toArray ++ ws.toArray = (vs ++ ws).toArray := by simp
 by_cases hw : ws = []
 · exact concat_meets ⟨_, ho, rfl⟩ ⟨_, ho2, rfl⟩ noFill_tuple_add seq_tuple_add PySem.F.slot_tuple_add PySem.F.entry_tuple_add (PySem.F.args_tuple_add_2 _ _)
     (tuple_addW1 t b vs.toArray ws.toArray n n2 dd dd2 sl sl2 (by simpa using hv) (by simp [hw])) ⟨ho, ho2, h1 hw⟩
 · refine concat_meets ⟨_, ho, rfl⟩ ⟨_, ho2, rfl⟩ noFill_tuple_add seq_tuple_add PySem.F.slot_tuple_add PySem.F.entry_tuple_add (PySem.F.args_tuple_add_2 _ _)
     (tuple_addW2 t b vs.toArray ws.toArray n n2 dd dd2 sl sl2 (by simpa using hv) (by simpa using hw) (by rw [List.size_toArray, List.size_toArray]; exact hsz)) ⟨ho, ho2, ?_⟩
   rw [e]
   exact h2 hw
def sIx (n d : Nat) : Option Int → Nat
 | none => d
 | some v => if v < 0 then (v + (n : Int)).toNat else min v.toNat n
theorem sIx_nat (n d k : Nat) : sIx n d (some (k : Int)) = min k n := by
 show (if (k : Int) < 0 then ((k : Int) + (n : Int)).toNat else min (k : Int).toNat n) = min k n
 rw [if_neg (by omega), Int.toNat_natCast]
theorem sIx_le (n d : Nat) (hd : d ≤ n) (o : Option Int) : sIx n d o ≤ n := by
 cases o with
 | none => exact hd
 | some v =>
   show (if v < 0 then (v + (n : Int)).toNat else min v.toNat n) ≤ n
   by_cases hv : v < 0
   · rw [if_pos hv]; omega
   · rw [if_neg hv]; exact Nat.min_le_right _ _
end
end HT
namespace L2
open PySem PySem.Spec PyProof.Rows
abbrev TO := St → Hp → (Option Int → Hp → Prop) → Prop
def PO (X : Cx) (e : Option Expr) (t : TO) : Prop :=
 ∀ (pins : List (Addr × Obj)) (s : Shared) (σ : St) (H : Hp) (Q : Option Int → Hp → Prop), Inv X pins σ H s → t σ H Q →
   wpAny (model X.prog X.w) X.A (evalPart e X.env) (fun u s' => ∃ o H', Inv X pins σ H' s' ∧ IsPart u o ∧ Q o H') X.xe s
def tNoPart : TO := fun _ H Q => Q none H
def tPart (t : TE) : TO := fun σ H Q => t σ H fun x H1 => ∃ i, x = .int i ∧ Q (some i) H1
section
variable {X : Cx} {e : Expr} {te : TE} {lo hi : Option Expr} {tl th : TO} {pos p2 : Pos}
theorem po_none : PO X none tNoPart := by
 intro pins s σ H Q I h
 rw [evalPart_none]
 exact wpAny_pure ⟨none, H, I, .none, h⟩
theorem po_some (h : PE X e te) : PO X (some e) (tPart te) := by
 intro pins s σ H Q I hw
 rw [evalPart_some]
 refine thn (h pins s σ H _ I hw) fun u s1 ⟨x, H1, I1, r1, q1⟩ => ?_
 obtain ⟨i, rfl, q⟩ := q1
 obtain ⟨t, rfl⟩ := r1
 exact ⟨some i, H1, I1, .int i t, q⟩
def SlR (X : Cx) (r : V → Option Int → Option Int → Hp → VK → Prop) : Prop :=
 ∀ (pins : List (Addr × Obj)) (s : Shared) (σ : St) (H : Hp) (x : V) (v vl vu : Value) (lo hi : Option Int) (sl : Addr) (Q : VK), Inv X pins σ H s → RelV x v → s.heap.IsSliceOf sl vl vu .none → IsPart vl lo → IsPart vu hi → r x lo hi H Q →
   ∃ T id, typeLookup (.type T) "__getitem__" = pure (some (.builtin id)) ∧ s.TypeIs v T ∧ wpAny (model X.prog X.w) X.A (getItem v (.ref sl)) (EP X pins σ Q) X.xe s
theorem SlR.or {r r' : V → Option Int → Option Int → Hp → VK → Prop} (h : SlR X r) (h' : SlR X r') : SlR X (fun x lo hi H Q => r x lo hi H Q ∨ r' x lo hi H Q) := by
 intro pins s σ H x v vl vu lo hi sl Q I rx hs pl pu q
 rcases q with q | q
 · exact h pins s σ H x v vl vu lo hi sl Q I rx hs pl pu q
 · exact h' pins s σ H x v vl vu lo hi sl Q I rx hs pl pu q
def tSl (r : V → Option Int → Option Int → Hp → VK → Prop) (te : TE) (tl th : TO) : TE := fun σ H Q => te σ H fun x H1 => tl σ H1 fun l H2 => th σ H2 fun u H3 => r x l u H3 Q
theorem pe_slice {r : V → Option Int → Option Int → Hp → VK → Prop} (hr : SlR X r) (he : PE X e te) (hl : PO X lo tl) (hu : PO X hi th) : PE X (.Subscript e (.Slice lo hi none p2) pos) (tSl r te tl th) := by
 intro pins s σ H Q I h
 refine Subscript_ (thn (he pins s σ H _ I h) fun v s1 ⟨x, H1, I1, r1, q1⟩ => ?_)
 refine wpAny_Slice (thn (hl pins s1 σ H1 _ I1 q1) fun vl s2 ⟨l, H2, I2, pl, q2⟩ => thn (hu pins s2 σ H2 _ I2 q2) fun vu s3 ⟨u, H3, I3, pu, q3⟩ => ?_)
 rw [evalPart_none]
 refine wpAny_pure ?_
 have I4 : Inv X pins σ H3 { s3 with heap := s3.heap.push { cls := .type "slice", data := .fields #[vl, vu, .none] } } := I3.kept (t' := s3.toks) fun b ob q => Heap.get?_push_of_some _ q
 obtain ⟨T, id, hT, ht, hg⟩ := hr pins { s3 with heap := s3.heap.push { cls := .type "slice", data := .fields #[vl, vu, .none] } } σ H3 x v vl vu l u s3.heap.objs.size Q I4 r1 (Heap.IsSliceOf.new ..) pl pu q3
 show wpAny (model X.prog X.w) X.A (subscriptTail e (.Slice lo hi none p2) v (.ref s3.heap.objs.size)) (EP X pins σ Q) X.xe { s3 with heap := s3.heap.push { cls := .type "slice", data := .fields #[vl, vu, .none] } }
 exact tail_any (ops := [.ref s3.heap.objs.size, v]) ht hT hg (by with_unfolding_all rfl)
def cutV (xs : List V) (lo hi : Option Int) : List V := (xs.drop (HT.sIx xs.length 0 lo)).take (HT.sIx xs.length xs.length hi - HT.sIx xs.length 0 lo)
theorem cutV_length (xs : List V) (lo hi : Option Int) : (cutV xs lo hi).length ≤ xs.length := by
 unfold cutV
 rw [List.length_take, List.length_drop]
 omega
def rCatT (K : PySem.W.Frag) : R2 := fun x y H Q => ∃ a b xs ys, x = .ref a ∧ y = .ref b ∧ SqT K H a xs ∧ SqT K H b ys ∧ xs ≠ [] ∧ xs.length + ys.length ≤ sizeLine ∧
 (ys = [] → Q (.ref a) H) ∧ (ys ≠ [] → ∀ p, H p = none → Q (.ref p) (upd H p (.tup (xs ++ ys))))
theorem Vals.nil_iff {xs : List V} {us : List Value} (r : Vals xs us) : us = [] ↔ xs = [] := by
 cases r with
 | nil => simp
 | cons _ _ => simp
theorem op_catT : OpR X (binaryOp .Add) (rCatT X.K) := by
 intro pins s σ H x y v u Q I rx ry h
 obtain ⟨a, b, xs, ys, rfl, rfl, ha, hb, hx, hz, q1, q2⟩ := h
 cases rx
 cases ry
 obtain ⟨its, r1, p1, _⟩ := I.tuple ha
 obtain ⟨its2, r2, p2, _⟩ := I.tuple hb
 refine HT.cat_tup p1 p2 (fun z => hx (r1.nil_iff.mp z)) (fun z => ⟨.ref a, H, I, rfl, q1 (r2.nil_iff.mp z)⟩) (fun z => ?_) (by rw [← r1.length, ← r2.length]; exact hz)
 refine ⟨.ref s.heap.objs.size, _, I.laid (t' := s.toks) (o := .tup (xs ++ ys)) (fun b ob q => Heap.get?_push_of_some _ q) (Nat.le_refl _) ?_, rfl, q2 (fun w => z (r2.nil_iff.mpr w)) _ (I.hok.fresh (Nat.le_refl _))⟩
 exact ⟨by rw [List.length_append]; exact hz, _, r1.append r2, IsTup.new _ _⟩
end
end L2
namespace L2
open PySem PySem.Spec PyProof.Rows
def ixN (n : Nat) (i : Int) : Option Nat := if 0 ≤ i then (if i < n then some i.toNat else none) else if -(n : Int) ≤ i then some (i + n).toNat else none
def atI {α : Type} (xs : List α) (i : Int) : Option α := (ixN xs.length i).bind fun j => xs[j]?
theorem ixN_seq {n : Nat} {i : Int} {j : Nat} (h : ixN n i = some j) : seqIndex? i n = some j ∧ j < n ∧ -(n : Int) ≤ i ∧ i < n := by
 unfold ixN at h
 by_cases h0 : 0 ≤ i
 · rw [if_pos h0] at h
   by_cases h1 : i < n
   · rw [if_pos h1] at h
     have e : i.toNat = j := Option.some.inj h
     exact ⟨by rw [seqIndex_of h0 h1, e], by omega, by omega, h1⟩
   · rw [if_neg h1] at h; cases h
 · rw [if_neg h0] at h
   by_cases h1 : -(n : Int) ≤ i
   · rw [if_pos h1] at h
     have e : (i + n).toNat = j := Option.some.inj h
     exact ⟨by rw [seqIndex_neg (by omega) h1, e], by omega, h1, by omega⟩
   · rw [if_neg h1] at h; cases h
theorem atI_get {α : Type} {xs : List α} {i : Int} {v : α} (h : atI xs i = some v) : ∃ j, seqIndex? i xs.length = some j ∧ xs[j]? = some v ∧ j < xs.length ∧ -(xs.length : Int) ≤ i ∧ i < xs.length := by
 unfold atI at h
 cases e : ixN xs.length i with
 | none => rw [e] at h; cases h
 | some j =>
   rw [e] at h
   obtain ⟨h1, h2, h3, h4⟩ := ixN_seq e
   exact ⟨j, h1, h, h2, h3, h4⟩
theorem zX {α : Type} {xs : List α} {j : Nat} {v : α} (h : xs[j]? = some v) : atI xs (j : Int) = some v := by
 have hj : j < xs.length := (List.getElem?_eq_some_iff.mp h).1
 have e : ixN xs.length (j : Int) = some j := by
   unfold ixN
   rw [if_pos (by omega), if_pos (by omega)]; simp
 unfold atI; rw [e]; exact h
theorem atI_last {α : Type} (xs : List α) (v : α) : atI (xs ++ [v]) (-1) = some v := by
 have hl : (xs ++ [v]).length = xs.length + 1 := by simp
 have e : ixN (xs ++ [v]).length (-1) = some xs.length := by
   unfold ixN
   rw [hl, if_neg (by decide), if_pos (by omega)]
   congr 1
   omega
 unfold atI
 rw [e]
 show (xs ++ [v])[xs.length]? = some v
 simp
def PlainIx (b : Expr) : Prop := ∀ o i, subscripted b false o i = operate [o, i] (getItem o i)
def IxR (X : Cx) (r : R2) : Prop :=
 ∀ (value slice : Expr) (pins : List (Addr × Obj)) (s : Shared) (σ : St) (H : Hp) (x y : V) (v u : Value) (Q : VK), Inv X pins σ H s → RelV x v → RelV y u → r x y H Q →
   subscripted slice false v u = operate [v, u] (getItem v u) → wpAny (model X.prog X.w) X.A (subscriptTail value slice v u) (EP X pins σ Q) X.xe s
def MtR (X : Cx) (id : String) (r : V → List V → Hp → VK → Prop) : Prop :=
 ∀ (pins : List (Addr × Obj)) (s : Shared) (σ : St) (H : Hp) (x : V) (xs : List V) (v : Value) (us : List Value) (Q : VK), Inv X pins σ H s → RelV x v → Vals xs us → r x xs H Q →
   wpAny (model X.prog X.w) X.A (call (.builtin id) (v :: us)) (EP X pins σ Q) X.xe s
section
variable {X : Cx} {a b : Expr} {ta tb : TE} {pos : Pos}
theorem IxR.or {r r' : R2} (h : IxR X r) (h' : IxR X r') : IxR X (fun x y H Q => r x y H Q ∨ r' x y H Q) := by
 intro value slice pins s σ H x y v u Q I rx ry q hs
 rcases q with q | q
 · exact h value slice pins s σ H x y v u Q I rx ry q hs
 · exact h' value slice pins s σ H x y v u Q I rx ry q hs
theorem MtR.or {id : String} {r r' : V → List V → Hp → VK → Prop} (h : MtR X id r) (h' : MtR X id r') : MtR X id (fun x xs H Q => r x xs H Q ∨ r' x xs H Q) := by
 intro pins s σ H x xs v us Q I rx rs q
 rcases q with q | q
 · exact h pins s σ H x xs v us Q I rx rs q
 · exact h' pins s σ H x xs v us Q I rx rs q
theorem yC {r : R2} (hr : IxR X r) (ha : PE X a ta) (hb : PE X b tb) (hs : PlainIx b) : PE X (.Subscript a b pos) (tOp r ta tb) := by
 intro pins s σ H Q I h
 exact Subscript_ (binT ha hb I h fun v u s2 x y H2 I2 rx ry q => hr a b pins s2 σ H2 x y v u Q I2 rx ry q (hs _ _))
def rIxL (K : PySem.W.Frag) : R2 := fun x y H Q => ∃ p xs i v, x = .ref p ∧ y = .int i ∧ SqL K H p xs ∧ atI xs i = some v ∧ Q v H
def rIxT (K : PySem.W.Frag) : R2 := fun x y H Q => ∃ p xs i v, x = .ref p ∧ y = .int i ∧ SqT K H p xs ∧ atI xs i = some v ∧ Q v H
def rIxS : R2 := fun x y H Q => ∃ z i c, x = .str z ∧ y = .int i ∧ z.length ≤ sizeLine ∧ atI z.cps.toList i = some c ∧ Q (.str ⟨#[c]⟩) H
theorem yJ : IxR X (rIxL X.K) := by
 intro value slice pins s σ H x y v u Q I rx ry h hs
 obtain ⟨p, xs, i, z, rfl, rfl, hq, he, q⟩ := h
 cases rx
 obtain ⟨t, rfl⟩ := ry
 obtain ⟨its, r, pl, hz⟩ := I.list hq
 obtain ⟨j, h1, h2, h3, h4, h5⟩ := atI_get he
 obtain ⟨w, ew, rw'⟩ := r.get h2
 have hl := r.length
 have hn := line63
 have fin : EP X pins σ Q w s := ⟨z, H, I, rw', q⟩
 by_cases h0 : 0 ≤ i
 · have hj : i.toNat = j := by
     rw [seqIndex_of h0 h5] at h1
     exact Option.some.inj h1
   exact item_listR pl.isList h0 (by omega) (by rw [hj]; simpa using ew) fin hs
 · have hj : (i + (its.toArray.size : Int)).toNat = j := by
     rw [seqIndex_neg (by omega) h4] at h1
     rw [List.size_toArray, ← hl]
     exact Option.some.inj h1
   exact subscriptTail_builtinR (x := w) pl.isList.typeIs slot_list_getitem.lookup
     (wpAny_getItem_list_neg (Q := fun r s' => r = w ∧ EP X pins σ Q r s') pl.isList (by omega) (by rw [List.size_toArray] <;> omega) (by omega) (by rw [hj]; simpa using ew) ⟨rfl, fin⟩) hs
theorem yL : IxR X (rIxT X.K) := by
 intro value slice pins s σ H x y v u Q I rx ry h hs
 obtain ⟨p, xs, i, z, rfl, rfl, hq, he, q⟩ := h
 cases rx
 obtain ⟨t, rfl⟩ := ry
 obtain ⟨its, r, pl, hz⟩ := I.tuple hq
 obtain ⟨j, h1, h2, h3, h4, h5⟩ := atI_get he
 obtain ⟨w, ew, rw'⟩ := r.get h2
 have hl := r.length
 have hn := line63
 have fin : EP X pins σ Q w s := ⟨z, H, I, rw', q⟩
 exact subscriptTail_builtinR (x := w) pl.typeIs slot_tuple_getitem.lookup
   (getItem_tuple (j := j) (Q := fun r s' => r = w ∧ EP X pins σ Q r s') pl (by omega) (by omega) (by rw [List.size_toArray, ← hl]; exact h1) (by simpa using ew) ⟨rfl, fin⟩) hs
theorem ix_str : IxR X rIxS := by
 intro value slice pins s σ H x y v u Q I rx ry h hs
 obtain ⟨z, i, c, rfl, rfl, hz, he, q⟩ := h
 obtain ⟨t, rfl⟩ := rx
 obtain ⟨t', rfl⟩ := ry
 obtain ⟨j, h1, h2, h3, h4, h5⟩ := atI_get he
 have hl : z.cps.toList.length = z.length := by simp [Str.length]
 rw [hl] at h1 h4 h5
 have hn := line63
 exact tail_any (typeIs_str s z t) slot_str_getitem.lookup (getItem_str (c := c) (by
   have e1 : decide (i < -(2 ^ 63 : Int)) = false := decide_eq_false (by omega)
   have e2 : decide (i ≥ 2 ^ 63) = false := decide_eq_false (by omega)
   rw [e1, e2, Bool.or_false]) (by rw [h1]; simpa using h2) ⟨.str ⟨#[c]⟩, H, I.tok _, ⟨_, rfl⟩, q⟩) hs
theorem Inv.lst {pins : List (Addr × Obj)} {σ : St} {H : Hp} {s : Shared} {p : Addr} {xs : List V} (I : Inv X pins σ H s) (h : H p = some (.lst xs)) :
   ∃ (its : List Value) (n : Nat), Vals xs its ∧ s.heap.get? p = some { cls := .type "list", data := .seq its.toArray n } ∧ xs.length ≤ sizeLine := by
 obtain ⟨z, its, n, r, e⟩ := I.hok p _ h
 exact ⟨its, n, r, e, z⟩
theorem slice_bounds (lo hi : Option Int) (n : Nat) : (sliceBounds lo hi none n).1 = ((HT.sIx n 0 lo : Nat) : Int) ∧ (sliceBounds lo hi none n).2.1 = ((HT.sIx n n hi : Nat) : Int) ∧ (sliceBounds lo hi none n).2.2 = 1 := by
 refine ⟨?_, ?_, rfl⟩
 · cases lo with
   | none => simp [sliceBounds, HT.sIx]
   | some i =>
     simp only [sliceBounds, HT.sIx, Option.getD_none, show (1 : Int) > 0 by decide, if_true]
     by_cases h : i < 0
     · simp only [h, if_true] <;> omega
     · simp only [h, if_false] <;> omega
 · cases hi with
   | none => simp [sliceBounds, HT.sIx]
   | some i =>
     simp only [sliceBounds, HT.sIx, Option.getD_none, show (1 : Int) > 0 by decide, if_true]
     by_cases h : i < 0
     · simp only [h, if_true] <;> omega
     · simp only [h, if_false] <;> omega
theorem slicePick_cut (its : List Value) (lo hi : Option Int) : slicePick its.toArray lo hi none = ((its.drop (HT.sIx its.length 0 lo)).take (HT.sIx its.length its.length hi - HT.sIx its.length 0 lo)).toArray := by
 obtain ⟨h1, h2, h3⟩ := slice_bounds lo hi its.toArray.size
 unfold slicePick
 rw [h1, h2, h3]
 simp only [sliceRange_one, pick_run, List.size_toArray] <;> rfl
def rSlL (K : PySem.W.Frag) : V → Option Int → Option Int → Hp → VK → Prop := fun x lo hi H Q => ∃ a xs, x = .ref a ∧ SqL K H a xs ∧ ∀ p, H p = none → Q (.ref p) (upd H p (.lst (cutV xs lo hi)))
theorem sl_list : SlR X (rSlL X.K) := by
 intro pins s σ H x v vl vu lo hi sl Q I rx hs pl pu h
 obtain ⟨a, xs, rfl, hx, q⟩ := h
 cases rx
 obtain ⟨its, r, ht, hz⟩ := I.list hx
 have hlen := r.length
 refine ⟨"list", _, slot_list_getitem.lookup, ht.isList.typeIs, ?_⟩
 refine wpAny_getItem_list_slice ht.isList hs pl pu .none (by simp) ?_ (by rw [List.size_toArray] <;> omega)
 rw [slicePick_cut, ← hlen]
 refine ⟨.ref s.heap.objs.size, _, I.laid (t' := s.toks) (o := .lst (cutV xs lo hi)) (fun b ob q => Heap.get?_push_of_some _ q) (Nat.le_refl _) ?_, rfl, q _ (I.hok.fresh (Nat.le_refl _))⟩
 exact ⟨Nat.le_trans (cutV_length xs lo hi) hz, _, 0, (r.drop (HT.sIx xs.length 0 lo)).take (HT.sIx xs.length xs.length hi - HT.sIx xs.length 0 lo), Heap.get?_push_size _ rfl⟩
def flatV : V → Bool
 | .non => true
 | .bl _ => true
 | .int _ => true
 | .str _ => true
 | _ => false
def eqV : V → V → Bool
 | .non, .non => true
 | .bl a, .bl b => a == b
 | .bl a, .int b => (if a then 1 else 0) == b
 | .int a, .bl b => a == (if b then 1 else 0)
 | .int a, .int b => a == b
 | .str a, .str b => a == b
 | _, _ => false
theorem eqAt_V {A : Around} {s : Shared} {y x : V} {u v : Value} (ry : RelV y u) (rx : RelV x v) (fy : flatV y = true) (fx : flatV x = true) : SeqAt.EqAt A s u v (eqV y x) := by
 cases y with
 | non =>
   cases ry
   cases x with
   | non => cases rx; exact SeqAt.EqAt.same _
   | bl b => cases rx; exact SeqAt.EqAt.none_bool b
   | int b => obtain ⟨t, rfl⟩ := rx; exact SeqAt.EqAt.none_int b t
   | str b => obtain ⟨t, rfl⟩ := rx; exact SeqAt.EqAt.none_str b t
   | _ => exact absurd (show false = true from fx) Bool.false_ne_true
 | bl a =>
   cases ry
   cases x with
   | non => cases rx; exact SeqAt.EqAt.bool_none a
   | bl b => cases rx; exact SeqAt.EqAt.bool_bool a b
   | int b => obtain ⟨t, rfl⟩ := rx; exact SeqAt.EqAt.bool_int a b t
   | str b => obtain ⟨t, rfl⟩ := rx; exact SeqAt.EqAt.bool_str a b t
   | _ => exact absurd (show false = true from fx) Bool.false_ne_true
 | int a =>
   obtain ⟨t', rfl⟩ := ry
   cases x with
   | non => cases rx; exact SeqAt.EqAt.int_none a t'
   | bl b => cases rx; exact SeqAt.EqAt.int_bool a t' b
   | int b => obtain ⟨t, rfl⟩ := rx; exact SeqAt.EqAt.int_int a t' b t
   | str b => obtain ⟨t, rfl⟩ := rx; exact SeqAt.EqAt.int_str a t' b t
   | _ => exact absurd (show false = true from fx) Bool.false_ne_true
 | str a =>
   obtain ⟨t', rfl⟩ := ry
   cases x with
   | non => cases rx; exact SeqAt.EqAt.str_none a t'
   | bl b => cases rx; exact SeqAt.EqAt.str_bool a t' b
   | int b => obtain ⟨t, rfl⟩ := rx; exact SeqAt.EqAt.str_int a t' b t
   | str b => obtain ⟨t, rfl⟩ := rx; exact SeqAt.EqAt.str_str a t' b t
   | _ => exact absurd (show false = true from fx) Bool.false_ne_true
 | _ => exact absurd (show false = true from fy) Bool.false_ne_true
def eqU (x : V) (u : Value) : Bool := match u with
 | .none => eqV .non x
 | .bool b => eqV (.bl b) x
 | .int i _ => eqV (.int i) x
 | .str z _ => eqV (.str z) x
 | _ => false
theorem eqU_of {x y : V} {u : Value} (r : RelV y u) (f : flatV y = true) : eqU x u = eqV y x := by
 cases y with
 | non => cases r; rfl
 | bl b => cases r; rfl
 | int i => obtain ⟨t, rfl⟩ := r; rfl
 | str z => obtain ⟨t, rfl⟩ := r; rfl
 | _ => exact absurd (show false = true from f) Bool.false_ne_true
theorem any_eqU {x : V} : ∀ {xs : List V} {us : List Value}, Vals xs us → xs.all flatV = true → us.any (eqU x) = xs.any fun y => eqV y x
 | _, _, .nil, _ => rfl
 | y :: xs, u :: us, .cons r t, f => by
   rw [List.all_cons, Bool.and_eq_true] at f
   rw [List.any_cons, List.any_cons, eqU_of r f.1, any_eqU t f.2]
theorem mem_eqAt {A : Around} {s : Shared} {x : V} {v : Value} (rx : RelV x v) (fx : flatV x = true) : ∀ {xs : List V} {us : List Value}, Vals xs us → xs.all flatV = true → ∀ u ∈ us, SeqAt.EqAt A s u v (eqU x u)
 | _, _, .nil, _ => fun u hu => by cases hu
 | y :: xs, u :: us, .cons r t, f => fun u' hu => by
   rw [List.all_cons, Bool.and_eq_true] at f
   rcases List.mem_cons.mp hu with rfl | hu
   · rw [eqU_of r f.1]; exact eqAt_V r rx f.1 fx
   · exact mem_eqAt rx fx t f.2 u' hu
def inV (x : V) (xs : List V) : Bool := xs.any fun y => eqV y x
def rIn (K : PySem.W.Frag) (neg : Bool) : R2 := fun x y H Q => ∃ p xs, y = .ref p ∧ (SqL K H p xs ∨ SqT K H p xs) ∧ flatV x = true ∧ xs.all flatV = true ∧ Q (.bl (if neg then !inV x xs else inV x xs)) H
theorem op_in_seq : OpR X (compareOp .In) (rIn X.K false) := by
 intro pins s σ H x y v u Q I rx ry h
 obtain ⟨p, xs, rfl, hq, fx, fs, q⟩ := h
 cases ry
 rcases hq with hq | hq
 · obtain ⟨its, r, pl, hz⟩ := I.list hq
   refine SeqAt.in_listAt (eqU x) pl.isList (fun w hw => mem_eqAt rx fx r fs w (by simpa using hw)) ⟨.bl _, H, I, rfl, ?_⟩
   rw [show its.toArray.any (eqU x) = its.any (eqU x) by simp, any_eqU r fs]
   exact q
 · obtain ⟨its, r, pl, hz⟩ := I.tuple hq
   refine SeqAt.in_tupleAt (eqU x) pl (fun w hw => mem_eqAt rx fx r fs w (by simpa using hw)) ⟨.bl _, H, I, rfl, ?_⟩
   rw [show its.toArray.any (eqU x) = its.any (eqU x) by simp, any_eqU r fs]
   exact q
theorem yD : CallR X (.builtin "len") (fun xs H Q => ∃ p ys, xs = [.ref p] ∧ (SqL X.K H p ys ∨ SqT X.K H p ys) ∧ Q (.int ys.length) H) := by
 intro pins s σ H xs us Q I r h
 obtain ⟨p, ys, rfl, hq, q⟩ := h
 obtain ⟨u, rfl, rx⟩ := vals1 r
 cases rx
 have hn := line63
 rcases hq with hq | hq
 · obtain ⟨its, r', pl, hz⟩ := I.list hq
   have hlen := r'.length
   exact Calls.call_len_list pl.isList (by simp only [List.size_toArray] <;> omega) ⟨.int ys.length, H, I.tok _, ⟨s.toks + 1, by rw [List.size_toArray, hlen]⟩, q⟩
 · obtain ⟨its, r', pl, hz⟩ := I.tuple hq
   have hlen := r'.length
   exact len_tuple pl (by simp only [List.size_toArray] <;> omega) ⟨.int ys.length, H, I.tok _, ⟨s.toks + 1, by rw [List.size_toArray, hlen]⟩, q⟩
theorem call_len_str : CallR X (.builtin "len") (fun xs H Q => ∃ z, xs = [.str z] ∧ z.length ≤ sizeLine ∧ Q (.int z.length) H) := by
 intro pins s σ H xs us Q I r h
 obtain ⟨z, rfl, hz, q⟩ := h
 obtain ⟨u, rfl, t, rfl⟩ := vals1 r
 have hn := line63
 exact len_str (by omega) ⟨.int z.length, H, I.tok _, ⟨_, rfl⟩, q⟩
theorem CallR.or {f : Value} {r r' : List V → Hp → VK → Prop} (h : CallR X f r) (h' : CallR X f r') : CallR X f (fun xs H Q => r xs H Q ∨ r' xs H Q) := by
 intro pins s σ H xs us Q I rs q
 rcases q with q | q
 · exact h pins s σ H xs us Q I rs q
 · exact h' pins s σ H xs us Q I rs q
theorem xG : CallR X (.type "list") (fun xs H Q => ∃ p ys, xs = [.ref p] ∧ (SqL X.K H p ys ∨ SqT X.K H p ys) ∧ ∀ l, H l = none → Q (.ref l) (upd H l (.lst ys))) := by
 intro pins s σ H xs us Q I r h
 obtain ⟨p, ys, rfl, hq, q⟩ := h
 obtain ⟨u, rfl, rx⟩ := vals1 r
 cases rx
 have fin : ∀ (its : List Value), Vals ys its → ys.length ≤ sizeLine → ∀ (h' : Heap) (c' : Nat), (∀ b o', s.heap.get? b = some o' → h'.get? b = some o') →
     h'.get? s.heap.objs.size = some { cls := .type "list", dict := none, data := .seq its.toArray c', slots := #[] } → EP X pins σ Q (.ref s.heap.objs.size) { s with heap := h' } := fun its r' hz h' c' kp e =>
   ⟨.ref s.heap.objs.size, _, I.laid (t' := s.toks) kp (Nat.le_refl _) (show ObjOk X.prog X.w _ h' _ (.lst ys) from ⟨hz, its, c', r', e⟩), rfl, q _ (I.hok.fresh (Nat.le_refl _))⟩
 rcases hq with hq | hq
 · obtain ⟨its, r', pl, hz⟩ := I.list hq
   have hlen := r'.length
   obtain ⟨o, ho, hc, n, hd⟩ := pl.isList
   exact call_list_seq p (.inl rfl) ho hc hd (fun h' c' kp e => fin its r' hz h' c' kp e) (by simp only [List.size_toArray] <;> omega)
 · obtain ⟨its, r', pl, hz⟩ := I.tuple hq
   have hlen := r'.length
   obtain ⟨o, ho, hc, n, hd⟩ := pl
   exact call_list_seq p (.inr rfl) ho hc hd (fun h' c' kp e => fin its r' hz h' c' kp e) (by simp only [List.size_toArray] <;> omega)
def tyV (K : PySem.W.Frag) (T : String) (x : V) (H : Hp) : Prop := match x with
 | .str _ => T = "str"
 | .int _ => T = "int"
 | .ref p => (T = "list" ∧ ∃ xs, SqL K H p xs) ∨ (T = "tuple" ∧ ∃ o, K.lookup p = some o ∧ o.cls = .type "tuple" ∧ o.dict = none) ∨
     (T = "dict" ∧ ((∃ kvs, H p = some (.dK kvs)) ∨ ∃ kvs, H p = some (.dT kvs))) ∨ (T = "set" ∧ ∃ S n, H p = some (.set S n))
 | _ => False
theorem tyV_is {pins : List (Addr × Obj)} {σ : St} {H : Hp} {s : Shared} {T : String} {x : V} {v : Value} (I : Inv X pins σ H s) (r : RelV x v) (ty : tyV X.K T x H) :
   s.TypeIs v T ∧ ∀ a, v = .ref a → ∃ ob, s.heap.get? a = some ob ∧ ob.dict = none := by
 cases x with
 | str z =>
   obtain ⟨t, rfl⟩ := r
   cases (show T = "str" from ty)
   exact ⟨typeIs_str s z t, fun _ e => nomatch e⟩
 | int i =>
   obtain ⟨t, rfl⟩ := r
   cases (show T = "int" from ty)
   exact ⟨typeIs_int s i t, fun _ e => nomatch e⟩
 | ref p =>
   cases r
   rcases ty with ⟨rfl, xs, hq⟩ | ⟨rfl, o, hk, hc, hd⟩ | ⟨rfl, hk⟩ | ⟨rfl, S, n, hk⟩
   · obtain ⟨its, _, pl, _⟩ := I.list hq
     refine ⟨pl.isList.typeIs, fun a e => ?_⟩
     cases e
     obtain ⟨o, n, e, c, hd, _⟩ := pl
     exact ⟨o, e, hd⟩
   · refine ⟨⟨o, I.kIn p o hk, hc⟩, fun a e => ?_⟩
     cases e
     exact ⟨o, I.kIn _ o hk, hd⟩
   · have z : ∃ o, s.heap.get? p = some o ∧ o.ExactDict := by
       rcases hk with ⟨kvs, hk⟩ | ⟨kvs, hk⟩
       · obtain ⟨_, _, _, _, o, _, _, e, ex, _⟩ := I.hok p _ hk
         exact ⟨o, e, ex⟩
       · obtain ⟨_, _, _, _, o, _, _, e, ex, _⟩ := I.hok p _ hk
         exact ⟨o, e, ex⟩
     obtain ⟨o, e, ex⟩ := z
     refine ⟨⟨o, e, ex.1⟩, fun a e2 => ?_⟩
     cases e2
     exact ⟨o, e, ex.2.1⟩
   · obtain ⟨o, _, _, _, e, ex, _⟩ := I.hok p _ hk
     refine ⟨⟨o, e, ex.1⟩, fun a e2 => ?_⟩
     cases e2
     exact ⟨o, e, ex.2.1⟩
 | _ => exact False.elim ty
def tBM (K : PySem.W.Frag) (T : String) (r : V → List V → Hp → VK → Prop) (to : TE) (t : TA) : TE := fun σ H Q => to σ H fun x H1 => tyV K T x H1 ∧ t σ H1 fun xs H2 => r x xs H2 Q
variable {o e : Expr} {es : List Expr} {to : TE} {t : TA} {name : Str} {apos cpos : Pos} {T id : String} {r : V → List V → Hp → VK → Prop}
theorem pe_bm (pa : PlainAttrs T) (slot : Slot T name id) (hty : typeOf (.builtin id) = pure (.type "method_descriptor")) (hm : MtR X id r) (ho : PE X o to) (ha : PA X (e :: es) t)
   (hbase : attributeBase o name X.env (eval o X.env) = eval o X.env := by rfl)
   (hfew : ((backTo cpos (starEach (e :: es) X.env)).all (fun x => !x.1) && (backToKw cpos (keywordEach [] X.env)).all (fun x => x.1.isSome)
     && decide ((e :: es).length + ([] : List Keyword).length + (if ([] : List Keyword).isEmpty then 0 else 1) < 30)) = true := by rfl)
   (hline : (apos.endLine == cpos.line) = true := by rfl) (hs : starEach (e :: es) X.env = (false, eval e X.env) :: starEach es X.env := by rfl) (hplain : (backTo cpos (starEach es X.env)).any (·.1) = false := by rfl) :
   PE X (.Call (.Attribute o name apos) (e :: es) [] cpos) (tBM X.K T r to t) := by
 intro pins s σ H Q I h
 refine wpAny_Call_method_late hbase hfew hline rfl (thn (ho pins s σ H _ I h) fun v s1 ⟨x, H1, I1, r1, ty, q1⟩ => ?_)
 obtain ⟨h1, h2⟩ := tyV_is I1 r1 ty
 refine ⟨T, id, pa, slot, hty, h1, h2, ?_⟩
 have hA := ha cpos pins s1 σ H1 _ I1 q1
 rw [hs] at hA ⊢
 refine Calls.callWith_builtin (by show (false || (backTo cpos (starEach es X.env)).any (·.1)) = false; rw [hplain] <;> rfl) (Calls.evalArgs_plain ?_)
 exact thn hA fun us s2 ⟨vs, H2, I2, r2, q2⟩ => hm pins s2 σ H2 x vs v us Q I2 r1 r2 q2
end
end L2
namespace L2
open PySem PySem.Spec PyProof.Rows
def MtM (X : Cx) (id : String) (r : V → List V → Hp → VK → Prop) : Prop :=
 ∀ (pins : List (Addr × Obj)) (s : Shared) (σ : St) (H : Hp) (x : V) (xs : List V) (v : Value) (us : List Value) (Q : VK), Inv X pins σ H s → RelV x v → Vals xs us → r x xs H Q →
   wpAny (model X.prog X.w) X.A (call (.builtin id) (v :: us)) (EP X pins σ Q) X.xe s
theorem Vals.one : ∀ {x : V} {us : List Value}, Vals [x] us → ∃ u, us = [u] ∧ RelV x u
 | _, _, .cons r .nil => ⟨_, rfl, r⟩
theorem Vals.two : ∀ {x y : V} {us : List Value}, Vals [x, y] us → ∃ u v, us = [u, v] ∧ RelV x u ∧ RelV y v
 | _, _, _, .cons r (.cons q .nil) => ⟨_, _, rfl, r, q⟩
theorem Vals.zero : ∀ {us : List Value}, Vals [] us → us = []
 | _, .nil => rfl
theorem Vals.dropLast {xs : List V} {us : List Value} (h : Vals xs us) : Vals xs.dropLast us.dropLast := by
 induction h with
 | nil => exact .nil
 | cons r t ih =>
   cases t with
   | nil => exact .nil
   | cons q t' => exact .cons r ih
theorem Vals.reverse {xs : List V} {us : List Value} (h : Vals xs us) : Vals xs.reverse us.reverse := by
 induction h with
 | nil => exact .nil
 | cons r t ih => rw [List.reverse_cons, List.reverse_cons]; exact Vals.append ih (.cons r .nil)
section
variable {X : Cx} {pins : List (Addr × Obj)} {σ : St} {H : Hp} {s : Shared} {l b : Addr} {xs ys zs : List V}
theorem Inv.lset {its its' : List Value} {n : Nat} {f : Array Value → Array Value} {t' : Nat} (I : Inv X pins σ H s) (hH : H l = some (.lst xs))
   (e : s.heap.get? l = some { cls := .type "list", data := .seq its.toArray n }) (hf : f its.toArray = its'.toArray) (hv : Vals ys its') (hz : ys.length ≤ sizeLine) :
   Inv X pins σ (upd H l (.lst ys)) { s with heap := s.heap.update l (Obj.mapSeq f), toks := t' } := by
 have q := PySem.IsL.update e f
 rw [hf] at q
 refine I.write (x := l) (e := l) (by rw [hH]; exact trivial) (.inl rfl) (fun b' u hb hu => (Heap.get?_update_other s.heap (Obj.mapSeq f) (Ne.symm hb)).trans hu) ⟨_, q⟩ ?_
 exact ⟨hz, its', _, hv, q⟩
theorem Inv.lnew {its : List Value} {t' : Nat} (I : Inv X pins σ H s) (hv : Vals ys its) (hz : ys.length ≤ sizeLine) :
   Inv X pins σ (upd H s.heap.objs.size (.lst ys)) { s with heap := s.heap.push { cls := .type "list", data := .seq its.toArray }, toks := t' } :=
 I.laid (fun _ _ q => Heap.get?_push_of_some _ q) (Nat.le_refl _) ⟨hz, its, 0, hv, Heap.get?_push_size _ rfl⟩
theorem Inv.fresh (I : Inv X pins σ H s) : H s.heap.objs.size = none := I.hok.fresh (Nat.le_refl _)
theorem Inv.lstM (I : Inv X pins σ H s) (hH : H l = some (.lst xs)) : xs.length ≤ sizeLine ∧ ∃ (its : List Value) (n : Nat), Vals xs its ∧ xs.length = its.length ∧ s.heap.get? l = some { cls := .type "list", data := .seq its.toArray n } := by
 obtain ⟨z, its, n, r, e⟩ := I.hok l _ hH
 exact ⟨z, its, n, r, r.length, e⟩
end
section
variable {X : Cx}
def rAppend : V → List V → Hp → VK → Prop := fun x vs H Q => ∃ l xs y, x = .ref l ∧ vs = [y] ∧ H l = some (.lst xs) ∧ xs.length < sizeLine ∧ Q .non (upd H l (.lst (xs ++ [y])))
theorem xO : MtM X "list.append" rAppend := by
 intro pins s σ H x vs v us Q I rx rv h
 obtain ⟨l, xs, y, rfl, rfl, hH, hz, q⟩ := h
 cases rx
 obtain ⟨u, rfl, ru⟩ := rv.one
 obtain ⟨z, its, n, r, hl, e⟩ := I.lstM hH
 refine call_meets F.slot_list_append ⟨_, e, rfl⟩ F.entry_list_append (F.args_list_append_2 _ _) (PySem.list_append l its.toArray n u (by rw [List.size_toArray]; omega)) ⟨e, ?_⟩
 refine ⟨.non, _, I.lset (its' := its ++ [u]) hH e (by simp) (r.append (.cons ru .nil)) ?_, rfl, q⟩
 rw [List.length_append, List.length_singleton]
 omega
def rCat : R2 := fun x y H Q => ∃ l b xs zs, x = .ref l ∧ y = .ref b ∧ H l = some (.lst xs) ∧ H b = some (.lst zs) ∧ xs.length + zs.length ≤ sizeLine ∧ ∀ p, H p = none → Q (.ref p) (upd H p (.lst (xs ++ zs)))
theorem op_cat : OpR X (binaryOp .Add) rCat := by
 intro pins s σ H x y v u Q I rx ry h
 obtain ⟨l, b, xs, zs, rfl, rfl, hH, hB, hz, q⟩ := h
 cases rx
 cases ry
 obtain ⟨z, its, n, r, hl, e⟩ := I.lstM hH
 obtain ⟨z2, its2, n2, r2, hl2, e2⟩ := I.lstM hB
 refine PySem.P.add_list e e2 ?_ (by rw [List.size_toArray, List.size_toArray]; omega)
 have ea : its.toArray ++ its2.toArray = (its ++ its2).toArray := by simp
 rw [ea]
 exact ⟨.ref _, _, I.lnew (t' := s.toks) (r.append r2) (by rw [List.length_append]; omega), rfl, q _ I.fresh⟩
end
section
variable {prog : Program} {w : World} {A : Around} {E : Value → Shared → Prop} {s : Shared}
end
section
variable {X : Cx}
end
end L2
namespace Att
open PySem PySem.W PySem.Calls PyProof.Rows
theorem ints_of_wellAll {P : Params} {h : Heap} : ∀ (ns : List Int) (vs : List Value), WellAll P h vs (ns.map WData.int) → IntsAre vs ns := by
 intro ns
 induction ns with
 | nil =>
   intro vs w
   rw [List.map_nil] at w
   cases w
   exact .nil
 | cons n ns ih =>
   intro vs w
   rw [List.map_cons] at w
   cases w with
   | cons a b =>
     cases a
     exact .cons _ _ (ih _ b)
theorem script_of {l : OpenLaw} {n : Nat} (hn : l.most = some n) {P : Params} {h : Heap} {args : List WData} {vals : List Value}
   (hpre : l.row.toRowW.claim.pre args = true) (hwl : WellAll P h vals args) :
   ∃ a vs ns, vals = [Value.ref a] ∧ args = [WData.list (ns.map WData.int)] ∧ h.get? a = some { cls := .type "list", data := .seq vs.toArray } ∧ IntsAre vs ns ∧ ns.length ≤ n := by
 have hsh : WShape.hasAll [] args [.list .int] = true := (pre_splitW hpre).1
 have hc : l.pre.holds [] { args := args } = true := (pre_splitW hpre).2
 obtain ⟨d, r, rfl, h1, h2⟩ := hasAllW_cons hsh
 obtain rfl := hasAllW_nil h2
 obtain ⟨xs, rfl, h3⟩ := hasW_list h1
 obtain ⟨ns, rfl⟩ := items_int h3
 have hlen : ns.length ≤ n := by
   unfold OpenLaw.pre at hc
   have h4 : (WTm.not (.lt (.lit (.int (n : Int))) (.len (.arg 0)))).holds [] { args := [.list (ns.map .int)] } = true := by
     have h4 := (holds_andW hc).1
     rw [hn] at h4
     exact h4
   have h5 := condW_of h4 (w_not (w_lt w_lit (w_len_list (w_arg rfl))))
   rw [List.length_map] at h5
   refine Nat.le_of_not_lt fun q => ?_
   have q' : (n : Int) < ((ns.length : Nat) : Int) := by omega
   first
     | (rw [decide_eq_true q'] at h5; exact absurd h5 (by decide))
     | (simp at h5; omega)
 cases hwl with
 | cons w1 w2 =>
   cases w2
   cases w1 with
   | list ho hall => exact ⟨_, _, ns, rfl, rfl, ho, ints_of_wellAll ns _ hall, hlen⟩
theorem post_true (l : OpenLaw) (args : List WData) : l.row.toRowW.claim.post args (.bool true) args = true :=
 postW_of (r := l.row.toRowW) (X := (true == true))
   (show WShape.has [] (.bool true) .bool = true by first | rfl | decide | simp [WShape.has, WShape.arms, WShape.armsAll])
   (show (WTm.eq .res (.lit (.bool true))).value [] { args := args, res := some (.bool true), after := args } = some (.bool (true == true)) from w_eq_bool (w_res rfl) w_lit) rfl
section
variable {prog : Program} {w : World} {A : Around} {E : Value → Shared → Prop} {s : Shared} {K : Frag}
end
end Att
namespace L2
open PySem PySem.Spec PyProof.Rows
theorem vals_ints : ∀ {vs : List Value} {ns : List Int}, IntsAre vs ns → Vals (ns.map V.int) vs
 | _, _, .nil => .nil
 | _, _, .cons n t h => .cons ⟨t, rfl⟩ (vals_ints h)
def Only (H : Hp) : Prop := ∀ b, H b = none ∨ ∃ o xs, H b = some (.frz o (.lst xs))
theorem law_call {P : Program} {w : World} {K : PySem.W.Frag} {mg mb : Str → Option Value} {CX : CXT} {k : Nat} {fa a : Addr} {fd : FuncData} {x : Str} {sp : Sp} {s₁ : Shared} {vs : List Value} {ns : List Int}
   (KX : K.In s₁.heap) (hns : s₁.heap.Ns mainGlobals mg) (hb : s₁.heap.Ns builtinsNs mb) (hbb : ∀ x : Str, x ≠ "__name__" → mb x = bootBuiltins x) (hlim : s₁.heap.NoLimit) (hg : s₁.gens = #[])
   (ha : s₁.heap.get? a = some { cls := .type "list", data := .seq vs.toArray }) (hi : IntsAre vs ns) (hl : ns.length ≤ sizeLine) (hr : Room k callerA)
   (F : ∀ base : Heap, K.In base → base.Ns mainGlobals mg → FnOk P w K mg base CX k fa fd [x] sp) (hbind : ∀ (s : Shared) (u : Value), BindsTo s fd ⟨[u], []⟩ [(x, u)])
   (hsp : ∀ H : Hp, Only H → SqL K H a (ns.map V.int) → sp [.ref a] H (fun v _ => v = .bl true) fun _ _ _ => False)
   (hCX : ∀ H e s', CX [] H s₁ (fun _ _ _ => False) e s' → False) :
   codeAny (model P w) callerA (.call (.ref fa) ⟨[.ref a], []⟩) (fun r s' => r = .ok (.ret (.bool true)) ∧ OldK s₁.heap s'.heap ∧ s'.os = s₁.os ∧ AllBare s'.gens) s₁ := by
 have rv := vals_ints hi
 have lenV := hi.length
 have core : ∀ H : Hp, Only H → SqL K H a (ns.map V.int) → HOk P w H s₁.heap → (∀ b, H b ≠ none → b = a) → (H a ≠ none → K.lookup a = none) →
     codeAny (model P w) callerA (.call (.ref fa) ⟨[.ref a], []⟩) (fun r s' => r = .ok (.ret (.bool true)) ∧ OldK s₁.heap s'.heap ∧ s'.os = s₁.os ∧ AllBare s'.gens) s₁ := by
   intro H hO hS hok hA hK
   have base_of : ∀ {b : Addr} {o : Obj}, s₁.heap.get? b = some o → H b = none → (hidT s₁.heap H).get? b = some o := fun e n => hidT_get e n
   have noA : ∀ {b : Addr} {o : Obj} {es : Array DictEntry} {ep : Nat}, s₁.heap.get? b = some o → o.data = .dict es ep → H b = none := fun {b o es ep} e d => by
     cases q : H b with
     | none => rfl
     | some u =>
       have e' : b = a := hA b (by rw [q]; simp)
       subst e'
       rw [ha] at e; cases e
       have d' : Data.seq vs.toArray _ = Data.dict es ep := d
       cases d'
   have nsK : ∀ {b : Addr} {m : Str → Option Value}, s₁.heap.Ns b m → (hidT s₁.heap H).Ns b m := fun {b m} ⟨o, es, ep, e, d, r⟩ => ⟨o, es, ep, base_of e (noA e d), d, r⟩
   have hKb : K.In (hidT s₁.heap H) := fun b o e => base_of (KX b o e) (by
     cases q : H b with
     | none => rfl
     | some u =>
       have e' : b = a := hA b (by rw [q]; simp)
       subst e'
       rw [hK (by rw [q]; simp)] at e; cases e)
   have hM : Mod K mg (hidT s₁.heap H) := ⟨hKb, nsK hns, ⟨mb, nsK hb, hbb⟩, let ⟨mc, h1, h2⟩ := hlim; ⟨mc, nsK h1, h2⟩⟩
   have e0 : Env0 P w K mg (hidT s₁.heap H) callerA [] s₁ H := ⟨rfl, hM, fun b o e => of_hidT e, Nat.le_of_eq (hidT_size _ _), trivial, fun b hb => absurd (show b ∈ ([] : List Addr) from hb) (by simp), hok, .of_eq hg⟩
   refine codeAny_mono ((F _ hKb (nsK hns)).run callerA [] s₁ H ⟨[.ref a], []⟩ [.ref a] [.ref a] _ _ hr e0 (hbind s₁ (.ref a)) (.cons rfl .nil) (hsp H hO hS)) fun r s' h => ?_
   cases r with
   | error e => exact (hCX H e s' h).elim
   | ok fl =>
     cases fl with
     | next => exact False.elim h
     | brk => exact False.elim h
     | cont => exact False.elim h
     | ret u =>
       obtain ⟨v, H', os, bare, un, hok', r', q⟩ := h
       have q' : v = .bl true := q
       subst q'
       obtain rfl : u = Value.bool true := r'
       refine ⟨rfl, OldK.of_keep fun b o e => ?_, os, bare⟩
       cases q : H b with
       | none => exact un.keep b o e q (by intro z; exact absurd (show b ∈ ([] : List Addr) from z) (by simp)) (by simp)
       | some u =>
         rcases hO b with z | ⟨ob, xs, z⟩
         · rw [q] at z; cases z
         · have z2 := un.frzs b ob _ z
           obtain ⟨e1, _⟩ := hok b _ z
           obtain ⟨e2, _⟩ := hok' b _ z2
           rw [e] at e1; cases e1
           exact e2
 cases hk : K.lookup a with
 | some o =>
   have e := KX a o hk
   rw [ha] at e
   cases e
   refine core (fun _ => none) (fun _ => .inl rfl) (.inr ⟨_, vs.toArray, _, hk, rfl, rfl, rfl, by rw [List.size_toArray, lenV]; exact hl, by simpa using rv⟩) (fun b u z => by have z' : (none : Option HO) = some u := z; cases z') (fun b z => absurd rfl z) fun z => absurd rfl z
 | none =>
   refine core (fun b => if b = a then some (.frz { cls := .type "list", data := .seq vs.toArray } (.lst (ns.map V.int))) else none) (fun b => ?_) (.inl (.inr ⟨{ cls := .type "list", data := .seq vs.toArray }, if_pos rfl⟩)) (fun b u z => ?_) (fun b z => ?_) fun _ => hk
   · by_cases hb : b = a
     · exact .inr ⟨_, _, if_pos hb⟩
     · exact .inl (if_neg hb)
   · by_cases hb : b = a
     · have z' := (if_pos hb).symm.trans z
       cases z'
       subst hb
       exact ⟨ha, by rw [List.length_map]; exact hl, vs, _, rv, ha⟩
     · have z' := (if_neg hb).symm.trans z
       cases z'
   · by_cases hb : b = a
     · exact hb
     · exact absurd (if_neg hb) z
end L2
namespace L2
open PySem PySem.Spec PyProof.Rows
abbrev KOf {K : PySem.W.Frag} {h : Heap} (_ : K.In h) : PySem.W.Frag := K
end L2
namespace L2
open PySem PySem.Spec PyProof.Rows
def inClass (s : Stmt) (j : Nat) : Stmt := match s with
 | .ClassDef _ _ _ body _ _ _ _ _ _ _ => body.getD j (.Pass ⟨0, 0, 0, 0⟩)
 | _ => .Pass ⟨0, 0, 0, 0⟩
def defArgs (s : Stmt) : Arguments := match s with
 | .FunctionDef _ a _ _ _ _ _ _ _ _ => a
 | _ => { posonlyargs := [], args := [], vararg := none, kwonlyargs := [], kw_defaults := [], kwarg := none, defaults := [] }
def defBody (s : Stmt) : List Stmt := match s with
 | .FunctionDef _ _ b _ _ _ _ _ _ _ => b
 | _ => []
def defScope (s : Stmt) : Scope := match s with
 | .FunctionDef _ _ _ _ _ _ sc _ _ _ => sc
 | _ => { kind := .function, names := [], isGenerator := false, isCoroutine := false }
abbrev CX0 : CXT := fun _ _ _ _ _ _ => False
abbrev E0 : XK := fun _ _ _ => False
theorem zV {X : Cx} : Passes CX0 X E0 := fun _ _ _ _ _ _ _ h => h.elim
structure Fun (K : PySem.W.Frag) (x qual : Str) (st : Stmt) (f : Addr) (fd : FuncData) : Prop where
 ex : ∃ (oc : Value) (od : Option Addr) (kV doc pm : Value) (an : Option Addr) (cdv ct : Value) (osl : Array (Option Value)),
   fd = PySem.W.fnOf x qual (defArgs st) (defBody st) (defScope st) .none kV doc pm an cdv ct ∧ K.lookup f = some ⟨oc, od, .func fd, osl⟩ ∧ PySem.W.codeIn K cdv qual = true
 kp : PySem.W.keepIn K (.ref f) = true
section
variable {P : Program} {w : World} {K : PySem.W.Frag} {mg : Str → Option Value} {base : Heap}
theorem Fun.ok {x qual : Str} {st : Stmt} {f : Addr} {fd : FuncData} {N ps : List Str} {k : Nat} {sp : Sp} (F : Fun K x qual st f fd) (S : FnScope N ps (defScope st)) (len : ∀ vs H Q E, sp vs H Q E → vs.length = ps.length)
   (hbody : ∀ (cdv : Value) (A : Around) (outer : List Env) (s : Shared) (H : Hp) (vs : List V) (Q : VK) (E : XK), Room k (A.deeper (envOfC qual (defScope st) s.heap.objs.size f cdv)) → sp vs H Q E →
     ∃ t, PSs (cxOf CX0 P w K mg base N qual (defScope st) f cdv A outer s H E).nox (defBody st) t ∧ t { nx := fun _ H' => Q .non H', rt := Q } (start N vs) H) : FnOk P w K mg base CX0 (k + 1) f fd ps sp := by
 obtain ⟨oc, od, kV, doc, pm, an, cdv, ct, osl, rfl, lk, hcd⟩ := F.ex
 refine fn_of lk hcd S len fun A outer s H vs Q E hr hsp => ?_
 obtain ⟨t, h, q⟩ := hbody cdv A outer s H vs Q E hr hsp
 exact ⟨t, h.nox, q⟩
theorem Fun.binds {x qual : Str} {st : Stmt} {f : Addr} {fd : FuncData} {ps : List Str} (F : Fun K x qual st f fd)
   (h : ∀ (kV doc pm : Value) (an : Option Addr) (cdv ct : Value) (us : List Value), us.length = ps.length → bindArgs (PySem.W.fnOf x qual (defArgs st) (defBody st) (defScope st) .none kV doc pm an cdv ct) ⟨us, []⟩ = pure (ps.zip us)) : Binds K fd ps [] := by
 obtain ⟨oc, od, kV, doc, pm, an, cdv, ct, osl, rfl, lk, hcd⟩ := F.ex
 exact .all (h kV doc pm an cdv ct)
theorem fun_mk {x qual : Str} {st : Stmt} {f : Addr} {oc : Value} {od an : Option Addr} {osl : Array (Option Value)} {kV doc pm cdv ct : Value} (l : K.lookup f = some ⟨oc, od, .func (PySem.W.fnOf x qual (defArgs st) (defBody st) (defScope st) .none kV doc pm an cdv ct), osl⟩)
   (c : PySem.W.codeIn K cdv qual = true) (k : PySem.W.keepIn K (.ref f) = true) : Fun K x qual st f (PySem.W.fnOf x qual (defArgs st) (defBody st) (defScope st) .none kV doc pm an cdv ct) := ⟨⟨oc, od, kV, doc, pm, an, cdv, ct, osl, rfl, l, c⟩, k⟩
end
theorem hu_of {A : Around} {k : Nat} (hr : Room k A) : A.units + 1 < cLine := Nat.lt_of_le_of_lt (Nat.add_le_add_left (by decide : 1 ≤ 64) _) hr.units
section
variable {X : Cx}
theorem pv (i : Nat) {x : Str} {pos : Pos} (hN : X.N[i]? = some x := by rfl) (hv : Vis X.env.scope x := by first | exact Or.inl rfl | exact Or.inr (Or.inl rfl) | exact Or.inr (Or.inr rfl)) (hd : (x == ("__debug__" : Str)) = false := by decide)
   (hcd : (x == ("__classdict__" : Str)) = false := by decide) : PE X (.Name x pos) (tVar i) := pe_var hN hv hd hcd
end
theorem iteF {A B : Prop} (h : B) : if false = true then A else B := by
 rw [if_neg Bool.false_ne_true]
 exact h
theorem iteT {A B : Prop} (h : A) : if true = true then A else B := by
 rw [if_pos rfl]
 exact h
theorem ite2 {c A B : Prop} [Decidable c] (h1 : c → A) (h2 : ¬ c → B) : if c then A else B := by
 by_cases h : c
 · rw [if_pos h]
   exact h1 h
 · rw [if_neg h]
   exact h2 h
def Same (H H' : Hp) : Prop := ∀ b o, H b = some o → H' b = some o
theorem Same.refl (H : Hp) : Same H H := fun _ _ h => h
theorem Same.trans {H H1 H2 : Hp} (a : Same H H1) (b : Same H1 H2) : Same H H2 := fun c o h => b c o (a c o h)
theorem Same.free {H H' : Hp} (e : Same H H') {l : Addr} (h : H' l = Option.none) : H l = Option.none := by
 cases q : H l with
 | none => rfl
 | some o =>
   rw [e l o q] at h
   cases h
theorem Same.seq {K : PySem.W.Frag} {H H' : Hp} {a : Addr} {xs : List V} (e : Same H H') (h : SqL K H a xs) : SqL K H' a xs := by
 rcases h with (h | ⟨o, h⟩) | h
 · exact .inl (.inl (e _ _ h))
 · exact .inl (.inr ⟨o, e _ _ h⟩)
 · exact .inr h
end L2
namespace L2
open PySem PySem.Spec PyProof.Rows
section
variable {κ : Type} [DecidableEq κ]
def valV (kvs : List (κ × V)) (k : κ) : Option V := (kvs.find? fun kv => decide (kv.1 = k)).map (·.2)
def putK (kvs : List (κ × V)) (k : κ) (v : V) : List (κ × V) :=
 if (kvs.any fun kv => decide (kv.1 = k)) = true then kvs.map (fun kv => if kv.1 = k then (kv.1, v) else kv) else kvs ++ [(k, v)]
def dropK (kvs : List (κ × V)) (k : κ) : List (κ × V) := kvs.filter fun kv => decide (kv.1 ≠ k)
theorem xF {p : κ × V} {r : List (κ × V)} {k : κ} (e : p.1 = k) : valV (p :: r) k = some p.2 := by simp [valV, List.find?_cons, e]
theorem xD {p : κ × V} {r : List (κ × V)} {k : κ} (e : ¬ p.1 = k) : valV (p :: r) k = valV r k := by simp [valV, List.find?_cons, e]
theorem valV_any (k : κ) : ∀ kvs : List (κ × V), (kvs.any fun kv => decide (kv.1 = k)) = (valV kvs k).isSome
 | [] => rfl
 | p :: r => by
   rw [List.any_cons]
   by_cases e : p.1 = k
   · simp only [xF e, decide_eq_true e, Bool.true_or, Option.isSome_some]
   · rw [xD e, decide_eq_false e, Bool.false_or]; exact valV_any k r
theorem valV_map (k j : κ) (y : V) : ∀ kvs : List (κ × V), valV (kvs.map fun kv => if kv.1 = k then (kv.1, y) else kv) j = (valV kvs j).map fun x => if j = k then y else x
 | [] => rfl
 | p :: r => by
   have ih := valV_map k j y r
   rw [List.map_cons]
   by_cases h : p.1 = k
   · rw [if_pos h]
     by_cases e : p.1 = j
     · rw [xF (p := (p.1, y)) e, xF e, Option.map_some, if_pos (e.symm.trans h)]
     · rw [xD (p := (p.1, y)) e, xD e, ih]
   · rw [if_neg h]
     by_cases e : p.1 = j
     · rw [xF (p := p) e, xF e, Option.map_some, if_neg (fun z => h (e.trans z))]
     · rw [xD (p := p) e, xD e, ih]
theorem valV_snoc (k j : κ) (y : V) : ∀ kvs : List (κ × V), valV kvs k = none → valV (kvs ++ [(k, y)]) j = if j = k then some y else valV kvs j
 | [], _ => by
   by_cases e : k = j
   · rw [if_pos e.symm]; exact xF (p := (k, y)) e
   · rw [if_neg (fun z => e z.symm)]; exact xD (p := (k, y)) e
 | p :: r, hn => by
   rw [List.cons_append]
   have hk : ¬ p.1 = k := fun z => by rw [xF z] at hn; cases hn
   rw [xD hk] at hn
   have ih := valV_snoc k j y r hn
   by_cases e : p.1 = j
   · rw [xF e, xF e, if_neg (fun z => hk (e.trans z))]
   · rw [xD e, xD e, ih]
theorem valV_put (kvs : List (κ × V)) (k j : κ) (y : V) : valV (putK kvs k y) j = if j = k then some y else valV kvs j := by
 unfold putK
 by_cases a : (kvs.any fun kv => decide (kv.1 = k)) = true
 · rw [if_pos a, valV_map]
   rw [valV_any] at a
   by_cases e : j = k
   · obtain ⟨x, hx⟩ := Option.isSome_iff_exists.mp a
     rw [if_pos e, e, hx, Option.map_some, if_pos rfl]
   · rw [if_neg e]
     cases valV kvs j with
     | none => rfl
     | some x => rw [Option.map_some, if_neg e]
 · rw [if_neg a]
   refine valV_snoc k j y kvs ?_
   rw [valV_any] at a
   cases q : valV kvs k with
   | none => rfl
   | some x => rw [q] at a; exact (a rfl).elim
theorem xC (kvs : List (κ × V)) (k : κ) (v : V) : (putK kvs k v).length ≤ kvs.length + 1 := by
 unfold putK
 split
 · rw [List.length_map]; omega
 · rw [List.length_append, List.length_cons, List.length_nil]; omega
theorem RelO.isSome_eq {o : Option V} {u : Option Value} (r : RelO o u) : o.isSome = u.isSome := by
 cases o with
 | none => cases u with
   | none => rfl
   | some _ => exact (show False from r).elim
 | some _ => cases u with
   | none => exact (show False from r).elim
   | some _ => rfl
theorem RelO.getD {o : Option V} {u : Option Value} {d : V} {d' : Value} (r : RelO o u) (rd : RelV d d') : RelV (o.getD d) (u.getD d') := by
 cases o with
 | none => cases u with
   | none => exact rd
   | some _ => exact (show False from r).elim
 | some _ => cases u with
   | none => exact (show False from r).elim
   | some _ => exact r
theorem KV.val {kvs : List (κ × V)} {vs : List (κ × Value)} (r : KV kvs vs) (k : κ) : RelO (valV kvs k) (valueAt vs k) := by
 unfold KV at r
 induction r with
 | nil => exact True.intro
 | @cons p q ps qs h t ih =>
   obtain ⟨h1, h2⟩ := h
   by_cases e : p.1 = k
   · have e' : q.1 = k := h1.symm.trans e
     have b : valueAt (q :: qs) k = some q.2 := by simp [valueAt, List.find?_cons, e']
     rw [xF e, b]; exact h2
   · have e' : ¬ q.1 = k := fun z => e (h1.trans z)
     have b : valueAt (q :: qs) k = valueAt qs k := by simp [valueAt, List.find?_cons, e']
     rw [xD e, b]; exact ih
theorem KV.any {kvs : List (κ × V)} {vs : List (κ × Value)} (r : KV kvs vs) (k : κ) : (kvs.any fun kv => decide (kv.1 = k)) = vs.any fun kv => decide (kv.1 = k) := by
 unfold KV at r
 induction r with
 | nil => rfl
 | cons h t ih => rw [List.any_cons, List.any_cons, ih, h.1]
theorem KV.repl {kvs : List (κ × V)} {vs : List (κ × Value)} (r : KV kvs vs) (k : κ) {y : V} {u : Value} (ry : RelV y u) :
   KV (kvs.map fun kv => if kv.1 = k then (kv.1, y) else kv) (vs.map fun kv => if kv.1 = k then (kv.1, u) else kv) := by
 unfold KV at r ⊢
 induction r with
 | nil => exact .nil
 | @cons p q ps qs h t ih =>
   rw [List.map_cons, List.map_cons]
   refine .cons ?_ ih
   obtain ⟨h1, h2⟩ := h
   by_cases e : p.1 = k
   · rw [if_pos e, if_pos (h1.symm.trans e)]; exact ⟨h1, ry⟩
   · rw [if_neg e, if_neg (fun z => e (h1.trans z))]; exact ⟨h1, h2⟩
theorem KV.put {kvs : List (κ × V)} {vs : List (κ × Value)} (r : KV kvs vs) (k : κ) {y : V} {u : Value} (ry : RelV y u) : KV (putK kvs k y) (stored vs k u) := by
 unfold putK stored
 rw [r.any k]
 by_cases e : (vs.any fun kv => decide (kv.1 = k)) = true
 · rw [if_pos e, if_pos e]; exact r.repl k ry
 · rw [if_neg e, if_neg e]; exact Paired.snoc r ⟨rfl, ry⟩
theorem KV.drop {kvs : List (κ × V)} {vs : List (κ × Value)} (r : KV kvs vs) (k : κ) : KV (dropK kvs k) (without vs k) := by
 unfold KV at r ⊢
 unfold dropK without
 induction r with
 | nil => exact .nil
 | @cons p q ps qs h t ih =>
   obtain ⟨h1, h2⟩ := h
   rw [List.filter_cons, List.filter_cons]
   by_cases e : p.1 = k
   · have a : ¬ decide (p.1 ≠ k) = true := by simp [e]
     have b : ¬ decide (q.1 ≠ k) = true := by simp [h1.symm.trans e]
     rw [if_neg a, if_neg b]; exact ih
   · have e' : ¬ q.1 = k := fun z => e (h1.trans z)
     have a : decide (p.1 ≠ k) = true := by simp [e]
     have b : decide (q.1 ≠ k) = true := by simp [e']
     rw [if_pos a, if_pos b]; exact .cons ⟨h1, h2⟩ ih
theorem KV.keys {kvs : List (κ × V)} {vs : List (κ × Value)} (r : KV kvs vs) : kvs.map (·.1) = vs.map (·.1) := by
 unfold KV at r
 induction r with
 | nil => rfl
 | cons h t ih => rw [List.map_cons, List.map_cons, ih, h.1]
theorem KV.length {kvs : List (κ × V)} {vs : List (κ × Value)} (r : KV kvs vs) : kvs.length = vs.length := Paired.length r
end
theorem kV_is {P : Program} {w : World} {k : Key} {u : Value} (r : RelV (kV k) u) : (mixKind P w).is k u = true := by
 cases k with
 | inl i => obtain ⟨t, e⟩ := (show ∃ t, u = Value.int i t from r); subst e; exact mixKind_int P w i t
 | inr x => obtain ⟨t, e⟩ := (show ∃ t, u = Value.str x t from r); subst e; exact mixKind_str P w x t
theorem items_are {P : Program} {w : World} : ∀ {ks : List Key} {us : List Value}, Vals (ks.map kV) us → ItemsAre (mixKind P w) ks us
 | [], _, r => by rw [List.map_nil] at r; cases r; exact .nil
 | k :: ks, _, r => by
   rw [List.map_cons] at r
   cases r with
   | cons h t => exact .cons (kV_is h) (items_are t)
abbrev KT (H : Hp) : List (List Key × V) → List (List Key × Addr × Value) → Prop := Paired fun p q => p.1 = q.1 ∧ H q.2.1 = some (.tup (p.1.map kV)) ∧ RelV p.2 q.2.2
theorem KT.val {H : Hp} {kvs : List (List Key × V)} {xs : List (List Key × Addr × Value)} (r : KT H kvs xs) (k : List Key) : RelO (valV kvs k) ((atKey xs k).map (·.2)) := by
 induction r with
 | nil => exact True.intro
 | @cons p q ps qs h t ih =>
   obtain ⟨h1, _, h2⟩ := h
   by_cases e : p.1 = k
   · have e' : q.1 = k := h1.symm.trans e
     have b : atKey (q :: qs) k = some q.2 := by simp [atKey, List.find?_cons, e']
     rw [xF e, b]; exact h2
   · have e' : ¬ q.1 = k := fun z => e (h1.trans z)
     have b : atKey (q :: qs) k = atKey qs k := by simp [atKey, List.find?_cons, e']
     rw [xD e, b]; exact ih
theorem KT.repl {H : Hp} {kvs : List (List Key × V)} {xs : List (List Key × Addr × Value)} (r : KT H kvs xs) (k : List Key) {y : V} {u : Value} (ry : RelV y u) :
   KT H (kvs.map fun kv => if kv.1 = k then (kv.1, y) else kv) (xs.map (putAt k u)) := by
 induction r with
 | nil => exact .nil
 | @cons p q ps qs h t ih =>
   rw [List.map_cons, List.map_cons]
   refine .cons ?_ ih
   obtain ⟨h1, h2, h3⟩ := h
   unfold putAt
   by_cases e : p.1 = k
   · rw [if_pos e, if_pos (h1.symm.trans e)]; exact ⟨h1, h2, ry⟩
   · rw [if_neg e, if_neg (fun z => e (h1.trans z))]; exact ⟨h1, h2, h3⟩
theorem KT.put {H : Hp} {kvs : List (List Key × V)} {xs : List (List Key × Addr × Value)} (r : KT H kvs xs) (k : List Key) {b : Addr} {y : V} {u : Value} (hb : H b = some (.tup (k.map kV))) (ry : RelV y u) :
   KT H (putK kvs k y) (storedH xs k b u) := by
 have e : (kvs.any fun kv => decide (kv.1 = k)) = (atKey xs k).isSome := by
   rw [valV_any, (r.val k).isSome_eq, Option.isSome_map]
 unfold putK storedH
 rw [e]
 by_cases q : (atKey xs k).isSome = true
 · rw [if_pos q, if_pos q]; exact r.repl k ry
 · rw [if_neg q, if_neg q]; exact Paired.snoc r ⟨rfl, hb, ry⟩
theorem KT.keeps {H H' : Hp} {kvs : List (List Key × V)} {xs : List (List Key × Addr × Value)} (r : KT H kvs xs) (ht : ∀ b ys, H b = some (.tup ys) → H' b = some (.tup ys)) : KT H' kvs xs :=
 Paired.mapP r fun _ _ z => ⟨z.1, ht _ _ z.2.1, z.2.2⟩
section
variable {P : Program} {w : World} {H : Hp} {h : Heap} {a : Addr}
theorem rd_of {u : HO} (ok : HOk P w H h) (e : Rd H a u) : ObjOk P w H h a u := e.ok ok
theorem dk_rd {kvs : List (Key × V)} (ok : HOk P w H h) (e : Rd H a (.dK kvs)) : kvs.length ≤ sizeLine ∧ (a == sysModules) = false ∧ ∃ vs, KV kvs vs ∧ h.DictOf (mixKind P w) a vs :=
 show ObjOk P w H h a (.dK kvs) from rd_of ok e
theorem dk_of {kvs : List (Key × V)} (ok : HOk P w H h) (e : H a = some (.dK kvs)) : kvs.length ≤ sizeLine ∧ (a == sysModules) = false ∧ ∃ vs, KV kvs vs ∧ h.DictOf (mixKind P w) a vs := dk_rd ok (.inl e)
theorem key_of {ks : List Key} (ok : HOk P w H h) (e : H a = some (.tup (ks.map kV))) : (tupleKind (mixKind P w)).is h ks a := by
 obtain ⟨_, its, r, o, h1, h2, n, h3⟩ := (show ObjOk P w H h a (.tup (ks.map kV)) from ok a _ e)
 exact ⟨o, its.toArray, n, h1, h2, h3, by simpa using items_are r⟩
theorem dt_rd {kvs : List (List Key × V)} (ok : HOk P w H h) (e : Rd H a (.dT kvs)) : kvs.length ≤ sizeLine ∧ (a == sysModules) = false ∧
   ∃ xs, KT H kvs xs ∧ h.DictOfH (tupleKind (mixKind P w)) a xs := by
 obtain ⟨z, y, xs, r, o, es, ep, h1, h2, h3, h4, h5⟩ := (show ObjOk P w H h a (.dT kvs) from rd_of ok e)
 refine ⟨z, y, xs, r, o, es, ep, h1, h2, h3, h4, fun x hx => ?_, h5⟩
 have all : ∀ {l : List (List Key × V)} {m : List (List Key × Addr × Value)}, KT H l m → ∀ x ∈ m, (tupleKind (mixKind P w)).is h x.1 x.2.1 := by
   intro l m q
   induction q with
   | nil => intro x hx; exact nomatch hx
   | @cons p q ps qs hq t ih =>
     intro x hx
     rcases List.mem_cons.mp hx with e | hx
     · subst e
       exact key_of ok (by rw [← hq.1]; exact hq.2.1)
     · exact ih x hx
 exact all r x hx
theorem dt_of {kvs : List (List Key × V)} (ok : HOk P w H h) (e : H a = some (.dT kvs)) : kvs.length ≤ sizeLine ∧ (a == sysModules) = false ∧
   ∃ xs, KT H kvs xs ∧ h.DictOfH (tupleKind (mixKind P w)) a xs := dt_rd ok (.inl e)
end
def DGet (H : Hp) (a : Addr) (y : V) (r : Option V) : Prop :=
 (∃ kvs k, Rd H a (.dK kvs) ∧ y = kV k ∧ r = valV kvs k) ∨ ∃ kvs k b, Rd H a (.dT kvs) ∧ y = .ref b ∧ H b = some (.tup (k.map kV)) ∧ r = valV kvs k
def DPut (H : Hp) (a : Addr) (y v : V) (H' : Hp) : Prop :=
 (∃ kvs k, H a = some (.dK kvs) ∧ y = kV k ∧ kvs.length < sizeLine ∧ H' = upd H a (.dK (putK kvs k v))) ∨
 ∃ kvs k b, H a = some (.dT kvs) ∧ y = .ref b ∧ H b = some (.tup (k.map kV)) ∧ kvs.length < sizeLine ∧ H' = upd H a (.dT (putK kvs k v))
theorem DGet.k {H : Hp} {a : Addr} {kvs : List (Key × V)} {k : Key} (e : H a = some (.dK kvs)) : DGet H a (kV k) (valV kvs k) := .inl ⟨kvs, k, .inl e, rfl, rfl⟩
theorem DGet.t {H : Hp} {a b : Addr} {kvs : List (List Key × V)} {k : List Key} (e : H a = some (.dT kvs)) (eb : H b = some (.tup (k.map kV))) : DGet H a (.ref b) (valV kvs k) := .inr ⟨kvs, k, b, .inl e, rfl, eb, rfl⟩
theorem DPut.k {H : Hp} {a : Addr} {kvs : List (Key × V)} {k : Key} {v : V} (e : H a = some (.dK kvs)) (hl : kvs.length < sizeLine) : DPut H a (kV k) v (upd H a (.dK (putK kvs k v))) := .inl ⟨kvs, k, e, rfl, hl, rfl⟩
theorem DPut.t {H : Hp} {a b : Addr} {kvs : List (List Key × V)} {k : List Key} {v : V} (e : H a = some (.dT kvs)) (eb : H b = some (.tup (k.map kV))) (hl : kvs.length < sizeLine) :
   DPut H a (.ref b) v (upd H a (.dT (putK kvs k v))) := .inr ⟨kvs, k, b, e, rfl, eb, hl, rfl⟩
section
variable {X : Cx} {pins : List (Addr × Obj)} {σ : St} {H : Hp} {s : Shared} {a : Addr} {y v : V} {u r : Value} {o : Option V} {A : Around} {E : Value → Shared → Prop}
theorem Inv.big (I : Inv X pins σ H s) : sysModules < s.heap.objs.size := by
 have h : mainGlobals < s.heap.objs.size := (I.mod.glob.keeps I.bk).lt
 exact Nat.lt_trans (by decide) h
theorem d_getItem {Q : Value → Shared → Prop} (hu : A.units + 1 < cLine) (I : Inv X pins σ H s) (g : DGet H a y (some v)) (ry : RelV y u) (h : ∀ w' s', Inv X pins σ H s' → RelV v w' → Q w' s') :
   wpAny (model X.prog X.w) A (getItem (.ref a) u) Q E s := by
 rcases g with ⟨kvs, k, e, ey, l⟩ | ⟨kvs, k, b, e, ey, eb, l⟩
 · subst ey
   obtain ⟨z, hd, vs, rel, dd⟩ := dk_rd I.hok e
   obtain ⟨w', hw, rw'⟩ := RelO.some_of (v := v) (o := valueAt vs k) (by rw [l]; exact rel.val k)
   exact wpAny_getItem_of (kV_is ry) dd.mapOf hw (h w' _ (I.tok _) rw')
 · subst ey
   cases (show u = Value.ref b from ry)
   obtain ⟨z, hd, xs, rel, dd⟩ := dt_rd I.hok e
   obtain ⟨w', hw, rw'⟩ := RelO.some_of (v := v) (o := (atKey xs k).map (·.2)) (by rw [l]; exact rel.val k)
   obtain ⟨p, hp, hp2⟩ := Option.map_eq_some_iff.mp hw
   refine wpAny_getItem_heap (tupleKind_room_in1 hu) (key_of I.hok eb) dd hp ?_
   rw [hp2]
   exact h w' _ (I.tok _) rw'
theorem d_in {Q : Value → Shared → Prop} (hu : A.units + 1 < cLine) (I : Inv X pins σ H s) (g : DGet H a y o) (ry : RelV y u) (h : ∀ s', Inv X pins σ H s' → Q (.bool o.isSome) s') :
   wpAny (model X.prog X.w) A (compareOp .In u (.ref a)) Q E s := by
 rcases g with ⟨kvs, k, e, ey, l⟩ | ⟨kvs, k, b, e, ey, eb, l⟩
 · subst ey
   obtain ⟨z, hd, vs, rel, dd⟩ := dk_rd I.hok e
   refine wpAny_in_of (kV_is ry) hd dd.mapOf ?_
   rw [← (rel.val k).isSome_eq, ← l]
   exact h _ (I.tok _)
 · subst ey
   cases (show u = Value.ref b from ry)
   obtain ⟨z, hd, xs, rel, dd⟩ := dt_rd I.hok e
   refine wpAny_in_heap (tupleKind_room_in1 hu) (key_of I.hok eb) hd dd ?_
   have q := (rel.val k).isSome_eq
   rw [Option.isSome_map] at q
   rw [← q, ← l]
   exact h _ (I.tok _)
theorem d_notIn {Q : Value → Shared → Prop} (hu : A.units + 1 < cLine) (I : Inv X pins σ H s) (g : DGet H a y o) (ry : RelV y u) (h : ∀ s', Inv X pins σ H s' → Q (.bool (!o.isSome)) s') :
   wpAny (model X.prog X.w) A (compareOp .NotIn u (.ref a)) Q E s := by
 rcases g with ⟨kvs, k, e, ey, l⟩ | ⟨kvs, k, b, e, ey, eb, l⟩
 · subst ey
   obtain ⟨z, hd, vs, rel, dd⟩ := dk_rd I.hok e
   refine wpAny_notIn_of (kV_is ry) hd dd.mapOf ?_
   rw [← (rel.val k).isSome_eq, ← l]
   exact h _ (I.tok _)
 · subst ey
   cases (show u = Value.ref b from ry)
   obtain ⟨z, hd, xs, rel, dd⟩ := dt_rd I.hok e
   refine wpAny_notIn_heap (tupleKind_room_in1 hu) (key_of I.hok eb) hd dd ?_
   have q := (rel.val k).isSome_eq
   rw [Option.isSome_map] at q
   rw [← q, ← l]
   exact h _ (I.tok _)
theorem d_write {h' : Heap} {t' : Nat} {ob : HO} (I : Inv X pins σ H s) (mu : Mut (H a)) (hs : Heap.SameBut a s.heap h') (he : ∃ q, h'.get? a = some q) (new : ObjOk X.prog X.w (upd H a ob) h' a ob) :
   Inv X pins σ (upd H a ob) { s with heap := h', toks := t' } :=
 I.write (x := a) (e := a) mu (.inl rfl) (fun b q hb z => (hs.2 b hb).trans z) he new
theorem dk_new {P : Program} {w : World} {H' : Hp} {h' : Heap} {kvs : List (Key × V)} {vs : List (Key × Value)} (z : kvs.length ≤ sizeLine) (hd : (a == sysModules) = false) (rel : KV kvs vs) (dd : h'.DictOf (mixKind P w) a vs) :
   ObjOk P w H' h' a (.dK kvs) := ⟨z, hd, vs, rel, dd⟩
theorem d_setItem {H' : Hp} {Q : Unit → Shared → Prop} (hu : A.units + 1 < cLine) (I : Inv X pins σ H s) (g : DPut H a y v H') (ry : RelV y u) (rv : RelV v r) (h : ∀ s', Inv X pins σ H' s' → Q () s') :
   wpAny (model X.prog X.w) A (setItem (.ref a) u r) Q E s := by
 rcases g with ⟨kvs, k, e, ey, l, eH⟩ | ⟨kvs, k, b, e, ey, eb, l, eH⟩
 · subst ey eH
   obtain ⟨z, hd, vs, rel, dd⟩ := dk_of I.hok e
   have hz : vs.length ≤ sizeLine := by rw [← rel.length]; exact z
   have hl : (putK kvs k v).length ≤ sizeLine := by have := xC kvs k v; omega
   refine wpAny_setItem_pairs (hsz := hz) (kV_is ry) dd fun h' dd' hs => h _ ?_
   have he : ∃ q, h'.get? a = some q := let ⟨q, _, _, hq, _⟩ := dd'; ⟨q, hq⟩
   exact d_write I (by rw [e]; exact True.intro) hs he (dk_new hl hd (rel.put k rv) dd')
 · subst ey eH
   cases (show u = Value.ref b from ry)
   obtain ⟨z, hd, xs, rel, dd⟩ := dt_of I.hok e
   have hz : xs.length ≤ sizeLine := by rw [← Paired.length rel]; exact z
   have hl : (putK kvs k v).length ≤ sizeLine := by have := xC kvs k v; omega
   refine wpAny_setItem_heap (hsz := hz) (tupleKind_room_in1 hu) (key_of I.hok eb) dd fun h' dd' hs => h _ ?_
   obtain ⟨q, es, ep, hq, h2, h3, h4, _, h5⟩ := dd'
   refine d_write I (by rw [e]; exact True.intro) hs ⟨q, hq⟩ ⟨hl, hd, _, (rel.put k eb rv).keeps fun c ys ec => ?_, q, es, ep, hq, h2, h3, h4, h5⟩
   rw [zF (yE ec e (fun z => nomatch z))]
   exact ec
end
section
variable {X : Cx} {pins : List (Addr × Obj)} {σ : St} {H : Hp} {s : Shared} {a : Addr} {kvs : List (Key × V)} {k : Key} {u : Value} {A : Around} {E : Value → Shared → Prop}
end
def NoSl (i : Expr) : Prop := ∀ ov iv, subscripted i false ov iv = operate [ov, iv] (getItem ov iv)
theorem subD_of {prog : Program} {w : World} {A : Around} {E : Value → Shared → Prop} {s : Shared} {env : Env} {value slice : Expr} {pos : Pos} {T id : String} {Q : Value → Shared → Prop}
   (hl : typeLookup (.type T) "__getitem__" = pure (some (.builtin id))) (hs : NoSl slice)
   (h : wpAny (model prog w) A (eval value env) (fun o s₁ => wpAny (model prog w) A (eval slice env) (fun i s₂ => s₂.TypeIs o T ∧ wpAny (model prog w) A (getItem o i) Q E s₂) E s₁) E s) :
   wpAny (model prog w) A (eval (.Subscript value slice pos) env) Q E s := by
 refine Subscript_ (wpAny_mono h (fun o s₁ h₁ => wpAny_mono h₁ (fun i s₂ h₂ => ?_) fun _ _ x => x) fun _ _ x => x)
 obtain ⟨hT, h₂⟩ := h₂
 unfold subscriptTail
 refine wpAny_bind ?_
 rw [getitemInPython_of_ne hT.not_modules]
 refine wpAny_bind (wpAny_specialOf hT hl ?_)
 have fin : wpAny (model prog w) A (subscripted slice false o i) (fun r s₃ => wpAny (model prog w) A (letTemporaryGo value o r >>= fun _ => pure r) Q E s₃) E s₂ := by
   rw [hs o i]
   exact wpAny_operating (wpAny_mono h₂ (fun r s₃ h₃ => wpAny_bind (wpAny_letTemporaryGo (wpAny_pure h₃))) fun _ _ x => x)
 first
   | exact wpAny_pure (wpAny_bind fin)
   | exact wpAny_bind (wpAny_pure (wpAny_bind fin))
   | exact wpAny_bind fin
theorem dict_typeIs {X : Cx} {pins : List (Addr × Obj)} {σ : St} {H : Hp} {s : Shared} {a : Addr} {y : V} {o : Option V} (I : Inv X pins σ H s) (g : DGet H a y o) : s.TypeIs (.ref a) "dict" := by
 rcases g with ⟨kvs, k, e, _, _⟩ | ⟨kvs, k, b, e, _, _, _⟩
 · obtain ⟨_, _, vs, _, dd⟩ := dk_rd I.hok e
   exact dd.typeIs
 · obtain ⟨_, _, xs, _, dd⟩ := dt_rd I.hok e
   exact dd.typeIs
def tDGet (td ty : TE) : TE := fun σ H Q => td σ H fun x H1 => ty σ H1 fun y H2 => ∃ a v, x = .ref a ∧ DGet H2 a y (some v) ∧ Q v H2
def sDPut (td ty tv : TE) : TS := fun D σ H => tv σ H fun v H1 => td σ H1 fun x H2 => ty σ H2 fun y H3 => ∃ a H4, x = .ref a ∧ DPut H3 a y v H4 ∧ D.nx σ H4
section
variable {X : Cx} {o i e value : Expr} {pos pos' tpos : Pos} {td ty tv : TE}
theorem pe_dget (hu : X.A.units + 1 < cLine) (ho : PE X o td) (hi : PE X i ty) (hs : NoSl i) : PE X (.Subscript o i pos) (tDGet td ty) := by
 intro pins s σ H Q I h
 refine subD_of PySem.F.slot_dict_getitem.lookup hs (thn (ho pins s σ H _ I h) fun u s1 ⟨x, H1, I1, rx, q1⟩ => thn (hi pins s1 σ H1 _ I1 q1) fun iv s2 ⟨y, H2, I2, ry, a, v, ex, g, q2⟩ => ?_)
 subst ex
 obtain rfl : u = Value.ref a := rx
 exact ⟨dict_typeIs I2 g, d_getItem hu I2 g ry fun w' s3 I3 rw' => ⟨v, H2, I3, rw', q2⟩⟩
theorem ps_dput (hu : X.A.units + 1 < cLine) (ho : PE X o td) (hi : PE X i ty) (hv : PE X value tv) (hs : swapsWith value (some (.Subscript o i pos')) pos.line X.env = pure false) :
   PS X (.Assign [.Subscript o i pos'] value pos) (sDPut td ty tv) := by
 intro pins s σ H D I h
 refine wpAny_Assign_Subscript (thn (hv pins s σ H _ I h) fun r s1 ⟨v, H1, I1, rv, q1⟩ => thn (ho pins s1 σ H1 _ I1 q1) fun u s2 ⟨x, H2, I2, rx, q2⟩ => thn (hi pins s2 σ H2 _ I2 q2) fun iv s3 ⟨y, H3, I3, ry, a, H4, ex, g, q3⟩ => ?_) hs
 subst ex
 obtain rfl : u = Value.ref a := rx
 exact d_setItem hu I3 g ry rv fun s4 I4 => ⟨σ, H4, I4, q3⟩
end
theorem dk_empty {P : Program} {w : World} {H : Hp} (h : Heap) (hb : sysModules < h.objs.size) : ObjOk P w H (h.push { cls := .type "dict", data := .dict #[] }) h.objs.size (.dK []) :=
 ⟨Nat.zero_le _, beq_eq_false_iff_ne.mpr (Ne.symm (Nat.ne_of_lt hb)), [], .nil, Heap.DictOf.new h⟩
theorem dt_empty {P : Program} {w : World} {H : Hp} (h : Heap) (hb : sysModules < h.objs.size) : ObjOk P w H (h.push { cls := .type "dict", data := .dict #[] }) h.objs.size (.dT []) :=
 ⟨Nat.zero_le _, beq_eq_false_iff_ne.mpr (Ne.symm (Nat.ne_of_lt hb)), [], .nil, _, #[], 0, Heap.get?_push_size _ rfl, ⟨rfl, rfl, rfl⟩, rfl, rfl, List.nodup_nil⟩
def tDNewK : TE := fun _ H Q => ∀ p, H p = none → Q (.ref p) (upd H p (.dK []))
def tDNewT : TE := fun _ H Q => ∀ p, H p = none → Q (.ref p) (upd H p (.dT []))
section
variable {X : Cx} {pos : Pos}
theorem pe_dnewK : PE X (.Dict [] [] pos) tDNewK := fun pins s σ H Q I h =>
 wpAny_Dict_empty ⟨.ref s.heap.objs.size, _, I.laid (a := s.heap.objs.size) (o := .dK []) (t' := s.toks) (fun _ _ q => Heap.get?_push_of_some _ q) (Nat.le_refl _) (dk_empty s.heap I.big), rfl, h _ (I.hok.fresh (Nat.le_refl _))⟩
theorem pe_dnewT : PE X (.Dict [] [] pos) tDNewT := fun pins s σ H Q I h =>
 wpAny_Dict_empty ⟨.ref s.heap.objs.size, _, I.laid (a := s.heap.objs.size) (o := .dT []) (t' := s.toks) (fun _ _ q => Heap.get?_push_of_some _ q) (Nat.le_refl _) (dt_empty s.heap I.big), rfl, h _ (I.hok.fresh (Nat.le_refl _))⟩
end
def tPairs : List (TE × TE) → St → Hp → (List (V × V) → Hp → Prop) → Prop
 | [], _, H, Q => Q [] H
 | (tk, tv) :: r, σ, H, Q => tk σ H fun x H1 => tv σ H1 fun y H2 => tPairs r σ H2 fun ps H3 => Q ((x, y) :: ps) H3
abbrev VV : List (V × V) → List (Value × Value) → Prop := Paired fun p q => RelV p.1 q.1 ∧ RelV p.2 q.2
def PPs (X : Cx) (pos : Pos) (keys : List (Option Expr)) (values : List Expr) (trs : List (TE × TE)) : Prop :=
 ∀ (pins : List (Addr × Obj)) (s : Shared) (σ : St) (H : Hp) (Q : List (V × V) → Hp → Prop), Inv X pins σ H s → tPairs trs σ H Q →
   wpAny (model X.prog X.w) X.A (evalPairs (pairTrees keys values X.env pos)) (fun vs s' => ∃ ps H', Inv X pins σ H' s' ∧ VV ps vs ∧ Q ps H') X.xe s
structure M1 (X : Cx) (o : Expr) (m : Str) (apos : Pos) (e : Expr) (cpos : Pos) : Prop where
 base : attributeBase o m X.env (eval o X.env) = eval o X.env
 few : ((backTo cpos (starEach [e] X.env)).all (fun x => !x.1) && (backToKw cpos (keywordEach [] X.env)).all (fun x => x.1.isSome)
   && decide (([e] : List Expr).length + ([] : List Keyword).length + (if ([] : List Keyword).isEmpty then 0 else 1) < 30)) = true
 line : (apos.endLine == cpos.line) = true
 trees : backTo cpos (starEach [e] X.env) = [(false, eval e X.env)]
structure M2 (X : Cx) (o : Expr) (m : Str) (apos : Pos) (e f : Expr) (cpos : Pos) : Prop where
 base : attributeBase o m X.env (eval o X.env) = eval o X.env
 few : ((backTo cpos (starEach [e, f] X.env)).all (fun x => !x.1) && (backToKw cpos (keywordEach [] X.env)).all (fun x => x.1.isSome)
   && decide (([e, f] : List Expr).length + ([] : List Keyword).length + (if ([] : List Keyword).isEmpty then 0 else 1) < 30)) = true
 line : (apos.endLine == cpos.line) = true
 trees : backTo cpos (starEach [e, f] X.env) = [(false, eval e X.env), (false, eval f X.env)]
def IsD (H : Hp) (a : Addr) : Prop := (∃ kvs, Rd H a (.dK kvs)) ∨ ∃ kvs, Rd H a (.dT kvs)
theorem isD_at {X : Cx} {pins : List (Addr × Obj)} {σ : St} {H : Hp} {s : Shared} {a : Addr} (I : Inv X pins σ H s) (d : IsD H a) :
   s.TypeIs (.ref a) "dict" ∧ (∀ b, Value.ref a = .ref b → ∃ ob, s.heap.get? b = some ob ∧ ob.dict = none) ∧ (a == sysModules) = false := by
 rcases d with ⟨kvs, e⟩ | ⟨kvs, e⟩
 · obtain ⟨_, hd, vs, _, dd⟩ := dk_rd I.hok e
   refine ⟨dd.typeIs, fun b q => ?_, hd⟩
   cases q
   obtain ⟨ob, _, _, h1, h2, _⟩ := dd
   exact ⟨ob, h1, h2.2.1⟩
 · obtain ⟨_, hd, xs, _, dd⟩ := dt_rd I.hok e
   refine ⟨dd.typeIs, fun b q => ?_, hd⟩
   cases q
   obtain ⟨ob, _, _, h1, h2, _⟩ := dd
   exact ⟨ob, h1, h2.2.1⟩
section
variable {X : Cx} {pins : List (Addr × Obj)} {σ : St} {H : Hp} {s : Shared} {a : Addr} {y d : V} {u r : Value} {o : Option V} {A : Around} {E : Value → Shared → Prop}
theorem d_get1 {Q : Value → Shared → Prop} (hu : A.units + 1 < cLine) (I : Inv X pins σ H s) (g : DGet H a y o) (ry : RelV y u) (h : ∀ w' s', Inv X pins σ H s' → RelV (o.getD .non) w' → Q w' s') :
   wpAny (model X.prog X.w) A (call (.builtin "dict.get") [.ref a, u]) Q E s := by
 rcases g with ⟨kvs, k, e, ey, l⟩ | ⟨kvs, k, b, e, ey, eb, l⟩
 · subst ey
   obtain ⟨z, hd, vs, rel, dd⟩ := dk_rd I.hok e
   refine call_meetsIn PySem.F.slot_dict_get dd.typeIs PySem.F.entry_dict_get (PySem.F.args_dict_get_2 _ _) (meets_dict_get (mixKind X.prog X.w) a (kV_is ry) hd) ⟨_, dd.mapOf, h _ _ (I.tok _) ?_⟩
   rw [l]
   exact (rel.val k).getD rfl
 · subst ey
   cases (show u = Value.ref b from ry)
   obtain ⟨z, hd, xs, rel, dd⟩ := dt_rd I.hok e
   refine call_meetsIn PySem.F.slot_dict_get dd.typeIs PySem.F.entry_dict_get (PySem.F.args_dict_get_2 _ _) (meetsH_dict_get (tupleKind (mixKind X.prog X.w)) a b hd) ⟨tupleKind_room_in1 hu, k, xs, key_of I.hok eb, dd, h _ _ (I.tok _) ?_⟩
   rw [l]
   exact (rel.val k).getD rfl
end
def tDGet1 (td ty : TE) : TE := fun σ H Q => td σ H fun x H1 => ∃ a, x = .ref a ∧ IsD H1 a ∧ ty σ H1 fun y H2 => ∃ o, DGet H2 a y o ∧ Q (o.getD .non) H2
section
variable {X : Cx} {o e f : Expr} {apos cpos : Pos} {td ty tx : TE}
theorem pe_dget1 (hu : X.A.units + 1 < cLine) (ho : PE X o td) (he : PE X e ty) (m : M1 X o "get" apos e cpos) : PE X (.Call (.Attribute o "get" apos) [e] [] cpos) (tDGet1 td ty) := by
 intro pins s σ H Q I h
 refine wpAny_Call_method m.base m.few m.line PySem.F.plainAttrs_dict PySem.F.slot_dict_get PySem.F.type_dict_get (thn (ho pins s σ H _ I h) fun u s1 ⟨x, H1, I1, rx, a, ex, d, q1⟩ => ?_)
 subst ex
 obtain rfl : u = Value.ref a := rx
 obtain ⟨t1, t2, _⟩ := isD_at I1 d
 refine ⟨t1, t2, ?_⟩
 rw [m.trees]
 refine Calls.callWith_builtin rfl (Calls.evalArgs_plain (Calls.spliced_cons (thn (he pins s1 σ H1 _ I1 q1) fun iv s2 ⟨y, H2, I2, ry, ov, g, q2⟩ => Calls.spliced_nil ?_)))
 exact d_get1 hu I2 g ry fun w' s3 I3 rw' => ⟨_, H2, I3, rw', q2⟩
end
section
variable {X : Cx} {pins : List (Addr × Obj)} {σ : St} {H : Hp} {s : Shared} {a : Addr} {kvs : List (Key × V)} {A : Around} {E : Value → Shared → Prop}
end
section
variable {X : Cx} {pins : List (Addr × Obj)} {σ : St} {H : Hp} {s : Shared} {a : Addr} {y : V} {u : Value} {A : Around} {E : Value → Shared → Prop}
end
end L2
namespace L2
open PySem PySem.Spec PyProof.Rows
section
variable {X : Cx}
end
section
variable {κ : Type} [DecidableEq κ]
theorem valV_not {kvs : List (κ × V)} {k : κ} (h : valV kvs k = none) : ¬ k ∈ kvs.map (·.1) := by
 intro m
 obtain ⟨p, hp, e⟩ := List.mem_map.mp m
 have q : (kvs.any fun kv => decide (kv.1 = k)) = true := List.any_eq_true.mpr ⟨p, hp, decide_eq_true e⟩
 rw [valV_any, h] at q
 exact absurd q (by simp)
theorem valV_in {kvs : List (κ × V)} {k : κ} {v : V} (h : valV kvs k = some v) : k ∈ kvs.map (·.1) := by
 have q : (kvs.any fun kv => decide (kv.1 = k)) = true := by
   rw [valV_any, h]
   all_goals rfl
 obtain ⟨p, hp, e⟩ := List.any_eq_true.mp q
 exact List.mem_map.mpr ⟨p, hp, of_decide_eq_true e⟩
end
end L2
namespace L2
open PySem PySem.Spec PyProof.Rows PySem.Calls
section
variable {prog : Program} {w : World} {A : Around} {R : Result → Shared → Prop} {s : Shared}
theorem compLoop_go {elt target iter : Expr} {scope : Scope} {pos : Pos} {it acc : Value} {env : Env} (I : Nat → Shared → Prop)
   (turn : ∀ n s, I n s → wpAny (model prog w) A (pyNext it) (fun r s₁ => match r with
     | none => R (.ok .next) s₁
     | some v => wpAny (model prog w) A (letOwnedTupleGo target it v) (fun _ s₂ => wpAny (model prog w) A (assign target env v) (fun _ s₃ =>
         wpAny (model prog w) A (eval elt env) (fun x s₄ =>
           wpAny (model prog w) A (call (.builtin "list.append") [acc, x]) (fun _ s₅ => ∃ m, m < n ∧ I m s₅) (notedBy (model prog w) A env fun e s' => R (.error e) s') s₄)
           (notedBy (model prog w) A env fun e s' => R (.error e) s') s₃) (notedBy (model prog w) A env fun e s' => R (.error e) s') s₂) (notedBy (model prog w) A env fun e s' => R (.error e) s') s₁)
     (notedBy (model prog w) A env fun e s' => R (.error e) s') s)
   (n : Nat) (h : I n s) : codeAny (model prog w) A (.compLoop (.ListComp elt [⟨target, iter, [], 0⟩] scope pos) 0 it acc env) R s := by
 refine codeAny_loop rfl I (fun n s hI => ?_) n h
 show wpAny _ A ((compTurn (.ListComp elt [⟨target, iter, [], 0⟩] scope pos) 0 it acc env).onRaise (fun x => do noteFrame x env; theTreesLotGoes x)) _ _ s
 refine wpAny_noted ?_
 rw [compTurn_list1]
 refine wpAny_bind (wpAny_standAt (wpAny_bind (wpAny_mono (turn n s hI) (fun r s₁ h₁ => ?_) fun _ _ h' => h')))
 cases r with
 | none => exact wpAny_pure h₁
 | some v =>
   refine wpAny_bind (wpAny_mono h₁ (fun _ s₂ h₂ => wpAny_bind (wpAny_mono h₂ (fun _ s₃ h₃ => ?_) fun _ _ h' => h')) fun _ _ h' => h')
   exact wpAny_bind (wpAny_bind (wpAny_mono h₃ (fun x s₄ h₄ => wpAny_bind (wpAny_mono h₄ (fun _ s₅ h₅ => wpAny_pure (wpAny_pure ⟨rfl, h₅⟩)) fun _ _ h' => h')) fun _ _ h' => h'))
end
def clOf (env : Env) : List (Str × NameKind) → List (Str × Addr) → List (Str × Addr)
 | [], cs => cs
 | (n, k) :: r, cs => clOf env r (if k == .free then match env.cells.lookup n with | some c => (n, c) :: cs | none => cs else cs)
theorem clOf_mem {env : Env} : ∀ {ns : List (Str × NameKind)} {cs : List (Str × Addr)} {y : Str} {c : Addr}, (y, c) ∈ clOf env ns cs → (y, c) ∈ cs ∨ env.cells.lookup y = some c
 | [], _, _, _, h => .inl h
 | (n, k) :: r, cs, y, c, h => by
   unfold clOf at h
   rcases clOf_mem h with q | q
   · split at q
     · cases e : env.cells.lookup n with
       | none => rw [e] at q; exact .inl q
       | some d =>
         rw [e] at q
         rcases List.mem_cons.mp q with z | z
         · cases z; exact .inr e
         · exact .inl z
     · exact .inl q
   · exact .inr q
theorem clOf_has {env : Env} : ∀ {ns : List (Str × NameKind)} {cs : List (Str × Addr)} {y : Str}, ((∃ c, (y, c) ∈ cs) ∨ ((y, NameKind.free) ∈ ns ∧ ∃ c, env.cells.lookup y = some c)) → ∃ c, (y, c) ∈ clOf env ns cs
 | [], _, _, h => by
   rcases h with h | ⟨h, _⟩
   · exact h
   · cases h
 | (n, k) :: r, cs, y, h => by
   unfold clOf
   apply clOf_has
   rcases h with ⟨c, h⟩ | ⟨h, c, e⟩
   · left
     split
     · cases e : env.cells.lookup n with
       | none => exact ⟨c, h⟩
       | some d => exact ⟨c, List.mem_cons_of_mem _ h⟩
     · exact ⟨c, h⟩
   · rcases List.mem_cons.mp h with z | z
     · cases z
       left
       rw [e]
       exact ⟨c, by simp⟩
     · exact .inr ⟨z, c, e⟩
theorem closure_cl {env : Env} : ∀ {ns : List (Str × NameKind)} {cs : List (Str × Addr)}, (∀ y, (y, NameKind.free) ∈ ns → ∃ c, env.cells.lookup y = some c) →
   (forIn ns cs fun (x : Str × NameKind) (r : List (Str × Addr)) => (if x.2 == NameKind.free then (do let c ← cellOf env x.1; pure (ForInStep.yield ((x.1, c) :: r))) else pure (ForInStep.yield r) : Sem (ForInStep (List (Str × Addr))))) = (pure (clOf env ns cs) : Sem (List (Str × Addr)))
 | [], _, _ => rfl
 | (n, k) :: r, cs, h => by
   have ih := @closure_cl env r
   rw [List.forIn_cons]
   unfold clOf
   cases hk : k == NameKind.free with
   | false =>
     simp only [Bool.false_eq_true, if_false]
     exact ih fun y hy => h y (List.mem_cons_of_mem _ hy)
   | true =>
     have ek : k = NameKind.free := by simpa using hk
     subst ek
     obtain ⟨c, e⟩ := h n (by simp)
     have ec : cellOf env n = pure c := by unfold cellOf; rw [e]
     simp only [if_true]
     rw [ec, e]
     exact ih fun y hy => h y (List.mem_cons_of_mem _ hy)
theorem closure_eq {scope : Scope} {env : Env} (h : ∀ y, (y, NameKind.free) ∈ scope.names → ∃ c, env.cells.lookup y = some c) : closureFor scope env = pure (clOf env scope.names []) := by
 have q := closure_cl (cs := []) h
 unfold closureFor
 exact congrArg (fun m => m >>= fun r => pure r) q
end L2
namespace L2
open PySem PySem.Spec PyProof.Rows PySem.Calls
theorem xS {env : Env} {y : Str} : ∀ {names : List (Str × NameKind)},
   (names.map fun (n, k) => if (k == NameKind.free && env.scope.kind == .function && env.kindOf n == some .cell) then (n, NameKind.cell) else (n, k)).lookup y
     = (names.lookup y).map fun k => if (k == NameKind.free && env.scope.kind == .function && env.kindOf y == some .cell) then NameKind.cell else k
 | [] => rfl
 | (n, k) :: r => by
   have ih := @xS env y r
   by_cases hx : y = n
   · subst hx
     simp only [List.map_cons]
     split <;> rename_i hc
     · rw [List.lookup_cons, List.lookup_cons]; simp only [beq_self_eq_true, Option.map_some]; rw [if_pos hc]
     · rw [List.lookup_cons, List.lookup_cons]; simp only [beq_self_eq_true, Option.map_some]; rw [if_neg hc]
   · have hb : (y == n) = false := beq_eq_false_iff_ne.mpr hx
     simp only [List.map_cons]
     split <;> simp only [List.lookup_cons, hb] <;> exact ih
section
variable {X : Cx} {pins : List (Addr × Obj)} {σ : St} {H : Hp} {s : Shared} {a : Addr} {o : HO}
theorem Inv.track (I : Inv X pins σ H s) (f : FpOk X pins H a) (hs : X.s₀.heap.objs.size ≤ a) (new : ObjOk X.prog X.w (upd H a o) s.heap a o) : Inv X pins σ (upd H a o) s := by
 obtain ⟨f0, f1, f2, f3, f4, f5⟩ := f
 have old : ∀ b ob, X.s₀.heap.get? b = some ob → b ≠ a := fun b ob e z => by subst z; exact absurd (Nat.lt_of_lt_of_le (Heap.lt_size e) hs) (Nat.lt_irrefl _)
 refine ⟨I.ok, I.os, I.bare, ⟨I.base.keep, I.base.slot, fun b ob e n hx => ?_, I.base.there, fun b xs e => ?_, fun b ob u e => ?_, fun b ps e => ?_⟩, I.loc, I.cell, ?_, fun x c e => ?_, fun p hp => ?_, fun b u e => ?_, I.len⟩
 · rw [zF (old b ob e)]; exact I.base.free b ob e n hx
 · have q := I.base.tups b xs e; rw [zF (zI q f0)]; exact q
 · have q := I.base.frzs b ob u e; rw [zF (zI q f0)]; exact q
 · obtain ⟨more, q⟩ := I.base.tbls b ps e; exact ⟨more, by rw [zF (zI q f0)]; exact q⟩
 · rw [zF (Ne.symm f1)]; exact I.free
 · rw [zF (f4 x c e)]; exact I.freeC x c e
 · obtain ⟨e, n, ne, nf, d⟩ := I.pin p hp
   exact ⟨e, by rw [zF (f5 p hp)]; exact n, ne, nf, d⟩
 · by_cases hb : b = a
   · subst hb; rw [zB] at e; cases e; exact new
   · rw [zF hb] at e
     exact (I.hok b u e).stay (fun c v _ q => q) (fun c q => by rw [zF (zI q f0)]; exact q) fun c xs q => by rw [zF (zI q f0)]; exact q
end
def compCx (X : Cx) (scope : Scope) (C : Addr) (x : Str) (M : List Str) (s₂ : Shared) (H₂ : Hp) (fp : List Addr) : Cx :=
 { X with N := x :: M, s₀ := s₂, H₀ := H₂, env := compEnvC scope (clOf X.env scope.names []) C X.env, outer := X.stack, ex := fp, fn := fun _ => false, pn := [], xe := fun _ _ => False }
structure CompOk (X : Cx) (scope : Scope) (x : Str) (M : List Str) : Prop where
 kind : scope.kind = .function
 cell : ∀ y ∈ scope.names, y.2 ≠ .cell
 names : ∀ y ∈ scope.names, y.2 = .local → scope.names.lookup y.1 = some .local
 loc : scope.names.lookup x = some .local
 nd : (x :: M).Nodup
 free : ∀ y, (y, NameKind.free) ∈ scope.names → X.env.scope.names.lookup y = some .cell ∨ X.env.scope.names.lookup y = some .free
 len : M.length = X.N.length
 sub : ∀ (j : Nat) y, M[j]? = some y → scope.names.lookup y = some .local ∨ scope.names.lookup y = some .free → X.N[j]? = some y ∧ scope.names.lookup y = some .free
def compOkB (names outer : List (Str × NameKind)) (N M : List Str) (x : Str) : Bool :=
 names.all (fun y => decide (y.2 ≠ .cell)) && names.all (fun y => decide (y.2 = .local → names.lookup y.1 = some .local)) && decide (names.lookup x = some .local) && decide (x :: M).Nodup &&
 names.all (fun y => decide (y.2 = .free → (outer.lookup y.1 = some .cell ∨ outer.lookup y.1 = some .free))) && decide (M.length = N.length) &&
 (M.zip N).all (fun p => decide (names.lookup p.1 = some .local ∨ names.lookup p.1 = some .free → p.1 = p.2 ∧ names.lookup p.1 = some .free))
theorem yU {X : Cx} {scope : Scope} {x : Str} {M : List Str} (hk : scope.kind = .function) (h : compOkB scope.names X.env.scope.names X.N M x = true) : CompOk X scope x M := by
 unfold compOkB at h
 simp only [Bool.and_eq_true, List.all_eq_true, decide_eq_true_eq] at h
 obtain ⟨⟨⟨⟨⟨⟨h1, h2⟩, h3⟩, h4⟩, h5⟩, h6⟩, h7⟩ := h
 refine ⟨hk, h1, h2, h3, h4, fun y hy => h5 _ hy rfl, h6, fun j y e q => ?_⟩
 have hj : j < M.length := (List.getElem?_eq_some_iff.mp e).1
 have hj2 : j < X.N.length := by omega
 have z : (M.zip X.N)[j]? = some (y, X.N[j]) := by rw [List.getElem?_zip_eq_some]; exact ⟨e, by simp [hj2]⟩
 have r := h7 _ (List.mem_of_getElem? z) q
 exact ⟨by rw [List.getElem?_eq_getElem hj2]; exact congrArg some r.1.symm, r.2⟩
section
variable {X : Cx} {scope : Scope} {x : Str} {M : List Str} {pins : List (Addr × Obj)} {σ : St} {H₂ : Hp} {s₂ : Shared}
theorem CompOk.cl_of {y : Str} {c : Addr} (h : (clOf X.env scope.names []).lookup y = some c) : X.env.cells.lookup y = some c := by
 rcases clOf_mem (PySem.mem_of_lookup h) with q | q
 · cases q
 · exact q
theorem CompOk.cl_has (K : CompOk X scope x M) (ok : X.Ok) {y : Str} (h : (y, NameKind.free) ∈ scope.names) : ∃ c, (clOf X.env scope.names []).lookup y = some c ∧ X.env.cells.lookup y = some c := by
 have e1 : ∃ c, X.env.cells.lookup y = some c := ok.has y (K.free y h)
 obtain ⟨c, hc⟩ := clOf_has (env := X.env) (ns := scope.names) (cs := []) (y := y) (.inr ⟨h, e1⟩)
 have q : ∃ c, (clOf X.env scope.names []).lookup y = some c := by
   cases e : (clOf X.env scope.names []).lookup y with
   | some c => exact ⟨c, rfl⟩
   | none =>
     rw [List.lookup_eq_none_iff] at e
     have := e _ hc
     simp at this
 obtain ⟨c', hc'⟩ := q
 exact ⟨c', hc', CompOk.cl_of hc'⟩
theorem CompOk.closure (K : CompOk X scope x M) (ok : X.Ok) : closureFor scope X.env = pure (clOf X.env scope.names []) :=
 closure_eq fun y hy => by obtain ⟨c, _, q⟩ := K.cl_has ok hy; exact ⟨c, q⟩
theorem inv_comp (K : CompOk X scope x M) (I : Inv X pins σ H₂ s₂) {fp : List Addr} (hf : ∀ b ∈ fp, FpOk X pins H₂ b) (hfl : ∀ b ∈ fp, b < s₂.heap.objs.size) {C : Addr} (hC : s₂.heap.objs.size ≤ C) {h₁ : Heap} {t : Nat} {m : Str → Option Value} (hn : h₁.Ns C m)
   (hk : ∀ b o, s₂.heap.get? b = some o → h₁.get? b = some o) : Inv (compCx X scope C x M s₂ H₂ fp) [] (none :: σ) H₂ { s₂ with heap := h₁, toks := t } := by
 have lt : ∀ {b : Addr} {o : Obj}, s₂.heap.get? b = some o → b ≠ C := fun {b o} e z => by subst z; exact absurd (Nat.lt_of_lt_of_le (Heap.lt_size e) hC) (Nat.lt_irrefl _)
 have cC : ∀ y c, (clOf X.env scope.names []).lookup y = some c → c ≠ C := fun y c e => by
   obtain ⟨v, o, ho, _⟩ := I.cell y c (CompOk.cl_of e)
   exact lt ho
 have sub : ∀ b ∈ frs X.stack, b = X.env.locals ∨ b ∈ X.fs := fun b hb => List.mem_cons.mp (I.stkSub b hb)
 have ok : (compCx X scope C x M s₂ H₂ fp).Ok := by
   refine ⟨I.ok.mod, K.kind, I.ok.glob, I.ok.blt, hC, fun y z c h1 h2 => ?_, fun y hy => ?_, fun y c z => ?_, I.ok.hd, I.ok.frames, .inl rfl, fun b hb => ⟨?_, fun y c e => ?_⟩, I.bs, Nat.le_trans I.ok.bsz I.sz, fun b o e hb => ?_, fun b hb hb2 => ?_, I.stack, I.stkFree⟩
   · exact I.ok.inj y z c (CompOk.cl_of h1) (CompOk.cl_of h2)
   · have hy' : (relabel scope X.env).names.lookup y = some .cell ∨ (relabel scope X.env).names.lookup y = some .free := hy
     have q : (y, NameKind.free) ∈ scope.names := by
       unfold relabel at hy'
       rw [xS] at hy'
       cases e : scope.names.lookup y with
       | none => rw [e] at hy'; simp at hy'
       | some k =>
         have hm := PySem.mem_of_lookup e
         cases k with
         | free => exact hm
         | cell => exact absurd rfl (K.cell _ hm)
         | _ => rw [e] at hy'; simp at hy'
     obtain ⟨c, q, _⟩ := K.cl_has I.ok q
     exact ⟨c, q⟩
   · exact Bool.noConfusion (show false = true from z)
   · intro z
     have z' : b = C := z
     subst z'
     exact absurd (Nat.lt_of_lt_of_le (hfl b hb) hC) (Nat.lt_irrefl _)
   · exact (hf b hb).2.2.2.2.1 y c (CompOk.cl_of e)
   · have q := (hf b hb).2.2.2.1
     rcases q with q | q
     · exact I.ok.noex b o e q
     · exact absurd (Nat.lt_of_lt_of_le (Heap.lt_size (I.ok.bs b o e).1) q) (Nat.lt_irrefl _)
   · rcases sub b hb2 with z | z
     · exact (hf b hb).2.1 z
     · exact (hf b hb).2.2.1 z
 refine ⟨ok, rfl, I.bare, Un.kept hk, ⟨m, hn, fun i y v e1 e2 e3 => ?_⟩, fun y c e => ?_, ?_, fun y c e => ?_, fun p hp => absurd (show p ∈ ([] : List (Addr × Obj)) from hp) (by simp), I.hok.kept hk, ?_⟩
 · cases i with
   | zero =>
     have e2' : some (none : Option V) = some (some v) := e2
     cases e2'
   | succ j =>
     have e1' : M[j]? = some y := e1
     have e2' : σ[j]? = some (some v) := e2
     have e3' : (relabel scope X.env).names.lookup y = some .local ∨ (relabel scope X.env).names.lookup y = some .cell ∨ (relabel scope X.env).names.lookup y = some .free := e3
     have q : scope.names.lookup y = some .local ∨ scope.names.lookup y = some .free := by
       unfold relabel at e3'
       rw [xS] at e3'
       cases e : scope.names.lookup y with
       | none => rw [e] at e3'; simp at e3'
       | some k =>
         have hm := PySem.mem_of_lookup e
         cases k with
         | free => exact .inr rfl
         | «local» => exact .inl rfl
         | cell => exact absurd rfl (K.cell _ hm)
         | _ => rw [e] at e3'; simp at e3'
     obtain ⟨nj, fr⟩ := K.sub j y e1' q
     have hm := PySem.mem_of_lookup fr
     have kd := K.free y hm
     have vs : Vis X.env.scope y := .inr kd
     obtain ⟨mo, _, lo⟩ := I.loc
     obtain ⟨u, r, l⟩ := lo j y v nj e2' vs
     refine ⟨u, r, .inr ⟨?_, ?_⟩⟩
     · show (relabel scope X.env).names.lookup y = some .cell ∨ (relabel scope X.env).names.lookup y = some .free
       unfold relabel
       rw [xS, fr]
       simp only [Option.map_some]
       split
       · exact .inl rfl
       · exact .inr rfl
     · obtain ⟨c, q1, q2⟩ := K.cl_has I.ok hm
       rcases l with ⟨k, _⟩ | ⟨_, c', q3, z⟩
       · have k' : X.env.scope.names.lookup y = some .local := k
         rcases kd with kd | kd <;> · rw [k'] at kd; cases kd
       · rw [q2] at q3
         cases q3
         obtain ⟨oc, ho, hd⟩ := z
         exact ⟨c, q1, oc, hk _ _ ho, hd⟩
 · obtain ⟨v, oc, ho, hd⟩ := I.cell y c (CompOk.cl_of e)
   exact ⟨v, oc, hk _ _ ho, hd⟩
 · exact I.hok.fresh hC
 · exact I.freeC y c (CompOk.cl_of e)
 · show (none :: σ).length = (x :: M).length
   rw [List.length_cons, List.length_cons, K.len, I.len]
end
end L2
namespace L2
open PySem PySem.Spec PyProof.Rows PySem.Calls
def tComp (wi : TI) (te : TE) : TE := fun σ H Q => wi σ H fun J H1 => ∃ (n : Nat) (W : Nat → List V → Hp → Prop), n ≤ sizeLine ∧ W 0 [] H1 ∧ ∀ i ys H, i ≤ n → ys.length = i → W i ys H →
 (J.stop i H ∧ ∀ p, H p = none → Q (.ref p) (upd H p (.lst ys))) ∨ (J.go i H ∧ i < n ∧ ∀ x H', J.yld i H x H' → te (some x :: σ) H' fun v H'' => W (i + 1) (ys ++ [v]) H'')
section
variable {X : Cx} {scope : Scope} {x : Str} {M : List Str} {pins : List (Addr × Obj)} {σ : St} {H₂ : Hp} {s₂ : Shared} {elt iter : Expr} {px pos : Pos} {te : TE} {wi : TI}
theorem comp_block (K : CompOk X scope x M) (hc : X.calm = true) (I : Inv X pins σ H₂ s₂) (he : ∀ (C : Addr) (s₂ : Shared) (H₂ : Hp) (fp : List Addr), PE (compCx X scope C x M s₂ H₂ fp) elt te)
   {it : Addr} {fp : List Addr} {tn : Nat → Heap → Prop} {J : It} (T : Turn X.prog X.w X.K (.Name x px) J fp it tn) (st : tn 0 s₂.heap) (hf : ∀ b ∈ fp, FpOk X pins H₂ b) {n : Nat} (hsz : n ≤ sizeLine) {W : Nat → List V → Hp → Prop} {F : List V → Hp → Prop}
   (w0 : W 0 [] H₂) (turn : ∀ i ys H, i ≤ n → ys.length = i → W i ys H → (J.stop i H ∧ F ys H) ∨ (J.go i H ∧ i < n ∧ ∀ x H', J.yld i H x H' → te (some x :: σ) H' fun v H'' => W (i + 1) (ys ++ [v]) H''))
   {E : Value → Shared → Prop} {RR : Value → Addr → Result → Shared → Prop}
   (hRR : ∀ (D C : Addr) (s' : Shared) (H' : Hp) (ys : List V) (m : Str → Option Value), Inv X pins σ (upd H' D (.lst ys)) s' → H' D = none → FpOk X pins (upd H' D (.lst ys)) C → s'.heap.Ns C m → F ys H' → RR (.ref D) C (.ok .next) s') :
   wpAny (model X.prog X.w) X.A (newList []) (fun acc s₃ => wpAny (model X.prog X.w) X.A (newFunctionEnv scope X.env.globals (clOf X.env scope.names []) [] X.env.qual none .none (some X.env)) (fun cenv s₄ =>
     codeAny (model X.prog X.w) X.A (.compStart (.ListComp elt [⟨.Name x px, iter, [], 0⟩] scope pos) 0 (.ref it) acc { cenv with scope := relabel scope X.env }) (RR acc cenv.locals) s₄) E s₃) E s₂ := by
 refine wpAny_newObj_type (wpAny_newFunctionEnv K.cell (by intro y hy; simp at hy) (fun h₁ hns₁ hsb₁ => ?_) K.kind)
 dsimp only at hns₁ hsb₁ ⊢
 generalize hH2 : s₂.heap.push { cls := .type "list", dict := none, data := .seq ([] : List Value).toArray } = H2 at hns₁ hsb₁ ⊢
 have hC : H2.objs.size = s₂.heap.objs.size + 1 := by rw [← hH2, Heap.size_push]
 have hDC : s₂.heap.objs.size ≠ H2.objs.size := by rw [hC]; exact Nat.ne_of_lt (Nat.lt_succ_self _)
 have below : ∀ b, b < s₂.heap.objs.size → b ≠ H2.objs.size ∧ b ≠ s₂.heap.objs.size := fun b hb => ⟨by rw [hC]; exact Nat.ne_of_lt (Nat.lt_succ_of_lt hb), Nat.ne_of_lt hb⟩
 have hfl : ∀ b ∈ fp, b < s₂.heap.objs.size := fun b hb => by obtain ⟨o, e, _⟩ := T.obj _ _ st b hb; exact Heap.lt_size e
 have old : ∀ b o, s₂.heap.get? b = some o → h₁.get? b = some o := fun b o e => hsb₁.extBut b o (below b (Heap.lt_size e)).1 (Heap.get?_push_of_some _ (hH2 ▸ Heap.get?_push_of_some _ e))
 have hacc : h₁.get? s₂.heap.objs.size = some { cls := .type "list", data := .seq ([] : List Value).toArray 0 } := hsb₁.extBut _ _ hDC (Heap.get?_push_of_some _ (hH2 ▸ Heap.get?_push_size _ rfl))
 generalize hCC : H2.objs.size = C at *
 generalize hDD : s₂.heap.objs.size = D at *
 have hCle : s₂.heap.objs.size ≤ C := by rw [hDD, hC]; exact Nat.le_succ _
 have st₁ : tn 0 h₁ := T.keep _ _ _ st fun b _ o e => old b o e
 have I₁ := inv_comp (t := s₂.toks + ([] : List (Str × Value)).length) K I hf (fun b hb => by rw [hDD]; exact hfl b hb) hCle hns₁ old
 generalize hX' : compCx X scope C x M s₂ H₂ fp = X' at I₁
 have eX : X'.prog = X.prog ∧ X'.w = X.w ∧ X'.K = X.K ∧ X'.calm = true ∧ X'.A = X.A ∧ X'.ex = fp ∧ X'.env = compEnvC scope (clOf X.env scope.names []) C X.env ∧ X'.s₀ = s₂ ∧ X'.pn = [] := by
   subst hX'; exact ⟨rfl, rfl, rfl, hc, rfl, rfl, rfl, rfl, rfl⟩
 obtain ⟨eP, ew, eK, ec, eA, eex, eenv, es0, epn⟩ := eX
 have eL : X'.env.locals = C := by rw [eenv]; rfl
 have cells' : ∀ y c, X'.env.cells.lookup y = some c → X.env.cells.lookup y = some c := fun y c e => by rw [eenv] at e; exact CompOk.cl_of e
 have efs : X'.fs = frs X.stack := by subst hX'; rfl
 have fsub : ∀ b ∈ X'.fs, b = X.env.locals ∨ b ∈ X.fs := fun b hb => List.mem_cons.mp (I.stkSub b (by rw [← efs]; exact hb))
 have fpok : ∀ {pn : List (Addr × Obj)} {H' : Hp}, (∀ p ∈ pn, p.1 = D) → (∀ b ∈ fp, H' b = none) → ∀ b ∈ fp, FpOk X' pn H' b := fun {pn H'} hp hn b hb => by
   refine ⟨hn b hb, ?_, fun z => ?_, .inl (by rw [eex]; exact hb), fun y c e => (hf b hb).2.2.2.2.1 y c (cells' y c e), fun p hq => ?_⟩
   · rw [eL]; exact (below b (hfl b hb)).1
   · rcases fsub b z with q | q
     · exact (hf b hb).2.1 q
     · exact (hf b hb).2.2.1 q
   · rw [epn, List.nil_append] at hq
     rw [hp p hq]; exact Ne.symm (below b (hfl b hb)).2
 have Dfp : D ∉ fp := fun z => Nat.lt_irrefl _ (hfl D z)
 have ltL : X.env.locals < D := by have := I.lt; rw [hDD] at this; exact this
 have ltF : ∀ b ∈ X.fs, b < D := fun b hb => Nat.lt_of_not_le fun z => I.nofs (a := b) (by rw [hDD]; exact z) hb
 have newok : ∀ {b : Addr} {pn : List (Addr × Obj)} {H' : Hp}, D ≤ b → b ≠ C → H' b = none → (∀ p ∈ pn, p.1 ≠ b) → FpOk X' pn H' b := fun {b pn H'} hb hbC hn hp => by
   refine ⟨hn, by rw [eL]; exact hbC, fun z => ?_, .inr (by rw [es0, hDD]; exact hb), fun y c e => ?_, fun p hq => ?_⟩
   · rcases fsub b z with q | q
     · rw [q] at hb; exact absurd (Nat.lt_of_lt_of_le ltL hb) (Nat.lt_irrefl _)
     · exact absurd (Nat.lt_of_lt_of_le (ltF b q) hb) (Nat.lt_irrefl _)
   · obtain ⟨v, o, ho, _⟩ := I.cell y c (cells' y c e)
     have := Heap.lt_size ho
     rw [hDD] at this
     exact Nat.ne_of_lt (Nat.lt_of_lt_of_le this hb)
   · rw [epn, List.nil_append] at hq
     exact hp p hq
 have outer : ∀ {σ' : St} {H' : Hp} {s' : Shared} {pn : List (Addr × Obj)}, Inv X' pn σ' H' s' → Inv X pins σ H' s' := fun {σ' H' s' pn} J' => by
   subst hX'
   refine I.call' (ch := fp) J'.os J'.base J'.hok J'.bare fun b hb => ?_
   obtain ⟨f0, f1, f2, f3, f4, f5⟩ := hf b hb
   exact ⟨f3, f1, f4, f5⟩
 have outok : ∀ {b : Addr} {H' : Hp}, D ≤ b → H' b = none → FpOk X pins H' b := fun {b H'} hb hn => by
   have q := I.fpOk (H' := H') (b := b) (by rw [hDD]; exact hb) hn
   exact q
 have loop : ∀ s₃ : Shared, s₃ = { s₂ with heap := h₁, toks := s₂.toks + ([] : List (Str × Value)).length } →
     codeAny (model X.prog X.w) X.A (.compLoop (.ListComp elt [⟨.Name x px, iter, [], 0⟩] scope pos) 0 (.ref it) (.ref D) (compEnvC scope (clOf X.env scope.names []) C X.env)) (RR (.ref D) C) s₃ := by
   rintro s₃ rfl
   refine compLoop_go (fun k s' => ∃ (i : Nat) (ys : List V) (its : List Value) (σ0 : Option V) (H' : Hp), i ≤ n ∧ k = n + 1 - i ∧ ys.length = i ∧ Inv X' [] (σ0 :: σ) H' s' ∧ tn i s'.heap ∧ (∀ b ∈ fp, H' b = none) ∧ H' D = none ∧ Vals ys its ∧
     (∃ c, s'.heap.get? D = some { cls := .type "list", data := .seq its.toArray c }) ∧ W i ys H') ?_ (n + 1) ⟨0, [], [], none, H₂, Nat.zero_le _, rfl, rfl, I₁, st₁, fun b hb => (hf b hb).1, by rw [← hDD]; exact I.hok.fresh (Nat.le_refl _), .nil, ⟨0, hacc⟩, w0⟩
   rintro k s' ⟨i, ys, its, σ0, H', hi, rfl, hyl, I', st', fr', hD', rv, ⟨c, hobj⟩, w'⟩
   have hx0 : X'.N[0]? = some x := by subst hX'; rfl
   have hxl : X'.env.scope.names.lookup x = some .local := by rw [eenv]; exact lookup_relabel_local K.loc
   have hNd : X'.N.Nodup := by subst hX'; exact K.nd
   rcases turn i ys H' hi hyl w' with ⟨stop, fin⟩ | ⟨go, hlt, step⟩
   · have pinD : Inv X' [(D, { cls := .type "list", data := .seq its.toArray c })] (σ0 :: σ) H' s' := I'.pins_of fun p hp => by
       obtain rfl : p = (D, { cls := .type "list", data := .seq its.toArray c }) := by simpa using hp
       refine ⟨hobj, hD', ?_, ?_, fun v z => nomatch z⟩
       · rw [eL]; exact hDC
       · intro z
         rcases fsub D z with q | q
         · rw [q] at ltL; exact Nat.lt_irrefl _ ltL
         · exact Nat.lt_irrefl _ (ltF D q)
     have q := T.done X' eP ew eK ec i _ s' (σ0 :: σ) H' (notedBy (model X.prog X.w) X.A (compEnvC scope (clOf X.env scope.names []) C X.env) fun e s' => RR (.ref D) C (.error e) s') pinD (fpok (fun p hp => by obtain rfl : p = (D, { cls := .type "list", data := .seq its.toArray c }) := (by simpa using hp); rfl) fr') st' stop
     rw [eA] at q
     refine wpAny_mono q (fun r s4 ⟨hr, I4⟩ => ?_) fun _ _ z => z
     subst hr
     obtain ⟨e4, n4, _⟩ := I4.pin (D, { cls := .type "list", data := .seq its.toArray c }) (List.mem_append_right _ (by simp))
     have O4 := outer I4
     obtain ⟨m4, ns4, _⟩ := I4.loc
     rw [eL] at ns4
     refine hRR D C s4 H' ys m4 (O4.track (outok (Nat.le_refl _) n4) (Nat.le_trans I.sz (by rw [hDD]; exact Nat.le_refl _)) ⟨by rw [hyl]; exact Nat.le_trans hi hsz, its, c, rv, e4⟩) n4 (outok (by rw [hC]; exact Nat.le_succ _) ?_) ns4 fin
     rw [zF (Ne.symm hDC)]
     have := I4.free
     rw [eL] at this
     exact this
   · have pinD : Inv X' [(D, { cls := .type "list", data := .seq its.toArray c })] (σ0 :: σ) H' s' := I'.pins_of fun p hp => by
       obtain rfl : p = (D, { cls := .type "list", data := .seq its.toArray c }) := by simpa using hp
       refine ⟨hobj, hD', ?_, ?_, fun v z => nomatch z⟩
       · rw [eL]; exact hDC
       · intro z
         rcases fsub D z with q | q
         · rw [q] at ltL; exact Nat.lt_irrefl _ ltL
         · exact Nat.lt_irrefl _ (ltF D q)
     have pd : ∀ p ∈ [(D, ({ cls := .type "list", data := .seq its.toArray c } : Obj))], p.1 = D := fun p hp => by obtain rfl : p = (D, { cls := .type "list", data := .seq its.toArray c }) := (by simpa using hp); rfl
     have q := T.item X' eP ew eK ec i _ s' (σ0 :: σ) H' (notedBy (model X.prog X.w) X.A (compEnvC scope (clOf X.env scope.names []) C X.env) fun e s' => RR (.ref D) C (.error e) s') pinD (fpok pd fr') st' go
     rw [eA] at q
     refine wpAny_mono q (fun r s4 ⟨u, hr, h4⟩ => ?_) fun _ _ z => z
     subst hr
     refine wpAny_mono h4 (fun _ s5 ⟨xv, H5, I5, r5, y5, st5, fr5⟩ => ?_) fun _ _ z => z
     have I5' := I5.pinned (fpok pd fr5) (T.obj _ _ st5)
     refine wpAny_assign_Name ?_
     rw [← eenv]
     refine store_ok I5' hNd hx0 (.inl hxl) r5 (fun s6 I6 => ?_) (.inr hxl)
     have te6 := step xv H5 y5
     have q6 := (he C s₂ H₂ fp) (([(D, ({ cls := .type "list", data := .seq its.toArray c } : Obj))]) ++ pinsAt fp s5.heap) s6 (some xv :: σ) H5 (fun v H'' => W (i + 1) (ys ++ [v]) H'') (by rw [hX']; exact I6) te6
     rw [hX', eP, ew, eA] at q6
     refine wpAny_mono q6 (fun u7 s7 ⟨v7, H7, I7, r7, w7⟩ => ?_) (fun _ _ z => by subst hX'; exact (show False from z).elim)
     obtain ⟨e7, n7, _⟩ := I7.pin (D, { cls := .type "list", data := .seq its.toArray c }) (List.mem_append_right _ (List.mem_append_left _ (by simp)))
     refine append_at (hsz := by rw [List.size_toArray, ← rv.length, hyl]; exact Nat.le_trans hi hsz) e7 fun h8 sb8 g8 => ?_
     have I8 : Inv X' [] (some xv :: σ) H7 { s7 with heap := h8, toks := s7.toks } := (I7.pins_of (pins' := []) fun p hp => absurd hp (by simp)).turned (t' := s7.toks) (it := D) (fun b o hb e => (sb8.2 b hb).trans e) n7 (by rw [eL]; exact hDC) (.inr (by rw [es0, hDD]; exact Nat.le_refl _))
       (newok (H' := H7) (pn := []) (Nat.le_refl _) hDC n7 (fun p hp => absurd hp (by simp))).2.2.2.2.1 (fun p hp => by rw [epn] at hp; exact absurd hp (by simp))
     refine ⟨n + 1 - (i + 1), by omega, i + 1, ys ++ [v7], its ++ [u7], some xv, H7, hlt, rfl, by rw [List.length_append, List.length_singleton, hyl], I8, ?_, fun b hb => ?_, n7, rv.append (.cons r7 .nil), ⟨c + 1, ?_⟩, w7⟩
     · refine T.keep _ _ _ st5 fun b hb o e => ?_
       have e' := (I7.pin (b, o) (List.mem_append_right _ (List.mem_append_right _ (yR hb e)))).1
       exact (sb8.2 b (fun z => Dfp (z ▸ hb))).trans e'
     · obtain ⟨o, e, d⟩ := T.obj _ _ st5 b hb
       exact (I7.pin (b, o) (List.mem_append_right _ (List.mem_append_right _ (yR hb e)))).2.1
     · rw [g8, List.push_toArray]
 exact codeAny_compStart_list (loop _ rfl) (T.self X.A 0 _ _ _ st₁ (loop _ rfl))
theorem pe_comp (K : CompOk X scope x M) (hc : X.calm = true) (hi : PI X (.Name x px) iter wi) (he : ∀ (C : Addr) (s₂ : Shared) (H₂ : Hp) (fp : List Addr), PE (compCx X scope C x M s₂ H₂ fp) elt te)
   (hs : ∀ x, foldedSetIterable iter X.env x = pure x := by intro _; rfl) : PE X (.ListComp elt [⟨.Name x px, iter, [], 0⟩] scope pos) (tComp wi te) := by
 intro pins s σ H Q I h
 rw [eval_ListComp]
 refine wpAny_comprehension_free (use := none) rfl hs (K.closure I.ok) K.kind K.names (thn (hi pins s σ H _ I h) fun v s1 h1 => thn h1 fun itv s2 h2 => ?_)
 obtain ⟨it, fp, tn, J, H2, e, I2, T, st2, f2, n, W, hsz, w0, turn⟩ := h2
 subst e
 refine comp_block (RR := fun acc C => compPost (model X.prog X.w) X.A X.xe none (EP X pins σ Q) acc C) K hc I2 he T st2 f2 hsz (F := fun ys H => ∀ p, H p = none → Q (.ref p) (upd H p (.lst ys))) w0 turn ?_
 intro D C s' H' ys m I' n' fC ns fin
 refine ⟨m, ns, fun h' sb => ?_⟩
 obtain ⟨f0, f1, f2, f3, f4, f5⟩ := fC
 exact ⟨.ref D, _, I'.turned (t' := s'.toks) (it := C) (fun b o hb e => (sb.2 b hb).trans e) f0 f1 f3 f4 f5, rfl, fin D n'⟩
theorem ps_comp {i : Nat} {y : Str} {spos py : Pos} (hN : X.N.Nodup) (hy : X.N[i]? = some y) (hl : Loc X.env.scope y) (K : CompOk X scope x M) (hc : X.calm = true) (hi : PI X (.Name x px) iter wi) (he : ∀ (C : Addr) (s₂ : Shared) (H₂ : Hp) (fp : List Addr), PE (compCx X scope C x M s₂ H₂ fp) elt te)
   (hsw : swapsWith (.ListComp elt [⟨.Name x px, iter, [], 0⟩] scope pos) (some (.Name y py)) spos.line X.env = pure true := by rfl)
   (hs : ∀ x, foldedSetIterable iter X.env x = pure x := by intro _; rfl) (hf : X.fn y = true ∨ X.env.scope.names.lookup y = some .local := by first | exact .inl rfl | exact .inr rfl | assumption) :
   PS X (.Assign [.Name y py] (.ListComp elt [⟨.Name x px, iter, [], 0⟩] scope pos) spos) (tAsg (tComp wi te) (gName i)) := by
 intro pins s σ H Dn I h
 rw [exec_Assign_Name_used _ _ _ _ hsw]
 refine wpAny_bind (wpAny_standAt (wpAny_bind ?_))
 show wpAny _ X.A (do let _ ← comprehension (.ListComp elt [⟨.Name x px, iter, [], 0⟩] scope pos) scope X.env _ (newList []) false (eval iter X.env) (some (assign (.Name y py) X.env))) _ _ s
 refine wpAny_bind (thn (wpAny_comprehension_free (use := some (assign (.Name y py) X.env)) (Q := fun _ s' => SP X pins Dn .next s') rfl hs (K.closure I.ok) K.kind K.names (thn (hi pins s σ H _ I h) fun v s1 h1 => thn h1 fun itv s2 h2 => ?_)) fun _ s' hq => wpAny_pure (wpAny_pure hq))
 obtain ⟨it, fp, tn, J, H2, e, I2, T, st2, f2, n, W, hsz, w0, turn⟩ := h2
 subst e
 refine comp_block (RR := fun acc C => compPost (model X.prog X.w) X.A X.xe (some (assign (.Name y py) X.env)) (fun _ s' => SP X pins Dn .next s') acc C) K hc I2 he T st2 f2 hsz (F := fun ys H => ∀ p, H p = none → Dn.nx (σ.set i (some (.ref p))) (upd H p (.lst ys))) w0 turn ?_
 intro D C s' H' ys m I' n' fC ns fin
 refine wpAny_assign_Name (store_ok2 (v := .ref D) I' hN hy hl rfl (fun s'' I'' ch => ?_) hf)
 obtain ⟨f0, f1, f2, f3, f4, f5⟩ := fC
 obtain ⟨a, sb1, ha⟩ := ch
 have hCa : C ≠ a := by
   rcases ha with z | z
   · rw [z]; exact f1
   · exact Ne.symm (f4 y a z)
 refine ⟨m, ns.sameBut sb1 hCa, fun h' sb => ?_⟩
 exact ⟨_, _, I''.turned (t' := s''.toks) (it := C) (fun b o hb e => (sb.2 b hb).trans e) f0 f1 f3 f4 f5, fin D n'⟩
end
end L2
namespace L2
open PySem PySem.Spec PyProof.Rows PySem.Calls
def S (l : List Nat) : Str := ⟨l.toArray⟩
abbrev cd (x : Str) : List Nat := x.cps.toList
theorem cd_S (l : List Nat) : cd (S l) = l := rfl
theorem S_cd (x : Str) : S (cd x) = x := by cases x; rfl
theorem S_inj {a b : List Nat} (h : S a = S b) : a = b := congrArg cd h
theorem cd_inj {x y : Str} (h : cd x = cd y) : x = y := by rw [← S_cd x, ← S_cd y, h]
theorem xQ (l : List Nat) : (S l).length = l.length := by show l.toArray.size = _; simp
theorem yX (x : Str) : x.length = (cd x).length := by show x.cps.size = _; simp
theorem S_app (a b : List Nat) : S a ++ S b = S (a ++ b) := by
 show (⟨a.toArray ++ b.toArray⟩ : Str) = ⟨(a ++ b).toArray⟩
 simp
theorem cd_app (x y : Str) : cd (x ++ y) = cd x ++ cd y := by
 show (x.cps ++ y.cps).toList = _
 simp
def Its (x : Str) : It := ⟨fun i _ => i < x.length, fun i H v H' => H' = H ∧ ∃ c, (cd x)[i]? = some c ∧ v = .str (S [c]), fun i _ => i = x.length⟩
theorem str_walks {prog : Program} {w : World} {A : Around} (hh : A.handled = none) (I : Addr) (x : Str) (t : Tok) : Walks prog w A I [I] [I] x.cps.size (SignAt x) (fun i h => h.IsStrIter I (strIterType x) x t i) := by
 unfold strIterType
 split
 · exact Walks.strAscii hh I x t
 · exact Walks.strWide hh I x t
theorem turn_str {P : Program} {w : World} {K : PySem.W.Frag} {tg : Expr} (it : Addr) (x : Str) (t : Tok) : Turn P w K tg (Its x) [it] it (fun i h => h.IsStrIter it (strIterType x) x t i) where
 mem := by simp
 obj := fun i h st b hb => by
   have e : b = it := by simpa using hb
   subst e
   obtain ⟨o, e, c, d⟩ := st
   exact ⟨o, e, fun v z => by rw [d] at z; cases z⟩
 keep := fun i h h' st k => by
   obtain ⟨o, e, r⟩ := st
   exact ⟨o, k it (by simp) o e, r⟩
 item := by
   intro X hP hw hK hc i pins s σ H E I hf st hg
   subst hP hw hK
   have W := str_walks (prog := X.prog) (w := X.w) (A := X.A) (I.ok.hd hc) it x t
   obtain ⟨f0, f1, f2, f3, f4, f5⟩ := hf it (by simp)
   refine W.item i s _ E hg st fun v h' tk hv st' k => ?_
   have I1 : Inv X pins σ H { s with heap := h', toks := tk } := I.turned (t' := tk) (fun b o hb e => k b o (by simpa using hb) e) f0 f1 f3 f4 f5
   obtain ⟨c, u, hcx, rfl⟩ := hv
   obtain ⟨o, e, c1, d⟩ := id st'
   refine ⟨_, rfl, go_of (s := { s with heap := h', toks := tk }) e c1 d ?_ ⟨.str (S [c]), H, I1, ⟨_, rfl⟩, ⟨rfl, c, by rw [← hcx]; simp [cd], rfl⟩, st', fun b hb => (hf b hb).1⟩⟩
   unfold strIterType; split <;> decide
 done := by
   intro X hP hw hK hc i pins s σ H E I hf st hg
   subst hP hw hK
   have W := str_walks (prog := X.prog) (w := X.w) (A := X.A) (I.ok.hd hc) it x t
   obtain ⟨f0, f1, f2, f3, f4, f5⟩ := hf it (by simp)
   have e : i = x.cps.size := hg
   subst e
   exact W.done s _ E st fun h' tk k => ⟨rfl, I.turned (t' := tk) (fun b o hb e => k b o (by simpa using hb) e) f0 f1 f3 f4 f5⟩
 self := fun A i s Q E st h => by
   obtain ⟨o, e, c, d⟩ := id st
   unfold strIterType at st
   split at st
   · exact wpAny_pyIter_striter_ascii st h
   · exact wpAny_pyIter_striter_wide st h
section
variable {X : Cx} {tg : Expr}
def iStr (tl : TE) : TI := fun σ H R => tl σ H fun v H1 => ∃ x, v = .str x ∧ R (Its x) H1
theorem pi_str {l : Expr} {tl : TE} (hl : PE X l tl) : PI X tg l (iStr tl) := by
 intro pins s σ H R I h
 refine thn (hl pins s σ H _ I h) fun v s1 ⟨x, H1, I1, r1, q1⟩ => ?_
 obtain ⟨x, rfl, q⟩ := q1
 obtain ⟨t, rfl⟩ := r1
 refine wpAny_pyIter_strU ?_
 refine ⟨s1.heap.objs.size, [s1.heap.objs.size], _, _, H1, rfl, I1.kept (t' := s1.toks) fun b o e => Heap.get?_push_of_some _ e, turn_str _ x t, ⟨_, Heap.get?_push_size _ rfl, rfl, rfl⟩, fun b hb => ?_, q⟩
 have e : b = s1.heap.objs.size := by simpa using hb
 subst e
 exact I1.fpOk (Nat.le_refl _) (I1.hok.fresh (Nat.le_refl _))
end
theorem for_str {x : Str} {g : TG} {tb : TS} {D : Ends} {σ : St} {H : Hp} (Pv : Nat → St → Hp → Prop) (h0 : Pv 0 σ H)
   (hs : ∀ i c σ H, (cd x)[i]? = some c → Pv i σ H → g (.str (S [c])) σ H fun σ2 H2 => tb { D with nx := Pv (i + 1), ct := Pv (i + 1), bk := D.nx } σ2 H2) (hd : ∀ σ H, Pv x.length σ H → D.nx σ H) :
   ∃ W : Nat → Nat → St → Hp → Prop, (∃ m, W 0 m σ H) ∧ ∀ i m σ H, W i m σ H →
     ((Its x).stop i H ∧ D.nx σ H) ∨ ((Its x).go i H ∧ ∃ N : St → Hp → Prop, (∀ σ' H', N σ' H' → ∃ m', m' < m ∧ W (i + 1) m' σ' H') ∧ ∀ v H', (Its x).yld i H v H' → g v σ H' fun σ2 H2 => tb { D with nx := N, ct := N, bk := D.nx } σ2 H2) := by
 refine ⟨fun i m σ H => m = x.length - i ∧ i ≤ x.length ∧ Pv i σ H, ⟨x.length, by simp, Nat.zero_le _, h0⟩, ?_⟩
 rintro i m σ H ⟨rfl, hi, p⟩
 by_cases hlt : i < x.length
 · refine .inr ⟨hlt, Pv (i + 1), fun σ' H' p' => ⟨x.length - (i + 1), by omega, rfl, hlt, p'⟩, fun v H' y => ?_⟩
   obtain ⟨e, c, hc, rfl⟩ := y
   subst e
   exact hs i c σ _ hc p
 · have e : i = x.length := by omega
   subst e
   exact .inl ⟨rfl, hd σ H p⟩
theorem comp_str {x : Str} {te : TE} {σ : St} {H : Hp} {Q : VK} (hz : x.length ≤ sizeLine) (W : Nat → List V → Hp → Prop) (h0 : W 0 [] H)
   (hs : ∀ i c ys H, (cd x)[i]? = some c → ys.length = i → W i ys H → te (some (.str (S [c])) :: σ) H fun v H' => W (i + 1) (ys ++ [v]) H')
   (hd : ∀ ys H, ys.length = x.length → W x.length ys H → ∀ p, H p = none → Q (.ref p) (upd H p (.lst ys))) :
   ∃ (n : Nat) (W : Nat → List V → Hp → Prop), n ≤ sizeLine ∧ W 0 [] H ∧ ∀ i ys H, i ≤ n → ys.length = i → W i ys H →
     ((Its x).stop i H ∧ ∀ p, H p = none → Q (.ref p) (upd H p (.lst ys))) ∨ ((Its x).go i H ∧ i < n ∧ ∀ v H', (Its x).yld i H v H' → te (some v :: σ) H' fun v H'' => W (i + 1) (ys ++ [v]) H'') := by
 refine ⟨x.length, W, hz, h0, fun i ys H hi hl hw => ?_⟩
 by_cases hlt : i < x.length
 · refine .inr ⟨hlt, hlt, fun v H' y => ?_⟩
   obtain ⟨e, c, hc, rfl⟩ := y
   subst e
   exact hs i c ys _ hc hl hw
 · have e : i = x.length := by omega
   subst e
   exact .inl ⟨rfl, hd ys H hl hw⟩
theorem comp_list {K : PySem.W.Frag} {a : Addr} {xs : List V} {te : TE} {σ : St} {H : Hp} {Q : VK} (hz : xs.length ≤ sizeLine) (W : Nat → List V → Hp → Prop) (h0 : W 0 [] H) (hq : ∀ i ys H, W i ys H → SqL K H a xs)
   (hs : ∀ i x ys H, xs[i]? = some x → ys.length = i → W i ys H → te (some x :: σ) H fun v H' => W (i + 1) (ys ++ [v]) H')
   (hd : ∀ ys H, ys.length = xs.length → W xs.length ys H → ∀ p, H p = none → Q (.ref p) (upd H p (.lst ys))) :
   ∃ (m : Nat) (W : Nat → List V → Hp → Prop), m ≤ sizeLine ∧ W 0 [] H ∧ ∀ i ys H, i ≤ m → ys.length = i → W i ys H →
     ((Itl K a).stop i H ∧ ∀ p, H p = none → Q (.ref p) (upd H p (.lst ys))) ∨ ((Itl K a).go i H ∧ i < m ∧ ∀ v H', (Itl K a).yld i H v H' → te (some v :: σ) H' fun v H'' => W (i + 1) (ys ++ [v]) H'') := by
 refine ⟨xs.length, W, hz, h0, fun i ys H hi hl hw => ?_⟩
 have q := hq i ys H hw
 by_cases hlt : i < xs.length
 · refine .inr ⟨⟨xs, xs[i], q, by simp [hlt]⟩, hlt, fun v H' y => ?_⟩
   obtain ⟨e, y⟩ := y
   subst e
   exact hs i v ys _ (y xs q) hl hw
 · have e : i = xs.length := by omega
   subst e
   exact .inl ⟨⟨xs, q, Nat.le_refl _⟩, hd ys H hl hw⟩
section
variable {X : Cx}
theorem call_all (hc : X.calm = true) : CallR X (.builtin "all") (fun xs H Q => ∃ (p : Addr) (bs : List Bool), xs = [.ref p] ∧ SqL X.K H p (bs.map V.bl) ∧ Q (.bl (bs.all id)) H) := by
 intro pins s σ H xs us Q I r h
 obtain ⟨p, bs, rfl, hq, q⟩ := h
 obtain ⟨u, rfl, ru⟩ := vals1 r
 cases ru
 obtain ⟨its, rv, pl, hz⟩ := I.list hq
 have hlt : p < s.heap.objs.size := by obtain ⟨o, n, e, _⟩ := pl; exact Heap.lt_size e
 refine call_all_walk (wpAny_pyIter_list pl.isList ?_)
 refine ⟨_, _, _, _, _, _, fun i => bs.getD i false, rfl, Walks.list (show X.A.in1.handled = none from I.ok.hd hc) s.heap.objs.size p (Nat.ne_of_lt hlt) its.toArray, ⟨⟨_, Heap.get?_push_size _ rfl, rfl, rfl⟩, pl.isList.push _⟩, fun i v s1 Q1 E1 hP hQ => ?_, fun h' tk k => ?_⟩
 · have hP' : its[i]? = some v := by simpa using hP
   obtain ⟨hi, _⟩ := List.getElem?_eq_some_iff.mp hP'
   have hl := rv.length
   rw [List.length_map] at hl
   have hb : (bs.map V.bl)[i]? = some (V.bl (bs.getD i false)) := by
     rw [List.getElem?_map, List.getElem?_eq_getElem (by omega)]
     simp [List.getD, List.getElem?_eq_getElem (show i < bs.length by omega)]
   obtain ⟨u, hu, ru⟩ := rv.get hb
   rw [hP'] at hu
   cases hu
   cases (show v = Value.bool _ from ru)
   exact wpAny_truthy_bool hQ
 · have e : (List.range its.toArray.size).all (fun i => bs.getD i false) = bs.all id := by
     have hl := rv.length
     rw [List.length_map] at hl
     rw [List.size_toArray, ← hl]
     have z : bs = (List.range bs.length).map fun i => bs.getD i false := by
       apply List.ext_getElem?
       intro i
       rw [List.getElem?_map]
       by_cases hi : i < bs.length
       · simp [List.getElem?_eq_getElem, hi, List.getD]
       · rw [List.getElem?_eq_none (Nat.not_lt.mp hi), List.getElem?_eq_none (by rw [List.length_range]; exact Nat.not_lt.mp hi)]; rfl
     conv => rhs; rw [z]
     rw [List.all_map]; rfl
   rw [e]
   refine ⟨.bl (bs.all id), H, ?_, rfl, q⟩
   have I0 : Inv X pins σ H { s with heap := s.heap.push { cls := .type "list_iterator", data := .fields #[.ref p, .int 0 0] } } := I.kept (t' := s.toks) fun b o e => Heap.get?_push_of_some _ e
   have fo := I.fpOk (H' := H) (b := s.heap.objs.size) (Nat.le_refl _) I.fresh
   obtain ⟨f0, f1, f2, f3, f4, f5⟩ := fo
   exact I0.turned (t' := tk) (it := s.heap.objs.size) (fun b o hb e => k b o (by simpa using hb) e) f0 f1 f3 f4 f5
theorem op_mulB : OpR X (binaryOp .Mult) (rI (fun i j => Builtin.Int.intBits i ≤ 60000000 ∧ Builtin.Int.intBits j ≤ 60000000) fun i j => .int (i * j)) := opI fun i j _ _ _ _ _ hc q => mul_int q (IntMulOk.of_le hc.1 hc.2 (by decide))
def cutN (xs : List Nat) (lo hi : Option Int) : List Nat := (xs.drop (HT.sIx xs.length 0 lo)).take (HT.sIx xs.length xs.length hi - HT.sIx xs.length 0 lo)
theorem pick_nat (xs : List Nat) (i k : Nat) : (List.range k).filterMap (fun m => xs[i + m]?) = (xs.drop i).take k := by
 induction k generalizing i with
 | zero => simp
 | succ k ih =>
   rw [List.range_succ_eq_map, List.filterMap_cons]
   have e : (List.map Nat.succ (List.range k)).filterMap (fun m => xs[i + m]?) = (List.range k).filterMap (fun m => xs[(i + 1) + m]?) := by
     rw [List.filterMap_map]
     congr 1
     funext m
     show xs[i + (m + 1)]? = xs[i + 1 + m]?
     congr 1; omega
   rw [e, ih (i + 1)]
   by_cases hi : i < xs.length
   · rw [Nat.add_zero, List.getElem?_eq_getElem hi, List.drop_eq_getElem_cons hi, List.take_succ_cons]
   · rw [Nat.add_zero, List.getElem?_eq_none (Nat.not_lt.mp hi), List.drop_eq_nil_of_le (Nat.not_lt.mp hi), List.drop_eq_nil_of_le (by omega)]
     simp
theorem slice_idx (lo hi : Option Int) (n : Nat) : Builtin.Str.strSliceIndices lo hi 1 n = (List.range (HT.sIx n n hi - HT.sIx n 0 lo)).map fun m => HT.sIx n 0 lo + m := by
 unfold Builtin.Str.strSliceIndices sliceRange
 have h1 : (1 : Int) > 0 := by omega
 simp only [h1, if_true, Int.ediv_one]
 have cl : ∀ (v : Int) (d : Nat), max 0 (min (if v < 0 then v + (n : Int) else v) (n : Int)) = ((HT.sIx n d (some v) : Nat) : Int) := fun v d => by
   show _ = (((if v < 0 then (v + (n : Int)).toNat else min v.toNat n) : Nat) : Int)
   by_cases hv : v < 0
   · simp only [if_pos hv]; omega
   · simp only [if_neg hv]; omega
 have fin : ∀ a b : Nat, (List.range (if (a : Int) < (b : Int) then (b : Int) - (a : Int) + 1 - 1 else 0).toNat).map (fun k : Nat => ((a : Int) + 1 * (k : Int)).toNat) = (List.range (b - a)).map fun m => a + m := fun a b => by
   have e1 : (if (a : Int) < (b : Int) then (b : Int) - (a : Int) + 1 - 1 else 0).toNat = b - a := by split <;> omega
   rw [e1]
   apply List.map_congr_left
   intro k _
   omega
 cases lo with
 | none =>
   cases hi with
   | none => exact fin 0 n
   | some v => simp only [cl v n]; exact fin 0 _
 | some u =>
   cases hi with
   | none => simp only [cl u 0]; exact fin _ n
   | some v => simp only [cl u 0, cl v n]; exact fin _ _
theorem slice_is (x : Str) (lo hi : Option Int) : Txt.slice x lo hi = S (cutN (cd x) lo hi) := by
 unfold Txt.slice
 rw [slice_idx]
 have hx : x.length = (cd x).length := yX x
 split
 · rename_i h
   simp only [Bool.and_eq_true, beq_iff_eq, List.length_map, List.length_range] at h
   rw [hx] at h
   have h2 := h.2
   have l1 := HT.sIx_le (cd x).length (cd x).length (Nat.le_refl _) hi
   unfold cutN
   rw [h2]
   have l0 : HT.sIx (cd x).length 0 lo = 0 ∨ (cd x).length = 0 := by omega
   rcases l0 with l0 | l0
   · rw [l0, List.drop_zero, List.take_length, S_cd]
   · have e : cd x = [] := List.eq_nil_of_length_eq_zero l0
     apply cd_inj
     rw [e]; simp [cd_S]
 · rw [List.filterMap_map]
   unfold S cutN
   congr 2
   rw [← pick_nat, hx]
   congr 1
   funext m
   show x.cps[_]? = (cd x)[_]?
   simp [cd]
theorem sl_str : SlR X (fun x lo hi H Q => ∃ z, x = .str z ∧ z.length ≤ sizeLine ∧ Q (.str (S (cutN (cd z) lo hi))) H) := by
 intro pins s σ H x v vl vu lo hi sl Q I rx hs pl pu h
 obtain ⟨z, rfl, hz, q⟩ := h
 obtain ⟨t, rfl⟩ := rx
 refine ⟨"str", _, slot_str_getitem.lookup, typeIs_str s z t, ?_⟩
 rw [← slice_is] at q
 have fin : ∀ (l u : Option (Int × Tok)), l.map (·.1) = lo → u.map (·.1) = hi → vl = partValue l → vu = partValue u → wpAny (model X.prog X.w) X.A (getItem (.str z t) (.ref sl)) (EP X pins σ Q) X.xe s := fun l u e1 e2 e3 e4 => by
   subst e3 e4
   obtain ⟨o, ho, hc, hd⟩ := hs
   subst e1 e2
   exact wpAny_getItem_str_slice (l := l) (u := u) (st := none) ⟨o, ho, hc, hd⟩ rfl (post_val_or_str ⟨Nat.le_trans (Txt.slice_le z _ _) hz, fun t' k => ⟨.str _, H, I.tok _, ⟨_, rfl⟩, q⟩⟩)
 cases pl with
 | none =>
   cases pu with
   | none => exact fin none none rfl rfl rfl rfl
   | int i t => exact fin none (some (i, t)) rfl rfl rfl rfl
 | int j t' =>
   cases pu with
   | none => exact fin (some (j, t')) none rfl rfl rfl rfl
   | int i t => exact fin (some (j, t')) (some (i, t)) rfl rfl rfl rfl
end
end L2
namespace Att
open PySem PySem.W PySem.Calls PyProof.Rows
theorem bits_of_lay {ns : List Int} (h : WData.layableAll [WData.list (ns.map WData.int)] = true) : ∀ n ∈ ns, Builtin.Int.intBits n ≤ 1048576 := by
 have h1 : (WData.list (ns.map WData.int)).layable = true := by simpa [WData.layableAll] using h
 intro n hn
 have h2 := layableW_item h1 (.int n) (List.mem_map.mpr ⟨n, hn, rfl⟩)
 have h3 := (layableW_iff.mp h2).2.2
 simpa [WData.weight, Builtin.Int.intBits] using h3
theorem attach_callB {l : OpenLaw} {n : Nat} {q : Program} {loose : List Str} {XP : (Str → Option Value) → Heap → Prop} {YP : World → Heap → Prop} {d : DefRec}
   (hn : l.most = some n) (hdf : d.params.defaults = [])
   (call : ∀ (w : World) (s₀ s₁ : Shared) (mg mb : Str → Option Value) (fa : Addr) (o : Obj) (pm cd doc : Value) (a : Addr) (vs : List Value) (ns : List Int),
     Ground q loose [] XP w s₀ mg mb s₁.heap → YP w s₁.heap →
     s₁.heap.get? fa = some o → o.data = .func (docDef d.name d.params d.body d.scope pm cd doc) → s₁.heap.CodeRec cd d.name → mg d.name = some (.ref fa) →
     s₁.heap.get? a = some { cls := .type "list", data := .seq vs.toArray } → IntsAre vs ns → ns.length ≤ n → (∀ n ∈ ns, Builtin.Int.intBits n ≤ 1048576) → s₁.gens = #[] →
     codeAny (model l.prog w) callerA (.call (.ref fa) ⟨[.ref a], []⟩) (fun r s' => r = .ok (.ret (.bool true)) ∧ OldK s₁.heap s'.heap ∧ s'.os = s₁.os ∧ AllBare s'.gens) s₁) :
   WalkO q loose XP YP l.row.toRowW d [] (fun f vs => PySem.call f vs) := by
 intro w s₀ s₁ mg mb G Y fa o pm cd doc dV kV ho hd hcd hD hmg hg args vals as hpre hlay hrd hwl hlo
 obtain rfl : dV = .none := Dflts.none hD hdf
 obtain rfl : kV = .none := Dflts.noKw hD
 obtain ⟨a, vs, ns, rfl, rfl, hobj, hints, hlen⟩ := script_of hn hpre hwl
 refine enter_call (codeAny_mono (call w s₀ s₁ mg mb fa o pm cd doc a vs ns G Y ho (fd_plain hd) hcd hmg hobj hints hlen (bits_of_lay hlay) hg) fun r s' hq => ?_)
 obtain ⟨rfl, h2, h3, h4⟩ := hq
 exact ⟨.inl ⟨.bool true, .bool true, [], rfl, fun _ => rfl, .bool true, post_true l _, fun _ => ⟨List.Pairwise.nil, fun _ hm => (nomatch hm)⟩⟩, h2, h3, h4⟩
end Att
namespace L2
open PySem PySem.Spec PyProof.Rows
theorem walk_ofB {l : PySem.W.OpenLaw} {n k : Nat} {q : Program} {loose : List Str} {XP : (Str → Option Value) → Heap → Prop} {YP : World → Heap → Prop} {d : DefRec} {K : Params → PySem.W.Frag} {CX : World → CXT} {sp : World → Sp} {x : Str}
   (hn : l.most = some n) (hn2 : n ≤ sizeLine) (hdf : d.params.defaults = []) (hr : Room k callerA)
   (hY : ∀ (w : World) (h : Heap), YP w h → (K w.params).In h)
   (F : ∀ (w : World) (mg : Str → Option Value) (fa : Addr) (h : Heap), (K w.params).In h → h.Ns mainGlobals mg → mg d.name = some (.ref fa) →
     ∃ fd : FuncData, (∀ (s : Shared) (u : Value), BindsTo s fd ⟨[u], []⟩ [(x, u)]) ∧
       ∀ base : Heap, (K w.params).In base → base.Ns mainGlobals mg → FnOk l.prog w (K w.params) mg base (CX w) k fa fd [x] (sp w))
   (hsp : ∀ (w : World) (H : Hp) (a : Addr) (ns : List Int), ns.length ≤ n → (∀ n ∈ ns, Builtin.Int.intBits n ≤ 1048576) → Only H → SqL (K w.params) H a (ns.map V.int) → sp w [.ref a] H (fun v _ => v = .bl true) fun _ _ _ => False)
   (hCX : ∀ (w : World) (H : Hp) (s : Shared) (e : Value) (s' : Shared), CX w [] H s (fun _ _ _ => False) e s' → False) :
   PySem.W.WalkO q loose XP YP l.row.toRowW d [] (fun f vs => PySem.call f vs) := by
 refine Att.attach_callB hn hdf fun w s₀ s₁ mg mb fa o pm cd doc a vs ns G Y ho hd hcd hmg hobj hints hlen hbits hg => ?_
 have KX := hY w _ Y
 obtain ⟨fd, hb, hF⟩ := F w mg fa _ KX G.T.g hmg
 exact law_call KX G.T.g G.T.b G.T.builtins G.T.nolimit hg hobj hints (Nat.le_trans hlen hn2) hr hF hb (fun H hO hS => hsp w H a ns hlen hbits hO hS) fun H e s' => hCX w H s₁ e s'
def GlobV (mg : Str → Option Value) (x : Str) (v : V) : Prop := ∃ u, mg x = some u ∧ RelV v u
theorem pe_gv {X : Cx} {x : Str} {v : V} {pos : Pos} (hg : Gl X x) (h : GlobV X.mg x v) (hd : (x == ("__debug__" : Str)) = false := by decide) : PE X (.Name x pos) (tC v) := by
 obtain ⟨u, hm, r⟩ := h
 exact pe_glob hg hm r hd
theorem SqT.mod {K : PySem.W.Frag} {a : Addr} {oc : Value} {od : Option Addr} {its : Array Value} {n : Nat} {sl : Array (Option Value)} {xs : List V} (h : K.lookup a = some ⟨oc, od, .seq its n, sl⟩) (hc : oc = .type "tuple") (hz : its.size ≤ sizeLine) (hv : Vals xs its.toList) (H : Hp) : SqT K H a xs :=
 .inr ⟨_, its, n, h, hc, rfl, hz, hv⟩
theorem Same.tup {K : PySem.W.Frag} {H H' : Hp} {a : Addr} {xs : List V} (e : Same H H') (h : SqT K H a xs) : SqT K H' a xs := by
 rcases h with (h | ⟨o, h⟩) | h
 · exact .inl (.inl (e _ _ h))
 · exact .inl (.inr ⟨o, e _ _ h⟩)
 · exact .inr h
theorem zH {H : Hp} {p : Addr} (h : H p = none) (o : HO) : Same H (upd H p o) := fun b u q => by rw [zF (zI q h)]; exact q
namespace Bt
theorem int : bootBuiltins "int" = some (.type "int") := PyProof.Rows.boot_int
theorem bool : bootBuiltins "bool" = some (.type "bool") := PyProof.Rows.boot_bool
theorem str : bootBuiltins "str" = some (.type "str") := PyProof.Rows.boot_str
theorem list : bootBuiltins "list" = some (.type "list") := PyProof.Rows.boot_list
theorem tuple : bootBuiltins "tuple" = some (.type "tuple") := PyProof.Rows.boot_tuple
theorem dict : bootBuiltins "dict" = some (.type "dict") := PyProof.Rows.boot_dict
theorem set : bootBuiltins "set" = some (.type "set") := PyProof.Rows.boot_set
theorem isinstance : bootBuiltins "isinstance" = some (.builtin "isinstance") := PyProof.Rows.boot_isinstance
theorem all : bootBuiltins "all" = some (.builtin "all") := PyProof.Rows.boot_all
theorem abs : bootBuiltins "abs" = some (.builtin "abs") := PyProof.Rows.Boot.«abs»
end Bt
end L2
namespace L2
open PySem PySem.Spec PyProof.Rows
abbrev ib (x : Int) : Nat := Builtin.Int.intBits x
theorem ib_small {x : Int} (h1 : -(2 ^ 64) < x) (h2 : x < 2 ^ 64) : ib x ≤ 64 := intBits_le_64 h1 h2
theorem ib_big {m : Nat} {x : Int} (h : x.natAbs < 2 ^ m) : ib x ≤ m := intBits_le_iff.mpr h
theorem at_some {α : Type} {l : List α} {i : Int} (h0 : 0 ≤ i) (h1 : i < l.length) : ∃ c, atI l i = some c ∧ l[i.toNat]? = some c := by
 have hk : i.toNat < l.length := by omega
 refine ⟨l[i.toNat], ?_, List.getElem?_eq_getElem hk⟩
 have e : i = ((i.toNat : Nat) : Int) := by omega
 have q : atI l ((i.toNat : Nat) : Int) = some l[i.toNat] := zX (List.getElem?_eq_getElem hk)
 rw [← e] at q
 exact q
theorem Same.ty {K : PySem.W.Frag} {H H' : Hp} {x : V} {t : Value} (e : Same H H') (h : TyOf K H x t) : TyOf K H' x t := by
 cases h with
 | non => exact .non
 | bl x => exact .bl x
 | int i => exact .int i
 | str x => exact .str x
 | flt x => exact .flt x
 | lst q => exact .lst (e _ _ q)
 | frz q => exact .frz (e _ _ q)
 | tup q => exact .tup (e _ _ q)
 | dK q => exact .dK (e _ _ q)
 | dT q => exact .dT (e _ _ q)
 | ins q a b c d f => exact .ins (e _ _ q) a b c d f
theorem yB {n m : Nat} (h : n ≤ m) (hm : m ≤ 16777216 := by decide) : n ≤ sizeLine := by rw [sizeLine_eq]; omega
structure CompR (J : It) (te : TE) (σ : St) (H1 : Hp) (Q : VK) : Prop where
 ex : ∃ (n : Nat) (W : Nat → List V → Hp → Prop), n ≤ sizeLine ∧ W 0 [] H1 ∧ ∀ i ys H, i ≤ n → ys.length = i → W i ys H →
   (J.stop i H ∧ ∀ p, H p = none → Q (.ref p) (upd H p (.lst ys))) ∨ (J.go i H ∧ i < n ∧ ∀ x H', J.yld i H x H' → te (some x :: σ) H' fun v H'' => W (i + 1) (ys ++ [v]) H'')
def tCompR (wi : TI) (te : TE) : TE := fun σ H Q => wi σ H fun J H1 => CompR J te σ H1 Q
structure ForR (J : It) (g : TG) (tb : TS) (D : Ends) (σ : St) (H1 : Hp) : Prop where
 ex : ∃ W : Nat → Nat → St → Hp → Prop, (∃ m, W 0 m σ H1) ∧ ∀ i m σ H, W i m σ H →
   (J.stop i H ∧ D.nx σ H) ∨ (J.go i H ∧ ∃ N : St → Hp → Prop, (∀ σ' H', N σ' H' → ∃ m', m' < m ∧ W (i + 1) m' σ' H') ∧ ∀ x H', J.yld i H x H' → g x σ H' fun σ2 H2 => tb { D with nx := N, ct := N, bk := D.nx } σ2 H2)
def tForR (wi : TI) (g : TG) (tb : TS) : TS := fun D σ H => wi σ H fun J H1 => ForR J g tb D σ H1
structure WhileR (c : TT) (tb : TS) (D : Ends) (σ : St) (H : Hp) : Prop where
 ex : tWhile c tb D σ H
def tWhileR (c : TT) (tb : TS) : TS := fun D σ H => WhileR c tb D σ H
theorem PI.weak {X : Cx} {tg iter : Expr} {wi : TI} (h : PI X tg iter wi) {pins : List (Addr × Obj)} {s : Shared} {σ : St} {H : Hp} {R R' : It → Hp → Prop} (I : Inv X pins σ H s) (hw : wi σ H R) (hR : ∀ J H1, R J H1 → R' J H1) :
   wpAny (model X.prog X.w) X.A (eval iter X.env) (fun v s1 => wpAny (model X.prog X.w) X.A (pyIter v) (PIE X pins σ tg R') X.xe s1) X.xe s := by
 refine thn (h pins s σ H R I hw) fun v s1 h1 => thn h1 fun itv s2 ⟨it, fp, tn, J, H', e, I', T, st, f, r⟩ => ?_
 exact ⟨it, fp, tn, J, H', e, I', T, st, f, hR J H' r⟩
section
variable {X : Cx} {scope : Scope} {x : Str} {M : List Str} {elt iter : Expr} {px pos : Pos} {te : TE} {wi : TI}
theorem pi_conv {tg : Expr} {wi wi' : TI} (h : PI X tg iter wi) (hw : ∀ σ H R, wi' σ H R → ∃ R0, wi σ H R0 ∧ ∀ J H1, R0 J H1 → R J H1) : PI X tg iter wi' := by
 intro pins s σ H R I q
 obtain ⟨R0, q0, hR⟩ := hw σ H R q
 exact h.weak I q0 hR
theorem pe_compR (K : CompOk X scope x M) (hc : X.calm = true) (hi : PI X (.Name x px) iter wi) (he : ∀ (C : Addr) (s₂ : Shared) (H₂ : Hp) (fp : List Addr), PE (compCx X scope C x M s₂ H₂ fp) elt te)
   (hs : ∀ x, foldedSetIterable iter X.env x = pure x := by intro _; rfl) : PE X (.ListComp elt [⟨.Name x px, iter, [], 0⟩] scope pos) (tCompR wi te) := by
 intro pins s σ H Q I h
 have q := pe_comp (pos := pos) K hc (wi := fun σ0 H0 R0 => ∃ R, wi σ0 H0 R ∧ ∀ J H1, R J H1 → R0 J H1) (pi_conv hi fun σ H R ⟨R1, a, b⟩ => ⟨R1, a, b⟩) he hs pins s σ H Q I
 exact q ⟨_, h, fun J H1 r => r.ex⟩
theorem ps_compR {i : Nat} {y : Str} {spos py : Pos} (hN : X.N.Nodup) (hy : X.N[i]? = some y) (hl : Loc X.env.scope y) (K : CompOk X scope x M) (hc : X.calm = true) (hi : PI X (.Name x px) iter wi) (he : ∀ (C : Addr) (s₂ : Shared) (H₂ : Hp) (fp : List Addr), PE (compCx X scope C x M s₂ H₂ fp) elt te)
   (hsw : swapsWith (.ListComp elt [⟨.Name x px, iter, [], 0⟩] scope pos) (some (.Name y py)) spos.line X.env = pure true := by rfl)
   (hs : ∀ x, foldedSetIterable iter X.env x = pure x := by intro _; rfl) (hf : X.fn y = true ∨ X.env.scope.names.lookup y = some .local := by first | exact .inl rfl | exact .inr rfl | assumption) :
   PS X (.Assign [.Name y py] (.ListComp elt [⟨.Name x px, iter, [], 0⟩] scope pos) spos) (tAsg (tCompR wi te) (gName i)) := by
 intro pins s σ H D I h
 have q := ps_comp (pos := pos) (spos := spos) hN hy hl K hc (wi := fun σ0 H0 R0 => ∃ R, wi σ0 H0 R ∧ ∀ J H1, R J H1 → R0 J H1) (pi_conv hi fun σ H R ⟨R1, a, b⟩ => ⟨R1, a, b⟩) he hsw hs hf pins s σ H D I
 exact q ⟨_, h, fun J H1 r => r.ex⟩
theorem xH {tg : Expr} {body : List Stmt} {g : TG} {tb : TS} (hp : PassesOwn (model X.prog X.w) X.A X.env X.xe) (hc : X.calm = true) (hi : PI X tg iter wi) (hg : PG X tg g) (hb : PSs X body tb)
   (hs : ∀ x, foldedSetIterable iter X.env x = pure x := by intro _; rfl) : PS X (.For tg iter body [] pos) (tForR wi g tb) := by
 intro pins s σ H D I h
 have q := ps_for (pos := pos) hp hc (wi := fun σ0 H0 R0 => ∃ R, wi σ0 H0 R ∧ ∀ J H1, R J H1 → R0 J H1) (pi_conv hi fun σ H R ⟨R1, a, b⟩ => ⟨R1, a, b⟩) hg hb hs pins s σ H D I
 exact q ⟨_, h, fun J H1 r => r.ex⟩
theorem ps_whileR {c : Expr} {body : List Stmt} {tc : TT} {tb : TS} (hp : PassesOwn (model X.prog X.w) X.A X.env X.xe) (hc : PT X c tc) (hb : PSs X body tb) : PS X (.While c body [] pos) (tWhileR tc tb) := fun pins s σ H D I h => ps_while hp hc hb pins s σ H D I h.ex
end
theorem comp_strR {x : Str} {te : TE} {σ : St} {H : Hp} {Q : VK} (hz : x.length ≤ sizeLine) (W : Nat → List V → Hp → Prop) (h0 : W 0 [] H)
   (hs : ∀ i c ys H, (cd x)[i]? = some c → ys.length = i → W i ys H → te (some (.str (S [c])) :: σ) H fun v H' => W (i + 1) (ys ++ [v]) H')
   (hd : ∀ ys H, ys.length = x.length → W x.length ys H → ∀ p, H p = none → Q (.ref p) (upd H p (.lst ys))) : CompR (Its x) te σ H Q := ⟨comp_str hz W h0 hs hd⟩
theorem comp_listR {K : PySem.W.Frag} {a : Addr} {xs : List V} {te : TE} {σ : St} {H : Hp} {Q : VK} (hz : xs.length ≤ sizeLine) (W : Nat → List V → Hp → Prop) (h0 : W 0 [] H) (hq : ∀ i ys H, W i ys H → SqL K H a xs)
   (hs : ∀ i x ys H, xs[i]? = some x → ys.length = i → W i ys H → te (some x :: σ) H fun v H' => W (i + 1) (ys ++ [v]) H')
   (hd : ∀ ys H, ys.length = xs.length → W xs.length ys H → ∀ p, H p = none → Q (.ref p) (upd H p (.lst ys))) : CompR (Itl K a) te σ H Q := ⟨comp_list hz W h0 hq hs hd⟩
theorem xI {K : PySem.W.Frag} {a : Addr} {xs : List V} {g : TG} {tb : TS} {D : Ends} {σ : St} {H : Hp} (Pv : Nat → St → Hp → Prop) (h0 : Pv 0 σ H) (hl : ∀ i σ H, i ≤ xs.length → Pv i σ H → SqL K H a xs)
   (hs : ∀ i x σ H, xs[i]? = some x → Pv i σ H → g x σ H fun σ2 H2 => tb { D with nx := Pv (i + 1), ct := Pv (i + 1), bk := D.nx } σ2 H2) (hd : ∀ σ H, Pv xs.length σ H → D.nx σ H) : ForR (Itl K a) g tb D σ H := ⟨for_list Pv h0 hl hs hd⟩
theorem for_rangeR {lo : Int} {n : Nat} {g : TG} {tb : TS} {D : Ends} {σ : St} {H : Hp} (Pv : Nat → St → Hp → Prop) (h0 : Pv 0 σ H)
   (hs : ∀ i σ H, i < n → Pv i σ H → g (.int (lo + i)) σ H fun σ2 H2 => tb { D with nx := Pv (i + 1), ct := Pv (i + 1), bk := D.nx } σ2 H2) (hd : ∀ σ H, Pv n σ H → D.nx σ H) : ForR (Itr lo n) g tb D σ H := ⟨for_range Pv h0 hs hd⟩
theorem for_strR {x : Str} {g : TG} {tb : TS} {D : Ends} {σ : St} {H : Hp} (Pv : Nat → St → Hp → Prop) (h0 : Pv 0 σ H)
   (hs : ∀ i c σ H, (cd x)[i]? = some c → Pv i σ H → g (.str (S [c])) σ H fun σ2 H2 => tb { D with nx := Pv (i + 1), ct := Pv (i + 1), bk := D.nx } σ2 H2) (hd : ∀ σ H, Pv x.length σ H → D.nx σ H) : ForR (Its x) g tb D σ H := ⟨for_str Pv h0 hs hd⟩
theorem cutV_map {α : Type} (f : α → V) (l : List α) (lo hi : Option Int) : ∃ ms : List α, cutV (l.map f) lo hi = ms.map f ∧ (∀ m ∈ ms, m ∈ l) ∧ ms.length ≤ l.length := by
 refine ⟨(l.drop (HT.sIx (l.map f).length 0 lo)).take (HT.sIx (l.map f).length (l.map f).length hi - HT.sIx (l.map f).length 0 lo), ?_, fun m hm => ?_, ?_⟩
 · unfold cutV
   rw [List.map_take, List.map_drop]
 · exact List.mem_of_mem_drop (List.mem_of_mem_take hm)
 · rw [List.length_take, List.length_drop]; omega
theorem map_get {α : Type} {f : α → V} {l : List α} {i : Nat} {x : V} (h : (l.map f)[i]? = some x) : ∃ a, l[i]? = some a ∧ x = f a := by
 rw [List.getElem?_map] at h
 cases e : l[i]? with
 | none => rw [e] at h; cases h
 | some a => rw [e] at h; exact ⟨a, rfl, (Option.some.inj h).symm⟩
theorem kit_ty {K : PySem.W.Frag} {a b : String} {r : Bool} (h : (if (Value.type a == Value.type b) = true then some true else if PySem.W.kitMeta b = true then (fastBuiltinMro a).map (·.contains (Value.type b)) else none) = some r) : PySem.W.kitOne K (.type a) (.type b) = some r := h
end L2
namespace L2
open PySem PySem.Spec PyProof.Rows PySem.Calls
structure XUn (outer : List Env) (H H' : Hp) (h B h1 : Heap) : Prop where
 keepB : ∀ b o, h.get? b = some o → H b = none → b ∉ frs outer → B.get? b = some o
 thereB : ∀ b o, h.get? b = some o → b ∉ frs outer → ∃ o', B.get? b = some o'
 slot : ∀ b o, h.get? b = some o → H b = none → b ∈ frs outer → ∃ sl, h1.get? b = some { o with slots := sl }
 free : ∀ b o, h.get? b = some o → H b = none → H' b = none
 tups : ∀ b xs, H b = some (.tup xs) → H' b = some (.tup xs)
 frzs : ∀ b o u, H b = some (.frz o u) → H' b = some (.frz o u)
 tbls : ∀ b ps, H b = some (.tbl ps) → ∃ more, H' b = some (.tbl (ps ++ more))
theorem XUn.step {outer : List Env} {H H' : Hp} {h B h1 h2 base : Heap} (x : XUn outer H H' h B h1) (fr : h1.FunFrames base outer) (up : h1.UpToSlots h2) : XUn outer H H' h B h2 :=
 ⟨x.keepB, x.thereB, fun b o e n hb => by
   obtain ⟨sl, q⟩ := x.slot b o e n hb
   obtain ⟨_, o', ho', hd'⟩ := fr.mem hb
   rw [q] at ho'; cases ho'
   obtain ⟨sl', q'⟩ := up b _ q hd'
   exact ⟨sl', q'⟩, x.free, x.tups, x.frzs, x.tbls⟩
theorem XUn.un {outer : List Env} {H H' : Hp} {h B h1 : Heap} (x : XUn outer H H' h B h1) (st : B.StaysIn h1) (fr : h1.FunFrames B outer) : Un (frs outer) [] H H' h h1 :=
 ⟨fun b o e n hb _ => st b o (x.keepB b o e n hb), fun b o e n hb _ => x.slot b o e n hb, fun b o e n _ => x.free b o e n, fun b o e _ => by
   by_cases hb : b ∈ frs outer
   · obtain ⟨_, o', ho', _⟩ := fr.mem hb
     exact ⟨o', ho'⟩
   · obtain ⟨o', q⟩ := x.thereB b o e hb
     exact ⟨o', st b o' q⟩, x.tups, x.frzs, x.tbls⟩
def CXW (P : Program) (w : World) : CXT := fun outer H s E e s' =>
 ∃ (ea t : Addr) (cls : Value) (H' : Hp) (B : Heap), e = .ref ea ∧ Heap.FlyingW B outer ea cls (.ref t) s'.heap ∧ s'.os = s.os ∧ AllBare s'.gens ∧ HOk P w H' B ∧ XUn outer H H' s.heap B s'.heap ∧ E cls none H'
section
variable {P : Program} {w : World} {K : PySem.W.Frag} {mg : Str → Option Value} {base : Heap} {N : List Str} {qual : Str} {scope : Scope} {f : Addr} {cdv : Value} {A : Around} {outer : List Env} {s : Shared} {H : Hp} {E : XK}
theorem xe_made {pins : List (Addr × Obj)} {σ : St} {H1 : Hp} {s1 : Shared} {h' : Heap} {e : Addr} {cls : Value} {vs : List Value} (I : Inv (cxOf (CXW P w) P w K mg base N qual scope f cdv A outer s H E) pins σ H1 s1)
   (hx : Heap.MadeExcOf s1.heap h' e cls vs) (hE : E cls none H1) : (cxOf (CXW P w) P w K mg base N qual scope f cdv A outer s H E).xe (.ref e) { s1 with heap := h' } := by
 have hst := I.stack
 have hin : ∀ env ∈ (cxOf (CXW P w) P w K mg base N qual scope f cdv A outer s H E).stack, ∀ b, env.frame = some b → b ∈ frs (cxOf (CXW P w) P w K mg base N qual scope f cdv A outer s H E).stack := fun env he b hb => List.mem_filterMap.mpr ⟨env, he, hb⟩
 generalize hB : PySem.W.hideAll s1.heap (frs (cxOf (CXW P w) P w K mg base N qual scope f cdv A outer s H E).stack) = B
 have stB : B.StaysIn s1.heap := fun b o q => by rw [← hB] at q; exact PySem.W.of_hideAll _ q
 have getB : ∀ b o, s1.heap.get? b = some o → b ∉ frs (cxOf (CXW P w) P w K mg base N qual scope f cdv A outer s H E).stack → B.get? b = some o := fun b o q n => by rw [← hB]; exact PySem.W.hideAll_get _ q n
 have frB : s1.heap.FunFrames B (cxOf (CXW P w) P w K mg base N qual scope f cdv A outer s H E).stack := by rw [← hB]; exact PySem.W.funFrames_hide hst hin
 have noL : ∀ b o, s.heap.get? b = some o → b ∉ frs outer → b ∉ frs (cxOf (CXW P w) P w K mg base N qual scope f cdv A outer s H E).stack := fun b o q n z => by
   rcases List.mem_cons.mp (I.stkSub b z) with z | z
   · have : b < s.heap.objs.size := Heap.lt_size q
     have a := I.ok.above
     rw [← z] at a
     exact absurd (Nat.lt_of_lt_of_le this a) (Nat.lt_irrefl _)
   · exact n z
 show wpAny (model P w) _ (leaving (envOfC qual scope s.heap.objs.size f cdv) (.ref e)) _ _ _
 refine wpAny_leaves_madeW (base := B) (h := s1.heap) (outer := outer) I.ok.frames rfl stB frB hx fun h2 t fl tup tn up => ?_
 refine ⟨e, t, cls, H1, B, rfl, fl, I.os, I.bare, fun a o q => (I.hok a o q).stay (fun b u hb z => getB b u z fun m => ?_) (fun _ z => z) (fun _ _ z => z), ⟨fun b o q n hb => ?_, fun b o q hb => ?_, fun b o q n hb => ?_, fun b o q n => I.base.free b o q n (fun z => nomatch z), I.base.tups, I.base.frzs, I.base.tbls⟩, hE⟩
 · have z := I.stkFree b m
   rcases hb with r | r
   · rw [r, q] at z; cases z
   · rw [r] at z; cases z
 · exact getB b o (I.base.keep b o q n hb (fun z => nomatch z)) (noL b o q hb)
 · obtain ⟨o', q'⟩ := I.base.there b o q (fun z => nomatch z)
   exact ⟨o', getB b o' q' (noL b o q hb)⟩
 · obtain ⟨sl, q'⟩ := I.base.slot b o q n hb (fun z => nomatch z)
   have q2 := hx.keeps b _ q'
   obtain ⟨_, o2, ho2, hd2⟩ := I.funs.mem hb
   rw [q'] at ho2; cases ho2
   obtain ⟨sl', z⟩ := up b _ q2 hd2
   exact ⟨sl', z⟩
theorem passX : Passes (CXW P w) (cxOf (CXW P w) P w K mg base N qual scope f cdv A outer s H E) E := by
 intro pins σ H1 s1 e s' I h
 obtain ⟨ea, t, cls, H', B, rfl, fl, os, bare, hok, x, hE⟩ := h
 show wpAny (model P w) _ (leaving (envOfC qual scope s.heap.objs.size f cdv) (.ref ea)) _ _ _
 have noL : ∀ b o, s.heap.get? b = some o → b ∉ frs outer → b ∉ frs (cxOf (CXW P w) P w K mg base N qual scope f cdv A outer s H E).stack := fun b o q n z => by
   rcases List.mem_cons.mp (I.stkSub b z) with z | z
   · have : b < s.heap.objs.size := Heap.lt_size q
     have a := I.ok.above
     rw [← z] at a
     exact absurd (Nat.lt_of_lt_of_le this a) (Nat.lt_irrefl _)
   · exact n z
 refine wpAny_leaves_onW (outer := outer) I.ok.frames rfl fl fun h2 fl2 up => ?_
 have x2 := x.step fl.2.2.1 up
 refine ⟨ea, t, cls, H', B, rfl, fl2, os.trans I.os, bare, hok, ⟨fun b o q n hb => ?_, fun b o q hb => ?_, fun b o q n hb => ?_, fun b o q n => ?_, fun b xs q => x.tups b xs (I.base.tups b xs q), fun b o u q => x.frzs b o u (I.base.frzs b o u q), fun b ps q => ?_⟩, hE⟩
 · exact x.keepB b o (I.base.keep b o q n hb (fun z => nomatch z)) (I.base.free b o q n (fun z => nomatch z)) (noL b o q hb)
 · obtain ⟨o', q'⟩ := I.base.there b o q (fun z => nomatch z)
   exact x.thereB b o' q' (noL b o q hb)
 · obtain ⟨sl, q'⟩ := I.base.slot b o q n hb (fun z => nomatch z)
   obtain ⟨sl', q2⟩ := x2.slot b _ q' (I.base.free b o q n (fun z => nomatch z)) (by
     obtain ⟨env, he, hf⟩ := List.mem_filterMap.mp hb
     exact List.mem_filterMap.mpr ⟨env, List.mem_cons_of_mem _ he, hf⟩)
   exact ⟨sl', q2⟩
 · obtain ⟨o', q'⟩ := I.base.there b o q (fun z => nomatch z)
   exact x.free b o' q' (I.base.free b o q n (fun z => nomatch z))
 · obtain ⟨m1, e1⟩ := I.base.tbls b ps q
   obtain ⟨m2, e2⟩ := x.tbls b _ e1
   exact ⟨m1 ++ m2, by rw [e2, Array.append_assoc]⟩
end
section
variable {P : Program} {w : World} {K : PySem.W.Frag} {mg : Str → Option Value} {base : Heap}
theorem Fun.okX {x qual : Str} {st : Stmt} {f : Addr} {fd : FuncData} {N ps : List Str} {k : Nat} {sp : Sp} (F : Fun K x qual st f fd) (S : FnScope N ps (defScope st)) (len : ∀ vs H Q E, sp vs H Q E → vs.length = ps.length)
   (hbody : ∀ (cdv : Value) (A : Around) (outer : List Env) (s : Shared) (H : Hp) (vs : List V) (Q : VK) (E : XK), Room k (A.deeper (envOfC qual (defScope st) s.heap.objs.size f cdv)) → sp vs H Q E →
     ∃ t, PSs (cxOf (CXW P w) P w K mg base N qual (defScope st) f cdv A outer s H E) (defBody st) t ∧ t { nx := fun _ H' => Q .non H', rt := Q } (start N vs) H) : FnOk P w K mg base (CXW P w) (k + 1) f fd ps sp := by
 obtain ⟨oc, od, kV, doc, pm, an, cdv, ct, osl, rfl, lk, hcd⟩ := F.ex
 exact fn_of lk hcd S len fun A outer s H vs Q E hr hsp => hbody cdv A outer s H vs Q E hr hsp
end
end L2
namespace L2
open PySem PySem.Spec PyProof.Rows PySem.Calls PySem.W PySem.Builtin PySem.Builtin.ObjectAttr PySem.Builtin.Getset_descriptor
section
variable {prog : Program} {w : World} {A : Around} {E : Value → Shared → Prop} {s : Shared} {K : PySem.W.Frag} {x D : Addr}
def ClsAt (h : Heap) (x D : Addr) : Prop := ∃ o, h.get? x = some o ∧ o.cls = .ref D
theorem ClsAt.type {M : Model} {h : Heap} (p : ClsAt h x D) : Looks M h (typeOf (.ref x)) (.ref D) := by
 obtain ⟨o, e, c⟩ := p
 exact c ▸ (Looks.ld e).andThen .now
theorem looks_data {M : Model} {h : Heap} {name : Str} {a g : Value} (X : K.In h) (hf : findIn K (.ref D) name = some (some a)) (hg : specialIn K a "__get__" = some (some g)) (ht : takesIn K a = some true) : Looks M h (find (.ref x) (.ref D) name) (.bind g a) := by
 have l1 := looks_findIn (M := M) X hf
 have l2 : Looks M h (getOf (some a)) (some g) := looks_specialIn X hg
 have l3 := looks_takesIn (M := M) X ht
 refine l1.andThen (l2.andThen ?_)
 have l4 : Looks M h (dataDescriptor? (some a) (some g)) (some (g, a)) := l3.andThen .now
 exact l4.andThen (Looks.tag .now)
structure ExcCls (K : PySem.W.Frag) (D : Addr) : Prop where
 ga : findIn K (.ref D) "__getattribute__" = some (some (.builtin "BaseException.__getattribute__"))
 gk : findIn K (.ref D) "__getattr__" = some none
 cl : (clsIn K D).isSome = true
 ha : findIn K (.ref D) "__class__" = some (some (.builtin "object.__class__"))
 hn : specialIn K (.builtin "object.__class__") "__get__" = some (some (.builtin "getset_descriptor.__get__"))
 tk : takesIn K (.builtin "object.__class__") = some true
 mo : mroIn K D (.type "object") = some true
 mb : mroIn K D (.type "BaseException") = some true
theorem class_get {R : Result → Shared → Prop} (c : ExcCls K D) (X : K.In s.heap) (p : ClsAt s.heap x D) (q : R (.ok (.ret (.ref D))) s) :
   codeAny (model prog w) A (.call (.builtin "getset_descriptor.__get__") ⟨[.builtin "object.__class__", .ref x, .ref D], []⟩) R s := by
 obtain ⟨hh, g, d, t, os⟩ := s
 obtain ⟨o, eo, ec⟩ := id p
 have t0 := p.type (M := model prog w)
 have l1 := looks_mroIn (M := model prog w) X c.mo
 have arg0 := KF.args_gs (Value.builtin "object.__class__") (Value.ref x) (Value.ref D)
 refine codeAny_call_builtin KF.slot_gs.plain KF.entry_gs
   (KF.slot_gs.check _ _ _ _ _ _ _ _ KF.type_class arg0 ?_)
 unfold Builtin.«getset_descriptor.__get__»
   descrGet
 rw [dga_obj]; refine wpAny_bind (wpAny_pure ?_)
 unfold descrGetter descrCheckInstance
   descrNameAndClass isInstance
 simp only [KF.owner_class]; (repeat lk)
 refine ⟨Code.quiet_builtin _
   (by symm), codeAny_builtin KF.entry_class ?_⟩
 unfold Builtin.«object.__class__»
   shownTypeOf
 (repeat lk); exact q
theorem class_call {tk : Tok} {R : Result → Shared → Prop} (c : ExcCls K D) (X : K.In s.heap) (p : ClsAt s.heap x D) (q : R (.ok (.ret (.ref D))) s) :
   codeAny (model prog w) A (.call (.builtin "BaseException.__getattribute__") ⟨[.ref x, .str "__class__" tk], []⟩) R s := by
 obtain ⟨hh, g, d, t, os⟩ := s
 obtain ⟨o, eo, ec⟩ := id p
 have t0 := p.type (M := model prog w)
 have lb := looks_mroIn (M := model prog w) X c.mb
 have f0 := looks_data (x := x) (M := model prog w) X c.ha c.hn c.tk
 have hk : builtinKind "BaseException.__getattribute__" = some .slot := by symm
 have hsplit : splitId "BaseException.__getattribute__" = some ("BaseException", "__getattribute__") := by symm
 have ha := F.args_bexc_ga (.ref x) (.str "__class__" tk)
 refine codeAny_call_builtin F.excAttr_ValueError.ga.plain F.entry_bexc_ga ?_
 simp only [checkBuiltinCall, hk, hsplit]
 unfold isInstance
 refine wpAny_bind ?_
 (repeat (first | (with_reducible refine wpAny_call (class_get c X p ?_)) | lk))
 exact q
theorem class_of {Q : Option Value → Shared → Prop} (c : ExcCls K D) (X : K.In s.heap) (p : ClsAt s.heap x D) (q : Q (some (.ref D)) { s with toks := s.toks + 1 }) : wpAny (model prog w) A (getAttr? (.ref x) "__class__") Q E s := by
 obtain ⟨hh, g, d, t, os⟩ := s
 obtain ⟨o, eo, ec⟩ := id p
 have t0 := p.type (M := model prog w)
 have t1 := looks_findIn (M := model prog w) X c.ga
 have f1 := looks_findIn (M := model prog w) X c.gk
 have f3 := F.excAttr_ValueError.ga.bind (.ref x)
 unfold getAttr? getAttrBy? getAttrBy
 refine wpAny_bind (wpAny_mkText (wpAny_bind (wpAny_attempt (wpAny_holding (wpAny_bind (t0.at (wpAny_bind (t1.at ?_))))))))
 show wpAny _ _ (getAttrByItsOwn _ _ _ _ _ _) _ _ _
 unfold getAttrByItsOwn hookBefore
 refine wpAny_bind (f1.at (wpAny_bind (wpAny_attempt (wpAny_holding ?_))))
 show wpAny _ _ (boundAndCalled _ _ _) _ _ _
 unfold boundAndCalled
 rw [f3]
 refine wpAny_bind (wpAny_pure (wpAny_call ?_))
 refine class_call c (s := ⟨hh, g, d, t + 1, os⟩) X p ?_
 exact wpAny_pure (wpAny_pure q)
theorem kit_exc (c : ExcCls K D) : KitX K (.ref x) (.ref D) (fun h => ClsAt h x D) where
 ty := fun _ _ _ p => p.type
 it := fun _ _ X _ => by
   obtain ⟨cd, e⟩ := Option.isSome_iff_exists.mp c.cl
   unfold clsIn at e
   split at e
   · rename_i c' d' cd' sl' ho
     intro A' Q' E' s' k q
     unfold isType loadHead
     exact wpAny_bind (wpAny_loadPart (k _ _ (X _ _ ho)) (wpAny_pure q))
   · cases e
 ne := fun h tp dd its n sl X htp => by
   obtain ⟨cd, e⟩ := Option.isSome_iff_exists.mp c.cl
   refine Bool.eq_false_iff.mpr fun q => ?_
   have z : D = tp := Value.ref.inj (beq_iff_eq.mp q)
   subst z
   unfold clsIn at e
   split at e
   · rename_i c' d' cd' sl' ho
     have z := (X _ _ ho).symm.trans htp
     cases z
   · cases e
 ca := fun X p k => class_of c X p k
end
def excO (a D : Addr) : HO := .ext fun h => ClsAt h a D
inductive TyE (K : PySem.W.Frag) (H : Hp) : V → Value → Prop where
 | old {x : V} {t : Value} (h : TyOf K H x t) : TyE K H x t
 | exc {a D : Addr} (h : H a = some (excO a D)) (c : ExcCls K D) : TyE K H (.ref a) (.ref D)
 | tpl {a : Addr} {xs : List V} (h : SqT K H a xs) : TyE K H (.ref a) (.type "tuple")
def vVal : V → Value
 | .ref a => .ref a
 | .ty n => .type n
 | _ => .none
def isCls : V → Bool
 | .ref _ => true
 | .ty _ => true
 | _ => false
section
variable {X : Cx} {pins : List (Addr × Obj)} {σ : St} {H : Hp} {s : Shared} {A : Around} {E : Value → Shared → Prop} {Q : Value → Shared → Prop} {c : Value} {b : Bool}
theorem kit_of {x : V} {u t : Value} (I : Inv X pins σ H s) (rx : RelV x u) (ty : TyE X.K H x t) : (∃ P : Heap → Prop, KitX X.K u t P ∧ P s.heap) ∧ u ≠ .builtin "__main__.__loader__#opaque" := by
 cases ty with
 | @tpl a xs h =>
   cases (show u = Value.ref a from rx)
   obtain ⟨its, r, pl, hz⟩ := I.tuple h
   obtain ⟨o, h1, h2, _⟩ := pl
   exact ⟨⟨_, kitx_tuple, ⟨o, h1, h2⟩⟩, fun z => nomatch z⟩
 | old ty =>
   cases ty with
   | non => cases (show u = Value.none from rx); exact ⟨⟨_, kitx_none, True.intro⟩, fun z => nomatch z⟩
   | bl y => cases (show u = Value.bool y from rx); exact ⟨⟨_, kitx_bool, True.intro⟩, fun z => nomatch z⟩
   | int i => obtain ⟨t, q⟩ := (show ∃ t, u = Value.int i t from rx); cases q; exact ⟨⟨_, kitx_int, True.intro⟩, fun z => nomatch z⟩
   | str y => obtain ⟨t, q⟩ := (show ∃ t, u = Value.str y t from rx); cases q; exact ⟨⟨_, kitx_str, True.intro⟩, fun z => nomatch z⟩
   | flt y => obtain ⟨t, q⟩ := (show ∃ t, u = Value.float y t from rx); cases q; exact ⟨⟨_, kitx_float, True.intro⟩, fun z => nomatch z⟩
   | @lst a xs ea =>
     cases (show u = Value.ref a from rx)
     obtain ⟨_, _, n, _, h1⟩ := (show ObjOk X.prog X.w H s.heap a (.lst xs) from I.hok a _ ea)
     exact ⟨⟨_, kitx_list, ⟨_, h1, rfl⟩⟩, fun z => nomatch z⟩
   | @frz a ob xs ea =>
     cases (show u = Value.ref a from rx)
     obtain ⟨_, _, _, n, _, h1⟩ := (show ObjOk X.prog X.w H s.heap a (.frz ob (.lst xs)) from I.hok a _ ea)
     exact ⟨⟨_, kitx_list, ⟨_, h1, rfl⟩⟩, fun z => nomatch z⟩
   | @tup a xs ea =>
     cases (show u = Value.ref a from rx)
     obtain ⟨_, _, _, p⟩ := (show ObjOk X.prog X.w H s.heap a (.tup xs) from I.hok a _ ea)
     obtain ⟨o, h1, h2, _⟩ := p
     exact ⟨⟨_, kitx_tuple, ⟨o, h1, h2⟩⟩, fun z => nomatch z⟩
   | @dK a kvs ea =>
     cases (show u = Value.ref a from rx)
     obtain ⟨_, _, vs, _, p⟩ := (show ObjOk X.prog X.w H s.heap a (.dK kvs) from I.hok a _ ea)
     obtain ⟨o, es, ep, h1, h2, _⟩ := p
     exact ⟨⟨_, kitx_dict, ⟨o, h1, h2.1⟩⟩, fun z => nomatch z⟩
   | @dT a kvs ea =>
     cases (show u = Value.ref a from rx)
     obtain ⟨_, _, xs, _, o, es, ep, h1, h2, _⟩ := (show ObjOk X.prog X.w H s.heap a (.dT kvs) from I.hok a _ ea)
     exact ⟨⟨_, kitx_dict, ⟨o, h1, h2.1⟩⟩, fun z => nomatch z⟩
   | @ins a C dx fs ea cl ha hn htk hm =>
     cases (show u = Value.ref a from rx)
     obtain ⟨mA, O, _⟩ := ins_get I.hok ea
     obtain ⟨od, J, _⟩ := O.look
     exact ⟨⟨_, kitx_own (cl.get _) cl.hd ha hn htk hm, J⟩, fun z => nomatch z⟩
 | @exc a D h c =>
   cases (show u = Value.ref a from rx)
   obtain ⟨p, _⟩ := (show ObjOk X.prog X.w H s.heap a (excO a D) from I.hok a _ h)
   exact ⟨⟨_, kit_exc c, p⟩, fun z => nomatch z⟩
theorem vVal_rel {x : V} {u : Value} (h : isCls x = true) (r : RelV x u) : u = vVal x := by
 cases x with
 | ref a => exact r
 | ty n => exact r
 | _ => cases h
theorem yO : CallR X (.builtin "isinstance") (fun xs H Q => ∃ x y t b, xs = [x, y] ∧ isCls y = true ∧ TyE X.K H x t ∧ PySem.W.kitOne X.K t (vVal y) = some b ∧ Q (.bl b) H) := by
 intro pins s σ H xs us Q I r h
 obtain ⟨x, y, t, b, rfl, hc, ty, e, q⟩ := h
 obtain ⟨u, w', rfl, rx, ry⟩ := vals2 r
 obtain rfl := vVal_rel hc ry
 obtain ⟨⟨P, Z, p⟩, nb⟩ := kit_of I rx ty
 exact kia_one Z I.kIn p e nb fun tk => ⟨.bl b, H, I.tok _, rfl, q⟩
end
end L2
namespace L2
open PySem PySem.Spec PyProof.Rows PySem.Calls PySem.W
theorem own_obj {K : PySem.W.Frag} {h : Heap} {C : Addr} {bmB : List Value} {newId : String} (X : K.In h) (q : excIn K C bmB newId = true) :
   ∃ bm N nm q bs hdct sn sub ab col dd k0 k1 k2 k3 k5 mN, h.get? C = some (excClassObj nm q C N bs bm hdct sn sub ab col dd k0 k1 k2 k3 k5 newId) ∧ h.Ns N mN ∧ mN "__init__" = none ∧ OwnTail h bmB bm := by
 unfold excIn at q
 split at q
 · rename_i dd cl sl ho
   split at q
   · rename_i C' bm k0 k1 k2 k3 n k5 hm hs
     simp only [Bool.and_eq_true, Bool.not_eq_true', beq_iff_eq] at q
     obtain ⟨⟨⟨⟨⟨e1, e2⟩, e3⟩, e4⟩, e5⟩, e6⟩ := q
     subst e1 e2
     obtain ⟨c1, c2, c3, c4, c5, c6, c7, c8, c9, c10, c11⟩ := cl
     dsimp only at hm e3 e5 e6; subst hm e3
     have es : sl = #[k0, k1, k2, k3, some (.builtin n), k5] := by
       cases sl with | mk l => (simp only at hs; rw [hs])
     subst es
     refine ⟨bm, c4, c1, c5, c2, c6, c7, c8, c9, c10, dd, k0, k1, k2, k3, k5, h.nsMap c4, X _ _ ho, ?_, ?_, tail_of_in X e4⟩
     · exact .of_isNs (isNs_of_in X e5)
     · exact nsMap_none_of_in X e5 e6
   · cases q
 · cases q
abbrev mroVE : List Value := [.type "ValueError", .type "Exception", .type "BaseException", .type "object"]
section
variable {P : Program} {w : World} {K : PySem.W.Frag} {mg : Str → Option Value} {base : Heap} {N : List Str} {qual : Str} {scope : Scope} {f : Addr} {cdv : Value} {A : Around} {outer : List Env} {s : Shared} {H : Hp} {E : XK}
def tRaise (E : XK) (C : Addr) (t : TA) : TS := fun _ σ H => t σ H fun vs H1 => vs.length ≤ sizeLine ∧ E (.ref C) none H1
theorem ps_raise {x : Str} {C : Addr} {np cpos pos : Pos} {e₀ : Expr} {rest : List Expr} {t : TA} (hm : mg x = some (.ref C)) (hq : excIn K C mroVE "ValueError.__new__" = true)
   (ha : PA (cxOf (CXW P w) P w K mg base N qual scope f cdv A outer s H E) (e₀ :: rest) t) (hg : Gl (cxOf (CXW P w) P w K mg base N qual scope f cdv A outer s H E) x)
   (he : starEach (e₀ :: rest) (envOfC qual scope s.heap.objs.size f cdv) = (false, eval e₀ (envOfC qual scope s.heap.objs.size f cdv)) :: starEach rest (envOfC qual scope s.heap.objs.size f cdv) := by rfl)
   (hpl : (backTo cpos (starEach rest (envOfC qual scope s.heap.objs.size f cdv))).any (·.1) = false := by rfl) (hd : (x == ("__debug__" : Str)) = false := by decide) :
   PS (cxOf (CXW P w) P w K mg base N qual scope f cdv A outer s H E) (.Raise (some (.Call (.Name x np) (e₀ :: rest) [] cpos)) none pos) (tRaise E C t) := by
 intro pins s1 σ H1 D I h
 obtain ⟨bm, Nn, nm, qn, bs, hdct, sn, sub, ab, col, dd, k0, k1, k2, k3, k5, mN, hC, hN, hni, TL⟩ := own_obj I.ok.mod.kin hq
 have hand : (cxOf (CXW P w) P w K mg base N qual scope f cdv A outer s H E).A.handled = none := I.ok.hd rfl
 refine wpAny_Raise_call_subT (C := C) (nm := nm) (q := qn) (N := Nn) (bs := bs) (bm := bm) (hdct := hdct) (sn := sn) (sub := sub) (ab := ab) (col := col) (dd := dd) (k0 := k0) (k1 := k1) (k2 := k2) (k3 := k3) (k5 := k5)
   F.excBase_ValueError (mN := mN) (TL.hasType F.excBase_ValueError.hasBase) hand ?_ hni (ld_glob I hg hm ⟨rfl, ?_⟩ hd)
 · show (backTo cpos (starEach (e₀ :: rest) (envOfC qual scope s.heap.objs.size f cdv))).any (·.1) = false
   rw [he]; show (false || (backTo cpos (starEach rest (envOfC qual scope s.heap.objs.size f cdv))).any (·.1)) = false
   rw [hpl]; rfl
 · have hA := ha cpos pins s1 σ H1 _ I h
   show wpAny _ _ (evalArgs (.ref C) true (backTo cpos (starEach (e₀ :: rest) (envOfC qual scope s.heap.objs.size f cdv))) []) _ _ _
   have hA' : wpAny (model P w) (cxOf (CXW P w) P w K mg base N qual scope f cdv A outer s H E).A (spliced (backTo cpos (starEach (e₀ :: rest) (envOfC qual scope s.heap.objs.size f cdv)))) _ _ s1 := hA
   rw [he] at hA' ⊢
   refine Calls.evalArgs_plain (thn hA' fun us s2 ⟨vs, H2, I2, r, hl, q⟩ => ⟨rfl, ?_, ?_, ?_, ?_, fun h' e mk => xe_made I2 mk q⟩)
   · show us.length ≤ sizeLine
     rw [← r.length]; exact hl
   · exact I2.bk _ _ hC
   · exact hN.keeps I2.bk
   · exact TL.keeps I2.bk
end
def CXAt (X : Cx) (pins : List (Addr × Obj)) (σ : St) (E : XK) (e : Value) (s' : Shared) : Prop := ∃ H1 s1, Inv X pins σ H1 s1 ∧ CXW X.prog X.w X.stack H1 s1 E e s'
abbrev TEx := St → Hp → VK → XK → Prop
abbrev TSx := Ends → (St → XK) → St → Hp → Prop
def PEx (X : Cx) (e : Expr) (t : TEx) : Prop :=
 ∀ (pins : List (Addr × Obj)) (s : Shared) (σ : St) (H : Hp) (Q : VK) (E : XK), Inv X pins σ H s → t σ H Q E → wpAny (model X.prog X.w) X.A (eval e X.env) (EP X pins σ Q) (CXAt X pins σ E) s
def PSx (X : Cx) (st : Stmt) (t : TSx) : Prop :=
 ∀ (pins : List (Addr × Obj)) (s : Shared) (σ : St) (H : Hp) (D : Ends) (E : St → XK), Inv X pins σ H s → t D E σ H → wpAny (model X.prog X.w) X.A (exec st X.env) (SP X pins D) (fun e s' => ∃ σ', CXAt X pins σ' (E σ') e s') s
def PSsx (X : Cx) (st : List Stmt) (t : TSx) : Prop :=
 ∀ (pins : List (Addr × Obj)) (s : Shared) (σ : St) (H : Hp) (D : Ends) (E : St → XK), Inv X pins σ H s → t D E σ H → wpAny (model X.prog X.w) X.A (execs st X.env) (SP X pins D) (fun e s' => ∃ σ', CXAt X pins σ' (E σ') e s') s
section
variable {X : Cx} {k : Nat} {f C : Addr} {fd : FuncData} {ps : List Str} {sp : Sp} {dvs : List V} {ds : List Value} {x m : Str} {p pos apos : Pos} {e o : Expr} {es : List Expr} {ta : TE} {t : TA}
theorem PA.nox {es : List Expr} {t : TA} (h : PA X.nox es t) (E : Value → Shared → Prop) {pos : Pos} {pins : List (Addr × Obj)} {s : Shared} {σ : St} {H : Hp} {Q : List V → Hp → Prop} (I : Inv X pins σ H s) (q : t σ H Q) :
   wpAny (model X.prog X.w) X.A (spliced (backTo pos (starEach es X.env))) (AP X pins σ Q) E s :=
 wpAny_mono (h pos pins s σ H Q (I.wish _) q) (fun _ _ ⟨vs, H', I', r, q⟩ => ⟨vs, H', I'.unwish, r, q⟩) fun _ _ z => False.elim z
theorem PE.noxE {e : Expr} {t : TE} (h : PE X.nox e t) (E : Value → Shared → Prop) {pins : List (Addr × Obj)} {s : Shared} {σ : St} {H : Hp} {Q : VK} (I : Inv X pins σ H s) (q : t σ H Q) :
   wpAny (model X.prog X.w) X.A (eval e X.env) (EP X pins σ Q) E s :=
 wpAny_mono (h pins s σ H Q (I.wish _) q) (fun _ _ ⟨v, H', I', r, q⟩ => ⟨v, H', I'.unwish, r, q⟩) fun _ _ z => False.elim z
theorem run_fnx {pins : List (Addr × Obj)} {σ : St} {H : Hp} {s : Shared} {Q : VK} {E : XK} {us : List Value} {vs : List V} (F : FnOk X.prog X.w X.K X.mg X.base (CXW X.prog X.w) k f fd ps sp) (hr : Room k X.A) (hb : Binds X.K fd ps ds) (hd : Vals dvs ds)
   (I : Inv X pins σ H s) (r : Vals vs us) (h : sp (vs ++ dvs) H Q E) : wpAny (model X.prog X.w) X.A (call (.ref f) us) (EP X pins σ Q) (CXAt X pins σ E) s := by
 have r2 : Vals (vs ++ dvs) (us ++ ds) := r.append hd
 have hl : (us ++ ds).length = ps.length := by rw [← r2.length]; exact F.len _ _ _ _ h
 refine wpAny_call (codeAny_mono (F.run X.A X.stack s H ⟨us, []⟩ (us ++ ds) (vs ++ dvs) Q E hr I.env0 (hb s us I.kIn hl) r2 h) fun r s' hq => ?_)
 cases r with
 | error e => exact ⟨H, s, I, hq⟩
 | ok fl =>
   cases fl with
   | ret u => exact I.after hq
   | next => exact False.elim hq
   | brk => exact False.elim hq
   | cont => exact False.elim hq
def tCallX (sp : Sp) (dvs : List V) (t : TA) : TEx := fun σ H Q E => t σ H fun vs H1 => sp (vs ++ dvs) H1 Q E
theorem pex_call (F : FnOk X.prog X.w X.K X.mg X.base (CXW X.prog X.w) k f fd ps sp) (hr : Room k X.A) (hg : Gl X x) (hm : X.mg x = some (.ref f)) (hk : PySem.W.keepIn X.K (.ref f) = true) (hb : Binds X.K fd ps ds) (hd : Vals dvs ds)
   (ha : PA X.nox (e :: es) t) (hdb : (x == ("__debug__" : Str)) = false := by decide) (he : starEach (e :: es) X.env = (false, eval e X.env) :: starEach es X.env := by rfl) (hpl : (backTo pos (starEach es X.env)).any (·.1) = false := by rfl) :
   PEx X (.Call (.Name x p) (e :: es) [] pos) (tCallX sp dvs t) := by
 intro pins s σ H Q E I h
 refine wpAny_Call_Name_kw (ld_glob I hg hm ?_ hdb)
 refine PySem.W.callWith_K (h₀ := X.base) I.ok.mod.kin hk (wpAny_mono (ha.nox (CXAt X pins σ E) I h) (fun us s1 ⟨vs, H1, I1, r, q⟩ => ⟨I1.kIn, ?_⟩) fun _ _ z => z) he hpl
 exact run_fnx F hr hb hd I1 r q
def tSetX (i : Nat) (te : TEx) : TSx := fun D E σ H => te σ H (fun v H1 => D.nx (σ.set i (some v)) H1) (E σ)
theorem psx_set {i : Nat} {x : Str} {e : Expr} {te : TEx} {pos' : Pos} (hN : X.N.Nodup) (hi : X.N[i]? = some x) (hx : Loc X.env.scope x) (he : PEx X e te) (hs : swapsWith e (some (.Name x pos')) pos.line X.env = pure false := by rfl)
   (hf : X.fn x = true ∨ X.env.scope.names.lookup x = some .local := by first | exact .inl rfl | exact .inr rfl | assumption) : PSx X (.Assign [.Name x pos'] e pos) (tSetX i te) := by
 intro pins s σ H D E I h
 refine wpAny_Assign_Name (wpAny_mono (he pins s σ H _ _ I h) (fun v s1 ⟨y, H1, I1, r1, q1⟩ => ?_) fun e s' z => ⟨σ, z⟩) hs
 exact store_ok I1 hN hi hx r1 (fun s2 I2 => ⟨_, H1, I2, q1⟩) hf
def tRetX (te : TEx) : TSx := fun D E σ H => te σ H D.rt (E σ)
theorem psx_ret {te : TEx} (he : PEx X e te) : PSx X (.Return (some e) pos) (tRetX te) := by
 intro pins s σ H D E I h
 exact wpAny_Return_some (wpAny_mono (he pins s σ H _ _ I h) (fun v s1 ⟨x, H1, I1, r1, q1⟩ => ⟨x, σ, H1, I1, r1, q1⟩) fun e s' z => ⟨σ, z⟩)
theorem psx_one {st : Stmt} {t : TSx} (h1 : PSx X st t) : PSsx X [st] t := by
 intro pins s σ H D E I h
 refine wpAny_execs_cons (wpAny_mono (h1 pins s σ H D E I h) (fun f s1 q => ?_) fun _ _ z => z)
 cases f with
 | next => exact wpAny_execs_nil q
 | ret v => exact q
 | brk => exact q
 | cont => exact q
def tIfX (c : TT) (t u : TSx) : TSx := fun D E σ H => c σ H fun b H1 => if b = true then t D E σ H1 else u D E σ H1
theorem psx_if {c : Expr} {a b : List Stmt} {tc : TT} {t u : TSx} (hc : PT X.nox c tc) (ha : PSsx X a t) (hb : PSsx X b u) : PSx X (.If c a b pos) (tIfX tc t u) := by
 intro pins s σ H D E I h
 refine wpAny_If (wpAny_mono (hc pins s σ H _ (I.wish _) h) (fun d s1 ⟨H1, I1, q1⟩ => ?_) fun _ _ z => False.elim z)
 cases d with
 | true => exact ha pins s1 σ H1 D E I1.unwish q1
 | false => exact hb pins s1 σ H1 D E I1.unwish q1
end
def hcx (X : Cx) (e : Addr) : Cx := { X with A := X.A.mark (some (.ref e)), calm := false, xe := fun _ _ => False }
theorem hcx_in {X : Cx} {e : Addr} {pins : List (Addr × Obj)} {σ : St} {H : Hp} {s : Shared} (I : Inv X pins σ H s) : Inv (hcx X e) pins σ H s := by
 obtain ⟨ok, os, bare, bs, loc, cell, free, freeC, pin, hok, len⟩ := I
 exact ⟨⟨ok.mod, ok.kind, ok.glob, ok.blt, ok.above, ok.inj, ok.has, ok.cab, fun z => Bool.noConfusion (show false = true from z), ok.frames, ok.stk, ok.exf, ok.bs, ok.bsz, ok.noex, ok.exfs, ok.funs, ok.frf⟩, os, bare, bs, loc, cell, free, freeC, pin, hok, len⟩
theorem hcx_out {X : Cx} {e : Addr} (ok : X.Ok) {pins : List (Addr × Obj)} {σ : St} {H : Hp} {s : Shared} (I : Inv (hcx X e) pins σ H s) : Inv X pins σ H s := by
 obtain ⟨_, os, bare, bs, loc, cell, free, freeC, pin, hok, len⟩ := I
 exact ⟨ok, os, bare, bs, loc, cell, free, freeC, pin, hok, len⟩
theorem hcx_sp {X : Cx} {e : Addr} (ok : X.Ok) {pins : List (Addr × Obj)} {D : Ends} {f : Flow} {s : Shared} (h : SP (hcx X e) pins D f s) : SP X pins D f s := by
 cases f with
 | next => obtain ⟨σ', H', I, q⟩ := h; exact ⟨σ', H', hcx_out ok I, q⟩
 | brk => obtain ⟨σ', H', I, q⟩ := h; exact ⟨σ', H', hcx_out ok I, q⟩
 | cont => obtain ⟨σ', H', I, q⟩ := h; exact ⟨σ', H', hcx_out ok I, q⟩
 | ret u => obtain ⟨v, σ', H', I, r, q⟩ := h; exact ⟨v, σ', H', hcx_out ok I, r, q⟩
section
variable {X : Cx} {body suite : List Stmt} {b₀ : Stmt} {x : Str} {C : Addr} {np hpos pos : Pos} {tb : TSx} {th : TS}
def tTry (K : PySem.W.Frag) (C : Addr) (tb : TSx) (th : TS) : TS := fun D σ H => tb D (fun σ' cls _ H' => PySem.W.exmOne K cls (.ref C) = some true ∧ th D σ' H') σ H
theorem ps_try (hst : X.stack = X.env :: X.outer) (hfr : X.env.frame = some X.env.locals) (hb : PSsx X body tb) (hg : Gl X x) (hm : X.mg x = some (.ref C)) (hh : ∀ ea, PSs (hcx X ea) (b₀ :: suite) th) (hd : (x == ("__debug__" : Str)) = false := by decide) :
   PS X (.Try body [.ExceptHandler (some (.Name x np)) none (b₀ :: suite) hpos] [] [] pos) (tTry X.K C tb th) := by
 intro pins s σ H D I h
 refine wpAny_Try_except (wpAny_mono (hb pins s σ H D _ I h) (fun f s1 q => ?_) fun e s1 q => ?_)
 · cases f with
   | next => exact wpAny_execs_nil q
   | ret v => exact q
   | brk => exact q
   | cont => exact q
 · obtain ⟨σ', H1, s2, I1, ea, t, cls, H', B, rfl, fl, os, bare, hok, xu, hx, q⟩ := q
   rw [hst] at fl
   have back : ∀ (h' : Heap) (tk : Nat), B.StaysIn h' → h'.FunFrames B X.stack → XUn X.stack H1 H' s2.heap B h' → Inv X pins σ' H' { s1 with heap := h', toks := tk } := fun h' tk st fr xu' =>
     I1.call' (ch := []) os (xu'.un st fr) (hok.kept st) bare fun b z => nomatch z
   have fr0 : s1.heap.FunFrames B X.stack := by rw [hst]; exact fl.2.2.1
   refine wpAny_looks_onW (by rw [I.ok.frames, hst]) hfr fl fun h4 held4 up4 => ?_
   have x4 := xu.step fr0 up4
   refine wpAny_landsW held4 fun h5 fl5 up5 => ?_
   have fr4 : h4.FunFrames B X.stack := by rw [hst]; exact held4.2.2.1
   have x5 := x4.step fr4 up5
   have fr5 : h5.FunFrames B X.stack := by rw [hst]; exact fl5.2.2.1
   have I5 : Inv X pins σ' H' { s1 with heap := h5 } := back h5 s1.toks fl5.1 fr5 x5
   obtain ⟨ob, hob, hobc⟩ := fl5.there
   have LT : Looks (model X.prog X.w) h5 (typeOf (.ref ea)) cls := hobc ▸ (Looks.ld hob).andThen .now
   refine wpAny_handleBy_cons (codeAny_handlers_test ?_) (by intro z; cases z)
   have ld := fun Q E q => ld_glob (X := hcx X ea) (pos := np) (Q := Q) (E := E) (hcx_in I5) hg hm q hd
   refine ld _ _ ?_
   refine (exm_one (M := model X.prog X.w) I5.kIn LT hx).here ?_
   refine codeAny_handlers_suite ?_
   refine lands_againW fl5 fun h6 fl6 up6 => ?_
   have x6 := x5.step fr5 up6
   have fr6 : h6.FunFrames B X.stack := by rw [hst]; exact fl6.2.2.1
   have I6 : Inv X pins σ' H' { s1 with heap := h6 } := back h6 s1.toks fl6.1 fr6 x6
   exact wpAny_mono (hh ea pins _ σ' H' D (hcx_in I6) q) (fun f s7 q7 => hcx_sp I.ok q7) fun _ _ z => (show False from z).elim
end
end L2
namespace L2
open PySem PySem.Spec PyProof.Rows PySem.Calls PySem.W
section
variable {X : Cx} {pins : List (Addr × Obj)} {σ : St} {H : Hp} {s : Shared}
theorem Inv.trackN {a : Addr} {o : HO} (I : Inv X pins σ H s) (f0 : H a = none) (old : ∀ b ob, X.s₀.heap.get? b = some ob → b ≠ a) (f1 : X.env.locals ≠ a) (f4 : ∀ x c, X.env.cells.lookup x = some c → c ≠ a) (f5 : ∀ p ∈ X.pn ++ pins, p.1 ≠ a)
   (new : ObjOk X.prog X.w (upd H a o) s.heap a o) : Inv X pins σ (upd H a o) s := by
 refine ⟨I.ok, I.os, I.bare, ⟨I.base.keep, I.base.slot, fun b ob e n hx => ?_, I.base.there, fun b xs e => ?_, fun b ob u e => ?_, fun b ps e => ?_⟩, I.loc, I.cell, ?_, fun x c e => ?_, fun p hp => ?_, fun b u e => ?_, I.len⟩
 · rw [zF (old b ob e)]; exact I.base.free b ob e n hx
 · have q := I.base.tups b xs e; rw [zF (zI q f0)]; exact q
 · have q := I.base.frzs b ob u e; rw [zF (zI q f0)]; exact q
 · obtain ⟨more, q⟩ := I.base.tbls b ps e; exact ⟨more, by rw [zF (zI q f0)]; exact q⟩
 · rw [zF f1]; exact I.free
 · rw [zF (f4 x c e)]; exact I.freeC x c e
 · obtain ⟨e, n, ne, nf, d⟩ := I.pin p hp
   exact ⟨e, by rw [zF (f5 p hp)]; exact n, ne, nf, d⟩
 · by_cases hb : b = a
   · subst hb; rw [zB] at e; cases e; exact new
   · rw [zF hb] at e
     exact (I.hok b u e).stay (fun c v _ q => q) (fun c q => by rw [zF (zI q f0)]; exact q) fun c xs q => by rw [zF (zI q f0)]; exact q
theorem name_gone {M : Model} {A : Around} {E : Value → Shared → Prop} {j : Nat} {n : Str} {pos : Pos} {Q : Unit → Shared → Prop} (I : Inv X pins σ H s) (hN : X.N.Nodup) (hj : X.N[j]? = some n) (hl : X.env.scope.names.lookup n = some .local)
   (h : ∀ s', Inv X pins (σ.set j none) H s' → Q () s') : wpAny M A (do bindName X.env n .none; unbindBehindTheSuite X.env n pos) Q E s := by
 obtain ⟨m, hn, lo⟩ := id I.loc
 have hjσ : j < σ.length := by rw [I.len]; exact (List.getElem?_eq_some_iff.mp hj).1
 refine wpAny_nameGoes_keeps hl hn (by rw [I.ok.kind]; rfl) fun h' v hn' sb => h _ ?_
 have cne := I.cne
 have ltL : ∀ b o, X.s₀.heap.get? b = some o → b ≠ X.env.locals := fun b o e => Nat.ne_of_lt (Nat.lt_of_lt_of_le (Heap.lt_size e) I.ok.above)
 refine ⟨I.ok, I.os, I.bare, ⟨fun b o e n hb hx => ?_, fun b o e n hb hx => ?_, I.base.free, fun b o e hx => ?_, I.base.tups, I.base.frzs, I.base.tbls⟩, ⟨_, hn', fun i y v' e1 e2 e3 => ?_⟩, fun y c e => ?_, I.free, I.freeC, fun p hp => ?_, fun b ob e => ?_, ?_⟩
 · exact (sb.2 b (ltL b o e)).trans (I.base.keep b o e n hb hx)
 · obtain ⟨sl, q⟩ := I.base.slot b o e n hb hx
   exact ⟨sl, (sb.2 b (ltL b o e)).trans q⟩
 · obtain ⟨o', q⟩ := I.base.there b o e hx
   exact ⟨o', (sb.2 b (ltL b o e)).trans q⟩
 · by_cases hij : i = j
   · subst hij
     rw [List.getElem?_set_self hjσ] at e2
     cases e2
   · rw [List.getElem?_set_ne (Ne.symm hij)] at e2
     obtain ⟨u', r', q⟩ := lo i y v' e1 e2 e3
     refine ⟨u', r', ?_⟩
     rcases q with ⟨k, e⟩ | ⟨k, c, e, z⟩
     · refine .inl ⟨k, ?_⟩
       have hy : y ≠ n := fun e => hij (nodup_ix hN e1 (e ▸ hj))
       simp [hy, e]
     · exact .inr ⟨k, c, e, z.sameBut sb (cne y c e)⟩
 · obtain ⟨w', z⟩ := I.cell y c e
   exact ⟨w', z.sameBut sb (cne y c e)⟩
 · obtain ⟨e, n, ne, nf, d⟩ := I.pin p hp
   exact ⟨(sb.2 p.1 ne).trans e, n, ne, nf, d⟩
 · refine (I.hok b ob e).stay (fun c w' hc q => (sb.2 c ?_).trans q) (fun _ q => q) fun _ _ q => q
   rintro rfl
   rcases hc with z | z
   · rw [← z, I.free] at e; cases e
   · rw [I.free] at z; cases z
 · rw [List.length_set]; exact I.len
end
section
variable {X : Cx} {body suite : List Stmt} {b₀ : Stmt} {x n : Str} {C : Addr} {np hpos pos : Pos} {tb : TSx} {th : TS} {j : Nat}
def endsAs (D : Ends) (j : Nat) : Ends := { nx := fun σ H => D.nx (σ.set j none) H, rt := D.rt, bk := fun σ H => D.bk (σ.set j none) H, ct := fun σ H => D.ct (σ.set j none) H }
def tTryAs (K : PySem.W.Frag) (C : Addr) (j : Nat) (tb : TSx) (th : TS) : TS := fun D σ H => tb D (fun σ' cls _ H' => ∃ G : Addr, cls = .ref G ∧ PySem.W.exmOne K cls (.ref C) = some true ∧ ∀ ea, H' ea = none → th (endsAs D j) (σ'.set j (some (.ref ea))) (upd H' ea (excO ea G))) σ H
theorem ps_tryAs (hN : X.N.Nodup) (hj : X.N[j]? = some n) (hl : X.env.scope.names.lookup n = some .local) (hex : X.ex = []) (hst : X.stack = X.env :: X.outer) (hfr : X.env.frame = some X.env.locals) (hb : PSsx X body tb) (hg : Gl X x) (hm : X.mg x = some (.ref C))
   (hh : ∀ ea, PSs (hcx X ea) (b₀ :: suite) th) (hd : (x == ("__debug__" : Str)) = false := by decide) :
   PS X (.Try body [.ExceptHandler (some (.Name x np)) (some n) (b₀ :: suite) hpos] [] [] pos) (tTryAs X.K C j tb th) := by
 intro pins s σ H D I h
 refine wpAny_Try_except (wpAny_mono (hb pins s σ H D _ I h) (fun f s1 q => ?_) fun e s1 q => ?_)
 · cases f with
   | next => exact wpAny_execs_nil q
   | ret v => exact q
   | brk => exact q
   | cont => exact q
 · obtain ⟨σ', H1, s2, I1, ea, t, cls, H', B, rfl, fl, os, bare, hok, xu, G, rfl, hx, q⟩ := q
   rw [hst] at fl
   have back : ∀ (h' : Heap) (tk : Nat), B.StaysIn h' → h'.FunFrames B X.stack → XUn X.stack H1 H' s2.heap B h' → Inv X pins σ' H' { s1 with heap := h', toks := tk } := fun h' tk st fr xu' =>
     I1.call' (ch := []) os (xu'.un st fr) (hok.kept st) bare fun b z => nomatch z
   have fr0 : s1.heap.FunFrames B X.stack := by rw [hst]; exact fl.2.2.1
   refine wpAny_looks_onW (by rw [I.ok.frames, hst]) hfr fl fun h4 held4 up4 => ?_
   have x4 := xu.step fr0 up4
   refine wpAny_landsW held4 fun h5 fl5 up5 => ?_
   have fr4 : h4.FunFrames B X.stack := by rw [hst]; exact held4.2.2.1
   have x5 := x4.step fr4 up5
   have fr5 : h5.FunFrames B X.stack := by rw [hst]; exact fl5.2.2.1
   have I5 : Inv X pins σ' H' { s1 with heap := h5 } := back h5 s1.toks fl5.1 fr5 x5
   obtain ⟨ob, hob, hobc⟩ := fl5.there
   have LT : Looks (model X.prog X.w) h5 (typeOf (.ref ea)) (.ref G) := hobc ▸ (Looks.ld hob).andThen .now
   refine wpAny_handleBy_cons (codeAny_handlers_test ?_) (by intro z; cases z)
   have ld := fun Q E q => ld_glob (X := hcx X ea) (pos := np) (Q := Q) (E := E) (hcx_in I5) hg hm q hd
   refine ld _ _ ?_
   refine (exm_one (M := model X.prog X.w) I5.kIn LT hx).here ?_
   refine codeAny_handlers_suite_as ?_
   refine lands_againW fl5 fun h6 fl6 up6 => ?_
   have x6 := x5.step fr5 up6
   have fr6 : h6.FunFrames B X.stack := by rw [hst]; exact fl6.2.2.1
   have I6 : Inv X pins σ' H' { s1 with heap := h6 } := back h6 s1.toks fl6.1 fr6 x6
   obtain ⟨oe, vs, eoe, coe, doe, _⟩ := fl6.first
   have nee : ∀ b o, s2.heap.get? b = some o → b ≠ ea := fun b o e z => by
     subst z
     by_cases hbf : b ∈ frs X.stack
     · obtain ⟨_, o', ho', hd'⟩ := fr6.mem hbf
       rw [eoe] at ho'; cases ho'
       exact hd' vs doe
     · obtain ⟨o', q'⟩ := xu.thereB b o e hbf
       rw [fl6.2.1] at q'; cases q'
   have fe : H' ea = none := by
     cases z : H' ea with
     | none => rfl
     | some u =>
       have lt := hok ea u z
       exact absurd lt fun lt => by
         have q' : ∃ o, B.get? ea = some o := by
           cases u with
           | lst xs => obtain ⟨_, _, _, _, e⟩ := lt; exact ⟨_, e⟩
           | tup xs => obtain ⟨_, _, _, o, e, _⟩ := lt; exact ⟨_, e⟩
           | dK kvs => obtain ⟨_, _, _, _, o, _, _, e, _⟩ := lt; exact ⟨_, e⟩
           | dT kvs => obtain ⟨_, _, _, _, o, _, _, e, _⟩ := lt; exact ⟨_, e⟩
           | set S n => obtain ⟨o, _, _, _, e, _⟩ := lt; exact ⟨_, e⟩
           | ins C dx fs => obtain ⟨_, _, _, e, _⟩ := lt; exact ⟨_, e⟩
           | own y => exact lt
           | xd fs => obtain ⟨_, ⟨o, _, _, e, _⟩, _⟩ := lt; exact ⟨_, e⟩
           | rng lo hi => obtain ⟨_, _, _, e⟩ := lt; exact ⟨_, e⟩
           | frz o u => exact ⟨_, lt.1⟩
           | tbl ps => exact ⟨_, lt⟩
           | met f y => exact ⟨_, lt⟩
           | ext φ => exact lt.2.1
         obtain ⟨o, q'⟩ := q'
         rw [fl6.2.1] at q'; cases q'
   have I7 : Inv X pins σ' (upd H' ea (excO ea G)) { s1 with heap := h6 } := by
     refine I6.trackN fe (fun b ob' e z => ?_) (fun z => ?_) (fun y c e z => ?_) (fun p hp z => ?_) ⟨⟨oe, eoe, coe⟩, ⟨oe, eoe⟩, fun h1 h2 ⟨o, e, c⟩ k => ⟨o, k o e, c⟩⟩
     · obtain ⟨o', e'⟩ := I1.base.there b ob' e (by rw [hex]; exact fun z => nomatch z)
       exact nee b o' e' z
     · obtain ⟨m, ⟨o, _, _, e, _⟩, _⟩ := I1.loc
       exact nee _ o e z
     · obtain ⟨v, o, e', _⟩ := I1.cell y c e
       exact nee c o e' z
     · exact nee p.1 p.2 (I1.pin p hp).1 z
   refine store_ok (X := hcx X ea) (v := .ref ea) (hcx_in I7) hN hj (.inl hl) rfl (fun s8 I8 => ?_) (.inr hl)
   refine wpAny_mono (hh ea pins s8 _ _ (endsAs D j) I8 (q ea fe)) (fun f s9 q9 => ?_) fun _ _ z => (show False from z).elim
   have q9 := hcx_sp I.ok q9
   cases f with
   | next => obtain ⟨σ9, H9, I9, q9⟩ := q9; exact name_gone I9 hN hj hl fun s' I' => ⟨_, H9, I', q9⟩
   | brk => obtain ⟨σ9, H9, I9, q9⟩ := q9; exact name_gone I9 hN hj hl fun s' I' => ⟨_, H9, I', q9⟩
   | cont => obtain ⟨σ9, H9, I9, q9⟩ := q9; exact name_gone I9 hN hj hl fun s' I' => ⟨_, H9, I', q9⟩
   | ret u => obtain ⟨v, σ9, H9, I9, r9, q9⟩ := q9; exact name_gone I9 hN hj hl fun s' I' => ⟨v, _, H9, I', r9, q9⟩
end
end L2
namespace L2
open PySem PySem.Spec PyProof.Rows PySem.Calls
section
variable {X : Cx}
theorem mt_startswith : MtM X "str.startswith" (fun x vs H Q => ∃ z y, x = .str z ∧ vs = [.str y] ∧ Q (.bl (Txt.startswith z y)) H) := by
 intro pins s σ H x vs v us Q I rx rv h
 obtain ⟨z, y, rfl, rfl, q⟩ := h
 obtain ⟨t, rfl⟩ := rx
 obtain ⟨u, rfl, t', rfl⟩ := rv.one
 exact SC.startswith ⟨.bl _, H, I, rfl, q⟩
theorem mt_find : MtM X "str.find" (fun x vs H Q => ∃ z y, x = .str z ∧ vs = [.str y] ∧ Q (.int (Txt.find z y)) H) := by
 intro pins s σ H x vs v us Q I rx rv h
 obtain ⟨z, y, rfl, rfl, q⟩ := h
 obtain ⟨t, rfl⟩ := rx
 obtain ⟨u, rfl, t', rfl⟩ := rv.one
 exact SC.find ⟨.int _, H, I.tok _, ⟨_, rfl⟩, q⟩
theorem mt_strip : MtM X "str.strip" (fun x vs H Q => ∃ z y, x = .str z ∧ vs = [.str y] ∧ z.length ≤ sizeLine ∧ Q (.str (Txt.stripChars z y)) H) := by
 intro pins s σ H x vs v us Q I rx rv h
 obtain ⟨z, y, rfl, rfl, hz, q⟩ := h
 obtain ⟨t, rfl⟩ := rx
 obtain ⟨u, rfl, t', rfl⟩ := rv.one
 exact SC.stripChars (fun t' k => ⟨.str _, H, I.tok _, ⟨_, rfl⟩, q⟩) hz
theorem pe_fstrR {c : Str} {j : Nat} {e : Expr} {te : TE} {p1 p2 pos : Pos} (he : PE X e te) (hc : c.length ≤ 1000 := by symm) :
   PE X (.JoinedStr [.Constant (.str c) j p1, .FormattedValue e 114 none p2] pos) (fun σ H Q => te σ H fun x H1 => ∃ z, x = .str z ∧ z.length ≤ 100000 ∧ (∀ k ∈ cd z, k < 1000) ∧ ∀ y, Q (.str y) H1) := by
 intro pins s σ H Q I h
 have l0 : (Str.empty ++ c).length = c.length := by rw [strLen_append]; exact Nat.zero_add _
 refine JoinedStr_many (joinParts_cons (Calls.Constant_str ⟨?_, ?_⟩))
 · rw [l0, sizeLine_eq]; omega
 · refine joinParts_cons (wpAny_FormattedValue_repr (thn (he pins _ σ H _ (I.tok _) h) fun v s1 ⟨x, H1, I1, r, z, ex, hz, hk, q⟩ => ?_))
   subst ex
   obtain ⟨t, rfl⟩ := r
   have hl : (reprText z).length ≤ 1000002 := Nat.le_trans (StrLaws.reprText_len z fun c hc => Nat.lt_of_lt_of_le (hk c hc) (by decide)) (by omega)
   refine wpAny_pyReprObj_str (formatField_str (fun t' tk => ⟨?_, joinParts_nil ⟨.str _, H1, I1.tok _, ⟨_, rfl⟩, q _⟩ ?_⟩) ?_) ?_
   · rw [strLen_append, l0, sizeLine_eq]; omega
   · rw [strLen_append, l0, sizeLine_eq]; omega
   · rw [sizeLine_eq]; omega
   · rw [sizeLine_eq]; omega
end
end L2
namespace L2
open PySem PySem.Spec PyProof.Rows PySem.Calls
structure FunD (K : PySem.W.Frag) (x qual : Str) (st : Stmt) (ds : List Value) (f : Addr) (fd : FuncData) : Prop where
 ex : ∃ (T : Addr) (oc : Value) (od : Option Addr) (kV doc pm : Value) (an : Option Addr) (cdv ct : Value) (osl : Array (Option Value)) (to : Obj) (n : Nat),
   fd = PySem.W.fnOf x qual (defArgs st) (defBody st) (defScope st) (.ref T) kV doc pm an cdv ct ∧ K.lookup f = some ⟨oc, od, .func fd, osl⟩ ∧ PySem.W.codeIn K cdv qual = true ∧ K.lookup T = some to ∧ to.cls = .type "tuple" ∧ to.data = .seq ds.toArray n
 kp : PySem.W.keepIn K (.ref f) = true
section
variable {P : Program} {w : World} {K : PySem.W.Frag} {mg : Str → Option Value} {base : Heap} {x qual : Str} {st : Stmt} {f : Addr} {fd : FuncData} {N ps : List Str} {k : Nat} {sp : Sp} {ds : List Value}
theorem FunD.okX (F : FunD K x qual st ds f fd) (S : FnScope N ps (defScope st)) (len : ∀ vs H Q E, sp vs H Q E → vs.length = ps.length)
   (hbody : ∀ (cdv : Value) (A : Around) (outer : List Env) (s : Shared) (H : Hp) (vs : List V) (Q : VK) (E : XK), Room k (A.deeper (envOfC qual (defScope st) s.heap.objs.size f cdv)) → sp vs H Q E →
     ∃ t, PSs (cxOf (CXW P w) P w K mg base N qual (defScope st) f cdv A outer s H E) (defBody st) t ∧ t { nx := fun _ H' => Q .non H', rt := Q } (start N vs) H) : FnOk P w K mg base (CXW P w) (k + 1) f fd ps sp := by
 obtain ⟨T, oc, od, kV, doc, pm, an, cdv, ct, osl, to, n, rfl, lk, hcd, _⟩ := F.ex
 exact fn_of lk hcd S len fun A outer s H vs Q E hr hsp => hbody cdv A outer s H vs Q E hr hsp
theorem FunD.ok (F : FunD K x qual st ds f fd) (S : FnScope N ps (defScope st)) (len : ∀ vs H Q E, sp vs H Q E → vs.length = ps.length)
   (hbody : ∀ (cdv : Value) (A : Around) (outer : List Env) (s : Shared) (H : Hp) (vs : List V) (Q : VK) (E : XK), Room k (A.deeper (envOfC qual (defScope st) s.heap.objs.size f cdv)) → sp vs H Q E →
     ∃ t, PSs (cxOf CX0 P w K mg base N qual (defScope st) f cdv A outer s H E).nox (defBody st) t ∧ t { nx := fun _ H' => Q .non H', rt := Q } (start N vs) H) : FnOk P w K mg base CX0 (k + 1) f fd ps sp := by
 obtain ⟨T, oc, od, kV, doc, pm, an, cdv, ct, osl, to, n, rfl, lk, hcd, _⟩ := F.ex
 refine fn_of lk hcd S len fun A outer s H vs Q E hr hsp => ?_
 obtain ⟨t, h, q⟩ := hbody cdv A outer s H vs Q E hr hsp
 exact ⟨t, h.nox, q⟩
theorem FunD.binds {es : List Value} (F : FunD K x qual st ds f fd)
   (h : ∀ (T : Addr) (kV doc pm : Value) (an : Option Addr) (cdv ct : Value) (us : List Value) (M : Model) (A : Around) (E : Value → Shared → Prop) (Q : List (Str × Value) → Shared → Prop) (s : Shared) (to : Obj) (n : Nat), s.heap.get? T = some to → to.cls = .type "tuple" → to.data = .seq ds.toArray n →
     (us ++ es).length = ps.length → Q (ps.zip (us ++ es)) s → wpAny M A (bindArgs (PySem.W.fnOf x qual (defArgs st) (defBody st) (defScope st) (.ref T) kV doc pm an cdv ct) ⟨us, []⟩) Q E s) : Binds K fd ps es := by
 obtain ⟨T, oc, od, kV, doc, pm, an, cdv, ct, osl, to, n, rfl, lk, hcd, lt, tc, td⟩ := F.ex
 intro s us X hl M A E Q q
 exact h T kV doc pm an cdv ct us M A E Q s to n (X _ _ lt) tc td hl q
end
section
variable {K : PySem.W.Frag} {C D : Addr} {cd : ClassData} {r b : Bool} {T : String}
theorem kit_self : PySem.W.kitOne K (.ref D) (.ref D) = some true := by unfold PySem.W.kitOne; rw [if_pos (beq_self_eq_true _)]
theorem kitCls_ref (h1 : PySem.W.clsIn K C = some cd) (h2 : PySem.W.typeIn K (.ref C) = some (.type "type")) (h3 : PySem.W.mroIn K D (.ref C) = some r) : PySem.W.kitCls K (.ref D) (.ref C) = some r := by
 show (if ((PySem.W.clsIn K C).isSome && PySem.W.typeIn K (.ref C) == some (.type "type")) = true then PySem.W.mroIn K D (.ref C) else none) = some r
 rw [h1, h2, h3]; rfl
theorem xL (h1 : PySem.W.clsIn K C = some cd) (h2 : PySem.W.typeIn K (.ref C) = some (.type "type")) (h3 : PySem.W.mroIn K D (.ref C) = some r) (hne : (Value.ref D == Value.ref C) = false) : PySem.W.kitOne K (.ref D) (.ref C) = some r := by
 unfold PySem.W.kitOne
 rw [if_neg (by rw [hne]; decide)]
 exact kitCls_ref h1 h2 h3
theorem kit_rty (hm : PySem.W.kitMeta T = true) (h3 : PySem.W.mroIn K D (.type T) = some r) : PySem.W.kitOne K (.ref D) (.type T) = some r := by
 unfold PySem.W.kitOne
 rw [if_neg (by intro z; cases beq_iff_eq.mp z)]
 show (if PySem.W.kitMeta T = true then PySem.W.mroIn K D (.type T) else none) = some r
 rw [if_pos hm]; exact h3
theorem exm_ref (h0 : PySem.W.subIn K (.ref C) (.type "BaseException") = some true) (h1 : PySem.W.clsIn K C = some cd) (h2 : PySem.W.typeIn K (.ref C) = some (.type "type")) (h3 : PySem.W.mroIn K D (.ref C) = some r) : PySem.W.exmOne K (.ref D) (.ref C) = some r := by
 unfold PySem.W.exmOne
 rw [h0, if_pos (by rfl)]
 exact kitCls_ref h1 h2 h3
theorem excCls_mk (ga : PySem.W.findIn K (.ref D) "__getattribute__" = some (some (.builtin "BaseException.__getattribute__"))) (gk : PySem.W.findIn K (.ref D) "__getattr__" = some none) (cl : PySem.W.clsIn K D = some cd) (ha : PySem.W.findIn K (.ref D) "__class__" = some (some (.builtin "object.__class__")))
   (hn : PySem.W.specialIn K (.builtin "object.__class__") "__get__" = some (some (.builtin "getset_descriptor.__get__"))) (tk : PySem.W.takesIn K (.builtin "object.__class__") = some true) (mo : PySem.W.mroIn K D (.type "object") = some true) (mb : PySem.W.mroIn K D (.type "BaseException") = some true) : ExcCls K D :=
 ⟨ga, gk, by rw [cl]; rfl, ha, hn, tk, mo, mb⟩
theorem app_len {α : Type} {us ds : List α} {n m : Nat} (h : (us ++ ds).length = n) (hm : ds.length + m = n) : us.length = m := by rw [List.length_append] at h; omega
theorem funD_mk {x qual : Str} {st : Stmt} {f T : Addr} {oc : Value} {od an dd : Option Addr} {osl dsl : Array (Option Value)} {kV doc pm cdv ct : Value} {ds : List Value} {n : Nat} (l : K.lookup f = some ⟨oc, od, .func (PySem.W.fnOf x qual (defArgs st) (defBody st) (defScope st) (.ref T) kV doc pm an cdv ct), osl⟩)
   (c : PySem.W.codeIn K cdv qual = true) (k : PySem.W.keepIn K (.ref f) = true) (lt : K.lookup T = some ⟨.type "tuple", dd, .seq ds.toArray n, dsl⟩) : FunD K x qual st ds f (PySem.W.fnOf x qual (defArgs st) (defBody st) (defScope st) (.ref T) kV doc pm an cdv ct) :=
 ⟨⟨T, oc, od, kV, doc, pm, an, cdv, ct, osl, _, n, rfl, l, c, lt, rfl, rfl⟩, k⟩
end
end L2
namespace L2
theorem Bt.ValueError : PySem.bootBuiltins "ValueError" = some (.type "ValueError") := PyProof.Rows.Boot.«ValueError»
open PySem PySem.Spec PyProof.Rows
def FIG : Str := "0123456789"
def inF (c : Nat) : Bool := !(Builtin.Str.occurrences FIG (S [c]) 0 FIG.length 1).isEmpty
theorem inF_iff (c : Nat) : inF c = true ↔ 48 ≤ c ∧ c ≤ 57 := by
 have h : inF c = decide (c ∈ FIG.cps.toList) := StrLaws.found_one FIG c
 have e : FIG.cps.toList = [48, 49, 50, 51, 52, 53, 54, 55, 56, 57] := by symm
 rw [h, e, decide_eq_true_iff]
 simp only [List.mem_cons, List.not_mem_nil, or_false]
 omega
theorem occF {c : Nat} (h : inF c = true) : Builtin.Str.occurrences FIG (S [c]) 0 FIG.length 1 = [c - 48] := by
 obtain ⟨h1, h2⟩ := (inF_iff c).mp h
 have : c = 48 ∨ c = 49 ∨ c = 50 ∨ c = 51 ∨ c = 52 ∨ c = 53 ∨ c = 54 ∨ c = 55 ∨ c = 56 ∨ c = 57 := by omega
 rcases this with e | e | e | e | e | e | e | e | e | e <;> (subst e; decide +kernel)
theorem findF {c : Nat} (h : inF c = true) : Txt.find FIG (S [c]) = ((c - 48 : Nat) : Int) := by
 unfold Txt.find
 rw [occF h]
def val (l : List Nat) : Int := l.foldl (fun a c => a * 10 + ((c - 48 : Nat) : Int)) 0
theorem val_snoc (l : List Nat) (c : Nat) : val (l ++ [c]) = val l * 10 + ((c - 48 : Nat) : Int) := by unfold val; rw [List.foldl_append]; rfl
theorem val_take {l : List Nat} {i c : Nat} (h : l[i]? = some c) : val (l.take (i + 1)) = val (l.take i) * 10 + ((c - 48 : Nat) : Int) := by
 rw [List.take_succ, h]; exact val_snoc _ _
theorem val_bound : ∀ (n : Nat) (l : List Nat), l.length = n → l.all inF = true → 0 ≤ val l ∧ val l < 10 ^ n
 | 0, l, e, _ => by rw [List.eq_nil_of_length_eq_zero e]; exact ⟨by decide, by decide⟩
 | n + 1, l, e, h => by
   have hne : l ≠ [] := fun z => by rw [z] at e; cases e
   have el : l = l.dropLast ++ [l.getLast hne] := (List.dropLast_concat_getLast hne).symm
   rw [el, List.all_append, Bool.and_eq_true] at h
   obtain ⟨i1, i2⟩ := val_bound n l.dropLast (by rw [List.length_dropLast]; omega) h.1
   have hc := (inF_iff (l.getLast hne)).mp (by simpa using h.2)
   rw [el, val_snoc, Int.pow_succ]
   exact ⟨by omega, by omega⟩
theorem pow10_ib {x : Int} {n : Nat} (h0 : 0 ≤ x) (h : x < 10 ^ n) : ib x ≤ 4 * n := by
 refine ib_big ?_
 have h1 : (10 : Int) ^ n ≤ 16 ^ n := by
   have : (10 : Nat) ^ n ≤ 16 ^ n := Nat.pow_le_pow_left (by decide) n
   exact_mod_cast this
 have h2 : ((2 : Nat) ^ (4 * n)) = 16 ^ n := by rw [Nat.pow_mul]
 rw [h2]
 have h3 : x < ((16 ^ n : Nat) : Int) := by
   have e : ((16 ^ n : Nat) : Int) = (16 : Int) ^ n := by push_cast; rfl
   rw [e]; omega
 omega
theorem cutFrom (l : List Nat) (k : Nat) : cutN l (some (k : Int)) none = l.drop k := by
 unfold cutN
 have e1 : HT.sIx l.length 0 (some (k : Int)) = min k l.length := HT.sIx_nat l.length 0 k
 have e2 : HT.sIx l.length l.length none = l.length := rfl
 rw [e1, e2]
 by_cases h : k ≤ l.length
 · rw [Nat.min_eq_left h, List.take_of_length_le (by rw [List.length_drop]; exact Nat.le_refl _)]
 · rw [Nat.min_eq_right (by omega), List.drop_length, List.drop_eq_nil_of_le (by omega), List.take_nil]
theorem starts1 (z : Str) (k : Nat) : Txt.startswith z (S [k]) = decide ((cd z).take 1 = [k]) := by
 unfold Txt.startswith Builtin.Str.subAt
 have hl : (S [k]).length = 1 := rfl
 rw [hl]
 have hz : z.length = (cd z).length := yX z
 have e : z = S (cd z) := (S_cd z).symm
 cases h : cd z with
 | nil =>
   rw [hz, h]
   simp
 | cons c r =>
   rw [hz, h]
   have ex : z.cps.extract 0 (0 + 1) = #[c] := by
     apply Array.ext'
     rw [Array.toList_extract]
     have : z.cps.toList = c :: r := h
     rw [this]; rfl
   rw [ex]
   have e1 : decide (0 + 1 ≤ (c :: r).length) = true := decide_eq_true (by rw [List.length_cons]; omega)
   have e2 : (c :: r).take 1 = [c] := rfl
   rw [e1, e2, Bool.true_and]
   by_cases hk : c = k
   · subst hk
     rw [decide_eq_true rfl]
     show (#[c] == #[c]) = true
     exact beq_self_eq_true _
   · have e3 : ([c] = [k]) = False := by
       rw [eq_iff_iff]; exact ⟨fun h => hk (List.cons.inj h).1, False.elim⟩
     rw [decide_eq_false (by rw [e3]; exact not_false)]
     show (#[c] == #[k]) = false
     rw [beq_eq_false_iff_ne]
     intro h
     exact hk (List.cons.inj (congrArg Array.toList h)).1
theorem dec_cd (x y : Str) : decide (V.str x = V.str y) = decide (cd x = cd y) := by
 rw [Bool.eq_iff_iff, decide_eq_true_iff, decide_eq_true_iff]
 exact ⟨fun h => congrArg cd (V.str.inj h), fun h => congrArg V.str (cd_inj h)⟩
def fig (l : List Nat) : List Nat := if l.take 1 = [45] then l.drop 1 else l
def numB (l : List Nat) (most : Int) : Option Int :=
 if (fig l).length < 1 ∨ most < (fig l).length ∨ ((fig l).take 1 = [48] ∧ l ≠ [48]) ∨ (fig l).all inF = false then none
 else some (if l.take 1 = [45] then - val (fig l) else val (fig l))
def figB (l : List Nat) : Bool := decide (0 < l.length) && l.all inF
theorem figB_iff (l : List Nat) : figB l = true ↔ 0 < l.length ∧ l.all inF = true := by unfold figB; rw [Bool.and_eq_true, decide_eq_true_iff]
theorem numB_no1 {l : List Nat} {m : Int} (h : figB (fig l) = false) : numB l m = none := by
 unfold numB
 rw [if_pos]
 by_cases h1 : (fig l).length < 1
 · exact .inl h1
 · refine .inr (.inr (.inr ?_))
   cases e : (fig l).all inF with
   | false => rfl
   | true => exact absurd ((figB_iff _).mpr ⟨by omega, e⟩) (by rw [h]; decide)
theorem numB_no2 {l : List Nat} {m : Int} (h : (fig l).take 1 = [48]) (h2 : l ≠ [48]) : numB l m = none := if_pos (.inr (.inr (.inl ⟨h, h2⟩)))
theorem numB_no3 {l : List Nat} {m : Int} (h : m < (fig l).length) : numB l m = none := if_pos (.inr (.inl h))
theorem numB_yes {l : List Nat} {m : Int} (h1 : figB (fig l) = true) (h2 : ¬ (fig l).take 1 = [48]) (h3 : ¬ m < (fig l).length) : numB l m = some (if l.take 1 = [45] then - val (fig l) else val (fig l)) := by
 unfold numB
 rw [if_neg]
 obtain ⟨a, b⟩ := (figB_iff _).mp h1
 intro h
 rcases h with h | h | h | h
 · omega
 · exact h3 h
 · exact h2 h.1
 · rw [b] at h; cases h
theorem numB_zero {most : Int} (h : 1 ≤ most) : numB [48] most = some 0 := by
 unfold numB
 have e1 : fig [48] = [48] := by decide
 rw [e1, if_neg]
 · decide
 · intro h
   rcases h with h | h | h | h
   · exact absurd h (by decide)
   · simp only [List.length_cons, List.length_nil] at h; omega
   · exact absurd rfl h.2
   · exact absurd h (by symm)
theorem take1_at {l : List Nat} (h : 1 ≤ l.length) : ∃ c, atI l 0 = some c ∧ l.take 1 = [c] := by
 cases l with
 | nil => cases h
 | cons c r => exact ⟨c, zX (j := 0) rfl, rfl⟩
structure Fine (n : Nat) (z : Str) : Prop where
 len : z.length ≤ n
 cod : ∀ c ∈ cd z, c < 1000
theorem Fine.mono {n m : Nat} {z : Str} (h : Fine n z) (l : n ≤ m) : Fine m z := ⟨Nat.le_trans h.len l, h.cod⟩
theorem Fine.app {n m : Nat} {x y : Str} (h : Fine n x) (k : Fine m y) : Fine (n + m) (x ++ y) := by
 refine ⟨?_, fun c hc => ?_⟩
 · rw [yX, cd_app, List.length_append, ← yX, ← yX]; have := h.len; have := k.len; omega
 · rw [cd_app] at hc
   rcases List.mem_append.mp hc with e | e
   · exact h.cod c e
   · exact k.cod c e
theorem Fine.cut {n : Nat} {z : Str} (h : Fine n z) (lo hi : Option Int) : Fine n (S (cutN (cd z) lo hi)) := by
 refine ⟨?_, fun c hc => ?_⟩
 · rw [xQ]; unfold cutN; rw [List.length_take, List.length_drop, ← yX]; have := h.len; omega
 · rw [cd_S] at hc; exact h.cod c (List.mem_of_mem_drop (List.mem_of_mem_take hc))
theorem Fine.size {n : Nat} {z : Str} (h : Fine n z) (hn : n ≤ 100000 := by decide) : z.length ≤ sizeLine := by rw [sizeLine_eq]; have := h.len; omega
theorem Fine.int {i : Int} {k : Nat} (hk : 0 < k) (h : i.natAbs < 10 ^ k) : Fine (k + 1) (toString i) := by
 refine ⟨?_, fun c hc => ?_⟩
 · rw [show ((toString i : String) : Str).length = (toString i).length from PySem.ofString_length _]
   exact int_text_length_le10 hk h
 · rcases Nat.lt_or_ge c 1000 with z | z
   · exact z
   · exact absurd hc (int_text_free' c ⟨by omega, by omega⟩ i)
end L2
namespace L2
open PySem PySem.Spec PyProof.Rows PySem.Calls
structure EqJ (X : Cx) (H : Hp) (n : Nat) (x y : V) (b : Bool) : Prop where
 rc : ∀ (pins : List (Addr × Obj)) (s : Shared) (σ : St) (u v : Value) (A : Around), Inv X pins σ H s → RelV x u → RelV y v → A.units + n < cLine → SeqAt.RcAt A s u v b
 ne : ∀ (pins : List (Addr × Obj)) (s : Shared) (σ : St) (u v : Value) (A : Around), Inv X pins σ H s → RelV x u → RelV y v → A.units + n < cLine → SeqAt.RcNeAt A s u v (!b)
def EqJi (X : Cx) (H : Hp) (n : Nat) (x y : V) (b : Bool) : Prop :=
 ∀ (pins : List (Addr × Obj)) (s : Shared) (σ : St) (u v : Value) (A : Around), Inv X pins σ H s → RelV x u → RelV y v → A.units + n < cLine → SeqAt.EqAt A s u v b
section
variable {X : Cx} {H : Hp} {n : Nat} {x y : V} {b : Bool} {p q : Addr} {xs ys : List V}
theorem eqi_flat (fx : flatV x = true) (fy : flatV y = true) : EqJi X H n x y (eqV x y) := fun _ _ _ _ _ _ _ rx ry _ => eqAt_V rx ry fx fy
theorem eqi_same : EqJi X H n (.ref p) (.ref p) true := fun _ _ _ _ _ _ _ rx ry _ => by cases rx; cases ry; exact SeqAt.EqAt.same _
theorem eqi_refs (hn : p ≠ q) (h : EqJ X H n (.ref p) (.ref q) b) : EqJi X H n (.ref p) (.ref q) b := fun pins s σ u v A I rx ry hu => by
 have r := h.rc pins s σ u v A I rx ry hu
 cases rx; cases ry
 exact SeqAt.EqAt.of_refs hn r
theorem eqi_flat_seq (h : SqL X.K H p xs ∨ SqT X.K H p xs) (fx : flatV x = true) : EqJi X H (n + 1) x (.ref p) false := by
 intro pins s σ u v A I rx ry hu
 cases ry
 have hu' : A.units < cLine := by omega
 rcases h with h | h
 · obtain ⟨its, r, pl, _⟩ := I.list h
   cases x with
   | non => cases rx; exact SeqAt.EqAt.none_list pl.isList hu'
   | bl b => cases rx; exact SeqAt.EqAt.bool_list b pl.isList hu'
   | int b => obtain ⟨t, rfl⟩ := rx; exact SeqAt.EqAt.int_list b t pl.isList hu'
   | str b => obtain ⟨t, rfl⟩ := rx; exact SeqAt.EqAt.str_list b t pl.isList hu'
   | _ => exact absurd (show false = true from fx) Bool.false_ne_true
 · obtain ⟨its, r, pl, _⟩ := I.tuple h
   cases x with
   | non => cases rx; exact SeqAt.EqAt.none_tuple pl hu'
   | bl b => cases rx; exact SeqAt.EqAt.bool_tuple b pl hu'
   | int b => obtain ⟨t, rfl⟩ := rx; exact SeqAt.EqAt.int_tuple b t pl hu'
   | str b => obtain ⟨t, rfl⟩ := rx; exact SeqAt.EqAt.str_tuple b t pl hu'
   | _ => exact absurd (show false = true from fx) Bool.false_ne_true
theorem vals_at {xs : List V} {us : List Value} (r : Vals xs us) {j : Nat} (h : j < us.toArray.size) : ∃ x, xs[j]? = some x ∧ RelV x us.toArray[j] := by
 have hj : j < us.length := by simpa using h
 have hx : j < xs.length := by rw [r.length]; exact hj
 obtain ⟨u, hu, ru⟩ := r.get (List.getElem?_eq_getElem hx)
 refine ⟨xs[j], List.getElem?_eq_getElem hx, ?_⟩
 rw [List.getElem?_eq_getElem hj] at hu
 cases hu
 simpa using ru
theorem eqj_lists {e : Nat → Bool} (h : SqL X.K H p xs) (k : SqL X.K H q ys) (hl : xs.length = ys.length) (he : ∀ (j : Nat) x y, xs[j]? = some x → ys[j]? = some y → EqJi X H n x y (e j)) :
   EqJ X H (n + 1) (.ref p) (.ref q) ((List.range xs.length).all e) := by
 have g : ∀ (pins : List (Addr × Obj)) (s : Shared) (σ : St) (A : Around), Inv X pins σ H s → A.units + (n + 1) < cLine → ∃ its its' : List Value, s.heap.IsList p its.toArray ∧ s.heap.IsList q its'.toArray ∧ its.toArray.size = its'.toArray.size ∧ its.toArray.size = xs.length ∧
     ∀ j (h1 : j < its.toArray.size) (h2 : j < its'.toArray.size), SeqAt.EqAt A.in1 s its.toArray[j] its'.toArray[j] (e j) := fun pins s σ A I hu => by
   obtain ⟨its, r, pl, _⟩ := I.list h
   obtain ⟨its', r', pl', _⟩ := I.list k
   have l1 := r.length
   have l2 := r'.length
   refine ⟨its, its', pl.isList, pl'.isList, by simp only [List.size_toArray]; omega, by simp only [List.size_toArray]; omega, fun j h1 h2 => ?_⟩
   obtain ⟨x, hx, rx⟩ := vals_at r h1
   obtain ⟨y, hy, ry⟩ := vals_at r' h2
   exact he j x y hx hy pins s σ _ _ A.in1 I rx ry (by show A.units + 1 + n < _; omega)
 refine ⟨fun pins s σ u v A I rx ry hu => ?_, fun pins s σ u v A I rx ry hu => ?_⟩ <;> (cases rx; cases ry; have hu' : A.units < cLine := by omega)
 · obtain ⟨its, its', a, b, c, d, z⟩ := g pins s σ A I hu
   rw [← d]; exact SeqAt.RcAt.lists a b c hu' z
 · obtain ⟨its, its', a, b, c, d, z⟩ := g pins s σ A I hu
   rw [← d]; exact SeqAt.RcNeAt.lists a b c hu' z
theorem eqj_tups {e : Nat → Bool} (h : SqT X.K H p xs) (k : SqT X.K H q ys) (he : ∀ (j : Nat) x y, xs[j]? = some x → ys[j]? = some y → EqJi X H n x y (e j)) :
   EqJ X H (n + 1) (.ref p) (.ref q) ((List.range (min xs.length ys.length)).all e && xs.length == ys.length) := by
 have g : ∀ (pins : List (Addr × Obj)) (s : Shared) (σ : St) (A : Around), Inv X pins σ H s → A.units + (n + 1) < cLine → ∃ its its' : List Value, s.heap.IsTuple p its.toArray ∧ s.heap.IsTuple q its'.toArray ∧ its.toArray.size = xs.length ∧ its'.toArray.size = ys.length ∧
     ∀ j (h1 : j < its.toArray.size) (h2 : j < its'.toArray.size), SeqAt.EqAt A.in1 s its.toArray[j] its'.toArray[j] (e j) := fun pins s σ A I hu => by
   obtain ⟨its, r, pl, _⟩ := I.tuple h
   obtain ⟨its', r', pl', _⟩ := I.tuple k
   have l1 := r.length
   have l2 := r'.length
   refine ⟨its, its', pl, pl', by simp only [List.size_toArray]; omega, by simp only [List.size_toArray]; omega, fun j h1 h2 => ?_⟩
   obtain ⟨x, hx, rx⟩ := vals_at r h1
   obtain ⟨y, hy, ry⟩ := vals_at r' h2
   exact he j x y hx hy pins s σ _ _ A.in1 I rx ry (by show A.units + 1 + n < _; omega)
 refine ⟨fun pins s σ u v A I rx ry hu => ?_, fun pins s σ u v A I rx ry hu => ?_⟩ <;> (cases rx; cases ry; have hu' : A.units < cLine := by omega)
 · obtain ⟨its, its', a, b, c, d, z⟩ := g pins s σ A I hu
   rw [← c, ← d]; exact SeqAt.RcAt.tuples a b hu' z
 · obtain ⟨its, its', a, b, c, d, z⟩ := g pins s σ A I hu
   rw [← c, ← d]
   exact SeqAt.RcNeAt.tuples a b hu' z
theorem eqV_self {x : V} (h : flatV x = true) : eqV x x = true := by
 cases x <;> first | rfl | exact beq_self_eq_true _ | cases h
def eqL : List V → List V → Bool
 | [], [] => true
 | x :: xs, y :: ys => eqV x y && eqL xs ys
 | _, _ => false
theorem eqL_range : ∀ {xs ys : List V}, xs.length = ys.length → (List.range xs.length).all (fun j => eqV (xs.getD j .non) (ys.getD j .non)) = eqL xs ys
 | [], [], _ => rfl
 | x :: xs, y :: ys, h => by
   have h' : xs.length = ys.length := Nat.succ.inj h
   rw [List.length_cons, List.range_succ_eq_map, List.all_cons, List.all_map, eqL, ← eqL_range h']
   rfl
 | [], _ :: _, h => by cases h
 | _ :: _, [], h => by cases h
theorem eqL_len : ∀ {xs ys : List V}, eqL xs ys = true → xs.length = ys.length
 | [], [], _ => rfl
 | x :: xs, y :: ys, h => by rw [eqL, Bool.and_eq_true] at h; rw [List.length_cons, List.length_cons, eqL_len h.2]
 | [], _ :: _, h => by cases h
 | _ :: _, [], h => by cases h
theorem eqL_self : ∀ {xs : List V}, xs.all flatV = true → eqL xs xs = true
 | [], _ => rfl
 | x :: xs, h => by rw [List.all_cons, Bool.and_eq_true] at h; rw [eqL, eqV_self h.1, eqL_self h.2]; rfl
theorem eqL_strs : ∀ {xs ys : List Str}, eqL (xs.map V.str) (ys.map V.str) = decide (xs = ys)
 | [], [] => rfl
 | x :: xs, y :: ys => by
   rw [List.map_cons, List.map_cons, eqL, eqL_strs]
   show ((x == y) && decide (xs = ys)) = _
   by_cases e : x = y
   · subst e; rw [beq_self_eq_true]; by_cases e2 : xs = ys <;> simp [e2]
   · rw [beq_eq_false_iff_ne.mpr e]; simp [e]
 | [], _ :: _ => rfl
 | _ :: _, [] => rfl
theorem all_get {xs : List V} (h : xs.all flatV = true) {j : Nat} {x : V} (e : xs[j]? = some x) : flatV x = true ∧ xs.getD j .non = x :=
 ⟨List.all_eq_true.mp h x (List.mem_of_getElem? e), by rw [List.getD, e]; rfl⟩
theorem eqj_ftups (h : SqT X.K H p xs) (k : SqT X.K H q ys) (fx : xs.all flatV = true) (fy : ys.all flatV = true) : EqJ X H (n + 1) (.ref p) (.ref q) (eqL xs ys) := by
 have e : ((List.range (min xs.length ys.length)).all (fun j => eqV (xs.getD j .non) (ys.getD j .non)) && xs.length == ys.length) = eqL xs ys := by
   by_cases hl : xs.length = ys.length
   · rw [← hl, Nat.min_self, beq_self_eq_true, Bool.and_true]; exact eqL_range hl
   · have : eqL xs ys = false := by
       cases e : eqL xs ys with
       | false => rfl
       | true => exact absurd (eqL_len e) hl
     rw [this, beq_eq_false_iff_ne.mpr hl, Bool.and_false]
 rw [← e]
 refine eqj_tups h k fun j x y hx hy => ?_
 obtain ⟨a, a'⟩ := all_get fx hx
 obtain ⟨b, b'⟩ := all_get fy hy
 rw [a', b']
 exact eqi_flat a b
theorem op_eqJ (hu : X.A.units + 20 < cLine) : OpR X (compareOp .Eq) (fun x y H Q => ∃ b, EqJ X H 20 x y b ∧ Q (.bl b) H) := by
 intro pins s σ H x y v u Q I rx ry h
 obtain ⟨b, e, q⟩ := h
 exact e.rc pins s σ v u X.A I rx ry hu X.prog X.w X.xe _ ⟨.bl b, H, I, rfl, q⟩
theorem op_neJ (hu : X.A.units + 20 < cLine) : OpR X (compareOp .NotEq) (fun x y H Q => ∃ b, EqJ X H 20 x y b ∧ Q (.bl (!b)) H) := by
 intro pins s σ H x y v u Q I rx ry h
 obtain ⟨b, e, q⟩ := h
 exact e.ne pins s σ v u X.A I rx ry hu X.prog X.w X.xe _ ⟨.bl (!b), H, I, rfl, q⟩
theorem hu20 {A : Around} {k : Nat} (hr : Room k A) : A.units + 20 < cLine := by have := hr.units; omega
end
end L2
namespace L2
open PySem PySem.Spec PyProof.Rows PySem.Calls
section
variable {P : Program} {w : World} {K : PySem.W.Frag} {mg : Str → Option Value} {base : Heap}
structure MethJ (P : Program) (w : World) (K : PySem.W.Frag) (mg : Str → Option Value) (base : Heap) (CX : CXT) (k : Nat) (C : Addr) (m : Str) where
 f : Addr
 fd : FuncData
 ps : List Str
 sp : Sp
 ds : List Value
 dvs : List V
 c : Cls K C
 hm : Meth K C m f
 F : FnOk P w K mg base CX k f fd ps sp
 hb : Binds K fd ps ds
 hd : Vals dvs ds
end
section
variable {X : Cx} {CX : CXT} {k : Nat} {E : XK} {m : Str} {pos apos : Pos} {e o : Expr} {es : List Expr} {ta : TE} {t : TA}
def tMethG (X : Cx) (CX : CXT) (k : Nat) (m : Str) (E : XK) (ta : TE) (t : TA) : TE := fun σ H Q => ta σ H fun x H1 => ∃ (a C dx : Addr) (fs : List (Str × V)) (M : MethJ X.prog X.w X.K X.mg X.base CX k C m), x = .ref a ∧ H1 a = some (.ins C dx fs) ∧ fs.lookup m = none ∧
 t σ H1 fun vs H2 => M.sp (x :: (vs ++ M.dvs)) H2 Q E
theorem yV {pl : Sem Bool} (hr : Room k X.A) (hx : Passes CX X E) (he : PE X o ta) (ha : PA X (e :: es) t)
   (hst : starEach (e :: es) X.env = (false, eval e X.env) :: starEach es X.env := by rfl) (hpl : (backTo pos (starEach es X.env)).any (·.1) = false := by rfl)
   (ht : eval (.Call (.Attribute o m apos) (e :: es) [] pos) X.env = (do
     let ov ← eval o X.env
     standAt apos.atName
     let (f, first) ← holding [ov] (getMethod ov m pl)
     callWith pos f first (backTo pos (starEach (e :: es) X.env)) (backToKw pos (keywordEach [] X.env))) := by rfl) :
   PE X (.Call (.Attribute o m apos) (e :: es) [] pos) (tMethG X CX k m E ta t) := by
 intro pins s σ H Q I h
 refine PySem.W.methodCall_KW (pl := pl) (thn (he pins s σ H _ I h) fun u s1 ⟨x, H1, I1, rx, a, C, dx, fs, M, ex, ea, l, q⟩ => ?_) ht
 subst ex
 obtain rfl : u = Value.ref a := rx
 refine getmeth_ok I1 ea M.c M.hm l ?_
 refine PySem.W.callWith_K (first := [.ref a]) (h₀ := X.base) I.ok.mod.kin M.hm.kp (thn (ha pos pins s1 σ H1 _ I1 q) fun us s2 ⟨vs, H2, I2, r, q2⟩ => ⟨I2.kIn, ?_⟩) hst hpl
 exact run_fn (us := .ref a :: us) (vs := .ref a :: vs) M.F hr M.hb M.hd hx I2 (.cons rfl r) q2
theorem yF {pl : Sem Bool} (hr : Room k X.A) (hx : Passes CX X E) (he : PE X o ta)
   (ht : eval (.Call (.Attribute o m apos) [] [] pos) X.env = (do
     let ov ← eval o X.env
     standAt apos.atName
     let (f, first) ← holding [ov] (getMethod ov m pl)
     callWith pos f first (backTo pos (starEach [] X.env)) (backToKw pos (keywordEach [] X.env))) := by rfl) :
   PE X (.Call (.Attribute o m apos) [] [] pos) (tMethG X CX k m E ta tNil) := by
 intro pins s σ H Q I h
 refine PySem.W.methodCall_KW (pl := pl) (thn (he pins s σ H _ I h) fun u s1 ⟨x, H1, I1, rx, a, C, dx, fs, M, ex, ea, l, q⟩ => ?_) ht
 subst ex
 obtain rfl : u = Value.ref a := rx
 refine getmeth_ok I1 ea M.c M.hm l ?_
 exact PySem.W.callWith_K0 (first := [.ref a]) I1.kIn M.hm.kp (run_fn (us := [.ref a]) (vs := [.ref a]) M.F hr M.hb M.hd hx I1 (.cons rfl .nil) q)
def tMethGX (X : Cx) (k : Nat) (m : Str) (ta : TE) (t : TA) : TEx := fun σ H Q E => ta σ H fun x H1 => ∃ (a C dx : Addr) (fs : List (Str × V)) (M : MethJ X.prog X.w X.K X.mg X.base (CXW X.prog X.w) k C m), x = .ref a ∧ H1 a = some (.ins C dx fs) ∧ fs.lookup m = none ∧
 t σ H1 fun vs H2 => M.sp (x :: (vs ++ M.dvs)) H2 Q E
theorem pex_methG {pl : Sem Bool} (hr : Room k X.A) (he : PE X.nox o ta) (ha : PA X.nox (e :: es) t)
   (hst : starEach (e :: es) X.env = (false, eval e X.env) :: starEach es X.env := by rfl) (hpl : (backTo pos (starEach es X.env)).any (·.1) = false := by rfl)
   (ht : eval (.Call (.Attribute o m apos) (e :: es) [] pos) X.env = (do
     let ov ← eval o X.env
     standAt apos.atName
     let (f, first) ← holding [ov] (getMethod ov m pl)
     callWith pos f first (backTo pos (starEach (e :: es) X.env)) (backToKw pos (keywordEach [] X.env))) := by rfl) :
   PEx X (.Call (.Attribute o m apos) (e :: es) [] pos) (tMethGX X k m ta t) := by
 intro pins s σ H Q E I h
 refine PySem.W.methodCall_KW (pl := pl) (wpAny_mono (he.noxE (CXAt X pins σ E) I h) (fun u s1 ⟨x, H1, I1, rx, a, C, dx, fs, M, ex, ea, l, q⟩ => ?_) fun _ _ z => z) ht
 subst ex
 obtain rfl : u = Value.ref a := rx
 refine getmeth_ok I1 ea M.c M.hm l ?_
 refine PySem.W.callWith_K (first := [.ref a]) (h₀ := X.base) I.ok.mod.kin M.hm.kp (wpAny_mono (ha.nox (CXAt X pins σ E) I1 q) (fun us s2 ⟨vs, H2, I2, r, q2⟩ => ⟨I2.kIn, ?_⟩) fun _ _ z => z) hst hpl
 exact run_fnx (us := .ref a :: us) (vs := .ref a :: vs) M.F hr M.hb M.hd I2 (.cons rfl r) q2
structure ClsFn (K : PySem.W.Frag) (C : Addr) (m : Str) (f : Addr) : Prop where
 rd : PySem.W.readsIn K C (.type "type") = true
 at_ : PySem.W.findCls K (.ref C) (.type "type") m = some (.val (.ref f))
 sp : PySem.W.specialIn K (.ref C) "__getattribute__" = some (some (.builtin "type.__getattribute__"))
 kp : PySem.W.keepIn K (.ref f) = true
theorem pe_clsfn {pl : Sem Bool} {C f : Addr} {fd : FuncData} {ps : List Str} {sp : Sp} {x : Str} {np : Pos} (c : ClsFn X.K C m f) (F : FnOk X.prog X.w X.K X.mg X.base CX k f fd ps sp) (hr : Room k X.A) (hg : Gl X x) (hmg : X.mg x = some (.ref C)) (hb : Binds X.K fd ps []) (hx : Passes CX X E)
   (ha : PA X (e :: es) t) (hd : (x == ("__debug__" : Str)) = false := by decide)
   (hst : starEach (e :: es) X.env = (false, eval e X.env) :: starEach es X.env := by rfl) (hpl : (backTo pos (starEach es X.env)).any (·.1) = false := by rfl)
   (ht : eval (.Call (.Attribute (.Name x np) m apos) (e :: es) [] pos) X.env = (do
     let ov ← eval (.Name x np) X.env
     standAt apos.atName
     let (f, first) ← holding [ov] (getMethod ov m pl)
     callWith pos f first (backTo pos (starEach (e :: es) X.env)) (backToKw pos (keywordEach [] X.env))) := by rfl) :
   PE X (.Call (.Attribute (.Name x np) m apos) (e :: es) [] pos) (tCall sp [] E t) := by
 intro pins s σ H Q I h
 refine PySem.W.methodCall_KW (pl := pl) (ld_glob I hg hmg ?_ hd) ht
 refine PySem.W.method_cls I.kIn c.sp (PySem.W.cls_value (s := s) I.kIn c.rd c.at_ rfl ?_)
 refine PySem.W.callWith_K (first := []) (h₀ := X.base) I.ok.mod.kin c.kp (thn (ha pos pins _ σ H _ (I.tok _) h) fun us s2 ⟨vs, H2, I2, r, q2⟩ => ⟨I2.kIn, ?_⟩) hst hpl
 exact run_fn (us := us) (vs := vs) F hr hb .nil hx I2 r q2
end
end L2
namespace L2
open PySem PySem.Spec PyProof.Rows
def dropW (l : List Nat) : List Nat := l.dropWhile (· == 32)
def stripL (l : List Nat) : List Nat := (dropW (dropW l).reverse).reverse
theorem drop_takeWhile (p : Nat → Bool) : ∀ l : List Nat, l.drop (l.takeWhile p).length = l.dropWhile p
 | [] => rfl
 | a :: r => by
   rw [List.takeWhile_cons, List.dropWhile_cons]
   by_cases h : p a = true
   · rw [if_pos h, if_pos h, List.length_cons, List.drop_succ_cons, drop_takeWhile p r]
   · rw [if_neg h, if_neg h]; rfl
theorem blank_cps : (("\u0020" : Str).cps.contains : Nat → Bool) = fun c => c == 32 := by
 have e : ("\u0020" : Str).cps = #[32] := by symm
 funext c
 rw [e]
 show (#[32] : Array Nat).contains c = (c == 32)
 by_cases h : c = 32
 · subst h; simp
 · rw [beq_eq_false_iff_ne.mpr h]
   cases e2 : (#[32] : Array Nat).contains c with
   | false => rfl
   | true => exact absurd (by simpa using e2) h
theorem strip_is (z : Str) : cd (Txt.stripChars z "\u0020") = stripL (cd z) := by
 unfold Txt.stripChars
 rw [stripBy_eq, blank_cps]
 unfold Builtin.Str.strSub stripLo stripHi
 rw [if_pos rfl, if_pos rfl]
 show (z.cps.extract _ _).toList = _
 rw [Array.toList_extract, List.extract_eq_take_drop]
 have e1 : z.cps.toList.drop (z.cps.toList.takeWhile (fun c => c == 32)).length = dropW (cd z) := drop_takeWhile _ _
 rw [e1]
 have hl : z.length = (cd z).length := yX z
 have hd : (dropW (cd z)).length = (cd z).length - (z.cps.toList.takeWhile (fun c => c == 32)).length := by rw [← e1, List.length_drop]
 have ht : ((dropW (cd z)).reverse.takeWhile (fun c => c == 32)).length ≤ (dropW (cd z)).length := by
   have := (List.takeWhile_prefix (l := (dropW (cd z)).reverse) (fun c => c == 32)).length_le
   rw [List.length_reverse] at this; exact this
 unfold stripL
 have e2 : dropW (dropW (cd z)).reverse = (dropW (cd z)).reverse.drop ((dropW (cd z)).reverse.takeWhile (fun c => c == 32)).length := (drop_takeWhile _ _).symm
 rw [e2, ← List.reverse_reverse ((dropW (cd z)).take _)]
 congr 1
 rw [List.reverse_take]
 congr 1
 omega
theorem dropW_rep (a : Nat) (l : List Nat) : dropW (List.replicate a 32 ++ l) = dropW l := by
 induction a with
 | zero => rfl
 | succ a ih => rw [List.replicate_succ, List.cons_append]; unfold dropW; rw [List.dropWhile_cons, if_pos (by decide)]; exact ih
theorem dropW_not {l : List Nat} (h : ∀ c, l.head? = some c → c ≠ 32) : dropW l = l := by
 cases l with
 | nil => rfl
 | cons a r => unfold dropW; rw [List.dropWhile_cons, if_neg (by simpa using h a rfl)]
theorem stripL_core {a b : Nat} {w : List Nat} (h1 : ∀ c, w.head? = some c → c ≠ 32) (h2 : ∀ c, w.getLast? = some c → c ≠ 32) : stripL (List.replicate a 32 ++ w ++ List.replicate b 32) = w := by
 unfold stripL
 rw [List.append_assoc, dropW_rep]
 cases w with
 | nil =>
   rw [List.nil_append]
   have : dropW (List.replicate b 32) = [] := by have := dropW_rep b []; rwa [List.append_nil] at this
   rw [this]; rfl
 | cons x r =>
   have e : dropW (x :: r ++ List.replicate b 32) = x :: r ++ List.replicate b 32 := dropW_not fun c hc => h1 c hc
   rw [e, List.reverse_append, List.reverse_replicate, dropW_rep]
   have e2 : dropW (x :: r).reverse = (x :: r).reverse := dropW_not fun c hc => h2 c (by rwa [List.head?_reverse] at hc)
   rw [e2, List.reverse_reverse]
theorem stripL_self {w : List Nat} (h1 : ∀ c, w.head? = some c → c ≠ 32) (h2 : ∀ c, w.getLast? = some c → c ≠ 32) : stripL w = w := by
 have := stripL_core (a := 0) (b := 0) h1 h2
 simpa using this
theorem stripL_no {w : List Nat} (h : ∀ c ∈ w, c ≠ 32) : stripL w = w := stripL_self (fun c hc => h c (List.mem_of_mem_head? hc)) (fun c hc => h c (List.mem_of_getLast? hc))
theorem dropW_mem {l : List Nat} {c : Nat} (h : c ∈ dropW l) : c ∈ l := (List.dropWhile_suffix _).subset h
theorem stripL_mem {l : List Nat} {c : Nat} (h : c ∈ stripL l) : c ∈ l := dropW_mem (List.mem_reverse.mp (dropW_mem (List.mem_reverse.mp h)))
theorem dropW_len (l : List Nat) : (dropW l).length ≤ l.length := (List.dropWhile_suffix _).length_le
theorem stripL_len (l : List Nat) : (stripL l).length ≤ l.length := by
 unfold stripL
 rw [List.length_reverse]
 refine Nat.le_trans (dropW_len _) ?_
 rw [List.length_reverse]; exact dropW_len l
theorem Fine.strip {n : Nat} {z : Str} (h : Fine n z) : Fine n (Txt.stripChars z "\u0020") := by
 refine ⟨?_, fun c hc => ?_⟩
 · rw [yX, strip_is]; have := stripL_len (cd z); have := h.len; rw [yX] at this; omega
 · rw [strip_is] at hc; exact h.cod c (stripL_mem hc)
def dig (n : Nat) : List Nat := (Nat.toDigits 10 n).map Char.toNat
theorem digChar : ∀ d : Nat, d < 10 → (Nat.digitChar d).toNat = 48 + d := by decide
theorem dig_lt {n : Nat} (h : n < 10) : dig n = [48 + n] := by
 unfold dig; rw [Nat.toDigits_of_lt_base h]; show [(Nat.digitChar n).toNat] = _; rw [digChar n h]
theorem dig_ge {n : Nat} (h : 10 ≤ n) : dig n = dig (n / 10) ++ [48 + n % 10] := by
 unfold dig; rw [Nat.toDigits_of_base_le (by decide) h, List.map_append]; show _ ++ [(Nat.digitChar (n % 10)).toNat] = _; rw [digChar _ (Nat.mod_lt _ (by decide))]
theorem dig_pos (n : Nat) : 0 < (dig n).length := by unfold dig; rw [List.length_map]; exact Nat.length_toDigits_pos
theorem dig_len {k n : Nat} (hk : 1 ≤ k) (hn : n < 10 ^ k) : (dig n).length ≤ k := by unfold dig; rw [List.length_map]; exact toDigits_len_pow (by decide) hk hn
theorem dig_all (n : Nat) : (dig n).all inF = true := by
 induction n using Nat.strongRecOn with
 | _ n ih =>
   by_cases h : n < 10
   · rw [dig_lt h, List.all_cons, (inF_iff _).mpr ⟨by omega, by omega⟩]; rfl
   · rw [dig_ge (by omega), List.all_append, ih (n / 10) (by omega), List.all_cons, (inF_iff _).mpr ⟨by omega, by have := Nat.mod_lt n (show 0 < 10 by decide); omega⟩]; rfl
theorem val_dig (n : Nat) : val (dig n) = n := by
 induction n using Nat.strongRecOn with
 | _ n ih =>
   by_cases h : n < 10
   · rw [dig_lt h]; show (0 : Int) * 10 + ((48 + n - 48 : Nat) : Int) = n; omega
   · rw [dig_ge (by omega), val_snoc, ih (n / 10) (by omega)]; omega
theorem dig_head {n : Nat} (h : n ≠ 0) : ∃ c r, dig n = c :: r ∧ 49 ≤ c ∧ c ≤ 57 := by
 induction n using Nat.strongRecOn with
 | _ n ih =>
   by_cases h10 : n < 10
   · exact ⟨_, _, dig_lt h10, by omega, by omega⟩
   · obtain ⟨c, r, e, h1, h2⟩ := ih (n / 10) (by omega) (by omega)
     exact ⟨c, r ++ [48 + n % 10], by rw [dig_ge (by omega), e]; rfl, h1, h2⟩
theorem dig_fig {n c : Nat} (h : c ∈ dig n) : 48 ≤ c ∧ c ≤ 57 := (inF_iff c).mp (List.all_eq_true.mp (dig_all n) c h)
theorem dig_zero : dig 0 = [48] := dig_lt (by decide)
def numL (i : Int) : List Nat := if i < 0 then 45 :: dig i.natAbs else dig i.natAbs
theorem cd_str (i : Int) : cd ((toString i : String) : Str) = numL i := by
 show (Str.ofString (toString i)).cps.toList = _
 rw [signs_ofString]
 unfold numL
 cases i with
 | ofNat m =>
   rw [if_neg (show ¬ Int.ofNat m < 0 from by have : Int.ofNat m = (m : Int) := rfl; omega)]
   show (Nat.repr m).toList.map Char.toNat = _
   rw [Nat.toList_repr]; rfl
 | negSucc m =>
   rw [if_pos (Int.negSucc_lt_zero m)]
   have : (toString (Int.negSucc m)) = "-" ++ Nat.repr (m + 1) := rfl
   rw [this, String.toList_append, Nat.toList_repr]; rfl
theorem numL_fig (i : Int) : fig (numL i) = dig i.natAbs := by
 unfold numL
 split
 · rfl
 · unfold fig
   rw [if_neg]
   obtain ⟨c, r, e⟩ : ∃ c r, dig i.natAbs = c :: r := by
     cases h : dig i.natAbs with
     | nil => have := dig_pos i.natAbs; rw [h] at this; cases this
     | cons c r => exact ⟨c, r, rfl⟩
   intro z
   have hc := dig_fig (n := i.natAbs) (c := c) (by rw [e]; simp)
   rw [e] at z
   have : c = 45 := by simpa using z
   omega
theorem numL_mem {i : Int} {c : Nat} (h : c ∈ numL i) : c = 45 ∨ (48 ≤ c ∧ c ≤ 57) := by
 unfold numL at h
 split at h
 · rcases List.mem_cons.mp h with e | e
   · exact .inl e
   · exact .inr (dig_fig e)
 · exact .inr (dig_fig h)
theorem numL_strip (i : Int) : stripL (numL i) = numL i := stripL_no fun c hc => by rcases numL_mem hc with e | e <;> omega
theorem numB_numL {i : Int} {most : Int} (h1 : 1 ≤ most) (h : ((dig i.natAbs).length : Int) ≤ most) : numB (numL i) most = some i := by
 have e := numL_fig i
 unfold numB
 rw [e, if_neg]
 · congr 1
   rw [val_dig]
   unfold numL
   by_cases hi : i < 0
   · rw [if_pos hi]
     rw [if_pos (show (45 :: dig i.natAbs).take 1 = [45] from rfl)]; omega
   · rw [if_neg hi, if_neg]
     · omega
     · intro z
       obtain ⟨c, r, ec⟩ : ∃ c r, dig i.natAbs = c :: r := by
         cases h : dig i.natAbs with
         | nil => have := dig_pos i.natAbs; rw [h] at this; cases this
         | cons c r => exact ⟨c, r, rfl⟩
       have hc := dig_fig (n := i.natAbs) (c := c) (by rw [ec]; simp)
       rw [ec] at z
       have : c = 45 := by simpa using z
       omega
 · intro z
   rcases z with z | z | z | z
   · have := dig_pos i.natAbs; omega
   · omega
   · by_cases h0 : i.natAbs = 0
     · have : i = 0 := by omega
       subst this
       exact z.2 (by show (if (0:Int) < 0 then _ else _) = _; rw [if_neg (by decide)]; exact dig_zero)
     · obtain ⟨c, r, ec, hc, _⟩ := dig_head h0
       rw [ec] at z
       have : c = 48 := by simpa using z.1
       omega
   · rw [dig_all] at z; cases z
theorem numB_str {i : Int} (h : i.natAbs < 10 ^ 60) : numB (numL i) 60 = some i := numB_numL (by decide) (by have := dig_len (k := 60) (by decide) h; omega)
end L2
namespace L2
open PySem PySem.Spec PyProof.Rows PySem.Calls
section
variable {X : Cx}
end
theorem lk0 {f a b : Str} {v w : V} (h1 : (f == a) = false) (h2 : (f == b) = false) : ([(a, v), (b, w)] : List (Str × V)).lookup f = none := by
 rw [List.lookup_cons, h1, List.lookup_cons, h2]; rfl
theorem lk1 {a : Str} {v : V} {r : List (Str × V)} : ((a, v) :: r).lookup a = some v := by rw [List.lookup_cons, beq_self_eq_true]
theorem lk2 {a b : Str} {v w : V} (h : (b == a) = false) {r : List (Str × V)} : ((a, v) :: (b, w) :: r).lookup b = some w := by rw [List.lookup_cons, h]; exact lk1
theorem iteN {c : Bool} {A B : Prop} (h : c = false) (q : B) : if c = true then A else B := by subst h; exact iteF q
theorem iteY {c : Bool} {A B : Prop} (h : c = true) (q : A) : if c = true then A else B := by subst h; exact iteT q
structure Thing (K : PySem.W.Frag) (H : Hp) (x : V) where
 t : Value
 bi : Bool
 bb : Bool
 bs : Bool
 ty : TyE K H x t
 ki : PySem.W.kitOne K t (.type "int") = some bi
 kb : PySem.W.kitOne K t (.type "bool") = some bb
 ks : PySem.W.kitOne K t (.type "str") = some bs
 hi : (bi && !bb) = true → ∃ n, x = .int n
 hs : bs = true → ∃ z, x = .str z
 ni : ∀ n, x = .int n → (bi && !bb) = true
 ns : ∀ z, x = .str z → bs = true
 hbl : bb = true → ∃ b, x = .bl b
 nbl : ∀ b, x = .bl b → bb = true
theorem Same.seqT {K : PySem.W.Frag} {H H' : Hp} {a : Addr} {xs : List V} (e : Same H H') (h : SqT K H a xs) : SqT K H' a xs := by
 rcases h with h | h
 · exact .inl (h.imp (fun k => e _ _ k) (fun ⟨o, k⟩ => ⟨o, e _ _ k⟩))
 · exact .inr h
theorem Same.tyE' {K : PySem.W.Frag} {H H' : Hp} {x : V} {t : Value} (e : Same H H') (h : TyE K H x t) : TyE K H' x t := by
 cases h with
 | old h => exact .old (e.ty h)
 | exc h c => exact .exc (e _ _ h) c
 | tpl h => exact .tpl (e.seqT h)
def Thing.same {K : PySem.W.Frag} {H H' : Hp} {x : V} (h : Thing K H x) (e : Same H H') : Thing K H' x := ⟨h.t, h.bi, h.bb, h.bs, e.tyE' h.ty, h.ki, h.kb, h.ks, h.hi, h.hs, h.ni, h.ns, h.hbl, h.nbl⟩
theorem Same.upd {H H' : Hp} {p : Addr} {o : HO} (e : Same H H') (h : H p = none ∨ H p = some o) : Same H (L2.upd H' p o) := fun b u q => by
 by_cases z : b = p
 · subst z
   rcases h with h | h
   · rw [h] at q; cases q
   · rw [h] at q; rw [zB]; exact q
 · rw [zF z]; exact e b u q
def numV : Option Int → V
 | some n => .int n
 | none => .non
end L2
namespace L2
open PySem PySem.Spec PyProof.Rows
def dueK (lo hi n : Int) : Option Int := if lo ≤ n ∧ n ≤ hi then some n else none
theorem str_is (n : Int) : ((toString n : String) : Str) = S (numL n) := cd_inj (cd_str n)
theorem fineNum {n : Int} (h : n.natAbs < 10 ^ 60) : Fine 61 (S (numL n)) := by rw [← str_is]; exact Fine.int (by decide) h
theorem logOk {m : Int} (h : m.natAbs < 10 ^ 61) : m.natAbs.log2 < 1920 := by
 by_cases h0 : m.natAbs = 0
 · rw [h0]; decide
 · exact (Nat.log2_lt h0).mpr (Nat.lt_trans h (by symm))
end L2
namespace L2
open PySem PySem.Spec PyProof.Rows PySem.Calls
theorem pe_eqv {X : Cx} {e : Expr} {te te' : TE} (h : PE X e te') (h2 : te' = te) : PE X e te := h2 ▸ h
section
variable {X : Cx}
def InR (K : PySem.W.Frag) (H : Hp) (x : V) (xs : List V) (b : Bool) : Prop := (flatV x = true ∧ b = inV x xs) ∨ (∃ q ys, x = .ref q ∧ (SqL K H q ys ∨ SqT K H q ys) ∧ b = false)
theorem op_in2 (hu : X.A.units + 20 < cLine) : OpR X (compareOp .In) (fun x y H Q => ∃ p xs b, y = .ref p ∧ (SqL X.K H p xs ∨ SqT X.K H p xs) ∧ xs.all flatV = true ∧ InR X.K H x xs b ∧ Q (.bl b) H) := by
 intro pins s σ H x y v u Q I rx ry h
 obtain ⟨p, xs, b, rfl, hq, fs, hx, q⟩ := h
 rcases hx with ⟨fx, rfl⟩ | ⟨r, ys, rfl, hr, rfl⟩
 · exact op_in_seq pins s σ H x (.ref p) v u Q I rx ry ⟨p, xs, rfl, hq, fx, fs, q⟩
 · cases ry
   have all : ∀ {xs : List V} {us : List Value}, Vals xs us → xs.all flatV = true → ∀ w ∈ us, SeqAt.EqAt X.A.in1 s w v false := by
     intro xs us rv
     induction rv with
     | nil => intro _ w hw; cases hw
     | cons a _ ih =>
       intro f w hw
       rw [List.all_cons, Bool.and_eq_true] at f
       rcases List.mem_cons.mp hw with z | z
       · subst z
         exact eqi_flat_seq (X := X) (n := 0) hr f.1 pins s σ _ _ X.A.in1 I a rx (by show X.A.units + 1 + 1 < _; omega)
       · exact ih f.2 w z
   rcases hq with hq | hq
   · obtain ⟨its, rv, pl, hz⟩ := I.list hq
     refine SeqAt.in_listAt (fun _ => false) pl.isList (fun w hw => all rv fs w (by simpa using hw)) ⟨.bl _, H, I, rfl, ?_⟩
     rw [show its.toArray.any (fun _ => false) = false by simp]
     exact q
   · obtain ⟨its, rv, pl, hz⟩ := I.tuple hq
     refine SeqAt.in_tupleAt (fun _ => false) pl (fun w hw => all rv fs w (by simpa using hw)) ⟨.bl _, H, I, rfl, ?_⟩
     rw [show its.toArray.any (fun _ => false) = false by simp]
     exact q
theorem vals_nth : ∀ {xs : List V} {us : List Value}, Vals xs us → xs.all flatV = true → ∀ {x : V} (j : Nat) (h : j < us.toArray.size), eqU x us.toArray[j] = eqV (xs.getD j .non) x := by
 intro xs us r f x j h
 obtain ⟨y, hy, ry⟩ := vals_at r h
 obtain ⟨a, b⟩ := all_get f hy
 rw [b]
 exact eqU_of ry a
def IdxOf (x : V) (xs : List V) (j : Nat) : Prop := ∃ y, xs[j]? = some y ∧ eqV y x = true ∧ ∀ (m : Nat) z, m < j → xs[m]? = some z → eqV z x = false
theorem mt_lindex : MtM X "list.index" (fun x vs H Q => ∃ p xs y j, x = .ref p ∧ vs = [y] ∧ SqL X.K H p xs ∧ xs.all flatV = true ∧ flatV y = true ∧ IdxOf y xs j ∧ Q (.int (j : Nat)) H) := by
 intro pins s σ H x vs v us Q I rx rv h
 obtain ⟨p, xs, y, j, rfl, rfl, hq, fs, fy, ⟨y', hj, hy, hno⟩, q⟩ := h
 cases rx
 obtain ⟨u, rfl, ru⟩ := rv.one
 obtain ⟨its, r, pl, hz⟩ := I.list hq
 obtain ⟨⟨cls, dd, data, sl⟩, ho, hc, n, hd⟩ := pl.isList
 simp only at hc hd
 subst hc hd
 have hl := r.length
 have hlt : j < xs.length := (List.getElem?_eq_some_iff.mp hj).1
 have hn := line63
 refine call_meets PySem.F.slot_list_index ⟨_, ho, rfl⟩ PySem.F.entry_list_index (PySem.F.args_list_index_2 _ _)
   (SeqAt.list_indexAt p its.toArray n dd sl u (eqU y) j (by rw [List.size_toArray]; omega) (by omega) ?_ ?_) ⟨ho, fun w hw => mem_eqAt ru fy r fs w (by simpa using hw), ⟨.int j, H, I.tok _, ⟨_, rfl⟩, q⟩⟩
 · rw [vals_nth r fs, (all_get fs hj).2]; exact hy
 · intro m hm hmj
   rw [vals_nth r fs]
   have hm' : m < xs.length := by omega
   have e := List.getElem?_eq_getElem hm'
   rw [(all_get fs e).2]
   exact hno m _ hmj e
end
end L2
namespace L2
open PySem PySem.Spec PyProof.Rows PySem.Calls
section
variable {prog : Program} {w : World} {A : Around} {R : Result → Shared → Prop} {I : Addr} {fp wr : List Addr} {G : Array GenState → Array GenState → Prop} {n : Nat} {P : Nat → Value → Prop} {St : Nat → Shared → Prop}
end
section
variable {prog : Program} {w : World} {A : Around} {E : Value → Shared → Prop} {s : Shared}
end
section
variable {X : Cx}
end
end L2
namespace L2
open PySem PySem.Spec PyProof.Rows PySem.Calls
section
variable {X : Cx}
end
end L2
namespace HT
open PySem PySem.Spec PyProof.Rows PySem.Calls
section
variable {prog : Program} {w : World} {A : Around} {E : Value → Shared → Prop} {s : Shared}
end
end HT
namespace L2
open PySem PySem.Spec PyProof.Rows PySem.Calls
section
variable {X : Cx}
end
end L2
namespace L2
open PySem PySem.Spec PyProof.Rows PySem.Calls
def PIfs (X : Cx) (ifs : List Expr) (t : TT) : Prop :=
 ∀ (pins : List (Addr × Obj)) (s : Shared) (σ : St) (H : Hp) (Q : Bool → Hp → Prop), Inv X pins σ H s → t σ H Q →
   wpAny (model X.prog X.w) X.A (forIn ifs true fun c r => if r = true then do let ok ← isTrue c X.env (eval c X.env); pure (ForInStep.yield ok) else pure (ForInStep.yield r)) (TP X pins σ Q) X.xe s
def tTrue : TT := fun _ H Q => Q true H
theorem pifs_nil {X : Cx} : PIfs X [] tTrue := fun pins s σ H Q I h => wpAny_pure ⟨H, I, h⟩
theorem pifs_one {X : Cx} {c : Expr} {t : TT} (hc : PT X c t) : PIfs X [c] t := fun pins s σ H Q I h => by
 rw [List.forIn_cons]
 refine wpAny_bind (wpAny_bind (thn (hc pins s σ H Q I h) fun b s1 q => wpAny_pure ?_))
 exact wpAny_pure q
theorem compLoop_go2 {prog : Program} {w : World} {A : Around} {R : Result → Shared → Prop} {s : Shared} {elt target iter : Expr} {ifs : List Expr} {scope : Scope} {pos : Pos} {it acc : Value} {env : Env} (I : Nat → Shared → Prop)
   (turn : ∀ n s, I n s → wpAny (model prog w) A (pyNext it) (fun r s₁ => match r with
     | none => R (.ok .next) s₁
     | some v => wpAny (model prog w) A (letOwnedTupleGo target it v) (fun _ s₂ => wpAny (model prog w) A (assign target env v) (fun _ s₃ =>
         wpAny (model prog w) A (forIn ifs true fun c r => if r = true then do let ok ← isTrue c env (eval c env); pure (ForInStep.yield ok) else pure (ForInStep.yield r)) (fun ok s₄ =>
           if ok = true then wpAny (model prog w) A (eval elt env) (fun x s₅ =>
             wpAny (model prog w) A (call (.builtin "list.append") [acc, x]) (fun _ s₆ => ∃ m, m < n ∧ I m s₆) (notedBy (model prog w) A env fun e s' => R (.error e) s') s₅)
             (notedBy (model prog w) A env fun e s' => R (.error e) s') s₄ else ∃ m, m < n ∧ I m s₄)
           (notedBy (model prog w) A env fun e s' => R (.error e) s') s₃) (notedBy (model prog w) A env fun e s' => R (.error e) s') s₂) (notedBy (model prog w) A env fun e s' => R (.error e) s') s₁)
     (notedBy (model prog w) A env fun e s' => R (.error e) s') s)
   (n : Nat) (h : I n s) : codeAny (model prog w) A (.compLoop (.ListComp elt [⟨target, iter, ifs, 0⟩] scope pos) 0 it acc env) R s := by
 refine codeAny_loop rfl I (fun n s hI => ?_) n h
 show wpAny _ A ((compTurn (.ListComp elt [⟨target, iter, ifs, 0⟩] scope pos) 0 it acc env).onRaise (fun x => do noteFrame x env; theTreesLotGoes x)) _ _ s
 refine wpAny_noted ?_
 rw [compTurn_list]
 refine wpAny_bind (wpAny_standAt (wpAny_bind (wpAny_mono (turn n s hI) (fun r s₁ h₁ => ?_) fun _ _ h' => h')))
 cases r with
 | none => exact wpAny_pure h₁
 | some v =>
   refine wpAny_bind (wpAny_mono h₁ (fun _ s₂ h₂ => wpAny_bind (wpAny_mono h₂ (fun _ s₃ h₃ => ?_) fun _ _ h' => h')) fun _ _ h' => h')
   refine wpAny_bind (wpAny_mono h₃ (fun ok s₄ h₄ => ?_) fun _ _ h' => h')
   cases ok with
   | false => exact wpAny_pure ⟨rfl, h₄⟩
   | true => exact wpAny_bind (wpAny_bind (wpAny_mono h₄ (fun x s₅ h₅ => wpAny_bind (wpAny_mono h₅ (fun _ s₆ h₆ => wpAny_pure (wpAny_pure ⟨rfl, h₆⟩)) fun _ _ h' => h')) fun _ _ h' => h'))
def compCx2 (X : Cx) (scope : Scope) (C : Addr) (x y : Str) (M : List Str) (s₂ : Shared) (H₂ : Hp) (fp : List Addr) : Cx :=
 { X with N := x :: y :: M, s₀ := s₂, H₀ := H₂, env := compEnvC scope (clOf X.env scope.names []) C X.env, outer := X.stack, ex := fp, fn := fun _ => false, pn := [], xe := fun _ _ => False }
structure CompOk2 (X : Cx) (scope : Scope) (x y : Str) (M : List Str) : Prop where
 base : CompOk X scope x M
 loc2 : scope.names.lookup y = some .local
 nd2 : (x :: y :: M).Nodup
theorem compOk2_of {X : Cx} {scope : Scope} {x y : Str} {M : List Str} (h : CompOk X scope x M) (h1 : scope.names.lookup y = some .local) (h2 : (x :: y :: M).Nodup) : CompOk2 X scope x y M := ⟨h, h1, h2⟩
section
variable {X : Cx} {scope : Scope} {x y : Str} {M : List Str} {pins : List (Addr × Obj)} {σ : St} {H₂ : Hp} {s₂ : Shared} {elt iter tg : Expr} {ifs : List Expr} {pos : Pos} {te : TE} {wi : TI} {g : TG} {tc : TT}
theorem inv_comp2 (K : CompOk2 X scope x y M) (I : Inv X pins σ H₂ s₂) {fp : List Addr} (hf : ∀ b ∈ fp, FpOk X pins H₂ b) (hfl : ∀ b ∈ fp, b < s₂.heap.objs.size) {C : Addr} (hC : s₂.heap.objs.size ≤ C) {h₁ : Heap} {t : Nat} {m : Str → Option Value} (hn : h₁.Ns C m)
   (hk : ∀ b o, s₂.heap.get? b = some o → h₁.get? b = some o) : Inv (compCx2 X scope C x y M s₂ H₂ fp) [] (none :: none :: σ) H₂ { s₂ with heap := h₁, toks := t } := by
 have I1 := inv_comp (t := t) K.base I hf hfl hC hn hk
 have ok : (compCx2 X scope C x y M s₂ H₂ fp).Ok := by
   obtain ⟨a1, a2, a3, a4, a5, a6, a7, a8, a9, a10, a11, a12, a13, a14, a15, a16, a17, a18⟩ := I1.ok
   exact ⟨a1, a2, a3, a4, a5, a6, a7, a8, a9, a10, a11, a12, a13, a14, a15, a16, a17, a18⟩
 obtain ⟨m', ns', lo⟩ := I1.loc
 refine ⟨ok, I1.os, I1.bare, I1.base, ⟨m', ns', fun i z v e1 e2 e3 => ?_⟩, I1.cell, I1.free, I1.freeC, I1.pin, I1.hok, ?_⟩
 · match i, e1, e2 with
   | 0, _, e2 => cases e2
   | 1, _, e2 => cases e2
   | j + 2, e1, e2 => exact lo (j + 1) z v e1 e2 e3
 · have := I1.len
   show (none :: none :: σ).length = (x :: y :: M).length
   have h2 : (none :: σ).length = (x :: M).length := this
   simp only [List.length_cons] at h2 ⊢
   omega
def tComp2 (wi : TI) (g : TG) (tc : TT) (te : TE) : TE := fun σ H Q => wi σ H fun J H1 => ∃ (n : Nat) (W : Nat → List V → Hp → Prop), n ≤ sizeLine ∧ W 0 [] H1 ∧ ∀ i ys H, i ≤ n → ys.length ≤ i → W i ys H →
 (J.stop i H ∧ ∀ p, H p = none → Q (.ref p) (upd H p (.lst ys))) ∨ (J.go i H ∧ i < n ∧ ∀ x H', J.yld i H x H' → ∀ u v, g x (u :: v :: σ) H' fun ρ H2 => (∃ u' v', ρ = u' :: v' :: σ) ∧ tc ρ H2 fun c H3 => if c = true then te ρ H3 fun z H4 => W (i + 1) (ys ++ [z]) H4 else W (i + 1) ys H3)
theorem comp_block2 (K : CompOk2 X scope x y M) (hc : X.calm = true) (I : Inv X pins σ H₂ s₂) (hg : ∀ (C : Addr) (s₂ : Shared) (H₂ : Hp) (fp : List Addr), PG (compCx2 X scope C x y M s₂ H₂ fp) tg g) (ht : ∀ (C : Addr) (s₂ : Shared) (H₂ : Hp) (fp : List Addr), PIfs (compCx2 X scope C x y M s₂ H₂ fp) ifs tc) (he : ∀ (C : Addr) (s₂ : Shared) (H₂ : Hp) (fp : List Addr), PE (compCx2 X scope C x y M s₂ H₂ fp) elt te)
   {it : Addr} {fp : List Addr} {tn : Nat → Heap → Prop} {J : It} (T : Turn X.prog X.w X.K tg J fp it tn) (st : tn 0 s₂.heap) (hf : ∀ b ∈ fp, FpOk X pins H₂ b) {n : Nat} (hsz : n ≤ sizeLine) {W : Nat → List V → Hp → Prop} {F : List V → Hp → Prop}
   (w0 : W 0 [] H₂) (turn : ∀ i ys H, i ≤ n → ys.length ≤ i → W i ys H → (J.stop i H ∧ F ys H) ∨ (J.go i H ∧ i < n ∧ ∀ x H', J.yld i H x H' → ∀ u v, g x (u :: v :: σ) H' fun ρ H2 => (∃ u' v', ρ = u' :: v' :: σ) ∧ tc ρ H2 fun c H3 => if c = true then te ρ H3 fun z H4 => W (i + 1) (ys ++ [z]) H4 else W (i + 1) ys H3))
   {E : Value → Shared → Prop} {RR : Value → Addr → Result → Shared → Prop}
   (hRR : ∀ (D C : Addr) (s' : Shared) (H' : Hp) (ys : List V) (m : Str → Option Value), Inv X pins σ (upd H' D (.lst ys)) s' → H' D = none → FpOk X pins (upd H' D (.lst ys)) C → s'.heap.Ns C m → F ys H' → RR (.ref D) C (.ok .next) s') :
   wpAny (model X.prog X.w) X.A (newList []) (fun acc s₃ => wpAny (model X.prog X.w) X.A (newFunctionEnv scope X.env.globals (clOf X.env scope.names []) [] X.env.qual none .none (some X.env)) (fun cenv s₄ =>
     codeAny (model X.prog X.w) X.A (.compStart (.ListComp elt [⟨tg, iter, ifs, 0⟩] scope pos) 0 (.ref it) acc { cenv with scope := relabel scope X.env }) (RR acc cenv.locals) s₄) E s₃) E s₂ := by
 refine wpAny_newObj_type (wpAny_newFunctionEnv K.base.cell (by intro y hy; simp at hy) (fun h₁ hns₁ hsb₁ => ?_) K.base.kind)
 dsimp only at hns₁ hsb₁ ⊢
 generalize hH2 : s₂.heap.push { cls := .type "list", dict := none, data := .seq ([] : List Value).toArray } = H2 at hns₁ hsb₁ ⊢
 have hC : H2.objs.size = s₂.heap.objs.size + 1 := by rw [← hH2, Heap.size_push]
 have hDC : s₂.heap.objs.size ≠ H2.objs.size := by rw [hC]; exact Nat.ne_of_lt (Nat.lt_succ_self _)
 have below : ∀ b, b < s₂.heap.objs.size → b ≠ H2.objs.size ∧ b ≠ s₂.heap.objs.size := fun b hb => ⟨by rw [hC]; exact Nat.ne_of_lt (Nat.lt_succ_of_lt hb), Nat.ne_of_lt hb⟩
 have hfl : ∀ b ∈ fp, b < s₂.heap.objs.size := fun b hb => by obtain ⟨o, e, _⟩ := T.obj _ _ st b hb; exact Heap.lt_size e
 have old : ∀ b o, s₂.heap.get? b = some o → h₁.get? b = some o := fun b o e => hsb₁.extBut b o (below b (Heap.lt_size e)).1 (Heap.get?_push_of_some _ (hH2 ▸ Heap.get?_push_of_some _ e))
 have hacc : h₁.get? s₂.heap.objs.size = some { cls := .type "list", data := .seq ([] : List Value).toArray 0 } := hsb₁.extBut _ _ hDC (Heap.get?_push_of_some _ (hH2 ▸ Heap.get?_push_size _ rfl))
 generalize hCC : H2.objs.size = C at *
 generalize hDD : s₂.heap.objs.size = D at *
 have hCle : s₂.heap.objs.size ≤ C := by rw [hDD, hC]; exact Nat.le_succ _
 have st₁ : tn 0 h₁ := T.keep _ _ _ st fun b _ o e => old b o e
 have I₁ := inv_comp2 (t := s₂.toks + ([] : List (Str × Value)).length) K I hf (fun b hb => by rw [hDD]; exact hfl b hb) hCle hns₁ old
 generalize hX' : compCx2 X scope C x y M s₂ H₂ fp = X' at I₁
 have eX : X'.prog = X.prog ∧ X'.w = X.w ∧ X'.K = X.K ∧ X'.calm = true ∧ X'.A = X.A ∧ X'.ex = fp ∧ X'.env = compEnvC scope (clOf X.env scope.names []) C X.env ∧ X'.s₀ = s₂ ∧ X'.pn = [] := by
   subst hX'; exact ⟨rfl, rfl, rfl, hc, rfl, rfl, rfl, rfl, rfl⟩
 obtain ⟨eP, ew, eK, ec, eA, eex, eenv, es0, epn⟩ := eX
 have eL : X'.env.locals = C := by rw [eenv]; rfl
 have cells' : ∀ y c, X'.env.cells.lookup y = some c → X.env.cells.lookup y = some c := fun y c e => by rw [eenv] at e; exact CompOk.cl_of e
 have efs : X'.fs = frs X.stack := by subst hX'; rfl
 have fsub : ∀ b ∈ X'.fs, b = X.env.locals ∨ b ∈ X.fs := fun b hb => List.mem_cons.mp (I.stkSub b (by rw [← efs]; exact hb))
 have fpok : ∀ {pn : List (Addr × Obj)} {H' : Hp}, (∀ p ∈ pn, p.1 = D) → (∀ b ∈ fp, H' b = none) → ∀ b ∈ fp, FpOk X' pn H' b := fun {pn H'} hp hn b hb => by
   refine ⟨hn b hb, ?_, fun z => ?_, .inl (by rw [eex]; exact hb), fun y c e => (hf b hb).2.2.2.2.1 y c (cells' y c e), fun p hq => ?_⟩
   · rw [eL]; exact (below b (hfl b hb)).1
   · rcases fsub b z with q | q
     · exact (hf b hb).2.1 q
     · exact (hf b hb).2.2.1 q
   · rw [epn, List.nil_append] at hq
     rw [hp p hq]; exact Ne.symm (below b (hfl b hb)).2
 have Dfp : D ∉ fp := fun z => Nat.lt_irrefl _ (hfl D z)
 have ltL : X.env.locals < D := by have := I.lt; rw [hDD] at this; exact this
 have ltF : ∀ b ∈ X.fs, b < D := fun b hb => Nat.lt_of_not_le fun z => I.nofs (a := b) (by rw [hDD]; exact z) hb
 have newok : ∀ {b : Addr} {pn : List (Addr × Obj)} {H' : Hp}, D ≤ b → b ≠ C → H' b = none → (∀ p ∈ pn, p.1 ≠ b) → FpOk X' pn H' b := fun {b pn H'} hb hbC hn hp => by
   refine ⟨hn, by rw [eL]; exact hbC, fun z => ?_, .inr (by rw [es0, hDD]; exact hb), fun y c e => ?_, fun p hq => ?_⟩
   · rcases fsub b z with q | q
     · rw [q] at hb; exact absurd (Nat.lt_of_lt_of_le ltL hb) (Nat.lt_irrefl _)
     · exact absurd (Nat.lt_of_lt_of_le (ltF b q) hb) (Nat.lt_irrefl _)
   · obtain ⟨v, o, ho, _⟩ := I.cell y c (cells' y c e)
     have := Heap.lt_size ho
     rw [hDD] at this
     exact Nat.ne_of_lt (Nat.lt_of_lt_of_le this hb)
   · rw [epn, List.nil_append] at hq
     exact hp p hq
 have outer : ∀ {σ' : St} {H' : Hp} {s' : Shared} {pn : List (Addr × Obj)}, Inv X' pn σ' H' s' → Inv X pins σ H' s' := fun {σ' H' s' pn} J' => by
   subst hX'
   refine I.call' (ch := fp) J'.os J'.base J'.hok J'.bare fun b hb => ?_
   obtain ⟨f0, f1, f2, f3, f4, f5⟩ := hf b hb
   exact ⟨f3, f1, f4, f5⟩
 have outok : ∀ {b : Addr} {H' : Hp}, D ≤ b → H' b = none → FpOk X pins H' b := fun {b H'} hb hn => by
   have q := I.fpOk (H' := H') (b := b) (by rw [hDD]; exact hb) hn
   exact q
 have loop : ∀ s₃ : Shared, s₃ = { s₂ with heap := h₁, toks := s₂.toks + ([] : List (Str × Value)).length } →
     codeAny (model X.prog X.w) X.A (.compLoop (.ListComp elt [⟨tg, iter, ifs, 0⟩] scope pos) 0 (.ref it) (.ref D) (compEnvC scope (clOf X.env scope.names []) C X.env)) (RR (.ref D) C) s₃ := by
   rintro s₃ rfl
   refine compLoop_go2 (fun k s' => ∃ (i : Nat) (ys : List V) (its : List Value) (σ0 σ1 : Option V) (H' : Hp), i ≤ n ∧ k = n + 1 - i ∧ ys.length ≤ i ∧ Inv X' [] (σ0 :: σ1 :: σ) H' s' ∧ tn i s'.heap ∧ (∀ b ∈ fp, H' b = none) ∧ H' D = none ∧ Vals ys its ∧
     (∃ c, s'.heap.get? D = some { cls := .type "list", data := .seq its.toArray c }) ∧ W i ys H') ?_ (n + 1) ⟨0, [], [], none, none, H₂, Nat.zero_le _, rfl, Nat.le_refl _, I₁, st₁, fun b hb => (hf b hb).1, by rw [← hDD]; exact I.hok.fresh (Nat.le_refl _), .nil, ⟨0, hacc⟩, w0⟩
   rintro k s' ⟨i, ys, its, σ0, σ1, H', hi, rfl, hyl, I', st', fr', hD', rv, ⟨c, hobj⟩, w'⟩
   rcases turn i ys H' hi hyl w' with ⟨stop, fin⟩ | ⟨go, hlt, step⟩
   · have pinD : Inv X' [(D, { cls := .type "list", data := .seq its.toArray c })] (σ0 :: σ1 :: σ) H' s' := I'.pins_of fun p hp => by
       obtain rfl : p = (D, { cls := .type "list", data := .seq its.toArray c }) := by simpa using hp
       refine ⟨hobj, hD', ?_, ?_, fun v z => nomatch z⟩
       · rw [eL]; exact hDC
       · intro z
         rcases fsub D z with q | q
         · rw [q] at ltL; exact Nat.lt_irrefl _ ltL
         · exact Nat.lt_irrefl _ (ltF D q)
     have q := T.done X' eP ew eK ec i _ s' (σ0 :: σ1 :: σ) H' (notedBy (model X.prog X.w) X.A (compEnvC scope (clOf X.env scope.names []) C X.env) fun e s' => RR (.ref D) C (.error e) s') pinD (fpok (fun p hp => by obtain rfl : p = (D, { cls := .type "list", data := .seq its.toArray c }) := (by simpa using hp); rfl) fr') st' stop
     rw [eA] at q
     refine wpAny_mono q (fun r s4 ⟨hr, I4⟩ => ?_) fun _ _ z => z
     subst hr
     obtain ⟨e4, n4, _⟩ := I4.pin (D, { cls := .type "list", data := .seq its.toArray c }) (List.mem_append_right _ (by simp))
     have O4 := outer I4
     obtain ⟨m4, ns4, _⟩ := I4.loc
     rw [eL] at ns4
     refine hRR D C s4 H' ys m4 (O4.track (outok (Nat.le_refl _) n4) (Nat.le_trans I.sz (by rw [hDD]; exact Nat.le_refl _)) ⟨Nat.le_trans hyl (Nat.le_trans hi hsz), its, c, rv, e4⟩) n4 (outok (by rw [hC]; exact Nat.le_succ _) ?_) ns4 fin
     rw [zF (Ne.symm hDC)]
     have := I4.free
     rw [eL] at this
     exact this
   · have pinD : Inv X' [(D, { cls := .type "list", data := .seq its.toArray c })] (σ0 :: σ1 :: σ) H' s' := I'.pins_of fun p hp => by
       obtain rfl : p = (D, { cls := .type "list", data := .seq its.toArray c }) := by simpa using hp
       refine ⟨hobj, hD', ?_, ?_, fun v z => nomatch z⟩
       · rw [eL]; exact hDC
       · intro z
         rcases fsub D z with q | q
         · rw [q] at ltL; exact Nat.lt_irrefl _ ltL
         · exact Nat.lt_irrefl _ (ltF D q)
     have pd : ∀ p ∈ [(D, ({ cls := .type "list", data := .seq its.toArray c } : Obj))], p.1 = D := fun p hp => by obtain rfl : p = (D, { cls := .type "list", data := .seq its.toArray c }) := (by simpa using hp); rfl
     have q := T.item X' eP ew eK ec i _ s' (σ0 :: σ1 :: σ) H' (notedBy (model X.prog X.w) X.A (compEnvC scope (clOf X.env scope.names []) C X.env) fun e s' => RR (.ref D) C (.error e) s') pinD (fpok pd fr') st' go
     rw [eA] at q
     refine wpAny_mono q (fun r s4 ⟨u, hr, h4⟩ => ?_) fun _ _ z => z
     subst hr
     refine wpAny_mono h4 (fun _ s5 ⟨xv, H5, I5, r5, y5, st5, fr5⟩ => ?_) fun _ _ z => z
     have I5' := I5.pinned (fpok pd fr5) (T.obj _ _ st5)
     rw [← eenv]
     have g6 := step xv H5 y5 σ0 σ1
     have q6 := (hg C s₂ H₂ fp) (([(D, ({ cls := .type "list", data := .seq its.toArray c } : Obj))]) ++ pinsAt fp s5.heap) s5 (σ0 :: σ1 :: σ) H5 xv u _ (by rw [hX']; exact I5') r5 g6
     rw [hX', eP, ew, eA] at q6
     refine wpAny_mono q6 (fun _ s6 ⟨ρ, H6, I6, ⟨u', v', eρ⟩, t6⟩ => ?_) (fun _ _ z => by subst hX'; exact (show False from z).elim)
     subst eρ
     have q7 := (ht C s₂ H₂ fp) _ s6 (u' :: v' :: σ) H6 _ (by rw [hX']; exact I6) t6
     rw [hX', eP, ew, eA] at q7
     refine wpAny_mono q7 (fun ok s7 ⟨H7, I7, w7⟩ => ?_) (fun _ _ z => by subst hX'; exact (show False from z).elim)
     have keepT : ∀ {s8 : Shared} {H8 : Hp} {pn : List (Addr × Obj)}, Inv X' (pn ++ (([(D, ({ cls := .type "list", data := .seq its.toArray c } : Obj))]) ++ pinsAt fp s5.heap)) (u' :: v' :: σ) H8 s8 → True := fun _ => trivial
     cases ok with
     | false =>
       obtain ⟨e7, n7, _⟩ := I7.pin (D, { cls := .type "list", data := .seq its.toArray c }) (List.mem_append_right _ (List.mem_append_left _ (by simp)))
       refine ⟨n + 1 - (i + 1), by omega, i + 1, ys, its, u', v', H7, hlt, rfl, Nat.le_succ_of_le hyl, I7.pins_of (pins' := []) fun p hp => absurd hp (by simp), ?_, fun b hb => ?_, n7, rv, ⟨c, e7⟩, w7⟩
       · refine T.keep _ _ _ st5 fun b hb o e => ?_
         exact (I7.pin (b, o) (List.mem_append_right _ (List.mem_append_right _ (yR hb e)))).1
       · obtain ⟨o, e, d⟩ := T.obj _ _ st5 b hb
         exact (I7.pin (b, o) (List.mem_append_right _ (List.mem_append_right _ (yR hb e)))).2.1
     | true =>
       have q8 := (he C s₂ H₂ fp) _ s7 (u' :: v' :: σ) H7 (fun z H'' => W (i + 1) (ys ++ [z]) H'') (by rw [hX']; exact I7) w7
       rw [hX', eP, ew, eA] at q8
       refine wpAny_mono q8 (fun u8 s8 ⟨v8, H8, I8, r8, w8⟩ => ?_) (fun _ _ z => by subst hX'; exact (show False from z).elim)
       obtain ⟨e7, n7, _⟩ := I8.pin (D, { cls := .type "list", data := .seq its.toArray c }) (List.mem_append_right _ (List.mem_append_left _ (by simp)))
       refine append_at (hsz := by rw [List.size_toArray, ← rv.length]; exact Nat.le_trans hyl (Nat.le_trans hi hsz)) e7 fun h8 sb8 g8 => ?_
       have I9 : Inv X' [] (u' :: v' :: σ) H8 { s8 with heap := h8, toks := s8.toks } := (I8.pins_of (pins' := []) fun p hp => absurd hp (by simp)).turned (t' := s8.toks) (it := D) (fun b o hb e => (sb8.2 b hb).trans e) n7 (by rw [eL]; exact hDC) (.inr (by rw [es0, hDD]; exact Nat.le_refl _))
         (newok (H' := H8) (pn := []) (Nat.le_refl _) hDC n7 (fun p hp => absurd hp (by simp))).2.2.2.2.1 (fun p hp => by rw [epn] at hp; exact absurd hp (by simp))
       refine ⟨n + 1 - (i + 1), by omega, i + 1, ys ++ [v8], its ++ [u8], u', v', H8, hlt, rfl, by rw [List.length_append, List.length_singleton]; omega, I9, ?_, fun b hb => ?_, n7, rv.append (.cons r8 .nil), ⟨c + 1, ?_⟩, w8⟩
       · refine T.keep _ _ _ st5 fun b hb o e => ?_
         have e' := (I8.pin (b, o) (List.mem_append_right _ (List.mem_append_right _ (yR hb e)))).1
         exact (sb8.2 b (fun z => Dfp (z ▸ hb))).trans e'
       · obtain ⟨o, e, d⟩ := T.obj _ _ st5 b hb
         exact (I8.pin (b, o) (List.mem_append_right _ (List.mem_append_right _ (yR hb e)))).2.1
       · rw [g8, List.push_toArray]
 exact codeAny_compStart_list (loop _ rfl) (T.self X.A 0 _ _ _ st₁ (loop _ rfl))
theorem pe_comp2 (K : CompOk2 X scope x y M) (hc : X.calm = true) (hi : PI X tg iter wi) (hg : ∀ (C : Addr) (s₂ : Shared) (H₂ : Hp) (fp : List Addr), PG (compCx2 X scope C x y M s₂ H₂ fp) tg g) (ht : ∀ (C : Addr) (s₂ : Shared) (H₂ : Hp) (fp : List Addr), PIfs (compCx2 X scope C x y M s₂ H₂ fp) ifs tc) (he : ∀ (C : Addr) (s₂ : Shared) (H₂ : Hp) (fp : List Addr), PE (compCx2 X scope C x y M s₂ H₂ fp) elt te)
   (hs : ∀ x, foldedSetIterable iter X.env x = pure x := by intro _; rfl) : PE X (.ListComp elt [⟨tg, iter, ifs, 0⟩] scope pos) (tComp2 wi g tc te) := by
 intro pins s σ H Q I h
 rw [eval_ListComp]
 refine wpAny_comprehension_free (use := none) rfl hs (K.base.closure I.ok) K.base.kind K.base.names (thn (hi pins s σ H _ I h) fun v s1 h1 => thn h1 fun itv s2 h2 => ?_)
 obtain ⟨it, fp, tn, J, H2, e, I2, T, st2, f2, n, W, hsz, w0, turn⟩ := h2
 subst e
 refine comp_block2 (RR := fun acc C => compPost (model X.prog X.w) X.A X.xe none (EP X pins σ Q) acc C) K hc I2 hg ht he T st2 f2 hsz (F := fun ys H => ∀ p, H p = none → Q (.ref p) (upd H p (.lst ys))) w0 turn ?_
 intro D C s' H' ys m I' n' fC ns fin
 refine ⟨m, ns, fun h' sb => ?_⟩
 obtain ⟨f0, f1, f2, f3, f4, f5⟩ := fC
 exact ⟨.ref D, _, I'.turned (t' := s'.toks) (it := C) (fun b o hb e => (sb.2 b hb).trans e) f0 f1 f3 f4 f5, rfl, fin D n'⟩
end
end L2
namespace L2
open PySem PySem.Spec PyProof.Rows PySem.Calls
section
variable {X : Cx} {scope : Scope} {x y : Str} {M : List Str} {elt iter : Expr} {ifs : List Expr} {pos p1 p2 p3 : Pos} {kk : Nat} {te : TE} {wi : TI} {tc : TT}
structure CompRT (K : PySem.W.Frag) (J : It) (tc : TT) (te : TE) (σ : St) (H1 : Hp) (Q : VK) : Prop where
 ex : ∃ (n : Nat) (W : Nat → List V → Hp → Prop), n ≤ sizeLine ∧ W 0 [] H1 ∧ ∀ i ys H, i ≤ n → ys.length ≤ i → W i ys H →
   (J.stop i H ∧ ∀ p, H p = none → Q (.ref p) (upd H p (.lst ys))) ∨ (J.go i H ∧ i < n ∧ ∀ z H', J.yld i H z H' → ∃ (p : Addr) (a b : V), z = .ref p ∧ SqT K H' p [a, b] ∧ tc (some a :: some b :: σ) H' fun c H3 => if c = true then te (some a :: some b :: σ) H3 fun z H4 => W (i + 1) (ys ++ [z]) H4 else W (i + 1) ys H3)
def tCompT (K : PySem.W.Frag) (wi : TI) (tc : TT) (te : TE) : TE := fun σ H Q => wi σ H fun J H1 => CompRT K J tc te σ H1 Q
theorem pg_two (K : CompOk2 X scope x y M) (hc : X.calm = true) {C : Addr} {s₂ : Shared} {H₂ : Hp} {fp : List Addr} : PG (compCx2 X scope C x y M s₂ H₂ fp) (.Tuple [.Name x p1, .Name y p2] kk p3) (gTup X.K 2 (gCons (gName 0) (gCons (gName 1) gNil))) :=
 pg_tup (X := compCx2 X scope C x y M s₂ H₂ fp) hc (yY (yM K.nd2 rfl (.inl (lookup_relabel_local K.base.loc)) (.inr (lookup_relabel_local K.base.loc))) (yY (yM K.nd2 rfl (.inl (lookup_relabel_local K.loc2)) (.inr (lookup_relabel_local K.loc2))) pgs_nil))
theorem pe_compT (K : CompOk2 X scope x y M) (hc : X.calm = true) (hi : PI X (.Tuple [.Name x p1, .Name y p2] kk p3) iter wi) (ht : ∀ (C : Addr) (s₂ : Shared) (H₂ : Hp) (fp : List Addr), PIfs (compCx2 X scope C x y M s₂ H₂ fp) ifs tc) (he : ∀ (C : Addr) (s₂ : Shared) (H₂ : Hp) (fp : List Addr), PE (compCx2 X scope C x y M s₂ H₂ fp) elt te)
   (hs : ∀ x, foldedSetIterable iter X.env x = pure x := by intro _; rfl) : PE X (.ListComp elt [⟨.Tuple [.Name x p1, .Name y p2] kk p3, iter, ifs, 0⟩] scope pos) (tCompT X.K wi tc te) := by
 intro pins s σ H Q I h
 have q := pe_comp2 (pos := pos) K hc (wi := fun σ0 H0 R0 => ∃ R, wi σ0 H0 R ∧ ∀ J H1, R J H1 → R0 J H1) (pi_conv hi fun σ H R ⟨R1, a, b⟩ => ⟨R1, a, b⟩) (fun C s₂ H₂ fp => pg_two (p1 := p1) (p2 := p2) (p3 := p3) (kk := kk) K hc) ht he hs pins s σ H Q I
 refine q ⟨_, h, fun J H1 r => ?_⟩
 obtain ⟨n, W, h1, h2, h3⟩ := r.ex
 refine ⟨n, W, h1, h2, fun i ys H' hi hy hw => ?_⟩
 rcases h3 i ys H' hi hy hw with hq | ⟨g1, g2, g3⟩
 · exact .inl hq
 · refine .inr ⟨g1, g2, fun z H2 hz u v => ?_⟩
   obtain ⟨p, a, b, e, hq, t⟩ := g3 z H2 hz
   exact ⟨p, [a, b], e, hq, rfl, a, [b], rfl, b, [], rfl, rfl, ⟨_, _, rfl⟩, t⟩
end
theorem comp_listT {K : PySem.W.Frag} {a : Addr} {xs : List V} {tc : TT} {te : TE} {σ : St} {H : Hp} {Q : VK} (hz : xs.length ≤ sizeLine) (W : Nat → List V → Hp → Prop) (h0 : W 0 [] H) (hq : ∀ i ys H, W i ys H → SqL K H a xs)
   (hs : ∀ i x ys H, xs[i]? = some x → ys.length ≤ i → W i ys H → ∃ (p : Addr) (u v : V), x = .ref p ∧ SqT K H p [u, v] ∧ tc (some u :: some v :: σ) H fun c H3 => if c = true then te (some u :: some v :: σ) H3 fun z H4 => W (i + 1) (ys ++ [z]) H4 else W (i + 1) ys H3)
   (hd : ∀ ys H, W xs.length ys H → ∀ p, H p = none → Q (.ref p) (upd H p (.lst ys))) : CompRT K (Itl K a) tc te σ H Q := by
 refine ⟨xs.length, W, hz, h0, fun i ys H hi hl hw => ?_⟩
 have q := hq i ys H hw
 by_cases hlt : i < xs.length
 · refine .inr ⟨⟨xs, xs[i], q, by simp [hlt]⟩, hlt, fun v H' y => ?_⟩
   obtain ⟨e, y⟩ := y
   subst e
   exact hs i v ys _ (y xs q) hl hw
 · have e : i = xs.length := by omega
   subst e
   exact .inl ⟨⟨xs, q, Nat.le_refl _⟩, hd ys H hw⟩
section
variable {prog : Program} {w : World} {A : Around} {E : Value → Shared → Prop} {s : Shared}
end
section
variable {X : Cx}
end
section
variable {X : Cx} {tg : Expr}
end
theorem eqi_ftups {X : Cx} {H : Hp} {n : Nat} {p q : Addr} {xs ys : List V} (h : SqT X.K H p xs) (k : SqT X.K H q ys) (fx : xs.all flatV = true) (fy : ys.all flatV = true) (hxy : eqL xs ys = true → xs = ys) : EqJi X H (n + 1) (.ref p) (.ref q) (eqL xs ys) := by
 by_cases hpq : p = q
 · subst hpq
   intro pins s σ u v A I ru rv hu
   have e2 := I.tuple_inj h k
   subst e2
   rw [eqL_self fx]
   exact eqi_same (n := n + 1) pins s σ u v A I ru rv hu
 · exact eqi_refs hpq (eqj_ftups (n := n) h k fx fy)
end L2
namespace L2
open PySem PySem.Spec PyProof.Rows PySem.Calls
end L2
namespace L2
open PySem PySem.Spec PyProof.Rows PySem.Calls
end L2
namespace L2
open PySem PySem.Spec PyProof.Rows PySem.Calls
open PySem.W (tabObj CodeHd kla_obj kla_fn)
structure LamD where
 qual : Str
 params : Arguments
 body : Expr
 scope : Scope
 x : Str
 y : Str
def SameB (P : Addr) (H H' : Hp) : Prop := ∀ b u, b ≠ P → H b = some u → H' b = some u
theorem SameB.trans {P : Addr} {H H1 H2 : Hp} (a : SameB P H H1) (b : SameB P H1 H2) : SameB P H H2 := fun c u n e => b c u n (a c u n e)
theorem SameB.refl {P : Addr} {H : Hp} : SameB P H H := fun _ _ _ e => e
theorem IsCell.one {h1 h2 : Heap} {c : Addr} {v : Option Value} (x : h1.IsCell c v) (k : ∀ o, h1.get? c = some o → h2.get? c = some o) : h2.IsCell c v :=
 let ⟨o, ho, hd⟩ := x; ⟨o, k o ho, hd⟩
structure LamD.Ok (D : LamD) : Prop where
 kind : D.scope.kind = .function
 co : D.scope.isCoroutine = false
 gen : D.scope.isGenerator = false
 names : D.scope.names = [(D.x, .local), (D.y, .free)]
 ne : D.x ≠ D.y
 bind : ∀ (cc : Addr) (pm cdv ct u : Value), bindArgs (kla_fn "<lambda>" D.qual D.params D.body D.scope [(D.y, cc)] pm cdv ct) ⟨[u], []⟩ = pure [(D.x, u)]
theorem LamD.Ok.of {D : LamD} (O : D.Ok) {x : Str} {k : NameKind} (h : D.scope.names.lookup x = some k) : (x = D.x ∧ k = .local) ∨ (x = D.y ∧ k = .free) := by
 rw [O.names, List.lookup_cons] at h
 cases e : x == D.x with
 | true => rw [e] at h; cases h; exact .inl ⟨eq_of_beq e, rfl⟩
 | false =>
   rw [e, List.lookup_cons] at h
   cases e2 : x == D.y with
   | true => rw [e2] at h; cases h; exact .inr ⟨eq_of_beq e2, rfl⟩
   | false => rw [e2] at h; cases h
end L2
namespace L2
open PySem PySem.Spec PyProof.Rows PySem.Calls
open PySem.W (tabObj CodeHd kla_obj kla_fn)
end L2
namespace L2
open PySem PySem.Spec PyProof.Rows PySem.Calls
open PySem.W (tabObj CodeHd kla_obj kla_fn)
end L2
namespace L2
open PySem PySem.Spec PyProof.Rows PySem.Calls
section
variable {X : Cx}
end
end L2
namespace L2
open PySem PySem.Spec PyProof.Rows PySem.Calls
section
variable {X : Cx}
end
end L2
namespace L2
open PySem PySem.Spec
end L2
namespace L2
open PySem PySem.Spec PyProof.Rows PySem.Calls
section
variable {X : Cx}
def TJ := St → Hp → (Hp → Prop) → Prop
def JP (X : Cx) (n : Nat) (es : List Expr) (t : TJ) : Prop := ∀ (out : Str) (pins : List (Addr × Obj)) (s : Shared) (σ : St) (H : Hp) (Q : VK), out.length ≤ n → Inv X pins σ H s → t σ H (fun H1 => ∀ y, Q (.str y) H1) → wpAny (model X.prog X.w) X.A (joinParts out (evalEach es X.env)) (EP X pins σ Q) X.xe s
theorem jp_nil {n : Nat} (hn : n ≤ 16777216 := by symm) : JP X n [] (fun σ H K => K H) := by
 intro out pins s σ H Q ho I h
 refine joinParts_nilE (joinParts_nil ⟨.str _, H, I.tok _, ⟨_, rfl⟩, h _⟩ ?_)
 rw [sizeLine_eq]; omega
theorem jp_c {n : Nat} {c : Str} {j : Nat} {p : Pos} {es : List Expr} {t : TJ} (h : JP X (n + c.length) es t) (hn : n + c.length ≤ 16777216 := by symm) : JP X n (.Constant (.str c) j p :: es) t := by
 intro out pins s σ H Q ho I ht
 have hl : (out ++ c).length ≤ n + c.length := by rw [strLen_append]; omega
 exact joinParts_consE (joinParts_cons (Calls.Constant_str ⟨by rw [sizeLine_eq]; omega, h _ pins _ σ H Q hl (I.tok _) ht⟩))
theorem jp_r {n : Nat} {e : Expr} {te : TE} {p : Pos} {es : List Expr} {t : TJ} (he : PE X e te) (h : JP X (n + 1000002) es t) (hn : n + 1000002 ≤ 16777216 := by symm) :
   JP X n (.FormattedValue e 114 none p :: es) (fun σ H K => te σ H fun x H1 => ∃ z, x = .str z ∧ z.length ≤ 100000 ∧ (∀ k ∈ cd z, k < 1000) ∧ t σ H1 K) := by
 intro out pins s σ H Q ho I ht
 refine joinParts_consE (joinParts_cons (wpAny_FormattedValue_repr (thn (he pins _ σ H _ I ht) fun v s1 ⟨x, H1, I1, r, z, ex, hz, hk, q⟩ => ?_)))
 subst ex
 obtain ⟨t', rfl⟩ := r
 have hl : (reprText z).length ≤ 1000002 := Nat.le_trans (StrLaws.reprText_len z fun c hc => Nat.lt_of_lt_of_le (hk c hc) (by decide)) (by omega)
 have hl2 : (out ++ reprText z).length ≤ n + 1000002 := by rw [strLen_append]; omega
 refine wpAny_pyReprObj_str (formatField_str (fun t' tk => ⟨?_, h _ pins _ σ H1 Q hl2 (I1.tok _) q⟩) ?_) ?_
 · rw [sizeLine_eq]; omega
 · rw [sizeLine_eq]; omega
 · rw [sizeLine_eq]; omega
theorem pe_fstrJ {v1 v2 : Expr} {rest : List Expr} {pos : Pos} {t : TJ} (h : JP X 0 (v1 :: v2 :: rest) t) : PE X (.JoinedStr (v1 :: v2 :: rest) pos) (fun σ H Q => t σ H fun H1 => ∀ y, Q (.str y) H1) := by
 intro pins s σ H Q I ht
 exact JoinedStr_many (h Str.empty pins s σ H Q (Nat.le_refl _) I ht)
end
end L2
namespace L2
open PySem PySem.Spec PyProof.Rows PySem.Calls
section
variable {X : Cx}
theorem pe_no {e : Expr} : PE X e (fun _ _ _ => False) := fun _ _ _ _ _ _ h => h.elim
end
end L2
namespace L2
open PySem PySem.Spec PyProof.Rows PySem.Calls
section
variable {X : Cx} {scope : Scope} {x y : Str} {M : List Str} {tg elt iter : Expr} {ifs : List Expr} {pos p1 p2 p3 : Pos} {kk : Nat} {te : TE} {wi : TI} {tc : TT} {g : TG}
end
end L2
namespace L2
open PySem PySem.Spec PyProof.Rows PySem.Calls
end L2
namespace L2
open PySem PySem.Spec PyProof.Rows PySem.Calls
section
variable {X : Cx} {pins : List (Addr × Obj)} {σ : St} {H : Hp} {s : Shared} {h' : Heap}
theorem Inv.turnedM {t' : Nat} {L : List Addr} (I : Inv X pins σ H s) (k : ∀ b o, b ∉ L → s.heap.get? b = some o → h'.get? b = some o) (hL : ∀ b ∈ L, FpOk X pins H b) : Inv X pins σ H { s with heap := h', toks := t' } := by
 have nit : ∀ b u, H b = some u → b ∉ L := fun b u e z => by have := (hL b z).1; rw [this] at e; cases e
 refine I.step (g' := s.gens) (d' := s.drawn) (ch := L) (fun b hb => ?_) (fun b o _ _ hc e _ => k b o hc e) (fun b o _ _ hc e _ => ⟨o.slots, k b o hc e⟩) (fun _ _ _ _ n => n)
   (fun b o hc e => ⟨o, k b o hc e⟩) (fun _ _ e => e) (fun _ _ _ e => e) (fun b ps e => ⟨#[], by rw [e]; simp⟩) (fun m hm => ?_) (fun b u e => ?_) I.bare
 · obtain ⟨f0, f1, f2, f3, f4, f5⟩ := hL b hb
   exact ⟨f3, f1, f4, f5⟩
 · obtain ⟨o, es, ep, ho, r⟩ := hm
   exact ⟨o, es, ep, k _ o (fun z => (hL _ z).2.1 rfl) ho, r⟩
 · refine (I.hok b u e).stay (fun c v hc q => k c v ?_ q) (fun _ q => q) fun _ _ q => q
   rcases hc with z | z
   · rw [z]; exact nit b u e
   · exact nit c _ z
end
section
variable {X : Cx} {ea eb : Expr} {t : TA} {p pos tp : Pos} {elts : List Expr} {x1 : Nat}
end
end L2
namespace L2
open PySem PySem.Spec PyProof.Rows PySem.Calls
end L2
namespace L2
open PySem PySem.Spec PyProof.Rows PySem.Calls
section
variable {X : Cx} {scope : Scope} {x : Str} {M : List Str} {pins : List (Addr × Obj)} {σ : St} {H₂ : Hp} {s₂ : Shared} {elt iter tg : Expr} {ifs : List Expr} {pos px : Pos} {te : TE} {wi : TI} {g : TG} {tc : TT}
def tCompF0 (wi : TI) (g : TG) (tc : TT) (te : TE) : TE := fun σ H Q => wi σ H fun J H1 => ∃ (n : Nat) (W : Nat → List V → Hp → Prop), n ≤ sizeLine ∧ W 0 [] H1 ∧ ∀ i ys H, i ≤ n → ys.length ≤ i → W i ys H →
 (J.stop i H ∧ ∀ p, H p = none → Q (.ref p) (upd H p (.lst ys))) ∨ (J.go i H ∧ i < n ∧ ∀ x H', J.yld i H x H' → ∀ u, g x (u :: σ) H' fun ρ H2 => (∃ u', ρ = u' :: σ) ∧ tc ρ H2 fun c H3 => if c = true then te ρ H3 fun z H4 => W (i + 1) (ys ++ [z]) H4 else W (i + 1) ys H3)
theorem comp_blockF (K : CompOk X scope x M) (hc : X.calm = true) (I : Inv X pins σ H₂ s₂) (hg : ∀ (C : Addr) (s₂ : Shared) (H₂ : Hp) (fp : List Addr), PG (compCx X scope C x M s₂ H₂ fp) tg g) (ht : ∀ (C : Addr) (s₂ : Shared) (H₂ : Hp) (fp : List Addr), PIfs (compCx X scope C x M s₂ H₂ fp) ifs tc) (he : ∀ (C : Addr) (s₂ : Shared) (H₂ : Hp) (fp : List Addr), PE (compCx X scope C x M s₂ H₂ fp) elt te)
   {it : Addr} {fp : List Addr} {tn : Nat → Heap → Prop} {J : It} (T : Turn X.prog X.w X.K tg J fp it tn) (st : tn 0 s₂.heap) (hf : ∀ b ∈ fp, FpOk X pins H₂ b) {n : Nat} (hsz : n ≤ sizeLine) {W : Nat → List V → Hp → Prop} {F : List V → Hp → Prop}
   (w0 : W 0 [] H₂) (turn : ∀ i ys H, i ≤ n → ys.length ≤ i → W i ys H → (J.stop i H ∧ F ys H) ∨ (J.go i H ∧ i < n ∧ ∀ x H', J.yld i H x H' → ∀ u, g x (u :: σ) H' fun ρ H2 => (∃ u', ρ = u' :: σ) ∧ tc ρ H2 fun c H3 => if c = true then te ρ H3 fun z H4 => W (i + 1) (ys ++ [z]) H4 else W (i + 1) ys H3))
   {E : Value → Shared → Prop} {RR : Value → Addr → Result → Shared → Prop}
   (hRR : ∀ (D C : Addr) (s' : Shared) (H' : Hp) (ys : List V) (m : Str → Option Value), Inv X pins σ (upd H' D (.lst ys)) s' → H' D = none → FpOk X pins (upd H' D (.lst ys)) C → s'.heap.Ns C m → F ys H' → RR (.ref D) C (.ok .next) s') :
   wpAny (model X.prog X.w) X.A (newList []) (fun acc s₃ => wpAny (model X.prog X.w) X.A (newFunctionEnv scope X.env.globals (clOf X.env scope.names []) [] X.env.qual none .none (some X.env)) (fun cenv s₄ =>
     codeAny (model X.prog X.w) X.A (.compStart (.ListComp elt [⟨tg, iter, ifs, 0⟩] scope pos) 0 (.ref it) acc { cenv with scope := relabel scope X.env }) (RR acc cenv.locals) s₄) E s₃) E s₂ := by
 refine wpAny_newObj_type (wpAny_newFunctionEnv K.cell (by intro y hy; simp at hy) (fun h₁ hns₁ hsb₁ => ?_) K.kind)
 dsimp only at hns₁ hsb₁ ⊢
 generalize hH2 : s₂.heap.push { cls := .type "list", dict := none, data := .seq ([] : List Value).toArray } = H2 at hns₁ hsb₁ ⊢
 have hC : H2.objs.size = s₂.heap.objs.size + 1 := by rw [← hH2, Heap.size_push]
 have hDC : s₂.heap.objs.size ≠ H2.objs.size := by rw [hC]; exact Nat.ne_of_lt (Nat.lt_succ_self _)
 have below : ∀ b, b < s₂.heap.objs.size → b ≠ H2.objs.size ∧ b ≠ s₂.heap.objs.size := fun b hb => ⟨by rw [hC]; exact Nat.ne_of_lt (Nat.lt_succ_of_lt hb), Nat.ne_of_lt hb⟩
 have hfl : ∀ b ∈ fp, b < s₂.heap.objs.size := fun b hb => by obtain ⟨o, e, _⟩ := T.obj _ _ st b hb; exact Heap.lt_size e
 have old : ∀ b o, s₂.heap.get? b = some o → h₁.get? b = some o := fun b o e => hsb₁.extBut b o (below b (Heap.lt_size e)).1 (Heap.get?_push_of_some _ (hH2 ▸ Heap.get?_push_of_some _ e))
 have hacc : h₁.get? s₂.heap.objs.size = some { cls := .type "list", data := .seq ([] : List Value).toArray 0 } := hsb₁.extBut _ _ hDC (Heap.get?_push_of_some _ (hH2 ▸ Heap.get?_push_size _ rfl))
 generalize hCC : H2.objs.size = C at *
 generalize hDD : s₂.heap.objs.size = D at *
 have hCle : s₂.heap.objs.size ≤ C := by rw [hDD, hC]; exact Nat.le_succ _
 have st₁ : tn 0 h₁ := T.keep _ _ _ st fun b _ o e => old b o e
 have I₁ := inv_comp (t := s₂.toks + ([] : List (Str × Value)).length) K I hf (fun b hb => by rw [hDD]; exact hfl b hb) hCle hns₁ old
 generalize hX' : compCx X scope C x M s₂ H₂ fp = X' at I₁
 have eX : X'.prog = X.prog ∧ X'.w = X.w ∧ X'.K = X.K ∧ X'.calm = true ∧ X'.A = X.A ∧ X'.ex = fp ∧ X'.env = compEnvC scope (clOf X.env scope.names []) C X.env ∧ X'.s₀ = s₂ ∧ X'.pn = [] := by
   subst hX'; exact ⟨rfl, rfl, rfl, hc, rfl, rfl, rfl, rfl, rfl⟩
 obtain ⟨eP, ew, eK, ec, eA, eex, eenv, es0, epn⟩ := eX
 have eL : X'.env.locals = C := by rw [eenv]; rfl
 have cells' : ∀ y c, X'.env.cells.lookup y = some c → X.env.cells.lookup y = some c := fun y c e => by rw [eenv] at e; exact CompOk.cl_of e
 have efs : X'.fs = frs X.stack := by subst hX'; rfl
 have fsub : ∀ b ∈ X'.fs, b = X.env.locals ∨ b ∈ X.fs := fun b hb => List.mem_cons.mp (I.stkSub b (by rw [← efs]; exact hb))
 have fpok : ∀ {pn : List (Addr × Obj)} {H' : Hp}, (∀ p ∈ pn, p.1 = D) → (∀ b ∈ fp, H' b = none) → ∀ b ∈ fp, FpOk X' pn H' b := fun {pn H'} hp hn b hb => by
   refine ⟨hn b hb, ?_, fun z => ?_, .inl (by rw [eex]; exact hb), fun y c e => (hf b hb).2.2.2.2.1 y c (cells' y c e), fun p hq => ?_⟩
   · rw [eL]; exact (below b (hfl b hb)).1
   · rcases fsub b z with q | q
     · exact (hf b hb).2.1 q
     · exact (hf b hb).2.2.1 q
   · rw [epn, List.nil_append] at hq
     rw [hp p hq]; exact Ne.symm (below b (hfl b hb)).2
 have Dfp : D ∉ fp := fun z => Nat.lt_irrefl _ (hfl D z)
 have ltL : X.env.locals < D := by have := I.lt; rw [hDD] at this; exact this
 have ltF : ∀ b ∈ X.fs, b < D := fun b hb => Nat.lt_of_not_le fun z => I.nofs (a := b) (by rw [hDD]; exact z) hb
 have newok : ∀ {b : Addr} {pn : List (Addr × Obj)} {H' : Hp}, D ≤ b → b ≠ C → H' b = none → (∀ p ∈ pn, p.1 ≠ b) → FpOk X' pn H' b := fun {b pn H'} hb hbC hn hp => by
   refine ⟨hn, by rw [eL]; exact hbC, fun z => ?_, .inr (by rw [es0, hDD]; exact hb), fun y c e => ?_, fun p hq => ?_⟩
   · rcases fsub b z with q | q
     · rw [q] at hb; exact absurd (Nat.lt_of_lt_of_le ltL hb) (Nat.lt_irrefl _)
     · exact absurd (Nat.lt_of_lt_of_le (ltF b q) hb) (Nat.lt_irrefl _)
   · obtain ⟨v, o, ho, _⟩ := I.cell y c (cells' y c e)
     have := Heap.lt_size ho
     rw [hDD] at this
     exact Nat.ne_of_lt (Nat.lt_of_lt_of_le this hb)
   · rw [epn, List.nil_append] at hq
     exact hp p hq
 have outer : ∀ {σ' : St} {H' : Hp} {s' : Shared} {pn : List (Addr × Obj)}, Inv X' pn σ' H' s' → Inv X pins σ H' s' := fun {σ' H' s' pn} J' => by
   subst hX'
   refine I.call' (ch := fp) J'.os J'.base J'.hok J'.bare fun b hb => ?_
   obtain ⟨f0, f1, f2, f3, f4, f5⟩ := hf b hb
   exact ⟨f3, f1, f4, f5⟩
 have outok : ∀ {b : Addr} {H' : Hp}, D ≤ b → H' b = none → FpOk X pins H' b := fun {b H'} hb hn => by
   have q := I.fpOk (H' := H') (b := b) (by rw [hDD]; exact hb) hn
   exact q
 have loop : ∀ s₃ : Shared, s₃ = { s₂ with heap := h₁, toks := s₂.toks + ([] : List (Str × Value)).length } →
     codeAny (model X.prog X.w) X.A (.compLoop (.ListComp elt [⟨tg, iter, ifs, 0⟩] scope pos) 0 (.ref it) (.ref D) (compEnvC scope (clOf X.env scope.names []) C X.env)) (RR (.ref D) C) s₃ := by
   rintro s₃ rfl
   refine compLoop_go2 (fun k s' => ∃ (i : Nat) (ys : List V) (its : List Value) (σ0 : Option V) (H' : Hp), i ≤ n ∧ k = n + 1 - i ∧ ys.length ≤ i ∧ Inv X' [] (σ0 :: σ) H' s' ∧ tn i s'.heap ∧ (∀ b ∈ fp, H' b = none) ∧ H' D = none ∧ Vals ys its ∧
     (∃ c, s'.heap.get? D = some { cls := .type "list", data := .seq its.toArray c }) ∧ W i ys H') ?_ (n + 1) ⟨0, [], [], none, H₂, Nat.zero_le _, rfl, Nat.le_refl _, I₁, st₁, fun b hb => (hf b hb).1, by rw [← hDD]; exact I.hok.fresh (Nat.le_refl _), .nil, ⟨0, hacc⟩, w0⟩
   rintro k s' ⟨i, ys, its, σ0, H', hi, rfl, hyl, I', st', fr', hD', rv, ⟨c, hobj⟩, w'⟩
   rcases turn i ys H' hi hyl w' with ⟨stop, fin⟩ | ⟨go, hlt, step⟩
   · have pinD : Inv X' [(D, { cls := .type "list", data := .seq its.toArray c })] (σ0 :: σ) H' s' := I'.pins_of fun p hp => by
       obtain rfl : p = (D, { cls := .type "list", data := .seq its.toArray c }) := by simpa using hp
       refine ⟨hobj, hD', ?_, ?_, fun v z => nomatch z⟩
       · rw [eL]; exact hDC
       · intro z
         rcases fsub D z with q | q
         · rw [q] at ltL; exact Nat.lt_irrefl _ ltL
         · exact Nat.lt_irrefl _ (ltF D q)
     have q := T.done X' eP ew eK ec i _ s' (σ0 :: σ) H' (notedBy (model X.prog X.w) X.A (compEnvC scope (clOf X.env scope.names []) C X.env) fun e s' => RR (.ref D) C (.error e) s') pinD (fpok (fun p hp => by obtain rfl : p = (D, { cls := .type "list", data := .seq its.toArray c }) := (by simpa using hp); rfl) fr') st' stop
     rw [eA] at q
     refine wpAny_mono q (fun r s4 ⟨hr, I4⟩ => ?_) fun _ _ z => z
     subst hr
     obtain ⟨e4, n4, _⟩ := I4.pin (D, { cls := .type "list", data := .seq its.toArray c }) (List.mem_append_right _ (by simp))
     have O4 := outer I4
     obtain ⟨m4, ns4, _⟩ := I4.loc
     rw [eL] at ns4
     refine hRR D C s4 H' ys m4 (O4.track (outok (Nat.le_refl _) n4) (Nat.le_trans I.sz (by rw [hDD]; exact Nat.le_refl _)) ⟨Nat.le_trans hyl (Nat.le_trans hi hsz), its, c, rv, e4⟩) n4 (outok (by rw [hC]; exact Nat.le_succ _) ?_) ns4 fin
     rw [zF (Ne.symm hDC)]
     have := I4.free
     rw [eL] at this
     exact this
   · have pinD : Inv X' [(D, { cls := .type "list", data := .seq its.toArray c })] (σ0 :: σ) H' s' := I'.pins_of fun p hp => by
       obtain rfl : p = (D, { cls := .type "list", data := .seq its.toArray c }) := by simpa using hp
       refine ⟨hobj, hD', ?_, ?_, fun v z => nomatch z⟩
       · rw [eL]; exact hDC
       · intro z
         rcases fsub D z with q | q
         · rw [q] at ltL; exact Nat.lt_irrefl _ ltL
         · exact Nat.lt_irrefl _ (ltF D q)
     have pd : ∀ p ∈ [(D, ({ cls := .type "list", data := .seq its.toArray c } : Obj))], p.1 = D := fun p hp => by obtain rfl : p = (D, { cls := .type "list", data := .seq its.toArray c }) := (by simpa using hp); rfl
     have q := T.item X' eP ew eK ec i _ s' (σ0 :: σ) H' (notedBy (model X.prog X.w) X.A (compEnvC scope (clOf X.env scope.names []) C X.env) fun e s' => RR (.ref D) C (.error e) s') pinD (fpok pd fr') st' go
     rw [eA] at q
     refine wpAny_mono q (fun r s4 ⟨u, hr, h4⟩ => ?_) fun _ _ z => z
     subst hr
     refine wpAny_mono h4 (fun _ s5 ⟨xv, H5, I5, r5, y5, st5, fr5⟩ => ?_) fun _ _ z => z
     have I5' := I5.pinned (fpok pd fr5) (T.obj _ _ st5)
     rw [← eenv]
     have g6 := step xv H5 y5 σ0
     have q6 := (hg C s₂ H₂ fp) (([(D, ({ cls := .type "list", data := .seq its.toArray c } : Obj))]) ++ pinsAt fp s5.heap) s5 (σ0 :: σ) H5 xv u _ (by rw [hX']; exact I5') r5 g6
     rw [hX', eP, ew, eA] at q6
     refine wpAny_mono q6 (fun _ s6 ⟨ρ, H6, I6, ⟨u', eρ⟩, t6⟩ => ?_) (fun _ _ z => by subst hX'; exact (show False from z).elim)
     subst eρ
     have q7 := (ht C s₂ H₂ fp) _ s6 (u' :: σ) H6 _ (by rw [hX']; exact I6) t6
     rw [hX', eP, ew, eA] at q7
     refine wpAny_mono q7 (fun ok s7 ⟨H7, I7, w7⟩ => ?_) (fun _ _ z => by subst hX'; exact (show False from z).elim)
     have keepT : ∀ {s8 : Shared} {H8 : Hp} {pn : List (Addr × Obj)}, Inv X' (pn ++ (([(D, ({ cls := .type "list", data := .seq its.toArray c } : Obj))]) ++ pinsAt fp s5.heap)) (u' :: σ) H8 s8 → True := fun _ => trivial
     cases ok with
     | false =>
       obtain ⟨e7, n7, _⟩ := I7.pin (D, { cls := .type "list", data := .seq its.toArray c }) (List.mem_append_right _ (List.mem_append_left _ (by simp)))
       refine ⟨n + 1 - (i + 1), by omega, i + 1, ys, its, u', H7, hlt, rfl, Nat.le_succ_of_le hyl, I7.pins_of (pins' := []) fun p hp => absurd hp (by simp), ?_, fun b hb => ?_, n7, rv, ⟨c, e7⟩, w7⟩
       · refine T.keep _ _ _ st5 fun b hb o e => ?_
         exact (I7.pin (b, o) (List.mem_append_right _ (List.mem_append_right _ (yR hb e)))).1
       · obtain ⟨o, e, d⟩ := T.obj _ _ st5 b hb
         exact (I7.pin (b, o) (List.mem_append_right _ (List.mem_append_right _ (yR hb e)))).2.1
     | true =>
       have q8 := (he C s₂ H₂ fp) _ s7 (u' :: σ) H7 (fun z H'' => W (i + 1) (ys ++ [z]) H'') (by rw [hX']; exact I7) w7
       rw [hX', eP, ew, eA] at q8
       refine wpAny_mono q8 (fun u8 s8 ⟨v8, H8, I8, r8, w8⟩ => ?_) (fun _ _ z => by subst hX'; exact (show False from z).elim)
       obtain ⟨e7, n7, _⟩ := I8.pin (D, { cls := .type "list", data := .seq its.toArray c }) (List.mem_append_right _ (List.mem_append_left _ (by simp)))
       refine append_at (hsz := by rw [List.size_toArray, ← rv.length]; exact Nat.le_trans hyl (Nat.le_trans hi hsz)) e7 fun h8 sb8 g8 => ?_
       have I9 : Inv X' [] (u' :: σ) H8 { s8 with heap := h8, toks := s8.toks } := (I8.pins_of (pins' := []) fun p hp => absurd hp (by simp)).turned (t' := s8.toks) (it := D) (fun b o hb e => (sb8.2 b hb).trans e) n7 (by rw [eL]; exact hDC) (.inr (by rw [es0, hDD]; exact Nat.le_refl _))
         (newok (H' := H8) (pn := []) (Nat.le_refl _) hDC n7 (fun p hp => absurd hp (by simp))).2.2.2.2.1 (fun p hp => by rw [epn] at hp; exact absurd hp (by simp))
       refine ⟨n + 1 - (i + 1), by omega, i + 1, ys ++ [v8], its ++ [u8], u', H8, hlt, rfl, by rw [List.length_append, List.length_singleton]; omega, I9, ?_, fun b hb => ?_, n7, rv.append (.cons r8 .nil), ⟨c + 1, ?_⟩, w8⟩
       · refine T.keep _ _ _ st5 fun b hb o e => ?_
         have e' := (I8.pin (b, o) (List.mem_append_right _ (List.mem_append_right _ (yR hb e)))).1
         exact (sb8.2 b (fun z => Dfp (z ▸ hb))).trans e'
       · obtain ⟨o, e, d⟩ := T.obj _ _ st5 b hb
         exact (I8.pin (b, o) (List.mem_append_right _ (List.mem_append_right _ (yR hb e)))).2.1
       · rw [g8, List.push_toArray]
 exact codeAny_compStart_list (loop _ rfl) (T.self X.A 0 _ _ _ st₁ (loop _ rfl))
theorem pe_compF0 (K : CompOk X scope x M) (hc : X.calm = true) (hi : PI X tg iter wi) (hg : ∀ (C : Addr) (s₂ : Shared) (H₂ : Hp) (fp : List Addr), PG (compCx X scope C x M s₂ H₂ fp) tg g) (ht : ∀ (C : Addr) (s₂ : Shared) (H₂ : Hp) (fp : List Addr), PIfs (compCx X scope C x M s₂ H₂ fp) ifs tc) (he : ∀ (C : Addr) (s₂ : Shared) (H₂ : Hp) (fp : List Addr), PE (compCx X scope C x M s₂ H₂ fp) elt te)
   (hs : ∀ x, foldedSetIterable iter X.env x = pure x := by intro _; rfl) : PE X (.ListComp elt [⟨tg, iter, ifs, 0⟩] scope pos) (tCompF0 wi g tc te) := by
 intro pins s σ H Q I h
 rw [eval_ListComp]
 refine wpAny_comprehension_free (use := none) rfl hs (K.closure I.ok) K.kind K.names (thn (hi pins s σ H _ I h) fun v s1 h1 => thn h1 fun itv s2 h2 => ?_)
 obtain ⟨it, fp, tn, J, H2, e, I2, T, st2, f2, n, W, hsz, w0, turn⟩ := h2
 subst e
 refine comp_blockF (RR := fun acc C => compPost (model X.prog X.w) X.A X.xe none (EP X pins σ Q) acc C) K hc I2 hg ht he T st2 f2 hsz (F := fun ys H => ∀ p, H p = none → Q (.ref p) (upd H p (.lst ys))) w0 turn ?_
 intro D C s' H' ys m I' n' fC ns fin
 refine ⟨m, ns, fun h' sb => ?_⟩
 obtain ⟨f0, f1, f2, f3, f4, f5⟩ := fC
 exact ⟨.ref D, _, I'.turned (t' := s'.toks) (it := C) (fun b o hb e => (sb.2 b hb).trans e) f0 f1 f3 f4 f5, rfl, fin D n'⟩
structure CompRF (J : It) (tc : TT) (te : TE) (σ : St) (H1 : Hp) (Q : VK) : Prop where
 ex : ∃ (n : Nat) (W : Nat → List V → Hp → Prop), n ≤ sizeLine ∧ W 0 [] H1 ∧ ∀ i ys H, i ≤ n → ys.length ≤ i → W i ys H →
   (J.stop i H ∧ ∀ p, H p = none → Q (.ref p) (upd H p (.lst ys))) ∨ (J.go i H ∧ i < n ∧ ∀ z H', J.yld i H z H' → tc (some z :: σ) H' fun c H3 => if c = true then te (some z :: σ) H3 fun z H4 => W (i + 1) (ys ++ [z]) H4 else W (i + 1) ys H3)
def tCompF (wi : TI) (tc : TT) (te : TE) : TE := fun σ H Q => wi σ H fun J H1 => CompRF J tc te σ H1 Q
theorem pg_oneF (K : CompOk X scope x M) {C : Addr} {s₂ : Shared} {H₂ : Hp} {fp : List Addr} : PG (compCx X scope C x M s₂ H₂ fp) (.Name x px) (gName 0) :=
 yM K.nd rfl (.inl (lookup_relabel_local K.loc)) (.inr (lookup_relabel_local K.loc))
theorem pe_compF (K : CompOk X scope x M) (hc : X.calm = true) (hi : PI X (.Name x px) iter wi) (ht : ∀ (C : Addr) (s₂ : Shared) (H₂ : Hp) (fp : List Addr), PIfs (compCx X scope C x M s₂ H₂ fp) ifs tc) (he : ∀ (C : Addr) (s₂ : Shared) (H₂ : Hp) (fp : List Addr), PE (compCx X scope C x M s₂ H₂ fp) elt te)
   (hs : ∀ x, foldedSetIterable iter X.env x = pure x := by intro _; rfl) : PE X (.ListComp elt [⟨.Name x px, iter, ifs, 0⟩] scope pos) (tCompF wi tc te) := by
 intro pins s σ H Q I h
 have q := pe_compF0 (pos := pos) K hc (wi := fun σ0 H0 R0 => ∃ R, wi σ0 H0 R ∧ ∀ J H1, R J H1 → R0 J H1) (pi_conv hi fun σ H R ⟨R1, a, b⟩ => ⟨R1, a, b⟩) (fun C s₂ H₂ fp => pg_oneF (px := px) K) ht he hs pins s σ H Q I
 refine q ⟨_, h, fun J H1 r => ?_⟩
 obtain ⟨n, W, h1, h2, h3⟩ := r.ex
 refine ⟨n, W, h1, h2, fun i ys H' hi hy hw => ?_⟩
 rcases h3 i ys H' hi hy hw with hq | ⟨g1, g2, g3⟩
 · exact .inl hq
 · exact .inr ⟨g1, g2, fun z H2 hz u => ⟨⟨_, rfl⟩, g3 z H2 hz⟩⟩
theorem pifs_eqv {X : Cx} {ifs : List Expr} {t u : TT} (h : PIfs X ifs t) (e : t = u) : PIfs X ifs u := e ▸ h
end
theorem comp_listF {K : PySem.W.Frag} {a : Addr} {xs : List V} {tc : TT} {te : TE} {σ : St} {H : Hp} {Q : VK} (hz : xs.length ≤ sizeLine) (W : Nat → List V → Hp → Prop) (h0 : W 0 [] H) (hq : ∀ i ys H, W i ys H → SqL K H a xs)
   (hs : ∀ i x ys H, xs[i]? = some x → ys.length ≤ i → W i ys H → tc (some x :: σ) H fun c H3 => if c = true then te (some x :: σ) H3 fun z H4 => W (i + 1) (ys ++ [z]) H4 else W (i + 1) ys H3)
   (hd : ∀ ys H, W xs.length ys H → ∀ p, H p = none → Q (.ref p) (upd H p (.lst ys))) : CompRF (Itl K a) tc te σ H Q := by
 refine ⟨xs.length, W, hz, h0, fun i ys H hi hl hw => ?_⟩
 have q := hq i ys H hw
 by_cases hlt : i < xs.length
 · refine .inr ⟨⟨xs, xs[i], q, by simp [hlt]⟩, hlt, fun v H' y => ?_⟩
   obtain ⟨e, y⟩ := y
   subst e
   exact hs i v ys _ (y xs q) hl hw
 · have e : i = xs.length := by omega
   subst e
   exact .inl ⟨⟨xs, q, Nat.le_refl _⟩, hd ys H hw⟩
section
variable {X : Cx} {k : Nat} {m : Str} {pos apos : Pos} {o : Expr} {ta : TE}
theorem pex_methG0 {pl : Sem Bool} (hr : Room k X.A) (he : PE X.nox o ta)
   (ht : eval (.Call (.Attribute o m apos) [] [] pos) X.env = (do
     let ov ← eval o X.env
     standAt apos.atName
     let (f, first) ← holding [ov] (getMethod ov m pl)
     callWith pos f first (backTo pos (starEach [] X.env)) (backToKw pos (keywordEach [] X.env))) := by rfl) :
   PEx X (.Call (.Attribute o m apos) [] [] pos) (tMethGX X k m ta tNil) := by
 intro pins s σ H Q E I h
 refine PySem.W.methodCall_KW (pl := pl) (wpAny_mono (he.noxE (CXAt X pins σ E) I h) (fun u s1 ⟨x, H1, I1, rx, a, C, dx, fs, M, ex, ea, l, q⟩ => ?_) fun _ _ z => z) ht
 subst ex
 obtain rfl : u = Value.ref a := rx
 refine getmeth_ok I1 ea M.c M.hm l ?_
 exact PySem.W.callWith_K0 (first := [.ref a]) I1.kIn M.hm.kp (run_fnx (us := [.ref a]) (vs := [.ref a]) M.F hr M.hb M.hd I1 (.cons rfl .nil) q)
end
end L2
namespace L2
open PySem PySem.Spec PyProof.Rows PySem.Calls
def Ite (K : PySem.W.Frag) (a : Addr) : It :=
 ⟨fun i H => ∃ xs x, SqL K H a xs ∧ xs[i]? = some x,
  fun i H z H' => ∃ T x, z = .ref T ∧ H T = none ∧ H' = upd H T (.tup [.int i, x]) ∧ ∀ xs, SqL K H a xs → xs[i]? = some x,
  fun i H => ∃ xs, SqL K H a xs ∧ xs.length ≤ i⟩
def EnT (e it a : Addr) (i : Nat) (h : Heap) : Prop := (∃ old, IsEnum h e it i old) ∧ h.IsListIter it a i
theorem turn_enum {P : Program} {w : World} {K : PySem.W.Frag} {elts : List Expr} {x1 : Nat} {tp : Pos} {e it a : Addr} (D : e ≠ it) : Turn P w K (.Tuple elts x1 tp) (Ite K a) [e, it] e (EnT e it a) where
 mem := by simp
 obj := fun i h st c hc => by
   obtain ⟨⟨u, h1⟩, h4⟩ := st
   simp only [List.mem_cons, List.not_mem_nil, or_false] at hc
   rcases hc with q | q
   · subst q; exact ⟨_, h1, fun v q => by cases q⟩
   · subst q; obtain ⟨o, e, c, d⟩ := h4; exact ⟨o, e, fun v q => by rw [d] at q; cases q⟩
 keep := fun i h h' st k => by
   obtain ⟨⟨u, h1⟩, h4⟩ := st
   exact ⟨⟨u, k _ (by simp) _ h1⟩, h4.at fun o q => k it (by simp) o q⟩
 item := by
   intro X hP hw hK hc i pins s σ H E I hf st hg
   subst hP hw hK
   obtain ⟨xs, x, hq, hx⟩ := hg
   obtain ⟨⟨old, h1⟩, h4⟩ := st
   obtain ⟨its, rv, p, hz⟩ := I.list hq
   obtain ⟨u, hu, ru⟩ := rv.get hx
   refine wpAny_pyNext_enum_item h1 h4 p.isList (x := u) (by simpa using hu) D fun h' a1 a2 a3 a4 a5 => ?_
   refine ⟨_, rfl, wpAny_letOwnedTupleGo_enum (s := { s with heap := h', toks := s.toks + 1 }) a1 fun h'' b1 b2 => ?_⟩
   have hT : H s.heap.objs.size = none := I.hok.fresh (Nat.le_refl _)
   have lt : ∀ c ∈ [e, it], c < s.heap.objs.size := fun c hc => by
     simp only [List.mem_cons, List.not_mem_nil, or_false] at hc
     rcases hc with q | q
     · subst q; exact Heap.lt_size h1
     · subst q; obtain ⟨o, q, _⟩ := h4; exact Heap.lt_size q
   have kk : ∀ c o, c ∉ [e, it] → s.heap.get? c = some o → h''.get? c = some o := fun c o hc q => by
     simp only [List.mem_cons, List.not_mem_nil, or_false, not_or] at hc
     exact (b2.2 c hc.1).trans (a5 c o hc.1 hc.2 q)
   have I1 : Inv X pins σ H { s with heap := h'', toks := s.toks + 1 } := I.turnedM (t' := s.toks + 1) kk hf
   have zT : s.heap.objs.size ≠ e := fun q => Nat.lt_irrefl _ (q ▸ lt e (by simp))
   have a5' := (b2.2 _ zT).trans a3
   have I2 := I1.track (a := s.heap.objs.size) (o := .tup [.int i, x]) (I.fpOk (Nat.le_refl _) hT) I.sz ⟨by show 2 ≤ sizeLine; decide, [.int i s.toks, u], .cons ⟨_, rfl⟩ (.cons ru .nil), ⟨_, a5', rfl, _, rfl⟩⟩
   refine ⟨.ref s.heap.objs.size, _, I2, rfl, ⟨_, x, rfl, hT, rfl, fun zs hzs => by rw [I.list_inj hzs hq]; exact hx⟩, ⟨⟨_, b1⟩, a2.at fun o q => (b2.2 _ (Ne.symm D)).trans q⟩, fun c hc => ?_⟩
   rw [zF (Nat.ne_of_lt (lt c hc))]; exact (hf c hc).1
 done := by
   intro X hP hw hK hc i pins s σ H E I hf st hg
   subst hP hw hK
   obtain ⟨xs, hq, hx⟩ := hg
   obtain ⟨⟨old, h1⟩, h4⟩ := st
   obtain ⟨its, rv, p, hz⟩ := I.list hq
   have hl := rv.length
   refine wpAny_pyNext_enum_end (I.ok.hd hc) h1 h4 p.isList (by simp; omega) fun h' a7 => ⟨rfl, I.turnedM (t' := s.toks) (fun c o hc q => ?_) hf⟩
   simp only [List.mem_cons, List.not_mem_nil, or_false, not_or] at hc
   exact a7 c o hc.2 q
 self := fun _ _ _ _ _ st h => by
   obtain ⟨⟨u, h1⟩, _⟩ := st
   exact wpAny_pyIter_enum h1 h
section
variable {X : Cx} {ea : Expr} {t : TA} {p pos tp : Pos} {elts : List Expr} {x1 : Nat}
def iEnum (K : PySem.W.Frag) (t : TA) : TI := fun σ H R => t σ H fun vs H1 => ∃ a, vs = [.ref a] ∧ (∃ xs, SqL K H1 a xs) ∧ R (Ite K a) H1
theorem boot_enum : bootBuiltins "enumerate" = some (.type "enumerate") := by symm
theorem pi_enum (hg : Gl X "enumerate") (hm : X.mg "enumerate" = none) (ha : PA X [ea] t) (hs : starEach [ea] X.env = [(false, eval ea X.env)] := by rfl) :
   PI X (.Tuple elts x1 tp) (.Call (.Name "enumerate" p) [ea] [] pos) (iEnum X.K t) := by
 intro pins s σ H R I h
 refine Call_ (ld_blt I hg hm boot_enum (PyProof.Rows.callWith_type1 (thn (ha pos pins s σ H _ I h) fun us s1 ⟨vs, H1, I1, r1, q1⟩ => ?_) (by rw [hs]; rfl) (by rfl)))
 obtain ⟨a, e, ⟨xs, hq⟩, q⟩ := q1
 subst e
 cases r1 with
 | cons r rr =>
   cases rr
   cases r
   obtain ⟨its, rv, pl, hz⟩ := I1.list hq
   refine call_enumerate_list pl.isList fun h' z1 z2 z3 z7 => ?_
   refine wpAny_pyIter_enum (s := { s1 with heap := h' }) z1 ?_
   have I2 : Inv X pins σ H1 { s1 with heap := h' } := I1.kept (t' := s1.toks) z7
   refine ⟨_, [s1.heap.objs.size + 1, s1.heap.objs.size], _, _, H1, rfl, I2, turn_enum (Nat.succ_ne_self _), ⟨⟨_, z1⟩, z2⟩, fun c hc => ?_, q⟩
   have hle : s1.heap.objs.size ≤ c := by
     simp only [List.mem_cons, List.not_mem_nil, or_false] at hc
     rcases hc with e | e
     · rw [e]; exact Nat.le_succ _
     · rw [e]; exact Nat.le_refl _
   exact I1.fpOk hle (I1.hok.fresh hle)
end
theorem for_enumR {K : PySem.W.Frag} {a : Addr} {xs : List V} {g : TG} {tb : TS} {D : Ends} {σ : St} {H : Hp} (Pv : Nat → St → Hp → Prop) (h0 : Pv 0 σ H) (hq : ∀ i σ H, i ≤ xs.length → Pv i σ H → SqL K H a xs)
   (hs : ∀ i x σ H, xs[i]? = some x → Pv i σ H → ∀ T, H T = none → g (.ref T) σ (upd H T (.tup [.int i, x])) fun σ2 H2 => tb { D with nx := Pv (i + 1), ct := Pv (i + 1), bk := D.nx } σ2 H2) (hd : ∀ σ H, Pv xs.length σ H → D.nx σ H) : ForR (Ite K a) g tb D σ H := by
 refine ⟨fun i m σ H => i ≤ xs.length ∧ m = xs.length - i ∧ Pv i σ H, ⟨_, Nat.zero_le _, rfl, h0⟩, fun i m σ H ⟨hi, hm, hp⟩ => ?_⟩
 have q1 := hq i σ H hi hp
 by_cases c : i = xs.length
 · subst c
   exact .inl ⟨⟨xs, q1, Nat.le_refl _⟩, hd σ H hp⟩
 · have hlt : i < xs.length := by omega
   have hx : xs[i]? = some xs[i] := List.getElem?_eq_getElem hlt
   refine .inr ⟨⟨xs, _, q1, hx⟩, Pv (i + 1), fun σ' H' hn => ⟨xs.length - (i + 1), by omega, by omega, rfl, hn⟩, fun z H' hz => ?_⟩
   obtain ⟨T, x, rfl, hT, rfl, e1⟩ := hz
   exact hs i x σ H (e1 xs q1) hp T hT
end L2
namespace L2
open PySem PySem.Spec PyProof.Rows PySem.Calls
section
variable {X : Cx}
def eqR (eb : V → Bool) : Value → Bool
 | .ref a => eb (.ref a)
 | _ => false
theorem mt_lindexT (hu : X.A.units + 20 < cLine) : MtM X "list.index" (fun x vs H Q => ∃ p xs y j, ∃ (eb : V → Bool) (z : V), x = .ref p ∧ vs = [y] ∧ SqL X.K H p xs ∧ (∀ z ∈ xs, (∃ q, z = .ref q) ∧ EqJi X H 18 z y (eb z)) ∧
   xs[j]? = some z ∧ eb z = true ∧ (∀ (m : Nat) z, m < j → xs[m]? = some z → eb z = false) ∧ Q (.int (j : Nat)) H) := by
 intro pins s σ H x vs v us Q I rx rv h
 obtain ⟨p, xs, y, j, eb, z0, rfl, rfl, hq, hall, hj, hy, hno, q⟩ := h
 cases rx
 obtain ⟨u, rfl, ru⟩ := rv.one
 obtain ⟨its, r, pl, hz⟩ := I.list hq
 obtain ⟨⟨cls, dd, data, sl⟩, ho, hc, n, hd⟩ := pl.isList
 simp only at hc hd
 subst hc hd
 have hl := r.length
 have hlt : j < xs.length := (List.getElem?_eq_some_iff.mp hj).1
 have hn := line63
 have at_ : ∀ (m : Nat) (h : m < its.toArray.size), ∃ z, xs[m]? = some z ∧ RelV z its.toArray[m] ∧ eqR eb its.toArray[m] = eb z := by
   intro m h
   obtain ⟨z, hz1, rz⟩ := vals_at r h
   obtain ⟨⟨a, e⟩, _⟩ := hall z (List.mem_of_getElem? hz1)
   subst e
   refine ⟨_, hz1, rz, ?_⟩
   rw [show its.toArray[m] = Value.ref a from rz]
   rfl
 refine call_meets PySem.F.slot_list_index ⟨_, ho, rfl⟩ PySem.F.entry_list_index (PySem.F.args_list_index_2 _ _)
   (SeqAt.list_indexAt p its.toArray n dd sl u (eqR eb) j (by rw [List.size_toArray]; omega) (by omega) ?_ ?_) ⟨ho, fun w hw => ?_, ⟨.int j, H, I.tok _, ⟨_, rfl⟩, q⟩⟩
 · obtain ⟨z, e1, _, e2⟩ := at_ j (by rw [List.size_toArray]; omega)
   rw [e2]
   rw [hj] at e1; cases e1
   exact hy
 · intro m hm hmj
   obtain ⟨z, e1, _, e2⟩ := at_ m hm
   rw [e2]
   exact hno m z hmj e1
 · obtain ⟨m, hm, e⟩ := Array.mem_iff_getElem.mp hw
   obtain ⟨z, e1, rz, e2⟩ := at_ m hm
   rw [← e, e2]
   exact (hall z (List.mem_of_getElem? e1)).2 pins s σ _ _ X.A.in1 I rz ru (by show X.A.units + 1 + 18 < _; omega)
theorem mt_count : MtM X "list.count" (fun x vs H Q => ∃ p xs y, x = .ref p ∧ vs = [y] ∧ SqL X.K H p xs ∧ xs.all flatV = true ∧ flatV y = true ∧ Q (.int (xs.countP (fun z => eqV z y) : Nat)) H) := by
 intro pins s σ H x vs v us Q I rx rv h
 obtain ⟨p, xs, y, rfl, rfl, hq, fs, fy, q⟩ := h
 cases rx
 obtain ⟨u, rfl, ru⟩ := rv.one
 obtain ⟨its, r, pl, hz⟩ := I.list hq
 obtain ⟨⟨cls, dd, data, sl⟩, ho, hc, n, hd⟩ := pl.isList
 simp only at hc hd
 subst hc hd
 have cnt : ∀ {xs : List V} {us : List Value}, Vals xs us → xs.all flatV = true → us.countP (eqU y) = xs.countP fun z => eqV z y := by
   intro xs us rr
   induction rr with
   | nil => intro _; rfl
   | cons a _ ih =>
     intro f
     rw [List.all_cons, Bool.and_eq_true] at f
     rw [List.countP_cons, List.countP_cons, ih f.2, eqU_of a f.1]
 refine call_meets PySem.F.slot_list_count ⟨_, ho, rfl⟩ PySem.F.entry_list_count (PySem.F.args_list_count_2 _ _)
   (SeqAt.list_countAt p its.toArray n dd sl u (eqU y)) ⟨ho, fun w hw => mem_eqAt ru fy r fs w (by simpa using hw), ?_⟩
 have e : (its.toArray.toList.countP (eqU y) : Nat) = xs.countP fun z => eqV z y := cnt r fs
 rw [e]
 exact ⟨.int _, H, I.tok _, ⟨_, rfl⟩, q⟩
theorem op_in_d (hu : X.A.units + 1 < cLine) : OpR X (compareOp .In) (fun x y H Q => ∃ a o, y = .ref a ∧ DGet H a x o ∧ Q (.bl o.isSome) H) := by
 intro pins s σ H x y v u Q I rx ry h
 obtain ⟨a, o, rfl, g, q⟩ := h
 cases ry
 exact d_in hu I g rx fun s' I' => ⟨.bl _, H, I', rfl, q⟩
theorem op_notIn_d (hu : X.A.units + 1 < cLine) : OpR X (compareOp .NotIn) (fun x y H Q => ∃ a o, y = .ref a ∧ DGet H a x o ∧ Q (.bl (!o.isSome)) H) := by
 intro pins s σ H x y v u Q I rx ry h
 obtain ⟨a, o, rfl, g, q⟩ := h
 cases ry
 exact d_notIn hu I g rx fun s' I' => ⟨.bl _, H, I', rfl, q⟩
end
theorem keys_no : typeLookup (.type "list") "keys" = pure none := by rw [typeLookup_type, builtinLookup_eq_fast]; kernel_rfl
theorem ask_keys {prog : Program} {w : World} {A : Around} {E : Value → Shared → Prop} {s : Shared} {a : Addr} {xs : Array Value} {k : Nat} {sl : Array (Option Value)} {Q : Option Value → Shared → Prop}
   (hx : s.heap.get? a = some ⟨.type "list", none, .seq xs k, sl⟩) (hA : A.handled = none) (h : ∀ h' tk e, Heap.NewExcOf s.heap h' e "AttributeError" → Q none { s with heap := h', toks := tk }) :
   wpAny (model prog w) A (getAttr? (.ref a) "keys") Q E s := by
 obtain ⟨hp, g, d, tk, os⟩ := s
 have ty : ∀ j, (⟨hp, g, d, j, os⟩ : Shared).TypeIs (.ref a) "list" := fun _ => ⟨_, hx, rfl⟩
 have a1 := sub_AttributeError
 have a3 := PySem.F.slot_list_getattribute.lookup
 have a4 := PySem.F.slot_list_getattribute.bind (.ref a)
 have a5 := am_list_getattr_none
 unfold getAttr? getAttrBy? getAttrBy
 repeat (any_goals (first
   | assumption
   | exact ty _
   | ((with_reducible show wpAny _ _ (call (Value.builtin "list.__getattribute__") _ _) _ _ _)
      refine call_meets PySem.F.slot_list_getattribute (ty _) am_entry_list_getattribute (PySem.F.args_list_getattribute_2 _ _) (meets_getattribute_miss_list a xs k sl "keys" _ keys_no (by decide) (by size_fits)) ⟨hx, hA, fun h' tk' e hx' => ?_⟩)
   | wp_step))
 obtain ⟨t', u', he⟩ := hx'.there
 show wpAny _ _ (getattributeRaised _ _ _ _ _ _ _) _ _ _
 unfold getattributeRaised hookOrError
 repeat (any_goals (first | assumption | wp_step))
 exact h _ _ _ hx'.of
theorem ent_loop : entryFor table "dict.update.loop" = some Builtin.«dict.update.loop» := entryFor_of_tree (by kernel_rfl)
theorem call_dict_nil {X : Cx} (hc : X.calm = true) : CallR X (.type "dict") (fun xs H Q => ∃ p, xs = [.ref p] ∧ H p = some (.lst []) ∧ ∀ d, H d = none → Q (.ref d) (upd H d (.dK []))) := by
 intro pins s σ H xs us Q I r h
 obtain ⟨p, rfl, hp, q⟩ := h
 obtain ⟨u, rfl, ru⟩ := r.one
 cases ru
 obtain ⟨_, its, n, rv, ho⟩ := (show ObjOk X.prog X.w H s.heap p (.lst []) from I.hok p _ hp)
 cases rv
 have big := I.big
 have hand : X.A.handled = none := I.ok.hd hc
 refine callType_codes (Q₁ := fun obj s₁ => obj = .ref s.heap.objs.size ∧ s₁ = { s with heap := s.heap.push { cls := .type "dict", data := .dict #[] } }) PySem.F.kt_called_dict (PySem.F.kt_typeCall_dict_1 _) PySem.F.entry_dict_init (kt_code_dict_new _ ⟨rfl, rfl⟩) ?_
 rintro obj s₁ ⟨rfl, rfl⟩
 have new : (s.heap.push { cls := .type "dict", data := .dict #[] }).DictOf (mixKind X.prog X.w) s.heap.objs.size [] := Heap.DictOf.new s.heap
 refine ⟨new.typeIs, PySem.F.args_dict_init_2 _ _, ?_⟩
 unfold Builtin.«dict.__init__» Builtin.Dict.selfAndRest
 refine wpAny_bind (wpAny_bind (wpAny_notOrdered_dict new.typeIs ?_))
 show wpAny _ _ (pure (s.heap.objs.size, [Value.ref p])) _ _ _
 refine wpAny_pure ?_
 show wpAny _ _ (Builtin.Dict.updateFrom "dict.__init__" _ (.ref p) [] .none) _ _ _
 unfold Builtin.Dict.updateFrom
 have ho1 := Heap.get?_push_of_some { cls := .type "dict", data := .dict #[] } ho
 refine wpAny_bind (wpAny_typeOf (T := "list") ⟨_, ho1, rfl⟩ ?_)
 rw [if_pos (by decide)]
 refine wpAny_bind (ask_keys ho1 (show X.A.in1.in1.handled = none from hand) fun h1 tk1 e1 x1 => ?_)
 rw [if_pos (by rfl)]
 have ho2 := x1.keeps _ _ ho1
 have hl2 : h1.IsList p #[] := ⟨_, ho2, rfl, n, rfl⟩
 refine wpAny_bind (wpAny_rule (wpAny_bind (wpAny_pyIter_list (s := { s with heap := h1, toks := tk1 }) hl2 ?_)))
 refine wpAny_pure ⟨plainId_quiet (by symm) _, codeAny_builtin ent_loop ?_⟩
 have it : (h1.push { cls := .type "list_iterator", data := .fields #[.ref p, .int 0 0] }).IsListIter h1.objs.size p 0 := ⟨_, Heap.get?_push_size _ rfl, rfl, rfl⟩
 have hl3 : (h1.push { cls := .type "list_iterator", data := .fields #[.ref p, .int 0 0] }).IsList p #[] := ⟨_, Heap.get?_push_of_some _ ho2, rfl, n, rfl⟩
 unfold Builtin.«dict.update.loop»
 refine wpAny_bind (wpAny_pyNext_list_end (i := 0) (l := p) (items := #[]) (by first | exact hand | (rw [Around.under_plainId (by symm)]; exact hand)) it hl3 (by rfl) fun h2 x2 => ?_)
 show wpAny _ _ (Builtin.Dict.addKeywords s.heap.objs.size [] >>= _) _ _ _
 have kk : ∀ b o, (s.heap.push { cls := .type "dict", data := .dict #[] }).get? b = some o → h2.get? b = some o := fun b o e => by
   have e1 := x1.keeps b o e
   exact x2 b o (Nat.ne_of_lt (Heap.lt_size e1)) (Heap.get?_push_of_some _ e1)
 exact wpAny_bind (wpAny_pure (wpAny_pure ⟨rfl, .ref s.heap.objs.size, _, I.laid (a := s.heap.objs.size) (o := .dK []) (h' := h2) (t' := tk1) (fun b o e => kk b o (Heap.get?_push_of_some _ e)) (Nat.le_refl _) ⟨Nat.zero_le _, beq_eq_false_iff_ne.mpr (Ne.symm (Nat.ne_of_lt big)), [], .nil, new.keep kk⟩, rfl, q _ (I.hok.fresh (Nat.le_refl _))⟩))
end L2
namespace L2
open PySem PySem.Spec PySem.Calls PyProof.Rows
def RawD (h : Heap) (d : Addr) (es : Array DictEntry) (ep : Nat) : Prop := ∃ o, h.get? d = some o ∧ o.ExactDict ∧ o.data = .dict es ep
theorem RawD.keep {h h' : Heap} {d : Addr} {es : Array DictEntry} {ep : Nat} (x : RawD h d es ep) (k : ∀ o, h.get? d = some o → h'.get? d = some o) : RawD h' d es ep := let ⟨o, ho, r⟩ := x; ⟨o, k o ho, r⟩
theorem RawD.lt {h : Heap} {d : Addr} {es : Array DictEntry} {ep : Nat} (x : RawD h d es ep) : d < h.objs.size := let ⟨_, ho, _⟩ := x; Heap.lt_size ho
section
variable {prog : Program} {w : World} {A : Around} {E : Value → Shared → Prop} {s : Shared} {d it : Addr} {es : Array DictEntry} {ep i : Nat}
theorem RawD.ty (x : RawD s.heap d es ep) : s.TypeIs (.ref d) "dict" := let ⟨o, ho, c, _⟩ := x; ⟨o, ho, c.1⟩
theorem raw_iter {Q : Value → Shared → Prop} (hd : (d == sysModules) = false) (hm : RawD s.heap d es ep)
   (q : Q (.ref s.heap.objs.size) { s with heap := s.heap.push { cls := .type "dict_keyiterator", data := .fields #[.ref d, .int 0 0, .int es.size 0, .int ep 0] } }) : wpAny (model prog w) A (pyIter (.ref d)) Q E s := by
 obtain ⟨o, ho, hc, hdat⟩ := id hm
 refine wpAny_pyIter_slot hm.ty F.slot_dict_iter (wpAny_call_entry F.slot_dict_iter hm.ty F.entry_dict_iter ?_ (F.args_dict_iter_1 _))
 unfold Builtin.«dict.__iter__»
 refine wpAny_bind ?_
 unfold Builtin.Dict.dictSlotNone
 refine wpAny_bind (wpAny_notOrdered_dict hm.ty ?_)
 refine wpAny_pure ?_
 show wpAny _ _ (Builtin.Dict.showsAll d >>= _) _ _ s
 unfold Builtin.Dict.showsAll
 rw [if_neg (by rw [hd]; exact Bool.false_ne_true)]
 refine wpAny_bind (wpAny_pure (wpAny_bind (wpAny_dictEntries ho hdat (wpAny_bind (wpAny_dictEpoch ho hdat ?_)))))
 refine wpAny_bind (wpAny_newObj_type (wpAny_pure ⟨_, rfl, "dict_keyiterator", _, ⟨_, Heap.get?_push_size _ rfl, rfl⟩, F.slot_dict_keyiterator_next.lookup, ?_⟩))
 simpa [rawInt] using q
theorem raw_item {Q : Option Value → Shared → Prop} (hit : s.heap.IsKeyIter it d i es.size ep) (hm : RawD s.heap d es ep) (hi : i < es.size)
   (q : ∀ h', h'.IsKeyIter it d (i + 1) es.size ep → Heap.SameBut it s.heap h' → Q (some es[i].key) { s with heap := h' }) : wpAny (model prog w) A (pyNext (.ref it)) Q E s := by
 obtain ⟨o, ho, hc, hd⟩ := id hit
 obtain ⟨od, hod, hcd, hdd⟩ := id hm
 unfold pyNext
 refine wpAny_bind (wpAny_attempt (wpAny_callSpecial?_slot (name := Str.ofString "__next__") hit.typeIs F.slot_dict_keyiterator_next
   (wpAny_call_entry F.slot_dict_keyiterator_next hit.typeIs F.entry_dict_keyiterator_next ?_ (F.args_dict_keyiterator_next_1 _))))
 refine wpAny_bind (wpAny_pure (wpAny_bind (wpAny_bind ?_)))
 first | refine wpAny_bind (wpAny_typeNameOfWhole_keyiter hit.typeIs (wpAny_pure ?_)) | refine wpAny_bind (wpAny_typeNameOf_keyiter hit.typeIs (wpAny_pure ?_))
 refine wpAny_bind (wpAny_fieldsOf ho hd ?_)
 simp only [show Builtin.Dict_items.ownsTuple "dict_keyiterator" = false by decide, Bool.false_eq_true, if_false]
 show wpAny _ _ (if (Value.ref d == Value.none) = true then _ else _) _ _ s
 rw [if_neg (show ¬ ((Value.ref d == Value.none) = true) from Bool.false_ne_true)]
 refine wpAny_bind (wpAny_pure (wpAny_bind (wpAny_dictEntries hod hdd ?_)))
 rw [if_neg (by simp)]
 refine wpAny_bind (wpAny_pure (wpAny_bind (wpAny_dictEpoch hod hdd ?_)))
 rw [if_neg (by simp)]
 refine wpAny_pure ?_
 simp only [show ¬ ((i : Int) < 0) from by omega, if_false, Int.toNat_natCast, Array.getElem?_eq_getElem hi]
 refine wpAny_bind ?_
 first | refine wpAny_bind (wpAny_typeNameOfWhole_keyiter hit.typeIs (wpAny_pure ?_)) | refine wpAny_bind (wpAny_typeNameOf_keyiter hit.typeIs (wpAny_pure ?_))
 refine wpAny_bind (wpAny_isOneOf_keyiter hit.typeIs ?_)
 show wpAny _ _ (setField (.ref it) 1 (rawInt ((i : Int) + 1)) >>= _) _ _ s
 refine wpAny_bind (wpAny_setField ho hd (by simp) ?_)
 have hit' : (s.heap.update it (Obj.mapFields (·.setIfInBounds 1 (rawInt ((i : Int) + 1))))).IsKeyIter it d (i + 1) es.size ep :=
   ⟨_, Heap.get?_update_self _ ho (Obj.isFreed_of_fields (Obj.data_mapFields hd _)), (Obj.cls_mapFields ..).trans hc, by rw [Obj.data_mapFields hd]; simp [rawInt]⟩
 refine wpAny_bind (wpAny_holding (wpAny_bind (wpAny_isOneOf_keyiter (s := { s with heap := s.heap.update it (Obj.mapFields (·.setIfInBounds 1 (rawInt ((i : Int) + 1)))) }) hit'.typeIs ?_)))
 show wpAny _ _ (pure es[i].key) _ _ _
 exact wpAny_pure (wpAny_pure ⟨_, rfl, wpAny_pure (q _ hit' (Heap.SameBut.update ..))⟩)
theorem raw_end {Q : Option Value → Shared → Prop} (hh : A.handled = none) (hit : s.heap.IsKeyIter it d es.size es.size ep) (hm : RawD s.heap d es ep)
   (q : ∀ h', Heap.ExtBut it s.heap h' → Q none { s with heap := h' }) : wpAny (model prog w) A (pyNext (.ref it)) Q E s := by
 obtain ⟨o, ho, hc, hd⟩ := id hit
 obtain ⟨od, hod, hcd, hdd⟩ := id hm
 unfold pyNext
 refine wpAny_bind (wpAny_attempt (wpAny_callSpecial?_slot (name := Str.ofString "__next__") hit.typeIs F.slot_dict_keyiterator_next
   (wpAny_call_entry F.slot_dict_keyiterator_next hit.typeIs F.entry_dict_keyiterator_next ?_ (F.args_dict_keyiterator_next_1 _))))
 refine wpAny_bind (wpAny_pure (wpAny_bind (wpAny_bind ?_)))
 first | refine wpAny_bind (wpAny_typeNameOfWhole_keyiter hit.typeIs (wpAny_pure ?_)) | refine wpAny_bind (wpAny_typeNameOf_keyiter hit.typeIs (wpAny_pure ?_))
 refine wpAny_bind (wpAny_fieldsOf ho hd ?_)
 simp only [show Builtin.Dict_items.ownsTuple "dict_keyiterator" = false by decide, Bool.false_eq_true, if_false]
 show wpAny _ _ (if (Value.ref d == Value.none) = true then _ else _) _ _ s
 rw [if_neg (show ¬ ((Value.ref d == Value.none) = true) from Bool.false_ne_true)]
 refine wpAny_bind (wpAny_pure (wpAny_bind (wpAny_dictEntries hod hdd ?_)))
 rw [if_neg (by simp)]
 refine wpAny_bind (wpAny_pure (wpAny_bind (wpAny_dictEpoch hod hdd ?_)))
 rw [if_neg (by simp)]
 refine wpAny_pure ?_
 simp only [show ¬ ((es.size : Int) < 0) from by omega, if_false, Int.toNat_natCast, Array.getElem?_eq_none (Nat.le_refl es.size)]
 refine wpAny_bind ?_
 first | refine wpAny_bind (wpAny_typeNameOfWhole_keyiter hit.typeIs (wpAny_pure ?_)) | refine wpAny_bind (wpAny_typeNameOf_keyiter hit.typeIs (wpAny_pure ?_))
 show wpAny _ _ (setField (.ref it) 0 .none >>= _) _ _ s
 refine wpAny_bind (wpAny_setField ho hd (by simp) ?_)
 show wpAny _ _ (newExc (.type "StopIteration") [] >>= _) _ _ _
 refine wpAny_bind ?_
 simp only [newExc, newTuple]
 refine wpAny_bind (wpAny_newObj_type ?_ (by size_fits))
 refine wpAny_bind (m := firstArgMember _ _) (wpAny_of_eq (a := Value.none) (by first | rfl | (simp only [firstArgMember]; rfl)) ?_)
 refine wpAny_newObj_type ?_ (by size_fits)
 simp only [raiseNew]
 refine wpAny_bind (wpAny_handled ?_)
 rw [show A.in1.handled = none from hh]
 refine wpAny_bind (wpAny_pure (wpAny_throw ?_))
 refine wpAny_bind (wpAny_isInstance (T := "StopIteration") (b := true) ⟨_, Heap.get?_push_size _ rfl, rfl⟩ isSubtype_stop ?_)
 exact wpAny_pure (q _ (((Heap.SameBut.update ..).extBut.push _).push _))
theorem raw_walks (hh : A.handled = none) (I d : Addr) (hne : d ≠ I) (es : Array DictEntry) (ep : Nat) :
   Walks prog w A I [I, d] [I] es.size (fun i v => ∃ e, es[i]? = some e ∧ e.key = v) (fun i h => h.IsKeyIter I d i es.size ep ∧ RawD h d es ep) where
 sub := fun b hb => by simp at hb; simp [hb]
 frame := fun _ _ _ st hk => ⟨st.1.at fun o e => hk I (by simp) o e, st.2.keep fun o e => hk d (by simp) o e⟩
 item := fun i s Q E hi st hQ => raw_item st.1 st.2 hi fun h' hit hs => hQ _ h' s.toks ⟨es[i], by simp [hi], rfl⟩ ⟨hit, st.2.keep fun o e => hs.extBut d o hne e⟩ fun b o hb e => hs.extBut b o (fun h => hb (by simp [h])) e
 done := fun s Q E st hQ => raw_end hh st.1 st.2 fun h' he => hQ h' s.toks fun b o hb e => he b o (fun h => hb (by simp [h])) e
 self := fun _ _ _ _ st hQ => wpAny_pyIter_keyiter st.1 hQ
theorem raw_src (lo : (d == sysModules) = false) : PySem.W.KdlSrc prog w "dict" d d es.size (fun i v => ∃ e, es[i]? = some e ∧ e.key = v) (fun h => RawD h d es ep) where
 type := fun _ hm => hm.ty
 there := fun _ hm => ⟨hm.lt, hm.lt⟩
 keep := fun _ _ hm hk => hm.keep fun o e => hk d (.inl rfl) o e
 notList := by decide
 notTuple := by decide
 hint := fun _ _ _ _ hm hq => PySem.W.kdl_hint_dict hm.ty hq
 iter := fun _ _ hh hm => ⟨_, _, (fun _ _ hq => raw_iter lo hm hq), raw_walks hh _ d (Nat.ne_of_lt hm.lt) es ep, ⟨⟨_, Heap.get?_push_size _ rfl, rfl, rfl⟩, hm.keep fun o e => Heap.get?_push_of_some _ e⟩⟩
end
def gSkip : TG := fun _ σ H Q => Q σ H
section
variable {X : Cx} {pos : Pos}
theorem pg_skip {x : Str} (hN : X.N.Nodup) (hx : Loc X.env.scope x) (hn : x ∉ X.N) (hf : X.fn x = true ∨ X.env.scope.names.lookup x = some .local := by first | exact .inl rfl | exact .inr rfl | assumption) : PG X (.Name x pos) gSkip := by
 intro pins s σ H v u Q I r h
 refine wpAny_assign_Name ?_
 have I' : Inv { X with N := X.N ++ [x] } pins (σ ++ [none]) H s := by
   refine ⟨?_, I.os, I.bare, I.base, ?_, I.cell, I.free, I.freeC, I.pin, I.hok, ?_⟩
   · obtain ⟨_, _, _, _, _, _, _, _, _, _, _, _, _, _, _, _⟩ := I.ok; constructor <;> assumption
   · obtain ⟨m, h1, h2⟩ := I.loc
     refine ⟨m, h1, fun i y v e1 e2 => ?_⟩
     have hl := I.len
     by_cases hi : i < σ.length
     · exact h2 i y v (by rw [List.getElem?_append_left (by omega)] at e1; exact e1) (by rw [List.getElem?_append_left hi] at e2; exact e2)
     · rw [List.getElem?_append_right (by omega)] at e2
       cases k : i - σ.length with
       | zero => rw [k] at e2; cases e2
       | succ n => rw [k] at e2; cases e2
   · show (σ ++ [none]).length = (X.N ++ [x]).length
     rw [List.length_append, List.length_append, I.len]; rfl
 have nd : (X.N ++ [x]).Nodup := by
   rw [List.nodup_append]
   exact ⟨hN, List.nodup_cons.mpr ⟨by simp, List.nodup_nil⟩, fun a ha b hb e => hn (by rw [List.mem_singleton.mp hb] at e; rw [← e]; exact ha)⟩
 refine store_ok (X := { X with N := X.N ++ [x] }) (i := X.N.length) I' nd (by show (X.N ++ [x])[X.N.length]? = some x; rw [List.getElem?_append_right (Nat.le_refl _), Nat.sub_self]; rfl) hx r (fun s' J => ⟨σ, H, ?_, h⟩) hf
 refine ⟨I.ok, J.os, J.bare, J.base, ?_, J.cell, J.free, J.freeC, J.pin, J.hok, I.len⟩
 obtain ⟨m, h1, h2⟩ := J.loc
 refine ⟨m, h1, fun i y v e1 e2 => h2 i y v ?_ ?_⟩
 · show (X.N ++ [x])[i]? = some y
   rw [List.getElem?_append_left (List.getElem?_eq_some_iff.mp e1).1]; exact e1
 · have hi : i < X.N.length := (List.getElem?_eq_some_iff.mp e1).1
   rw [List.getElem?_set_ne (by omega), List.getElem?_append_left (by rw [I.len]; exact hi)]; exact e2
end
end L2
namespace L2
open PySem PySem.Spec PySem.Calls PySem.W PyProof.Rows
inductive KAll (n : Nat) {α : Type} (R : α → Prop) : KasT α → Prop
 | ret {a : α} : R a → KAll n R (.ret a)
 | ask {i j : Nat} {k : Bool → KasT α} : i < n → j < n → (∀ b, KAll n R (k b)) → KAll n R (.ask i j k)
theorem KAll.bind {n : Nat} {α β : Type} {R : α → Prop} {S : β → Prop} {f : α → KasT β} {t : KasT α} (h : KAll n R t) (k : ∀ a, R a → KAll n S (f a)) : KAll n S (t.bind f) := by
 induction h with
 | ret r => exact k _ r
 | ask hi hj _ ih => exact .ask hi hj ih
theorem KAll.wp {n : Nat} {α : Type} {R : α → Prop} {cmp : Nat → Nat → (Bool → Shared → Prop) → Shared → Prop} {Iv : Shared → Prop} (hc : ∀ i j Q s, i < n → j < n → Iv s → (∀ b s', Iv s' → Q b s') → cmp i j Q s) {Q : α → Shared → Prop} {t : KasT α} (h : KAll n R t) (k : ∀ a s, R a → Iv s → Q a s) : ∀ s, Iv s → t.kasWp cmp Q s := by
 induction h with
 | ret r => exact fun s hs => k _ _ r hs
 | ask hi hj _ ih => exact fun s hs => hc _ _ _ _ hi hj hs fun b s' hs' => ih b s' hs'
def PlG (n : Nat) (p : Array Nat) : Prop := p.size = n ∧ ∀ x ∈ p, x < n
theorem PlG.perm {n : Nat} {p q : Array Nat} (h : PlG n p) (e : q.Perm p) : PlG n q := ⟨e.size_eq.trans h.1, fun x hx => h.2 x (e.mem_iff.mp hx)⟩
theorem PlG.at {n : Nat} {p : Array Nat} (h : PlG n p) (hn : 0 < n) (k : Nat) : p.getD k 0 < n := by
 rw [Array.getD_eq_getD_getElem?]
 by_cases hk : k < p.size
 · rw [Array.getElem?_eq_getElem hk]; exact h.2 _ (Array.getElem_mem hk)
 · rw [Array.getElem?_eq_none (by omega)]; exact hn
theorem PlG.rev {n : Nat} {p : Array Nat} (h : PlG n p) (i j : Nat) : PlG n (kas_rev p i j) := h.perm (mirror_perm ..)
theorem PlG.bub {n : Nat} {p : Array Nat} (h : PlG n p) (i j : Nat) : PlG n (bubble p i j) := h.perm (bubble_perm ..)
theorem all_asc {n : Nat} (hn : 0 < n) {p : Array Nat} (h : PlG n p) : ∀ f m, KAll n (fun _ => True) (kas_asc p f m)
 | 0, m => .ret trivial
 | f + 1, m => .ask (h.at hn _) (h.at hn _) fun b => by cases b; exact all_asc hn h f (m + 1); exact .ret trivial
theorem all_desc {n : Nat} (hn : 0 < n) : ∀ f {p : Array Nat} (m q : Nat), PlG n p → KAll n (fun r : Array Nat × Nat × Nat => PlG n r.1) (kas_desc f p m q)
 | 0, p, m, q, h => .ret h
 | f + 1, p, m, q, h => .ask (h.at hn _) (h.at hn _) fun b => by
   cases b with
   | true =>
     show KAll n _ (if q > 0 then _ else _)
     split
     · exact all_desc hn f _ _ (h.rev _ _)
     · exact all_desc hn f _ _ h
   | false => exact .ask (h.at hn _) (h.at hn _) fun c => by cases c; exact all_desc hn f _ _ h; exact .ret h
theorem all_tail {n : Nat} (hn : 0 < n) {p : Array Nat} (h : PlG n p) (a b : Nat) : KAll n (fun r : Nat × Array Nat => PlG n r.2) (kas_tail3 a b p) := (all_asc hn (h.rev _ _) _ _).bind fun _ _ => .ret (h.rev _ _)
theorem all_dpart {n : Nat} (hn : 0 < n) {p : Array Nat} (h : PlG n p) (a b : Nat) : KAll n (fun r : Nat × Array Nat => PlG n r.2) (kas_descPart a b p) := (all_desc hn _ _ _ h).bind fun r hr => by
 split
 · exact all_tail hn (hr.rev _ _) _ _
 · exact all_tail hn hr _ _
theorem all_count {n : Nat} (hn : 0 < n) {p : Array Nat} (h : PlG n p) (a : Nat) : KAll n (fun r : Nat × Array Nat => PlG n r.2) (kas_count a p) := (all_asc hn h _ _).bind fun m _ => by
 split
 · exact .ret h
 · split
   · exact .ask (h.at hn _) (h.at hn _) fun c => by cases c; exact all_dpart hn (h.rev _ _) _ _; exact .ret h
   · exact all_dpart hn h _ _
theorem all_place {n : Nat} (hn : 0 < n) {p : Array Nat} (h : PlG n p) (k : Nat) : ∀ f l r, KAll n (fun _ => True) (kas_place p k f l r)
 | 0, l, r => .ret trivial
 | f + 1, l, r => by
   unfold kas_place
   split
   · exact .ret trivial
   · exact .ask (h.at hn _) (h.at hn _) fun c => by cases c; exact all_place hn h k f _ _; exact all_place hn h k f _ _
theorem all_bin {n : Nat} (hn : 0 < n) : ∀ f {p : Array Nat} (k : Nat), PlG n p → KAll n (PlG n) (kas_bin f p k)
 | 0, p, k, h => .ret h
 | f + 1, p, k, h => (all_place hn h k _ _ _).bind fun l _ => all_bin hn f _ (h.bub _ _)
theorem all_sort {n : Nat} (hn : 0 < n) : KAll n (PlG n) (kas_sort n) := (all_count hn (p := (List.range n).toArray) ⟨by simp, by simp⟩ n).bind fun r hr => by
 split
 · exact all_bin hn _ _ hr
 · exact .ret hr
end L2
namespace L2
open PySem PySem.Spec PySem.Calls PySem.W PyProof.Rows
section
variable {prog : Program} {w : World} {A : Around} {E : Value → Shared → Prop} {s : Shared}
def IsTT (h : Heap) (v : Value) : Prop := ∃ x o q t tq tt m, v = .ref x ∧ h.get? x = some o ∧ o.cls = .type "tuple" ∧ o.data = .seq #[.str q tq, .str t tt] m
theorem IsTT.keep {h h' : Heap} {v : Value} (x : IsTT h v) (k : ∀ b o, h.get? b = some o → o.cls = .type "tuple" → h'.get? b = some o) : IsTT h' v := let ⟨a, o, q, t, tq, tt, m, e, ho, hc, r⟩ := x; ⟨a, o, q, t, tq, tt, m, e, k _ _ ho hc, hc, r⟩
theorem tt_eq {a b : Str} {t u : Tok} {Q : Bool → Shared → Prop} (h : Q (decide (a = b)) s) : wpAny (model prog w) A (eqBool (.str a t) (.str b u)) Q E s := by
 refine (mixKind prog w).eqBool (a := .inr a) (b := .inr b) (kV_is (k := .inr a) ⟨t, rfl⟩) (kV_is (k := .inr b) ⟨u, rfl⟩) ?_
 rw [show decide ((Sum.inr a : Key) = Sum.inr b) = decide (a = b) by rw [Bool.eq_iff_iff, decide_eq_true_iff, decide_eq_true_iff]; exact ⟨fun e => Sum.inr.inj e, fun e => congrArg _ e⟩]
 exact h
theorem tt_lt {v u : Value} {Q : Bool → Shared → Prop} (hv : IsTT s.heap v) (hu : IsTT s.heap u) (h : ∀ b, Q b s) : wpAny (model prog w) A (keyLt' (tuples' true) v u) Q E s := by
 obtain ⟨x, o, q, t, tq, tt, m, rfl, ho, hc, hd⟩ := hv
 obtain ⟨x', o', q', t', tq', tt', m', rfl, ho', hc', hd'⟩ := hu
 refine kat_lt ho hd ho' hd' (kat_cons (tt_eq (kat_go (fun _ => kat_yes (kat_cons (tt_eq (kat_go (fun _ => kat_yes (kat_nil (h _))) fun _ => kat_no ?_)))) fun _ => kat_no (oneLt_str (h _)))))
 exact kat_one _ _ (PyProof.Rows.lt_str (h _))
theorem kat_tups_of {h : Heap} : ∀ {vs : List Value}, (∀ v ∈ vs, IsTT h v) → ∃ fs : List Value, fs.length = vs.length ∧ KatTups h vs fs ∧ ∀ f ∈ fs, ∃ q t, f = .str q t
 | [], _ => ⟨[], rfl, trivial, fun _ h => nomatch h⟩
 | v :: vs, h => by
   obtain ⟨fs, h1, h2, h3⟩ := kat_tups_of (vs := vs) fun u hu => h u (List.mem_cons_of_mem _ hu)
   obtain ⟨x, o, q, t, tq, tt, m, rfl, ho, hc, hd⟩ := h v (List.mem_cons_self ..)
   exact ⟨.str q tq :: fs, by simp [h1], ⟨⟨x, o, _, m, rfl, ho, hc, hd, rfl⟩, h2⟩, fun f hf => by
     rcases List.mem_cons.mp hf with e | e
     · exact ⟨q, tq, e⟩
     · exact h3 f e⟩
theorem sort_tt {a : Addr} {n : Nat} {vs : List Value} {P : PySem.Fin → Shared → Prop} (ho : s.heap.get? a = some (seqObj "list" vs.toArray n)) (h64 : vs.length < 64) (ht : ∀ v ∈ vs, IsTT s.heap v)
   (h : ∀ out : List Value, out.length = vs.length → (∀ v ∈ out, v ∈ vs) → ∀ h' c, h'.get? a = some (seqObj "list" out.toArray c) → (∀ b o, b ≠ a → s.heap.get? b = some o → h'.get? b = some o) → P (.done (.ret .none)) { s with heap := h' }) :
   wpAny (model prog w) A (Builtin.«list.sort» ⟨[.ref a], []⟩) P E s := by
 have ha : a < s.heap.objs.size := Heap.lt_size ho
 have s1 := Heap.SameBut.update s.heap a (Obj.mapSeq fun _ => (#[] : Array Value))
 obtain ⟨e1, ho1⟩ : ∃ e1, (s.heap.update a (Obj.mapSeq fun _ => (#[] : Array Value))).get? a = some (seqObj "list" #[] e1) := ⟨_, get?_update_seq ho fun _ => #[]⟩
 rw [list_sort_plain]
 refine wpAny_bind (listItems_at ho rfl ?_)
 refine wpAny_bind (listUpdate_at ho rfl ?_ (by rw [List.size_toArray, sizeLine_eq]; omega) (Nat.zero_le _))
 refine wpAny_bind (seqEpoch_at ho1 rfl ?_)
 refine wpAny_bind (wpAny_newTuple ?_ (by show vs.length ≤ _; rw [sizeLine_eq]; omega))
 refine wpAny_bind (wpAny_newList ?_ (Nat.zero_le _))
 refine wpAny_holding ?_
 have kp : ∀ b o, b ≠ a → s.heap.get? b = some o → (((s.heap.update a (Obj.mapSeq fun _ => (#[] : Array Value))).push (seqObj "tuple" vs.toArray 0)).push (seqObj "list" #[] 0)).get? b = some o := fun b o hb e =>
   Heap.get?_push_of_some _ (Heap.get?_push_of_some _ ((s1.2 b hb).trans e))
 have ka : (((s.heap.update a (Obj.mapSeq fun _ => (#[] : Array Value))).push (seqObj "tuple" vs.toArray 0)).push (seqObj "list" #[] 0)).get? a = some (seqObj "list" #[] e1) := Heap.get?_push_of_some _ (Heap.get?_push_of_some _ ho1)
 show wpAny (model prog w) A _ P E { s with heap := ((s.heap.update a (Obj.mapSeq fun _ => (#[] : Array Value))).push (seqObj "tuple" vs.toArray 0)).push (seqObj "list" #[] 0) }
 generalize ((s.heap.update a (Obj.mapSeq fun _ => (#[] : Array Value))).push (seqObj "tuple" vs.toArray 0)).push (seqObj "list" #[] 0) = h3 at kp ka ⊢
 have ht3 : ∀ v ∈ vs, IsTT h3 v := fun v hv => (ht v hv).keep fun b o e hc => kp b o (fun z => by rw [z, ho] at e; cases e; exact absurd (show Value.type "list" = Value.type "tuple" from hc) (by decide)) e
 have fin : ∀ out : List Value, out.length = vs.length → (∀ v ∈ out, v ∈ vs) → P (.done (.ret .none)) { s with heap := h3.update a (Obj.mapSeq fun _ => out.toArray) } := fun out h1 h2 => by
   have s2 := Heap.SameBut.update h3 a (Obj.mapSeq fun _ => out.toArray)
   exact h out h1 h2 _ _ (get?_update_seq ka fun _ => out.toArray) fun b o hb e => (s2.2 b hb).trans (kp b o hb e)
 dsimp only
 by_cases hn2 : vs.toArray.size < 2
 · rw [if_pos hn2, if_pos hn2]
   refine wpAny_bind (wpAny_pure ?_)
   refine wpAny_bind (m := (pure () : StateT SortSt Sem Unit).run _) (wpAny_pure ?_)
   dsimp only
   refine wpAny_bind (seqEpoch_at ka rfl ?_)
   have eo : ((arrOf (SortSt.mk' general' (vs.toArray.zip vs.toArray) #[] 7 none)).map (·.2)) = vs.toArray := by
     show (vs.toArray.zip vs.toArray).map (·.2) = vs.toArray
     apply Array.toList_inj.mp
     rw [Array.toList_map, Array.toList_zip]
     exact List.map_snd_zip (Nat.le_refl _)
   rw [eo]
   refine wpAny_bind (listUpdate_at ka rfl ?_ (Nat.zero_le _) (by rw [List.size_toArray, sizeLine_eq]; omega))
   simp only [bne_self_eq_false, Bool.false_eq_true, if_false]
   exact wpAny_pure (fin vs rfl fun _ h => h)
 · rw [if_neg hn2, if_neg hn2]
   have h2 : 2 ≤ vs.length := by rw [List.size_toArray] at hn2; omega
   obtain ⟨fs, f1, f2, f3⟩ := kat_tups_of ht3
   refine wpAny_bind (kat_kind (T := .type "str") f2 (by omega) (fun v hv => ?_) (by decide) ?_)
   · obtain ⟨q, t, rfl⟩ := f3 v hv
     exact .now
   · show wpAny (model prog w) A _ P E { s with heap := h3 }
     have run := (all_sort (n := vs.length) (by omega)).wp (cmp := kas_ask prog w A (tuples' true) vs) (Iv := fun s' => s' = { s with heap := h3 }) (Q := fun p s' => s' = { s with heap := h3 } ∧ PlG vs.length p) (fun i j Q s' hi hj e k => by
       subst e
       have at_ : ∀ k, k < vs.length → vs.getD k Value.none ∈ vs := fun k hk => by
         rw [List.getD_eq_getElem?_getD, List.getElem?_eq_getElem hk]; exact List.getElem_mem hk
       exact tt_lt (ht3 _ (at_ i hi)) (ht3 _ (at_ j hj)) fun b => k b _ rfl) (fun p s' hp e => ⟨e, hp⟩) _ rfl
     refine wpAny_bind (wpAny_mono (kat_run (Q := fun st' s' => ∃ p : Array Nat, arrOf st' = p.map (kas_item (vs.toArray.zip vs.toArray)) ∧ failedOf st' = none ∧ s' = { s with heap := h3 } ∧ PlG vs.length p) rfl h2 h64 (fun p st' s' a1 a2 a3 a4 => ⟨p, a2, a3, a4.1, a4.2⟩) run) ?_ fun _ _ e => e)
     rintro ⟨⟨⟩, st'⟩ s' ⟨p, har, hf, rfl, hp⟩
     dsimp only
     rw [kat_snds rfl har]
     refine wpAny_bind (seqEpoch_at ka rfl ?_)
     refine wpAny_bind (listUpdate_at ka rfl ?_ (Nat.zero_le _) (by rw [List.size_toArray, List.length_map, Array.length_toList, hp.1, sizeLine_eq]; omega))
     rw [hf]
     simp only [bne_self_eq_false, Bool.false_eq_true, if_false]
     refine wpAny_pure (fin _ (by rw [List.length_map, Array.length_toList, hp.1]) fun v hv => ?_)
     obtain ⟨i, hi, rfl⟩ := List.mem_map.mp hv
     have := hp.2 i (Array.mem_toList_iff.mp hi)
     rw [List.getD_eq_getElem?_getD, List.getElem?_eq_getElem this]; exact List.getElem_mem this
end
theorem paired_atR {α β : Type} {R : α → β → Prop} : ∀ {as : List α} {bs : List β} {i : Nat} {b : β}, Paired R as bs → bs[i]? = some b → ∃ a, as[i]? = some a ∧ R a b
 | _, _, 0, _, .cons r _, e => by simp at e; subst e; exact ⟨_, rfl, r⟩
 | _, _, i + 1, b, .cons _ t, e => by
   obtain ⟨a, h1, h2⟩ := paired_atR (i := i) (b := b) t (by simpa using e)
   exact ⟨a, by simpa using h1, h2⟩
theorem vals_tt {its : List Value} {a b : Str} (h : Vals [V.str a, V.str b] its) : ∃ t u, its = [.str a t, .str b u] := by
 cases h with
 | cons r1 h =>
   cases h with
   | cons r2 h =>
     cases h
     obtain ⟨t, rfl⟩ := r1
     obtain ⟨u, rfl⟩ := r2
     exact ⟨t, u, rfl⟩
theorem vals_refs {R : Addr → Prop} : ∀ {out : List Value}, (∀ v ∈ out, ∃ t, v = .ref t ∧ R t) → ∃ ys : List V, Vals ys out ∧ ys.length = out.length ∧ ∀ y ∈ ys, ∃ t, y = .ref t ∧ R t
 | [], _ => ⟨[], .nil, rfl, fun _ h => nomatch h⟩
 | v :: out, h => by
   obtain ⟨ys, h1, h2, h3⟩ := vals_refs (out := out) fun u hu => h u (List.mem_cons_of_mem _ hu)
   obtain ⟨t, rfl, ht⟩ := h v (List.mem_cons_self ..)
   exact ⟨.ref t :: ys, .cons rfl h1, by simp [h2], fun y hy => by
     rcases List.mem_cons.mp hy with e | e
     · exact ⟨t, e, ht⟩
     · exact h3 y e⟩
theorem call_sortedT {X : Cx} (hc : X.calm = true) : CallR X (.builtin "sorted") (fun xs H Q => ∃ d kvs, xs = [.ref d] ∧ H d = some (.dT kvs) ∧ kvs.length < 64 ∧ (∀ k ∈ kvs.map (·.1), ∃ a b : Str, k = [.inr a, .inr b]) ∧
   ∀ l ys, H l = none → (∀ y ∈ ys, ∃ t, y = .ref t ∧ ∃ k, k ∈ kvs.map (·.1) ∧ H t = some (.tup (k.map kV))) → ys.length = kvs.length → Q (.ref l) (upd H l (.lst ys))) := by
 intro pins s σ H xs us Q I r h
 obtain ⟨d, kvs, rfl, hH, h64, htt, q⟩ := h
 obtain ⟨u, rfl, rx⟩ := vals1 r
 cases rx
 obtain ⟨hz, hsys, xs', kt, o, es, ep, ho, hx, hdat, he, hall, hnd⟩ := dt_of I.hok hH
 have hm : RawD s.heap d es ep := ⟨o, ho, hx, hdat⟩
 have hes : es.size = xs'.length := by rw [← Array.length_toList, he, List.length_map]
 have hkl : kvs.length = xs'.length := kt.length
 have hand : X.A.handled = none := I.ok.hd hc
 refine call_function_entry kind_sorted plain_sorted entry_sorted (args_sorted1 _) ?_
 unfold Builtin.«sorted»
 refine wpAny_bind (m := checkCount "sorted" 1 1 _) (wpAny_pure ?_)
 refine wpAny_bind (kdu_collect (A := X.A.in1) (raw_src (es := es) (ep := ep) hsys) hand hm (by omega) fun h' tk acc hk hacc => ?_)
 have hl : acc.toList.length = xs'.length := by rw [Array.length_toList, hacc.1, hes]
 refine wpAny_bind (wpAny_newList ?_ (by rw [hl]; omega))
 have key : ∀ v ∈ acc.toList, ∃ t, v = .ref t ∧ ∃ k, k ∈ kvs.map (·.1) ∧ H t = some (.tup (k.map kV)) := fun v hv => by
   obtain ⟨j, hj⟩ := List.mem_iff_getElem?.mp hv
   obtain ⟨e, h1, h2⟩ := hacc.2 j v (by rw [← Array.getElem?_toList]; exact hj)
   rw [← Array.getElem?_toList, he, List.getElem?_map] at h1
   cases e3 : xs'[j]? with
   | none => rw [e3] at h1; cases h1
   | some z =>
     rw [e3] at h1
     cases h1
     subst h2
     obtain ⟨p, hp, r1, r2, _⟩ := paired_atR kt e3
     exact ⟨z.2.1, rfl, p.1, List.mem_map.mpr ⟨p, List.mem_of_getElem? hp, rfl⟩, r2⟩
 have I1 : Inv X pins σ H { s with heap := h', toks := tk } := I.kept hk
 have hoL : (h'.push (seqObj "list" acc.toList.toArray 0)).get? h'.objs.size = some (seqObj "list" acc.toList.toArray 0) := Heap.get?_push_size _ rfl
 have k2 : ∀ b u, h'.get? b = some u → (h'.push (seqObj "list" acc.toList.toArray 0)).get? b = some u := fun b u e => Heap.get?_push_of_some _ e
 show wpAny _ _ _ _ _ { s with heap := h'.push (seqObj "list" acc.toList.toArray 0), toks := tk }
 generalize h'.push (seqObj "list" acc.toList.toArray 0) = h2 at hoL k2 ⊢
 refine wpAny_bind (wpAny_holding (wpAny_call_entry slot_list_sort ⟨_, hoL, rfl⟩ entry_list_sort ?body (args_list_sort _)))
 refine sort_tt (s := { s with heap := h2, toks := tk }) hoL (by omega) (fun v hv => ?_) fun out o1 o2 h3 c3 g1 g2 => ⟨_, rfl, wpAny_pure ⟨_, rfl, ?_⟩⟩
 · obtain ⟨t, rfl, k, hk1, ht⟩ := key v hv
   obtain ⟨a, b, rfl⟩ := htt k hk1
   obtain ⟨_, its, rv, ob, hob, hcb, mm, hdb⟩ := (show ObjOk X.prog X.w H h' t (.tup _) from I1.hok t _ ht)
   obtain ⟨t1, t2, rfl⟩ := vals_tt rv
   exact ⟨t, ob, a, b, t1, t2, mm, rfl, k2 _ _ hob, hcb, hdb⟩
 · obtain ⟨ys, y1, y2, y3⟩ := vals_refs (out := out) fun v hv => key v (o2 v hv)
   refine ⟨.ref h'.objs.size, _, I1.laid (t' := tk) (a := h'.objs.size) (o := .lst ys) (fun b u e => g2 b u (Nat.ne_of_lt (Heap.lt_size e)) (k2 b u e)) (Nat.le_refl _) ⟨by omega, out, c3, y1, g1⟩, rfl, q _ ys (I1.hok.fresh (Nat.le_refl _)) y3 (by omega)⟩
end L2
namespace L2
open PySem PySem.Spec PyProof.Rows PySem.Calls
section
variable {X : Cx} {scope : Scope} {x y z : Str} {M : List Str} {elt iter : Expr} {ifs : List Expr} {pos p1 p2 p3 p4 : Pos} {kk : Nat} {te : TE} {wi : TI} {tc : TT}
structure CompRT3 (K : PySem.W.Frag) (J : It) (tc : TT) (te : TE) (σ : St) (H1 : Hp) (Q : VK) : Prop where
 ex : ∃ (n : Nat) (W : Nat → List V → Hp → Prop), n ≤ sizeLine ∧ W 0 [] H1 ∧ ∀ i ys H, i ≤ n → ys.length ≤ i → W i ys H →
   (J.stop i H ∧ ∀ p, H p = none → Q (.ref p) (upd H p (.lst ys))) ∨ (J.go i H ∧ i < n ∧ ∀ z H', J.yld i H z H' → ∃ (p : Addr) (a b d : V), z = .ref p ∧ SqT K H' p [a, b, d] ∧ tc (some a :: some b :: σ) H' fun c H3 => if c = true then te (some a :: some b :: σ) H3 fun z H4 => W (i + 1) (ys ++ [z]) H4 else W (i + 1) ys H3)
def tCompT3 (K : PySem.W.Frag) (wi : TI) (tc : TT) (te : TE) : TE := fun σ H Q => wi σ H fun J H1 => CompRT3 K J tc te σ H1 Q
theorem pe_compT3 (K : CompOk2 X scope x y M) (h3 : scope.names.lookup z = some .local) (n3 : z ∉ x :: y :: M) (hc : X.calm = true) (hi : PI X (.Tuple [.Name x p1, .Name y p2, .Name z p4] kk p3) iter wi) (ht : ∀ (C : Addr) (s₂ : Shared) (H₂ : Hp) (fp : List Addr), PIfs (compCx2 X scope C x y M s₂ H₂ fp) ifs tc) (he : ∀ (C : Addr) (s₂ : Shared) (H₂ : Hp) (fp : List Addr), PE (compCx2 X scope C x y M s₂ H₂ fp) elt te)
   (hs : ∀ x, foldedSetIterable iter X.env x = pure x := by intro _; rfl) : PE X (.ListComp elt [⟨.Tuple [.Name x p1, .Name y p2, .Name z p4] kk p3, iter, ifs, 0⟩] scope pos) (tCompT3 X.K wi tc te) := by
 intro pins s σ H Q I h
 have q := pe_comp2 (pos := pos) (g := gTup X.K 3 (gCons (gName 0) (gCons (gName 1) (gCons gSkip gNil)))) K hc (wi := fun σ0 H0 R0 => ∃ R, wi σ0 H0 R ∧ ∀ J H1, R J H1 → R0 J H1) (pi_conv hi fun σ H R ⟨R1, a, b⟩ => ⟨R1, a, b⟩) (fun C s₂ H₂ fp =>
   pg_tup (X := compCx2 X scope C x y M s₂ H₂ fp) hc (yY (yM K.nd2 rfl (.inl (lookup_relabel_local K.base.loc)) (.inr (lookup_relabel_local K.base.loc))) (yY (yM K.nd2 rfl (.inl (lookup_relabel_local K.loc2)) (.inr (lookup_relabel_local K.loc2))) (yY (pg_skip K.nd2 (.inl (lookup_relabel_local h3)) n3 (.inr (lookup_relabel_local h3))) pgs_nil)))) ht he hs pins s σ H Q I
 refine q ⟨_, h, fun J H1 r => ?_⟩
 obtain ⟨n, W, h1, h2, h3⟩ := r.ex
 refine ⟨n, W, h1, h2, fun i ys H' hi hy hw => ?_⟩
 rcases h3 i ys H' hi hy hw with hq | ⟨g1, g2, g3⟩
 · exact .inl hq
 · refine .inr ⟨g1, g2, fun z H2 hz u v => ?_⟩
   obtain ⟨p, a, b, d, e, hq, t⟩ := g3 z H2 hz
   exact ⟨p, [a, b, d], e, hq, rfl, a, [b, d], rfl, b, [d], rfl, d, [], rfl, rfl, ⟨_, _, rfl⟩, t⟩
end
theorem comp_listT3 {K : PySem.W.Frag} {a : Addr} {xs : List V} {tc : TT} {te : TE} {σ : St} {H : Hp} {Q : VK} (hz : xs.length ≤ sizeLine) (W : Nat → List V → Hp → Prop) (h0 : W 0 [] H) (hq : ∀ i ys H, W i ys H → SqL K H a xs)
   (hs : ∀ i x ys H, xs[i]? = some x → ys.length ≤ i → W i ys H → ∃ (p : Addr) (u v d : V), x = .ref p ∧ SqT K H p [u, v, d] ∧ tc (some u :: some v :: σ) H fun c H3 => if c = true then te (some u :: some v :: σ) H3 fun z H4 => W (i + 1) (ys ++ [z]) H4 else W (i + 1) ys H3)
   (hd : ∀ ys H, W xs.length ys H → ∀ p, H p = none → Q (.ref p) (upd H p (.lst ys))) : CompRT3 K (Itl K a) tc te σ H Q := by
 refine ⟨xs.length, W, hz, h0, fun i ys H hi hl hw => ?_⟩
 have q := hq i ys H hw
 by_cases hlt : i < xs.length
 · refine .inr ⟨⟨xs, xs[i], q, by simp [hlt]⟩, hlt, fun v H' y => ?_⟩
   obtain ⟨e, y⟩ := y
   subst e
   exact hs i v ys _ (y xs q) hl hw
 · have e : i = xs.length := by omega
   subst e
   exact .inl ⟨⟨xs, q, Nat.le_refl _⟩, hd ys H hw⟩
theorem op_notInT {X : Cx} (hu : X.A.units + 20 < cLine) : OpR X (compareOp .NotIn) (fun x y H Q => ∃ p xs, ∃ (eb : V → Bool), y = .ref p ∧ SqL X.K H p xs ∧ (∀ z ∈ xs, (∃ q, z = .ref q) ∧ EqJi X H 18 z x (eb z)) ∧ Q (.bl (!xs.any eb)) H) := by
 intro pins s σ H x y v u Q I rx ry h
 obtain ⟨p, xs, eb, rfl, hq, hall, q⟩ := h
 cases ry
 obtain ⟨its, r, pl, hz⟩ := I.list hq
 have key : ∀ {xs : List V} {us : List Value}, Vals xs us → (∀ z ∈ xs, (∃ q, z = .ref q) ∧ EqJi X H 18 z x (eb z)) → (∀ w ∈ us, SeqAt.EqAt X.A.in1 s w v (eqR eb w)) ∧ us.any (eqR eb) = xs.any eb := by
   intro xs us rv
   induction rv with
   | nil => intro _; exact ⟨fun w hw => (by cases hw), rfl⟩
   | cons a _ ih =>
     rename_i x' u' xs' us' _
     intro f
     obtain ⟨i1, i2⟩ := ih fun z hz => f z (List.mem_cons_of_mem _ hz)
     obtain ⟨⟨q', e⟩, hj⟩ := f x' (by simp)
     subst e
     have ea := a
     cases a
     refine ⟨fun w hw => ?_, by rw [List.any_cons, List.any_cons, i2]; rfl⟩
     rcases List.mem_cons.mp hw with e | e
     · subst e
       exact hj pins s σ _ v X.A.in1 I ea rx (by show X.A.units + 1 + 18 < _; omega)
     · exact i1 w e
 obtain ⟨k1, k2⟩ := key r hall
 refine SeqAt.notIn_listAt (eqR eb) pl.isList (fun w hw => k1 w (by simpa using hw)) ⟨.bl _, H, I, rfl, ?_⟩
 rw [show its.toArray.any (eqR eb) = its.any (eqR eb) by simp, k2]
 exact q
def rNI2 (K : PySem.W.Frag) : R2 := fun x y H Q => ∃ p xs t tx, ∃ (eb : V → Bool), x = .ref t ∧ y = .ref p ∧ SqT K H t tx ∧ SqL K H p xs ∧ tx.all flatV = true ∧ (∀ z ∈ xs, ∃ q ys, z = .ref q ∧ SqT K H q ys ∧ ys.all flatV = true ∧ (eqL ys tx = true → ys = tx) ∧ eb z = eqL ys tx) ∧ Q (.bl (!xs.any eb)) H
theorem op_notIn2 {X : Cx} (hu : X.A.units + 20 < cLine) : OpR X (compareOp .NotIn) (rNI2 X.K) := by
 intro pins s σ H x y v u Q I rx ry h
 obtain ⟨p, xs, t, tx, eb, rfl, rfl, ht, hl, hf, hall, q⟩ := h
 refine op_notInT hu pins s σ H _ _ v u Q I rx ry ⟨p, xs, eb, rfl, hl, fun z hz => ?_, q⟩
 obtain ⟨q', ys, rfl, h1, h2, h3, h4⟩ := hall z hz
 refine ⟨⟨q', rfl⟩, ?_⟩
 rw [h4]
 exact eqi_ftups (n := 17) h1 ht h2 hf h3
def rNeSame (K : PySem.W.Frag) : R2 := fun x y H Q => ∃ p q xs, x = .ref p ∧ y = .ref q ∧ SqL K H p xs ∧ SqL K H q xs ∧ (∀ z ∈ xs, ∃ r, z = .ref r) ∧ Q (.bl false) H
theorem op_neSame {X : Cx} (hu : X.A.units + 20 < cLine) : OpR X (compareOp .NotEq) (rNeSame X.K) := by
 intro pins s σ H x y v u Q I rx ry h
 obtain ⟨p, q, xs, rfl, rfl, h1, h2, h3, k⟩ := h
 have e := eqj_lists (X := X) (n := 19) (e := fun _ => true) h1 h2 rfl fun j x y hx hy => by
   rw [hx] at hy; cases hy
   obtain ⟨r, rfl⟩ := h3 x (List.mem_of_getElem? hx)
   exact eqi_same
 refine op_neJ hu pins s σ H _ _ v u Q I rx ry ⟨_, e, ?_⟩
 rw [show (List.range xs.length).all (fun _ => true) = true by simp]
 exact k
end L2
namespace K42
open PySem L2
def top (i : Nat) : Stmt := PySem.Challenge.pw_askpaper_k42_jumps_and_what_counts.main.body.getD i (.Pass ⟨0, 0, 0, 0⟩)
abbrev s_is_whole : Stmt := top 10
abbrev s_are_figures : Stmt := top 11
abbrev s_figures_worth : Stmt := top 12
abbrev s_number_of : Stmt := top 13
abbrev s_number_or_none : Stmt := top 14
abbrev s_c_Kind___init : Stmt := inClass (top 18) 0
abbrev s_c_Kind_read : Stmt := inClass (top 18) 3
abbrev s_c_Whole_fits : Stmt := inClass (top 19) 0
abbrev s_c_Whole_answer_of : Stmt := inClass (top 19) 1
abbrev s_c_Whole_rank : Stmt := inClass (top 19) 3
abbrev s_c_Row___init : Stmt := inClass (top 21) 0
abbrev s_c_Ask___init : Stmt := inClass (top 22) 0
abbrev s_c_Sheet___init : Stmt := inClass (top 23) 0
abbrev s_c_Paper___init : Stmt := inClass (top 24) 0
abbrev s_kinds_of : Stmt := top 26
abbrev s_eaches_of : Stmt := top 27
abbrev s_all_together : Stmt := top 31
abbrev s_c_Going___init : Stmt := inClass (top 32) 0
abbrev s_c_Going_note : Stmt := inClass (top 32) 4
abbrev s_c_Going_stop_with : Stmt := inClass (top 32) 8
abbrev s_c_Going_go_through : Stmt := inClass (top 32) 10
abbrev s_c_Going_targets_of : Stmt := inClass (top 32) 11
abbrev s_c_Going_leave : Stmt := inClass (top 32) 12
abbrev s_c_Going_go : Stmt := inClass (top 32) 13
abbrev s_c_Straight___init : Stmt := inClass (top 33) 0
abbrev s_c_Straight_things_of : Stmt := inClass (top 33) 1
abbrev s_c_Straight_put : Stmt := inClass (top 33) 2
abbrev s_c_Straight_is_so : Stmt := inClass (top 33) 4
abbrev s_straight : Stmt := top 34
abbrev s_c_Hand___init : Stmt := inClass (top 38) 0
abbrev s_c_Hand_log_now : Stmt := inClass (top 38) 1
abbrev s_c_Hand_places : Stmt := inClass (top 38) 2
abbrev s_c_Hand_put_behind : Stmt := inClass (top 38) 3
abbrev s_c_Hand_demand_finger : Stmt := inClass (top 38) 4
abbrev s_c_Hand_at : Stmt := inClass (top 38) 5
abbrev s_c_Hand_answer : Stmt := inClass (top 38) 6
abbrev s_c_Hand_on : Stmt := inClass (top 38) 7
abbrev s_c_Hand_back : Stmt := inClass (top 38) 8
abbrev s_c_Hand_jump : Stmt := inClass (top 38) 9
abbrev s_c_Hand_counts : Stmt := inClass (top 38) 10
abbrev s_c_Hand_aside : Stmt := inClass (top 38) 11
abbrev s_c_Hand_state : Stmt := inClass (top 38) 12
abbrev s_law_cell_at : Stmt := top 40
abbrev s_law_mixed : Stmt := top 41
abbrev s_law_open : Stmt := top 42
abbrev s_law_name : Stmt := top 43
abbrev s_law_names : Stmt := top 44
abbrev s_law_questions : Stmt := top 45
abbrev s_law_class : Stmt := top 46
abbrev s_law_asked : Stmt := top 47
abbrev s_law_at_fits : Stmt := top 48
abbrev s_law_first_open : Stmt := top 49
abbrev s_law_deed : Stmt := top 50
abbrev s_law_counts_fit : Stmt := top 51
abbrev s_law_look : Stmt := top 52
abbrev s_law : Stmt := top 53
structure Adr where
 f_is_whole : Addr
 d_is_whole : FuncData
 f_are_figures : Addr
 d_are_figures : FuncData
 f_figures_worth : Addr
 d_figures_worth : FuncData
 f_number_of : Addr
 d_number_of : FuncData
 ds_number_of : List Value
 f_number_or_none : Addr
 d_number_or_none : FuncData
 f_c_Kind___init : Addr
 d_c_Kind___init : FuncData
 f_c_Kind_read : Addr
 d_c_Kind_read : FuncData
 f_c_Whole_fits : Addr
 d_c_Whole_fits : FuncData
 f_c_Whole_answer_of : Addr
 d_c_Whole_answer_of : FuncData
 f_c_Whole_rank : Addr
 d_c_Whole_rank : FuncData
 f_c_Row___init : Addr
 d_c_Row___init : FuncData
 f_c_Ask___init : Addr
 d_c_Ask___init : FuncData
 ds_c_Ask___init : List Value
 f_c_Sheet___init : Addr
 d_c_Sheet___init : FuncData
 f_c_Paper___init : Addr
 d_c_Paper___init : FuncData
 f_kinds_of : Addr
 d_kinds_of : FuncData
 f_eaches_of : Addr
 d_eaches_of : FuncData
 f_all_together : Addr
 d_all_together : FuncData
 f_c_Going___init : Addr
 d_c_Going___init : FuncData
 f_c_Going_note : Addr
 d_c_Going_note : FuncData
 f_c_Going_stop_with : Addr
 d_c_Going_stop_with : FuncData
 f_c_Going_go_through : Addr
 d_c_Going_go_through : FuncData
 f_c_Going_targets_of : Addr
 d_c_Going_targets_of : FuncData
 f_c_Going_leave : Addr
 d_c_Going_leave : FuncData
 f_c_Going_go : Addr
 d_c_Going_go : FuncData
 f_c_Straight___init : Addr
 d_c_Straight___init : FuncData
 f_c_Straight_things_of : Addr
 d_c_Straight_things_of : FuncData
 f_c_Straight_put : Addr
 d_c_Straight_put : FuncData
 f_c_Straight_is_so : Addr
 d_c_Straight_is_so : FuncData
 f_straight : Addr
 d_straight : FuncData
 f_c_Hand___init : Addr
 d_c_Hand___init : FuncData
 f_c_Hand_log_now : Addr
 d_c_Hand_log_now : FuncData
 f_c_Hand_places : Addr
 d_c_Hand_places : FuncData
 f_c_Hand_put_behind : Addr
 d_c_Hand_put_behind : FuncData
 f_c_Hand_demand_finger : Addr
 d_c_Hand_demand_finger : FuncData
 f_c_Hand_at : Addr
 d_c_Hand_at : FuncData
 f_c_Hand_answer : Addr
 d_c_Hand_answer : FuncData
 f_c_Hand_on : Addr
 d_c_Hand_on : FuncData
 f_c_Hand_back : Addr
 d_c_Hand_back : FuncData
 f_c_Hand_jump : Addr
 d_c_Hand_jump : FuncData
 ds_c_Hand_jump : List Value
 f_c_Hand_counts : Addr
 d_c_Hand_counts : FuncData
 f_c_Hand_aside : Addr
 d_c_Hand_aside : FuncData
 f_c_Hand_state : Addr
 d_c_Hand_state : FuncData
 f_law_cell_at : Addr
 d_law_cell_at : FuncData
 f_law_mixed : Addr
 d_law_mixed : FuncData
 f_law_open : Addr
 d_law_open : FuncData
 f_law_name : Addr
 d_law_name : FuncData
 f_law_names : Addr
 d_law_names : FuncData
 f_law_questions : Addr
 d_law_questions : FuncData
 f_law_class : Addr
 d_law_class : FuncData
 f_law_asked : Addr
 d_law_asked : FuncData
 f_law_at_fits : Addr
 d_law_at_fits : FuncData
 f_law_first_open : Addr
 d_law_first_open : FuncData
 f_law_deed : Addr
 d_law_deed : FuncData
 f_law_counts_fit : Addr
 d_law_counts_fit : FuncData
 f_law_look : Addr
 d_law_look : FuncData
 f_law : Addr
 d_law : FuncData
 c_Ask : Addr
 c_AskError : Addr
 c_Going : Addr
 c_Hand : Addr
 c_Kind : Addr
 c_NoAnswer : Addr
 c_NoNumber : Addr
 c_NotCome : Addr
 c_NotYet : Addr
 c_Nowhere : Addr
 c_Paper : Addr
 c_Row : Addr
 c_Sheet : Addr
 c_Straight : Addr
 c_Whole : Addr
structure Txt (K : W.Frag) (mg : Str → Option Value) (A : Adr) : Prop where
 F_is_whole : Fun K "is_whole" "is_whole" s_is_whole A.f_is_whole A.d_is_whole
 b_is_whole : Binds K A.d_is_whole ["thing"] []
 k_is_whole : W.keepIn K (.ref A.f_is_whole) = true
 m_is_whole : mg "is_whole" = some (.ref A.f_is_whole)
 F_are_figures : Fun K "are_figures" "are_figures" s_are_figures A.f_are_figures A.d_are_figures
 b_are_figures : Binds K A.d_are_figures ["text"] []
 k_are_figures : W.keepIn K (.ref A.f_are_figures) = true
 m_are_figures : mg "are_figures" = some (.ref A.f_are_figures)
 F_figures_worth : Fun K "figures_worth" "figures_worth" s_figures_worth A.f_figures_worth A.d_figures_worth
 b_figures_worth : Binds K A.d_figures_worth ["figures"] []
 k_figures_worth : W.keepIn K (.ref A.f_figures_worth) = true
 m_figures_worth : mg "figures_worth" = some (.ref A.f_figures_worth)
 F_number_of : FunD K "number_of" "number_of" s_number_of A.ds_number_of A.f_number_of A.d_number_of
 bd_number_of : Binds K A.d_number_of ["text", "most"] A.ds_number_of
 dv_number_of : Vals [(.int 60)] A.ds_number_of
 k_number_of : W.keepIn K (.ref A.f_number_of) = true
 m_number_of : mg "number_of" = some (.ref A.f_number_of)
 F_number_or_none : Fun K "number_or_none" "number_or_none" s_number_or_none A.f_number_or_none A.d_number_or_none
 b_number_or_none : Binds K A.d_number_or_none ["text"] []
 k_number_or_none : W.keepIn K (.ref A.f_number_or_none) = true
 m_number_or_none : mg "number_or_none" = some (.ref A.f_number_or_none)
 F_c_Kind___init : Fun K "__init__" "Kind.__init__" s_c_Kind___init A.f_c_Kind___init A.d_c_Kind___init
 b_c_Kind___init : Binds K A.d_c_Kind___init ["self", "low", "high"] []
 F_c_Kind_read : Fun K "read" "Kind.read" s_c_Kind_read A.f_c_Kind_read A.d_c_Kind_read
 b_c_Kind_read : Binds K A.d_c_Kind_read ["self", "text"] []
 F_c_Whole_fits : Fun K "fits" "Whole.fits" s_c_Whole_fits A.f_c_Whole_fits A.d_c_Whole_fits
 b_c_Whole_fits : Binds K A.d_c_Whole_fits ["self", "thing"] []
 F_c_Whole_answer_of : Fun K "answer_of" "Whole.answer_of" s_c_Whole_answer_of A.f_c_Whole_answer_of A.d_c_Whole_answer_of
 b_c_Whole_answer_of : Binds K A.d_c_Whole_answer_of ["self", "text"] []
 F_c_Whole_rank : Fun K "rank" "Whole.rank" s_c_Whole_rank A.f_c_Whole_rank A.d_c_Whole_rank
 b_c_Whole_rank : Binds K A.d_c_Whole_rank ["self", "answer"] []
 F_c_Row___init : Fun K "__init__" "Row.__init__" s_c_Row___init A.f_c_Row___init A.d_c_Row___init
 b_c_Row___init : Binds K A.d_c_Row___init ["self", "name"] []
 F_c_Ask___init : FunD K "__init__" "Ask.__init__" s_c_Ask___init A.ds_c_Ask___init A.f_c_Ask___init A.d_c_Ask___init
 bd_c_Ask___init : Binds K A.d_c_Ask___init ["self", "name", "kind", "when"] A.ds_c_Ask___init
 dv_c_Ask___init : Vals [.non] A.ds_c_Ask___init
 F_c_Sheet___init : Fun K "__init__" "Sheet.__init__" s_c_Sheet___init A.f_c_Sheet___init A.d_c_Sheet___init
 b_c_Sheet___init : Binds K A.d_c_Sheet___init ["self", "name", "each", "rows", "ways"] []
 F_c_Paper___init : Fun K "__init__" "Paper.__init__" s_c_Paper___init A.f_c_Paper___init A.d_c_Paper___init
 b_c_Paper___init : Binds K A.d_c_Paper___init ["self", "name", "sheets", "totals"] []
 F_kinds_of : Fun K "kinds_of" "kinds_of" s_kinds_of A.f_kinds_of A.d_kinds_of
 b_kinds_of : Binds K A.d_kinds_of ["paper"] []
 k_kinds_of : W.keepIn K (.ref A.f_kinds_of) = true
 m_kinds_of : mg "kinds_of" = some (.ref A.f_kinds_of)
 F_eaches_of : Fun K "eaches_of" "eaches_of" s_eaches_of A.f_eaches_of A.d_eaches_of
 b_eaches_of : Binds K A.d_eaches_of ["paper"] []
 k_eaches_of : W.keepIn K (.ref A.f_eaches_of) = true
 m_eaches_of : mg "eaches_of" = some (.ref A.f_eaches_of)
 F_all_together : Fun K "all_together" "all_together" s_all_together A.f_all_together A.d_all_together
 b_all_together : Binds K A.d_all_together ["paper"] []
 k_all_together : W.keepIn K (.ref A.f_all_together) = true
 m_all_together : mg "all_together" = some (.ref A.f_all_together)
 F_c_Going___init : Fun K "__init__" "Going.__init__" s_c_Going___init A.f_c_Going___init A.d_c_Going___init
 b_c_Going___init : Binds K A.d_c_Going___init ["self", "paper", "alone"] []
 F_c_Going_note : Fun K "note" "Going.note" s_c_Going_note A.f_c_Going_note A.d_c_Going_note
 b_c_Going_note : Binds K A.d_c_Going_note ["self", "question", "thing", "known"] []
 F_c_Going_stop_with : Fun K "stop_with" "Going.stop_with" s_c_Going_stop_with A.f_c_Going_stop_with A.d_c_Going_stop_with
 b_c_Going_stop_with : Binds K A.d_c_Going_stop_with ["self", "row"] []
 F_c_Going_go_through : Fun K "go_through" "Going.go_through" s_c_Going_go_through A.f_c_Going_go_through A.d_c_Going_go_through
 b_c_Going_go_through : Binds K A.d_c_Going_go_through ["self", "sheet", "thing"] []
 F_c_Going_targets_of : Fun K "targets_of" "Going.targets_of" s_c_Going_targets_of A.f_c_Going_targets_of A.d_c_Going_targets_of
 b_c_Going_targets_of : Binds K A.d_c_Going_targets_of ["self", "sheet"] []
 F_c_Going_leave : Fun K "leave" "Going.leave" s_c_Going_leave A.f_c_Going_leave A.d_c_Going_leave
 b_c_Going_leave : Binds K A.d_c_Going_leave ["self", "place"] []
 F_c_Going_go : Fun K "go" "Going.go" s_c_Going_go A.f_c_Going_go A.d_c_Going_go
 b_c_Going_go : Binds K A.d_c_Going_go ["self"] []
 F_c_Straight___init : Fun K "__init__" "Straight.__init__" s_c_Straight___init A.f_c_Straight___init A.d_c_Straight___init
 b_c_Straight___init : Binds K A.d_c_Straight___init ["self", "paper", "book"] []
 F_c_Straight_things_of : Fun K "things_of" "Straight.things_of" s_c_Straight_things_of A.f_c_Straight_things_of A.d_c_Straight_things_of
 b_c_Straight_things_of : Binds K A.d_c_Straight_things_of ["self", "sheet"] []
 F_c_Straight_put : Fun K "put" "Straight.put" s_c_Straight_put A.f_c_Straight_put A.d_c_Straight_put
 b_c_Straight_put : Binds K A.d_c_Straight_put ["self", "question", "thing"] []
 F_c_Straight_is_so : Fun K "is_so" "Straight.is_so" s_c_Straight_is_so A.f_c_Straight_is_so A.d_c_Straight_is_so
 b_c_Straight_is_so : Binds K A.d_c_Straight_is_so ["self", "saying", "thing"] []
 F_straight : Fun K "straight" "straight" s_straight A.f_straight A.d_straight
 b_straight : Binds K A.d_straight ["paper", "book"] []
 k_straight : W.keepIn K (.ref A.f_straight) = true
 m_straight : mg "straight" = some (.ref A.f_straight)
 F_c_Hand___init : Fun K "__init__" "Hand.__init__" s_c_Hand___init A.f_c_Hand___init A.d_c_Hand___init
 b_c_Hand___init : Binds K A.d_c_Hand___init ["self", "paper"] []
 F_c_Hand_log_now : Fun K "log_now" "Hand.log_now" s_c_Hand_log_now A.f_c_Hand_log_now A.d_c_Hand_log_now
 b_c_Hand_log_now : Binds K A.d_c_Hand_log_now ["self"] []
 F_c_Hand_places : Fun K "places" "Hand.places" s_c_Hand_places A.f_c_Hand_places A.d_c_Hand_places
 b_c_Hand_places : Binds K A.d_c_Hand_places ["self"] []
 F_c_Hand_put_behind : Fun K "put_behind" "Hand.put_behind" s_c_Hand_put_behind A.f_c_Hand_put_behind A.d_c_Hand_put_behind
 b_c_Hand_put_behind : Binds K A.d_c_Hand_put_behind ["self"] []
 F_c_Hand_demand_finger : Fun K "demand_finger" "Hand.demand_finger" s_c_Hand_demand_finger A.f_c_Hand_demand_finger A.d_c_Hand_demand_finger
 b_c_Hand_demand_finger : Binds K A.d_c_Hand_demand_finger ["self"] []
 F_c_Hand_at : Fun K "at" "Hand.at" s_c_Hand_at A.f_c_Hand_at A.d_c_Hand_at
 b_c_Hand_at : Binds K A.d_c_Hand_at ["self"] []
 F_c_Hand_answer : Fun K "answer" "Hand.answer" s_c_Hand_answer A.f_c_Hand_answer A.d_c_Hand_answer
 b_c_Hand_answer : Binds K A.d_c_Hand_answer ["self", "text"] []
 F_c_Hand_on : Fun K "on" "Hand.on" s_c_Hand_on A.f_c_Hand_on A.d_c_Hand_on
 b_c_Hand_on : Binds K A.d_c_Hand_on ["self"] []
 F_c_Hand_back : Fun K "back" "Hand.back" s_c_Hand_back A.f_c_Hand_back A.d_c_Hand_back
 b_c_Hand_back : Binds K A.d_c_Hand_back ["self"] []
 F_c_Hand_jump : FunD K "jump" "Hand.jump" s_c_Hand_jump A.ds_c_Hand_jump A.f_c_Hand_jump A.d_c_Hand_jump
 b_c_Hand_jump : Binds K A.d_c_Hand_jump ["self", "question", "thing"] []
 bd_c_Hand_jump : Binds K A.d_c_Hand_jump ["self", "question", "thing"] A.ds_c_Hand_jump
 dv_c_Hand_jump : Vals [(.str "")] A.ds_c_Hand_jump
 F_c_Hand_counts : Fun K "counts" "Hand.counts" s_c_Hand_counts A.f_c_Hand_counts A.d_c_Hand_counts
 b_c_Hand_counts : Binds K A.d_c_Hand_counts ["self"] []
 F_c_Hand_aside : Fun K "aside" "Hand.aside" s_c_Hand_aside A.f_c_Hand_aside A.d_c_Hand_aside
 b_c_Hand_aside : Binds K A.d_c_Hand_aside ["self"] []
 F_c_Hand_state : Fun K "state" "Hand.state" s_c_Hand_state A.f_c_Hand_state A.d_c_Hand_state
 b_c_Hand_state : Binds K A.d_c_Hand_state ["self"] []
 F_law_cell_at : Fun K "_law_cell_at" "_law_cell_at" s_law_cell_at A.f_law_cell_at A.d_law_cell_at
 b_law_cell_at : Binds K A.d_law_cell_at ["_law_script", "_law_k"] []
 k_law_cell_at : W.keepIn K (.ref A.f_law_cell_at) = true
 m_law_cell_at : mg "_law_cell_at" = some (.ref A.f_law_cell_at)
 F_law_mixed : Fun K "_law_mixed" "_law_mixed" s_law_mixed A.f_law_mixed A.d_law_mixed
 b_law_mixed : Binds K A.d_law_mixed ["_law_cell", "_law_k"] []
 k_law_mixed : W.keepIn K (.ref A.f_law_mixed) = true
 m_law_mixed : mg "_law_mixed" = some (.ref A.f_law_mixed)
 F_law_open : Fun K "_law_open" "_law_open" s_law_open A.f_law_open A.d_law_open
 b_law_open : Binds K A.d_law_open ["_law_word"] []
 k_law_open : W.keepIn K (.ref A.f_law_open) = true
 m_law_open : mg "_law_open" = some (.ref A.f_law_open)
 F_law_name : Fun K "_law_name" "_law_name" s_law_name A.f_law_name A.d_law_name
 b_law_name : Binds K A.d_law_name ["_law_cell"] []
 k_law_name : W.keepIn K (.ref A.f_law_name) = true
 m_law_name : mg "_law_name" = some (.ref A.f_law_name)
 F_law_names : Fun K "_law_names" "_law_names" s_law_names A.f_law_names A.d_law_names
 b_law_names : Binds K A.d_law_names ["_law_cell", "_law_many"] []
 k_law_names : W.keepIn K (.ref A.f_law_names) = true
 m_law_names : mg "_law_names" = some (.ref A.f_law_names)
 F_law_questions : Fun K "_law_questions" "_law_questions" s_law_questions A.f_law_questions A.d_law_questions
 b_law_questions : Binds K A.d_law_questions ["_law_cell"] []
 k_law_questions : W.keepIn K (.ref A.f_law_questions) = true
 m_law_questions : mg "_law_questions" = some (.ref A.f_law_questions)
 F_law_class : Fun K "_law_class" "_law_class" s_law_class A.f_law_class A.d_law_class
 b_law_class : Binds K A.d_law_class ["_law_error"] []
 k_law_class : W.keepIn K (.ref A.f_law_class) = true
 m_law_class : mg "_law_class" = some (.ref A.f_law_class)
 F_law_asked : Fun K "_law_asked" "_law_asked" s_law_asked A.f_law_asked A.d_law_asked
 b_law_asked : Binds K A.d_law_asked ["_law_hand", "_law_word", "_law_thing"] []
 k_law_asked : W.keepIn K (.ref A.f_law_asked) = true
 m_law_asked : mg "_law_asked" = some (.ref A.f_law_asked)
 F_law_at_fits : Fun K "_law_at_fits" "_law_at_fits" s_law_at_fits A.f_law_at_fits A.d_law_at_fits
 b_law_at_fits : Binds K A.d_law_at_fits ["_law_hand", "_law_due"] []
 k_law_at_fits : W.keepIn K (.ref A.f_law_at_fits) = true
 m_law_at_fits : mg "_law_at_fits" = some (.ref A.f_law_at_fits)
 F_law_first_open : Fun K "_law_first_open" "_law_first_open" s_law_first_open A.f_law_first_open A.d_law_first_open
 b_law_first_open : Binds K A.d_law_first_open ["_law_rows", "_law_book"] []
 k_law_first_open : W.keepIn K (.ref A.f_law_first_open) = true
 m_law_first_open : mg "_law_first_open" = some (.ref A.f_law_first_open)
 F_law_deed : Fun K "_law_deed" "_law_deed" s_law_deed A.f_law_deed A.d_law_deed
 b_law_deed : Binds K A.d_law_deed ["_law_cell", "_law_rows", "_law_book", "_law_place"] []
 k_law_deed : W.keepIn K (.ref A.f_law_deed) = true
 m_law_deed : mg "_law_deed" = some (.ref A.f_law_deed)
 F_law_counts_fit : Fun K "_law_counts_fit" "_law_counts_fit" s_law_counts_fit A.f_law_counts_fit A.d_law_counts_fit
 b_law_counts_fit : Binds K A.d_law_counts_fit ["_law_found", "_law_due"] []
 k_law_counts_fit : W.keepIn K (.ref A.f_law_counts_fit) = true
 m_law_counts_fit : mg "_law_counts_fit" = some (.ref A.f_law_counts_fit)
 F_law_look : Fun K "_law_look" "_law_look" s_law_look A.f_law_look A.d_law_look
 b_law_look : Binds K A.d_law_look ["_law_hand", "_law_rows", "_law_book", "_law_turn", "_law_held"] []
 k_law_look : W.keepIn K (.ref A.f_law_look) = true
 m_law_look : mg "_law_look" = some (.ref A.f_law_look)
 F_law : Fun K "law" "law" s_law A.f_law A.d_law
 m_law : mg "law" = some (.ref A.f_law)
 g_FIGURES : GlobV mg "FIGURES" (.str "0123456789")
 n_ValueError : mg "ValueError" = none
 n_all : mg "all" = none
 n_bool : mg "bool" = none
 n_dict : mg "dict" = none
 n_enumerate : mg "enumerate" = none
 n_int : mg "int" = none
 n_isinstance : mg "isinstance" = none
 n_len : mg "len" = none
 n_list : mg "list" = none
 n_max : mg "max" = none
 n_range : mg "range" = none
 n_sorted : mg "sorted" = none
 n_str : mg "str" = none
 n_tuple : mg "tuple" = none
 i_NoneType_int : W.kitOne K (.type "NoneType") (.type "int") = some false
 i_bool_int : W.kitOne K (.type "bool") (.type "int") = some true
 i_int_int : W.kitOne K (.type "int") (.type "int") = some true
 i_str_int : W.kitOne K (.type "str") (.type "int") = some false
 i_list_int : W.kitOne K (.type "list") (.type "int") = some false
 i_tuple_int : W.kitOne K (.type "tuple") (.type "int") = some false
 i_dict_int : W.kitOne K (.type "dict") (.type "int") = some false
 i_NoneType_bool : W.kitOne K (.type "NoneType") (.type "bool") = some false
 i_bool_bool : W.kitOne K (.type "bool") (.type "bool") = some true
 i_int_bool : W.kitOne K (.type "int") (.type "bool") = some false
 i_str_bool : W.kitOne K (.type "str") (.type "bool") = some false
 i_list_bool : W.kitOne K (.type "list") (.type "bool") = some false
 i_tuple_bool : W.kitOne K (.type "tuple") (.type "bool") = some false
 i_dict_bool : W.kitOne K (.type "dict") (.type "bool") = some false
 i_NoneType_str : W.kitOne K (.type "NoneType") (.type "str") = some false
 i_bool_str : W.kitOne K (.type "bool") (.type "str") = some false
 i_int_str : W.kitOne K (.type "int") (.type "str") = some false
 i_str_str : W.kitOne K (.type "str") (.type "str") = some true
 i_list_str : W.kitOne K (.type "list") (.type "str") = some false
 i_tuple_str : W.kitOne K (.type "tuple") (.type "str") = some false
 i_dict_str : W.kitOne K (.type "dict") (.type "str") = some false
 i_list_list : W.kitOne K (.type "list") (.type "list") = some true
 i_tuple_tuple : W.kitOne K (.type "tuple") (.type "tuple") = some true
 m_Ask : mg "Ask" = some (.ref A.c_Ask)
 v_Ask : GlobV mg "Ask" (.ref A.c_Ask)
 m_AskError : mg "AskError" = some (.ref A.c_AskError)
 m_Going : mg "Going" = some (.ref A.c_Going)
 m_Hand : mg "Hand" = some (.ref A.c_Hand)
 m_NoAnswer : mg "NoAnswer" = some (.ref A.c_NoAnswer)
 v_NoAnswer : GlobV mg "NoAnswer" (.ref A.c_NoAnswer)
 m_NoNumber : mg "NoNumber" = some (.ref A.c_NoNumber)
 m_NotCome : mg "NotCome" = some (.ref A.c_NotCome)
 v_NotCome : GlobV mg "NotCome" (.ref A.c_NotCome)
 m_NotYet : mg "NotYet" = some (.ref A.c_NotYet)
 v_NotYet : GlobV mg "NotYet" (.ref A.c_NotYet)
 m_Nowhere : mg "Nowhere" = some (.ref A.c_Nowhere)
 v_Nowhere : GlobV mg "Nowhere" (.ref A.c_Nowhere)
 m_Paper : mg "Paper" = some (.ref A.c_Paper)
 m_Row : mg "Row" = some (.ref A.c_Row)
 m_Sheet : mg "Sheet" = some (.ref A.c_Sheet)
 m_Straight : mg "Straight" = some (.ref A.c_Straight)
 m_Whole : mg "Whole" = some (.ref A.c_Whole)
 x_NoAnswer : W.excIn K A.c_NoAnswer mroVE "ValueError.__new__" = true
 ec_NoAnswer : ExcCls K A.c_NoAnswer
 x_NoNumber : W.excIn K A.c_NoNumber mroVE "ValueError.__new__" = true
 x_NotCome : W.excIn K A.c_NotCome mroVE "ValueError.__new__" = true
 ec_NotCome : ExcCls K A.c_NotCome
 x_NotYet : W.excIn K A.c_NotYet mroVE "ValueError.__new__" = true
 ec_NotYet : ExcCls K A.c_NotYet
 x_Nowhere : W.excIn K A.c_Nowhere mroVE "ValueError.__new__" = true
 ec_Nowhere : ExcCls K A.c_Nowhere
 em_NoNumber_NoNumber : W.exmOne K (.ref A.c_NoNumber) (.ref A.c_NoNumber) = some true
 em_Nowhere_AskError : W.exmOne K (.ref A.c_Nowhere) (.ref A.c_AskError) = some true
 em_NotYet_AskError : W.exmOne K (.ref A.c_NotYet) (.ref A.c_AskError) = some true
 em_NotCome_AskError : W.exmOne K (.ref A.c_NotCome) (.ref A.c_AskError) = some true
 em_NoAnswer_AskError : W.exmOne K (.ref A.c_NoAnswer) (.ref A.c_AskError) = some true
 kr_Nowhere_Nowhere : W.kitOne K (.ref A.c_Nowhere) (.ref A.c_Nowhere) = some true
 kr_Nowhere_NotYet : W.kitOne K (.ref A.c_Nowhere) (.ref A.c_NotYet) = some false
 kr_Nowhere_NotCome : W.kitOne K (.ref A.c_Nowhere) (.ref A.c_NotCome) = some false
 kr_Nowhere_NoAnswer : W.kitOne K (.ref A.c_Nowhere) (.ref A.c_NoAnswer) = some false
 kr_NotYet_Nowhere : W.kitOne K (.ref A.c_NotYet) (.ref A.c_Nowhere) = some false
 kr_NotYet_NotYet : W.kitOne K (.ref A.c_NotYet) (.ref A.c_NotYet) = some true
 kr_NotYet_NotCome : W.kitOne K (.ref A.c_NotYet) (.ref A.c_NotCome) = some false
 kr_NotYet_NoAnswer : W.kitOne K (.ref A.c_NotYet) (.ref A.c_NoAnswer) = some false
 kr_NotCome_Nowhere : W.kitOne K (.ref A.c_NotCome) (.ref A.c_Nowhere) = some false
 kr_NotCome_NotYet : W.kitOne K (.ref A.c_NotCome) (.ref A.c_NotYet) = some false
 kr_NotCome_NotCome : W.kitOne K (.ref A.c_NotCome) (.ref A.c_NotCome) = some true
 kr_NotCome_NoAnswer : W.kitOne K (.ref A.c_NotCome) (.ref A.c_NoAnswer) = some false
 kr_NoAnswer_Nowhere : W.kitOne K (.ref A.c_NoAnswer) (.ref A.c_Nowhere) = some false
 kr_NoAnswer_NotYet : W.kitOne K (.ref A.c_NoAnswer) (.ref A.c_NotYet) = some false
 kr_NoAnswer_NotCome : W.kitOne K (.ref A.c_NoAnswer) (.ref A.c_NotCome) = some false
 kr_NoAnswer_NoAnswer : W.kitOne K (.ref A.c_NoAnswer) (.ref A.c_NoAnswer) = some true
 kr_Ask_Ask : W.kitOne K (.ref A.c_Ask) (.ref A.c_Ask) = some true
 krt_Nowhere_ValueError : W.kitOne K (.ref A.c_Nowhere) (.type "ValueError") = some true
 krt_NotYet_ValueError : W.kitOne K (.ref A.c_NotYet) (.type "ValueError") = some true
 krt_NotCome_ValueError : W.kitOne K (.ref A.c_NotCome) (.type "ValueError") = some true
 krt_NoAnswer_ValueError : W.kitOne K (.ref A.c_NoAnswer) (.type "ValueError") = some true
 cl_Whole : Cls K A.c_Whole
 mk_Whole : Mk K A.c_Whole A.f_c_Kind___init
 me_Whole_fits : Meth K A.c_Whole "fits" A.f_c_Whole_fits
 me_Whole_answer_of : Meth K A.c_Whole "answer_of" A.f_c_Whole_answer_of
 me_Whole_read : Meth K A.c_Whole "read" A.f_c_Kind_read
 me_Whole_rank : Meth K A.c_Whole "rank" A.f_c_Whole_rank
 no_Whole_low : NoAttr K A.c_Whole "low"
 no_Whole_high : NoAttr K A.c_Whole "high"
 cl_Ask : Cls K A.c_Ask
 ty_Ask : ∀ (H : Hp) (a dx : Addr) (fs : List (Str × V)), H a = some (.ins A.c_Ask dx fs) → TyOf K H (.ref a) (.ref A.c_Ask)
 mk_Ask : Mk K A.c_Ask A.f_c_Ask___init
 no_Ask_name : NoAttr K A.c_Ask "name"
 no_Ask_kind : NoAttr K A.c_Ask "kind"
 no_Ask_when : NoAttr K A.c_Ask "when"
 cl_Sheet : Cls K A.c_Sheet
 mk_Sheet : Mk K A.c_Sheet A.f_c_Sheet___init
 no_Sheet_name : NoAttr K A.c_Sheet "name"
 no_Sheet_each : NoAttr K A.c_Sheet "each"
 no_Sheet_rows : NoAttr K A.c_Sheet "rows"
 no_Sheet_ways : NoAttr K A.c_Sheet "ways"
 cl_Paper : Cls K A.c_Paper
 mk_Paper : Mk K A.c_Paper A.f_c_Paper___init
 no_Paper_name : NoAttr K A.c_Paper "name"
 no_Paper_sheets : NoAttr K A.c_Paper "sheets"
 no_Paper_totals : NoAttr K A.c_Paper "totals"
 cl_Straight : Cls K A.c_Straight
 mk_Straight : Mk K A.c_Straight A.f_c_Straight___init
 me_Straight_things_of : Meth K A.c_Straight "things_of" A.f_c_Straight_things_of
 me_Straight_put : Meth K A.c_Straight "put" A.f_c_Straight_put
 me_Straight_is_so : Meth K A.c_Straight "is_so" A.f_c_Straight_is_so
 me_Straight_note : Meth K A.c_Straight "note" A.f_c_Going_note
 me_Straight_stop_with : Meth K A.c_Straight "stop_with" A.f_c_Going_stop_with
 me_Straight_go_through : Meth K A.c_Straight "go_through" A.f_c_Going_go_through
 me_Straight_targets_of : Meth K A.c_Straight "targets_of" A.f_c_Going_targets_of
 me_Straight_leave : Meth K A.c_Straight "leave" A.f_c_Going_leave
 me_Straight_go : Meth K A.c_Straight "go" A.f_c_Going_go
 no_Straight_paper : NoAttr K A.c_Straight "paper"
 no_Straight_alone : NoAttr K A.c_Straight "alone"
 no_Straight_kinds : NoAttr K A.c_Straight "kinds"
 no_Straight_eaches : NoAttr K A.c_Straight "eaches"
 no_Straight_together : NoAttr K A.c_Straight "together"
 no_Straight_asked : NoAttr K A.c_Straight "asked"
 no_Straight_log : NoAttr K A.c_Straight "log"
 no_Straight_doubles : NoAttr K A.c_Straight "doubles"
 no_Straight_over : NoAttr K A.c_Straight "over"
 no_Straight_book : NoAttr K A.c_Straight "book"
 cl_Hand : Cls K A.c_Hand
 mk_Hand : Mk K A.c_Hand A.f_c_Hand___init
 me_Hand_places : Meth K A.c_Hand "places" A.f_c_Hand_places
 me_Hand_log_now : Meth K A.c_Hand "log_now" A.f_c_Hand_log_now
 me_Hand_put_behind : Meth K A.c_Hand "put_behind" A.f_c_Hand_put_behind
 me_Hand_demand_finger : Meth K A.c_Hand "demand_finger" A.f_c_Hand_demand_finger
 me_Hand_at : Meth K A.c_Hand "at" A.f_c_Hand_at
 me_Hand_answer : Meth K A.c_Hand "answer" A.f_c_Hand_answer
 me_Hand_on : Meth K A.c_Hand "on" A.f_c_Hand_on
 me_Hand_back : Meth K A.c_Hand "back" A.f_c_Hand_back
 me_Hand_state : Meth K A.c_Hand "state" A.f_c_Hand_state
 me_Hand_jump : Meth K A.c_Hand "jump" A.f_c_Hand_jump
 me_Hand_counts : Meth K A.c_Hand "counts" A.f_c_Hand_counts
 me_Hand_aside : Meth K A.c_Hand "aside" A.f_c_Hand_aside
 no_Hand_paper : NoAttr K A.c_Hand "paper"
 no_Hand_kinds : NoAttr K A.c_Hand "kinds"
 no_Hand_book : NoAttr K A.c_Hand "book"
 no_Hand_finger : NoAttr K A.c_Hand "finger"
 cf_Going_init : ClsFn K A.c_Going "__init__" A.f_c_Going___init
 cf_Row_init : ClsFn K A.c_Row "__init__" A.f_c_Row___init
theorem sc_is_whole : FnScope ["thing"] ["thing"] (defScope s_is_whole) := ⟨rfl, rfl, rfl, by symm, rfl, by symm, by symm⟩
theorem sc_are_figures : FnScope ["text"] ["text"] (defScope s_are_figures) := ⟨rfl, rfl, rfl, by symm, rfl, by symm, by symm⟩
theorem sc_figures_worth : FnScope ["figures", "worth", "sign"] ["figures"] (defScope s_figures_worth) := ⟨rfl, rfl, rfl, by symm, rfl, by symm, by symm⟩
theorem sc_number_of : FnScope ["text", "most", "below", "figures", "worth"] ["text", "most"] (defScope s_number_of) := ⟨rfl, rfl, rfl, by symm, rfl, by symm, by symm⟩
theorem sc_number_or_none : FnScope ["text"] ["text"] (defScope s_number_or_none) := ⟨rfl, rfl, rfl, by symm, rfl, by symm, by symm⟩
theorem sc_c_Kind___init : FnScope ["self", "low", "high"] ["self", "low", "high"] (defScope s_c_Kind___init) := ⟨rfl, rfl, rfl, by symm, rfl, by symm, by symm⟩
theorem sc_c_Kind_read : FnScope ["self", "text", "answer"] ["self", "text"] (defScope s_c_Kind_read) := ⟨rfl, rfl, rfl, by symm, rfl, by symm, by symm⟩
theorem sc_c_Whole_fits : FnScope ["self", "thing"] ["self", "thing"] (defScope s_c_Whole_fits) := ⟨rfl, rfl, rfl, by symm, rfl, by symm, by symm⟩
theorem sc_c_Whole_answer_of : FnScope ["self", "text"] ["self", "text"] (defScope s_c_Whole_answer_of) := ⟨rfl, rfl, rfl, by symm, rfl, by symm, by symm⟩
theorem sc_c_Whole_rank : FnScope ["self", "answer"] ["self", "answer"] (defScope s_c_Whole_rank) := ⟨rfl, rfl, rfl, by symm, rfl, by symm, by symm⟩
theorem sc_c_Row___init : FnScope ["self", "name"] ["self", "name"] (defScope s_c_Row___init) := ⟨rfl, rfl, rfl, by symm, rfl, by symm, by symm⟩
theorem sc_c_Ask___init : FnScope ["self", "name", "kind", "when"] ["self", "name", "kind", "when"] (defScope s_c_Ask___init) := ⟨rfl, rfl, rfl, by symm, rfl, by symm, by symm⟩
theorem sc_c_Sheet___init : FnScope ["self", "name", "each", "rows", "ways"] ["self", "name", "each", "rows", "ways"] (defScope s_c_Sheet___init) := ⟨rfl, rfl, rfl, by symm, rfl, by symm, by symm⟩
theorem sc_c_Paper___init : FnScope ["self", "name", "sheets", "totals"] ["self", "name", "sheets", "totals"] (defScope s_c_Paper___init) := ⟨rfl, rfl, rfl, by symm, rfl, by symm, by symm⟩
theorem sc_kinds_of : FnScope ["paper", "kinds", "sheet", "row"] ["paper"] (defScope s_kinds_of) := ⟨rfl, rfl, rfl, by symm, rfl, by symm, by symm⟩
theorem sc_eaches_of : FnScope ["paper", "eaches", "sheet", "row"] ["paper"] (defScope s_eaches_of) := ⟨rfl, rfl, rfl, by symm, rfl, by symm, by symm⟩
theorem sc_all_together : FnScope ["paper"] ["paper"] (defScope s_all_together) := ⟨rfl, rfl, rfl, by symm, rfl, by symm, by symm⟩
theorem sc_c_Going___init : FnScope ["self", "paper", "alone"] ["self", "paper", "alone"] (defScope s_c_Going___init) := ⟨rfl, rfl, rfl, by symm, rfl, by symm, by symm⟩
theorem sc_c_Going_note : FnScope ["self", "question", "thing", "known"] ["self", "question", "thing", "known"] (defScope s_c_Going_note) := ⟨rfl, rfl, rfl, by symm, rfl, by symm, by symm⟩
theorem sc_c_Going_stop_with : FnScope ["self", "row"] ["self", "row"] (defScope s_c_Going_stop_with) := ⟨rfl, rfl, rfl, by symm, rfl, by symm, by symm⟩
theorem sc_c_Going_go_through : FnScope ["self", "sheet", "thing", "row"] ["self", "sheet", "thing"] (defScope s_c_Going_go_through) := ⟨rfl, rfl, rfl, by symm, rfl, by symm, by symm⟩
theorem sc_c_Going_targets_of : FnScope ["self", "sheet", "targets", "target", "saying"] ["self", "sheet"] (defScope s_c_Going_targets_of) := ⟨rfl, rfl, rfl, by symm, rfl, by symm, by symm⟩
theorem sc_c_Going_leave : FnScope ["self", "place", "sheet", "targets", "names"] ["self", "place"] (defScope s_c_Going_leave) := ⟨rfl, rfl, rfl, by symm, rfl, by symm, by symm⟩
theorem sc_c_Going_go : FnScope ["self", "place", "sheet", "thing"] ["self"] (defScope s_c_Going_go) := ⟨rfl, rfl, rfl, by symm, rfl, by symm, by symm⟩
theorem sc_c_Straight___init : FnScope ["self", "paper", "book"] ["self", "paper", "book"] (defScope s_c_Straight___init) := ⟨rfl, rfl, rfl, by symm, rfl, by symm, by symm⟩
theorem sc_c_Straight_things_of : FnScope ["self", "sheet"] ["self", "sheet"] (defScope s_c_Straight_things_of) := ⟨rfl, rfl, rfl, by symm, rfl, by symm, by symm⟩
theorem sc_c_Straight_put : FnScope ["self", "question", "thing", "kind", "answer"] ["self", "question", "thing"] (defScope s_c_Straight_put) := ⟨rfl, rfl, rfl, by symm, rfl, by symm, by symm⟩
theorem sc_c_Straight_is_so : FnScope ["self", "saying", "thing"] ["self", "saying", "thing"] (defScope s_c_Straight_is_so) := ⟨rfl, rfl, rfl, by symm, rfl, by symm, by symm⟩
theorem sc_straight : FnScope ["paper", "book", "going"] ["paper", "book"] (defScope s_straight) := ⟨rfl, rfl, rfl, by symm, rfl, by symm, by symm⟩
theorem sc_c_Hand___init : FnScope ["self", "paper", "places"] ["self", "paper"] (defScope s_c_Hand___init) := ⟨rfl, rfl, rfl, by symm, rfl, by symm, by symm⟩
theorem sc_c_Hand_log_now : FnScope ["self"] ["self"] (defScope s_c_Hand_log_now) := ⟨rfl, rfl, rfl, by symm, rfl, by symm, by symm⟩
theorem sc_c_Hand_places : FnScope ["self"] ["self"] (defScope s_c_Hand_places) := ⟨rfl, rfl, rfl, by symm, rfl, by symm, by symm⟩
theorem sc_c_Hand_put_behind : FnScope ["self", "places", "behind"] ["self"] (defScope s_c_Hand_put_behind) := ⟨rfl, rfl, rfl, by symm, rfl, by symm, by symm⟩
theorem sc_c_Hand_demand_finger : FnScope ["self"] ["self"] (defScope s_c_Hand_demand_finger) := ⟨rfl, rfl, rfl, by symm, rfl, by symm, by symm⟩
theorem sc_c_Hand_at : FnScope ["self"] ["self"] (defScope s_c_Hand_at) := ⟨rfl, rfl, rfl, by symm, rfl, by symm, by symm⟩
theorem sc_c_Hand_answer : FnScope ["self", "text"] ["self", "text"] (defScope s_c_Hand_answer) := ⟨rfl, rfl, rfl, by symm, rfl, by symm, by symm⟩
theorem sc_c_Hand_on : FnScope ["self"] ["self"] (defScope s_c_Hand_on) := ⟨rfl, rfl, rfl, by symm, rfl, by symm, by symm⟩
theorem sc_c_Hand_back : FnScope ["self", "places", "place"] ["self"] (defScope s_c_Hand_back) := ⟨rfl, rfl, rfl, by symm, rfl, by symm, by symm⟩
theorem sc_c_Hand_jump : FnScope ["self", "question", "thing"] ["self", "question", "thing"] (defScope s_c_Hand_jump) := ⟨rfl, rfl, rfl, by symm, rfl, by symm, by symm⟩
theorem sc_c_Hand_counts : FnScope ["self"] ["self"] (defScope s_c_Hand_counts) := ⟨rfl, rfl, rfl, by symm, rfl, by symm, by symm⟩
theorem sc_c_Hand_aside : FnScope ["self", "counting"] ["self"] (defScope s_c_Hand_aside) := ⟨rfl, rfl, rfl, by symm, rfl, by symm, by symm⟩
theorem sc_c_Hand_state : FnScope ["self"] ["self"] (defScope s_c_Hand_state) := ⟨rfl, rfl, rfl, by symm, rfl, by symm, by symm⟩
theorem sc_law_cell_at : FnScope ["_law_script", "_law_k"] ["_law_script", "_law_k"] (defScope s_law_cell_at) := ⟨rfl, rfl, rfl, by symm, rfl, by symm, by symm⟩
theorem sc_law_mixed : FnScope ["_law_cell", "_law_k", "_law_number"] ["_law_cell", "_law_k"] (defScope s_law_mixed) := ⟨rfl, rfl, rfl, by symm, rfl, by symm, by symm⟩
theorem sc_law_open : FnScope ["_law_word"] ["_law_word"] (defScope s_law_open) := ⟨rfl, rfl, rfl, by symm, rfl, by symm, by symm⟩
theorem sc_law_name : FnScope ["_law_cell", "_law_number", "_law_word", "_law_k"] ["_law_cell"] (defScope s_law_name) := ⟨rfl, rfl, rfl, by symm, rfl, by symm, by symm⟩
theorem sc_law_names : FnScope ["_law_cell", "_law_many", "_law_word", "_law_place", "_law_signs"] ["_law_cell", "_law_many"] (defScope s_law_names) := ⟨rfl, rfl, rfl, by symm, rfl, by symm, by symm⟩
theorem sc_law_questions : FnScope ["_law_cell", "_law_rows", "_law_k", "_law_name_here", "_law_low"] ["_law_cell"] (defScope s_law_questions) := ⟨rfl, rfl, rfl, by symm, rfl, by symm, by symm⟩
theorem sc_law_class : FnScope ["_law_error", "_law_held"] ["_law_error"] (defScope s_law_class) := ⟨rfl, rfl, rfl, by symm, rfl, by symm, by symm⟩
theorem sc_law_asked : FnScope ["_law_hand", "_law_word", "_law_thing", "_law_caught", "_law_found", "e"] ["_law_hand", "_law_word", "_law_thing"] (defScope s_law_asked) := ⟨rfl, rfl, rfl, by symm, rfl, by symm, by symm⟩
theorem sc_law_at_fits : FnScope ["_law_hand", "_law_due", "_law_found"] ["_law_hand", "_law_due"] (defScope s_law_at_fits) := ⟨rfl, rfl, rfl, by symm, rfl, by symm, by symm⟩
theorem sc_law_first_open : FnScope ["_law_rows", "_law_book", "_law_k"] ["_law_rows", "_law_book"] (defScope s_law_first_open) := ⟨rfl, rfl, rfl, by symm, rfl, by symm, by symm⟩
theorem sc_law_deed : FnScope ["_law_cell", "_law_rows", "_law_book", "_law_place", "_law_come", "_law_word", "_law_aim"] ["_law_cell", "_law_rows", "_law_book", "_law_place"] (defScope s_law_deed) := ⟨rfl, rfl, rfl, by symm, rfl, by symm, by symm⟩
theorem sc_law_counts_fit : FnScope ["_law_found", "_law_due", "_law_row"] ["_law_found", "_law_due"] (defScope s_law_counts_fit) := ⟨rfl, rfl, rfl, by symm, rfl, by symm, by symm⟩
theorem sc_law_look : FnScope ["_law_hand", "_law_rows", "_law_book", "_law_turn", "_law_held", "_law_come", "_law_due", "_law_state", "_law_found", "_law_aside", "_law_told"] ["_law_hand", "_law_rows", "_law_book", "_law_turn", "_law_held"] (defScope s_law_look) := ⟨rfl, rfl, rfl, by symm, rfl, by symm, by symm⟩
theorem sc_law : FnScope ["_law_script", "_law_rows", "_law_made", "_law_hand", "_law_keys", "_law_book", "_law_held", "_law_place", "_law_cell", "_law_word", "_law_thing", "_law_due", "_law_behind", "_law_handed"] ["_law_script"] (defScope s_law) := ⟨rfl, rfl, rfl, by symm, rfl, by symm, by symm⟩
end K42
set_option maxHeartbeats 4000000
namespace K42
open PySem L2
seal PE PT PW PA PS PSs PG PGs PI PO PSet OpR UnR CallR TruR IxR SlR PC PPs
local macro_rules | `(tactic| walk_at "rd1") => `(tactic| first
 | (refine And.intro rfl ?_)
 | (refine And.intro (by assumption) ?_)
 | (refine And.intro (fun _ e => e) ?_)
 | (refine And.intro (TyOf.str _) ?_) | (refine And.intro (TyOf.int _) ?_) | (refine And.intro (TyOf.bl _) ?_) | (refine And.intro TyOf.non ?_)
 | (refine iteT ?_) | (refine iteF ?_)
 | (apply Exists.intro))
local macro_rules | `(tactic| walk_at "rd") => `(tactic| repeat (walk_at "rd1"))
def spFig : Sp := fun vs H Q _ => ∃ z, vs = [.str z] ∧ z.length ≤ sizeLine ∧ ∀ H', Same H H' → Q (.bl (figB (cd z))) H'
def spWorth : Sp := fun vs H Q _ => ∃ z, vs = [.str z] ∧ z.length ≤ 1000 ∧ (cd z).all inF = true ∧ Q (.int (val (cd z))) H
def spNum (K : W.Frag) (A : Adr) : Sp := fun vs H Q E => ∃ x most, vs = [x, .int most] ∧ 1 ≤ most ∧ ((∃ z, x = .str z ∧ Fine 1000 z ∧ (∀ n H', Same H H' → numB (cd z) most = some n → Q (.int n) H') ∧ (∀ H', Same H H' → numB (cd z) most = none → E (.ref A.c_NoNumber) none H')) ∨ (∃ t, TyE K H x t ∧ W.kitOne K t (.type "str") = some false ∧ ∀ H', Same H H' → E (.ref A.c_NoNumber) none H'))
section
variable {P : Program} {w : World} {K : W.Frag} {mg : Str → Option Value} {base : Heap} {A : Adr}
theorem ok_are_figures (T : Txt K mg A) : FnOk P w K mg base CX0 1 A.f_are_figures A.d_are_figures ["text"] spFig := by
 refine T.F_are_figures.ok sc_are_figures (fun vs H Q E h => ?_) (fun cdv A0 outer s H vs Q E hr h => ?_)
 · obtain ⟨x, rfl, _⟩ := h
   rfl
 obtain ⟨z, rfl, hz, q⟩ := h
 refine ⟨_, (zG (zP (pe_and (xR op_gt (zO call_len_str (by rfl) T.n_len PySem.boot_len (zA (pv 0) zE)) zJ (zW _)) (pe_one (zO (call_all rfl) (by rfl) T.n_all Bt.all (zA (pe_compR (yU (x := "sign") (M := ["text"]) rfl (by rfl)) rfl (pi_str (pv 0)) (fun _ _ _ _ => (xR op_in_str (pv 0) (pe_gv rfl T.g_FIGURES) (by rfl)))) zE)))))), ?_⟩
 walk_at "rd"
 refine ite2 (fun c => ?_) (fun c => ?_)
 · walk_at "rd"
   refine comp_strR hz (fun i ys H' => H' = H ∧ ys = ((cd z).take i).map fun c => V.bl (inF c)) ⟨rfl, rfl⟩ (fun i c ys H' hc hl hw => ?_) (fun ys H' hl hw p hp => ?_)
   · obtain ⟨rfl, rfl⟩ := hw
     walk_at "rd"
     rw [List.take_succ, hc]
     simp [inF, FIG]
   · obtain ⟨rfl, rfl⟩ := hw
     have e : (cd z).take z.length = cd z := List.take_of_length_le (by rw [yX]; exact Nat.le_refl _)
     rw [e]
     refine ⟨p, (cd z).map inF, rfl, SqL.of (by rw [zB, List.map_map]; rfl), ?_⟩
     have e2 : figB (cd z) = ((cd z).map inF).all id := by
       unfold figB
       have c' : (0 : Int) < z.length := of_decide_eq_true c
       rw [decide_eq_true (by rw [← yX]; omega), List.all_map]
       rfl
     rw [e2] at q
     exact q _ (zH hp _)
 · have e : figB (cd z) = false := by
     unfold figB
     have c' : ¬ (0 : Int) < z.length := of_decide_eq_false (Bool.eq_false_iff.mpr c)
     rw [decide_eq_false (by rw [← yX]; omega)]
     rfl
   rw [e] at q
   exact q _ (Same.refl _)
theorem ok_figures_worth (T : Txt K mg A) : FnOk P w K mg base CX0 1 A.f_figures_worth A.d_figures_worth ["figures"] spWorth := by
 refine T.F_figures_worth.ok sc_figures_worth (fun vs H Q E h => ?_) (fun cdv A0 outer s H vs Q E hr h => ?_)
 · obtain ⟨x, rfl, _⟩ := h
   rfl
 obtain ⟨z, rfl, hz, hF, q⟩ := h
 refine ⟨_, (zD (zR (i := 1) sc_figures_worth.nd rfl (by first | exact Or.inl rfl | exact Or.inr rfl) zJ)
     (zD (xH PassesOwn.never rfl (pi_str (pv 0)) (yM (i := 2) sc_figures_worth.nd rfl (by first | exact Or.inl rfl | exact Or.inr rfl)) (zG (zR (i := 1) sc_figures_worth.nd rfl (by first | exact Or.inl rfl | exact Or.inr rfl) (yA xJ (yA op_mulB (pv 1) zJ) (pe_bm PySem.F.plainAttrs_str PySem.F.slot_str_find PySem.F.type_str_find mt_find (pe_gv rfl T.g_FIGURES) (zA (pv 2) zE))))))
     (zG (zP (pv 1))))), ?_⟩
 walk_at "rd"
 refine for_strR (fun i σ H' => H' = H ∧ ∃ v, σ = [some (.str z), some (.int (val ((cd z).take i))), v]) ⟨rfl, ⟨_, rfl⟩⟩ (fun i c σ H' hc hp => ?_) (fun σ H' hp => ?_)
 · obtain ⟨rfl, v, rfl⟩ := hp
   have hi : i < (cd z).length := (List.getElem?_eq_some_iff.mp hc).1
   have hcF : inF c = true := List.all_eq_true.mp hF c (List.mem_of_getElem? hc)
   have hb := val_bound i ((cd z).take i) (by rw [List.length_take]; omega) (by
     rw [List.all_eq_true]; intro x hx; exact List.all_eq_true.mp hF x (List.mem_of_mem_take hx))
   have hb2 := pow10_ib hb.1 hb.2
   rw [← yX] at hi
   refine ⟨_, rfl, _, _, rfl, rfl, ⟨by show ib _ ≤ 60000000; omega, by decide⟩, ?_⟩
   walk_at "rd"
   have e : Txt.find FIG (S [c]) = ((c - 48 : Nat) : Int) := findF hcF
   show some _ :: some (V.int (val ((cd z).take i) * 10 + Txt.find FIG (S [c]))) :: _ = _
   rw [e, val_take hc]
   rfl
 · obtain ⟨rfl, v, rfl⟩ := hp
   have e : (cd z).take z.length = cd z := List.take_of_length_le (by rw [yX]; exact Nat.le_refl _)
   rw [e]
   exact ⟨_, rfl, q⟩
theorem ok_number_of (T : Txt K mg A) : FnOk P w K mg base (CXW P w) 2 A.f_number_of A.d_number_of ["text", "most"] (spNum K A) := by
 have G_are_figures := ok_are_figures (P := P) (w := w) (base := base) T
 have G_figures_worth := ok_figures_worth (P := P) (w := w) (base := base) T
 refine T.F_number_of.okX sc_number_of (fun vs H Q E h => ?_) (fun cdv A0 outer s H vs Q E hr h => ?_)
 · obtain ⟨x, most, rfl, _⟩ := h
   rfl
 obtain ⟨x, most, rfl, hm, h⟩ := h
 refine ⟨_, (zD (yK (xK (yS (zO yO (by rfl) T.n_isinstance Bt.isinstance (zA (pv 0) (zA (xT (v := .ty "str") rfl T.n_str Bt.str rfl) zE))))) (zG (ps_raise T.m_NoNumber T.x_NoNumber (zA zK zE) rfl)) zU)
     (zD (yK (zQ xP (pv 0) zK (zW _)) (zG (zP zJ)) zU)
     (zD (zR (i := 2) sc_number_of.nd rfl (by first | exact Or.inl rfl | exact Or.inr rfl) (pe_bm PySem.F.plainAttrs_str PySem.F.slot_str_startswith PySem.F.type_str_startswith mt_startswith (pv 0) (zA zK zE)))
     (zD (zR (i := 3) sc_number_of.nd rfl (by first | exact Or.inl rfl | exact Or.inr rfl) (pe_ifExp (yS (pv 2)) (pe_slice sl_str (pv 0) (po_some zJ) po_none) (pv 0)))
     (zD (yK (PW.pt (pw_or (xK (yS (yH G_are_figures (hr.mono (by first | decide | omega)) rfl T.m_are_figures T.k_are_figures T.b_are_figures .nil zV (zA (pv 3) zE)))) (pw_or (zQ xP (yC ix_str (pv 3) zJ (fun _ _ => rfl)) zK (zW _)) (pw_or1 (zQ op_gt (zO call_len_str (by rfl) T.n_len PySem.boot_len (zA (pv 3) zE)) (pv 1) (zW _)))))) (zG (ps_raise T.m_NoNumber T.x_NoNumber (zA (pe_fstrR (pv 0)) zE) rfl)) zU)
     (zD (zR (i := 4) sc_number_of.nd rfl (by first | exact Or.inl rfl | exact Or.inr rfl) (yH G_figures_worth (hr.mono (by first | decide | omega)) rfl T.m_figures_worth T.k_figures_worth T.b_figures_worth .nil zV (zA (pv 3) zE)))
     (zG (zP (pe_ifExp (yS (pv 2)) (pe_un un_neg (pv 4)) (pv 4)))))))))), ?_⟩
 rcases h with ⟨z, rfl, hz, qs, qn⟩ | ⟨t, ty, kt, q⟩
 · refine ⟨_, rfl, _, _, _, _, rfl, rfl, .old (.str z), T.i_str_str, _, rfl, iteF ?_⟩
   refine ⟨_, rfl, rfl, _, rfl, ?_⟩
   refine ite2 (fun c => ?_) (fun c => ?_) <;> rw [dec_cd, show cd (Str.ofString "0") = [48] by symm] at c
   · have c' : cd z = [48] := of_decide_eq_true c
     refine qs _ _ (Same.refl _) ?_
     rw [c']; exact numB_zero hm
   have c0 : cd z ≠ [48] := of_decide_eq_false (Bool.eq_false_iff.mpr c)
   have es := starts1 z 45
   rw [show S [45] = (Str.ofString "-") by symm] at es
   have hz2 : z.length ≤ sizeLine := hz.size
   cases hb : PySem.Txt.startswith z (Str.ofString "-") <;> rw [hb] at es
   · have c1 : ¬ (cd z).take 1 = [45] := of_decide_eq_false es.symm
     obtain ⟨f, rfl⟩ : ∃ f, z = f := ⟨z, rfl⟩
     have ef : cd z = fig (cd z) := (if_neg c1).symm
     have hf1 : z.length ≤ 1000 := hz.len
     have hf2 := hz2
     walk_at "rd"
     rw [hb]
     walk_at "rd"
     intro H1 s1
     cases hf : figB (cd z)
     · refine ⟨_, rfl, iteT ⟨_, rfl, z, rfl, Nat.le_trans hz.len (by decide), hz.cod, fun y => ⟨(by show 1 ≤ sizeLine; decide), qn _ s1 (numB_no1 (by rw [← ef]; exact hf))⟩⟩⟩
     refine ⟨_, rfl, iteF ?_⟩
     obtain ⟨f1, f2⟩ := (figB_iff _).mp hf
     obtain ⟨k, hk, hk1⟩ := take1_at (l := cd z) f1
     refine ⟨_, rfl, z, 0, k, rfl, rfl, hf2, hk, rfl, _, rfl, ?_⟩
     refine ite2 (fun c2 => ?_) (fun c2 => ?_) <;> rw [dec_cd, show cd (Str.ofString "0") = [48] by symm] at c2
     · have c3 : (fig (cd z)).take 1 = [48] := by rw [← ef, hk1]; exact of_decide_eq_true c2
       exact ⟨_, rfl, z, rfl, Nat.le_trans hz.len (by decide), hz.cod, fun y => ⟨(by show 1 ≤ sizeLine; decide), qn _ s1 (numB_no2 c3 c0)⟩⟩
     have c3 : ¬ (fig (cd z)).take 1 = [48] := by rw [← ef, hk1]; exact of_decide_eq_false (Bool.eq_false_iff.mpr c2)
     refine ⟨_, rfl, _, rfl, hf2, _, rfl, _, _, rfl, rfl, _, rfl, ?_⟩
     rw [yX z, ef]
     refine ite2 (fun c4 => ?_) (fun c4 => ?_)
     · have c5 : most < ((fig (cd z)).length : Nat) := of_decide_eq_true c4
       exact ⟨_, rfl, z, rfl, Nat.le_trans hz.len (by decide), hz.cod, fun y => ⟨(by show 1 ≤ sizeLine; decide), qn _ s1 (numB_no3 c5)⟩⟩
     have c5 : ¬ most < ((fig (cd z)).length : Nat) := of_decide_eq_false (Bool.eq_false_iff.mpr c4)
     have yes := numB_yes (by rw [← ef]; exact hf) c3 c5
     rw [if_neg c1, ← ef] at yes
     refine ⟨_, rfl, z, rfl, hf1, f2, ?_⟩
     walk_at "rd"
     exact qs _ _ s1 yes
   · have c1 : (cd z).take 1 = [45] := of_decide_eq_true es.symm
     walk_at "rd"
     rw [hb]
     walk_at "rd"
     obtain ⟨f, hfe⟩ : ∃ f, S (cutN (cd z) (some 1) none) = f := ⟨_, rfl⟩
     rw [hfe]
     have ef : cd f = fig (cd z) := by rw [← hfe, cd_S]; exact (cutFrom (cd z) 1).trans (if_pos c1).symm
     have hf1 : f.length ≤ 1000 := by rw [← hfe]; exact (hz.cut _ _).len
     have hf2 : f.length ≤ sizeLine := by rw [← hfe]; exact (hz.cut _ _).size
     refine ⟨hf2, ?_⟩
     intro H1 s1
     cases hf : figB (cd f)
     · refine ⟨_, rfl, iteT ⟨_, rfl, z, rfl, Nat.le_trans hz.len (by decide), hz.cod, fun y => ⟨(by show 1 ≤ sizeLine; decide), qn _ s1 (numB_no1 (by rw [← ef]; exact hf))⟩⟩⟩
     refine ⟨_, rfl, iteF ?_⟩
     obtain ⟨f1, f2⟩ := (figB_iff _).mp hf
     obtain ⟨k, hk, hk1⟩ := take1_at (l := cd f) f1
     refine ⟨_, rfl, f, 0, k, rfl, rfl, hf2, hk, rfl, _, rfl, ?_⟩
     refine ite2 (fun c2 => ?_) (fun c2 => ?_) <;> rw [dec_cd, show cd (Str.ofString "0") = [48] by symm] at c2
     · have c3 : (fig (cd z)).take 1 = [48] := by rw [← ef, hk1]; exact of_decide_eq_true c2
       exact ⟨_, rfl, z, rfl, Nat.le_trans hz.len (by decide), hz.cod, fun y => ⟨(by show 1 ≤ sizeLine; decide), qn _ s1 (numB_no2 c3 c0)⟩⟩
     have c3 : ¬ (fig (cd z)).take 1 = [48] := by rw [← ef, hk1]; exact of_decide_eq_false (Bool.eq_false_iff.mpr c2)
     refine ⟨_, rfl, _, rfl, hf2, _, rfl, _, _, rfl, rfl, _, rfl, ?_⟩
     rw [yX f, ef]
     refine ite2 (fun c4 => ?_) (fun c4 => ?_)
     · have c5 : most < ((fig (cd z)).length : Nat) := of_decide_eq_true c4
       exact ⟨_, rfl, z, rfl, Nat.le_trans hz.len (by decide), hz.cod, fun y => ⟨(by show 1 ≤ sizeLine; decide), qn _ s1 (numB_no3 c5)⟩⟩
     have c5 : ¬ most < ((fig (cd z)).length : Nat) := of_decide_eq_false (Bool.eq_false_iff.mpr c4)
     have yes := numB_yes (by rw [← ef]; exact hf) c3 c5
     rw [if_pos c1, ← ef] at yes
     refine ⟨_, rfl, f, rfl, hf1, f2, ?_⟩
     walk_at "rd"
     exact qs _ _ s1 yes
 · refine ⟨_, rfl, _, _, _, _, rfl, rfl, ty, kt, _, rfl, iteT ?_⟩
   refine ⟨(by show 1 ≤ sizeLine; decide), q _ (Same.refl _)⟩
end
end K42
set_option maxHeartbeats 4000000
namespace K42
open PySem L2
seal PE PT PW PA PS PSs PG PGs PI PO PSet OpR UnR CallR TruR IxR SlR PC PPs
local macro_rules | `(tactic| walk_at "rd1") => `(tactic| first
 | (refine And.intro rfl ?_)
 | (refine And.intro (by assumption) ?_)
 | (refine And.intro (fun _ e => e) ?_)
 | (refine And.intro (TyOf.str _) ?_) | (refine And.intro (TyOf.int _) ?_) | (refine And.intro (TyOf.bl _) ?_) | (refine And.intro TyOf.non ?_)
 | (refine iteT ?_) | (refine iteF ?_)
 | (apply Exists.intro))
local macro_rules | `(tactic| walk_at "rd") => `(tactic| repeat (walk_at "rd1"))
abbrev flds (lo hi : Int) : List (Str × V) := [("low", .int lo), ("high", .int hi)]
def fitW (lo hi : Int) : V → Bool
 | .int n => decide (lo ≤ n) && decide (n ≤ hi)
 | _ => false
def spIsWhole (K : W.Frag) : Sp := fun vs H Q _ => ∃ x t bi bb, vs = [x] ∧ TyE K H x t ∧ W.kitOne K t (.type "int") = some bi ∧ W.kitOne K t (.type "bool") = some bb ∧ Q (.bl (bi && !bb)) H
def spNon : Sp := fun vs H Q _ => ∃ z, vs = [.str z] ∧ Fine 1000 z ∧ ∀ H', Same H H' → Q (numV (numB (cd z) 60)) H'
def spInit (K : W.Frag) : Sp := fun vs H Q _ => ∃ p C dx lo hi, vs = [.ref p, .int lo, .int hi] ∧ H p = some (.ins C dx []) ∧ Cls K C ∧ NoAttr K C "low" ∧ NoAttr K C "high" ∧ Q .non (upd H p (.ins C dx (flds lo hi)))
def spFits (K : W.Frag) (C : Addr) : Sp := fun vs H Q _ => ∃ p dx lo hi x, ∃ _ : Thing K H x, vs = [.ref p, x] ∧ H p = some (.ins C dx (flds lo hi)) ∧ Q (.bl (fitW lo hi x)) H
theorem nlo : (("high" : Str) == ("low" : Str)) = false := by symm
theorem put_low (v : V) : putF "low" v [] = [(("low" : Str), v)] := rfl
theorem put_high (v w : V) : putF "high" w [(("low" : Str), v)] = [(("low" : Str), v), (("high" : Str), w)] := by
 unfold putF
 rw [if_neg (by symm)]; rfl
section
variable {P : Program} {w : World} {K : W.Frag} {mg : Str → Option Value} {base : Heap} {A : Adr}
theorem ok_is_whole (T : Txt K mg A) : FnOk P w K mg base CX0 1 A.f_is_whole A.d_is_whole ["thing"] (spIsWhole K) := by
 refine T.F_is_whole.ok sc_is_whole (fun vs H Q E h => ?_) (fun cdv A0 outer s H vs Q E hr h => ?_)
 · obtain ⟨x, _, _, _, rfl, _⟩ := h
   rfl
 obtain ⟨x, t, bi, bb, rfl, ty, k1, k2, q⟩ := h
 refine ⟨_, (zG (zP (pe_and (zO yO (by rfl) T.n_isinstance Bt.isinstance (zA (pv 0) (zA (xT (v := .ty "int") rfl T.n_int Bt.int rfl) zE))) (pe_one (pe_not (zO yO (by rfl) T.n_isinstance Bt.isinstance (zA (pv 0) (zA (xT (v := .ty "bool") rfl T.n_bool Bt.bool rfl) zE)))))))), ?_⟩
 refine ⟨_, rfl, _, _, _, _, rfl, rfl, ty, k1, _, rfl, ?_⟩
 cases bi with
 | false => exact iteF q
 | true =>
   refine iteT ?_
   refine ⟨_, rfl, _, _, _, _, rfl, rfl, ty, k2, _, rfl, ?_⟩
   exact q
theorem ok_number_or_none (T : Txt K mg A) : FnOk P w K mg base CX0 3 A.f_number_or_none A.d_number_or_none ["text"] spNon := by
 have G_number_of := ok_number_of (P := P) (w := w) (base := base) T
 refine T.F_number_or_none.ok sc_number_or_none (fun vs H Q E h => ?_) (fun cdv A0 outer s H vs Q E hr h => ?_)
 · obtain ⟨x, rfl, _⟩ := h
   rfl
 obtain ⟨z, rfl, hz, q⟩ := h
 refine ⟨_, (zG (ps_try rfl rfl (psx_one (psx_ret (pex_call G_number_of (hr.mono (by first | decide | omega)) rfl T.m_number_of T.k_number_of T.bd_number_of T.dv_number_of (zA (pv 0) zE)))) rfl T.m_NoNumber (fun _ => (zG (zP xM))))), ?_⟩
 refine ⟨_, rfl, _, _, rfl, by decide, .inl ⟨z, rfl, hz, fun n H' s1 e => ?_, fun H' s1 e => ?_⟩⟩
 · rw [e] at q; exact q _ s1
 · refine ⟨T.em_NoNumber_NoNumber, ?_⟩
   rw [e] at q; exact q _ s1
theorem ok_init (T : Txt K mg A) : FnOk P w K mg base CX0 1 A.f_c_Kind___init A.d_c_Kind___init ["self", "low", "high"] (spInit K) := by
 refine T.F_c_Kind___init.ok sc_c_Kind___init (fun vs H Q E h => ?_) (fun cdv A0 outer s H vs Q E hr h => ?_)
 · obtain ⟨p, C, dx, lo, hi, rfl, _⟩ := h
   rfl
 obtain ⟨p, C, dx, lo, hi, rfl, hp, cl, n1, n2, q⟩ := h
 refine ⟨_, (zD (yN (pv 0) (pv 1) rfl)
     (zG (yN (pv 0) (pv 2) rfl))), ?_⟩
 refine ⟨_, rfl, _, rfl, p, C, dx, _, rfl, hp, cl, n1, by decide, ?_⟩
 refine ⟨_, rfl, _, rfl, p, C, dx, _, rfl, zB, cl, n2, (by show 1 < 1000; decide), ?_⟩
 rw [upd_upd, put_low, put_high]
 exact q
theorem ok_fits (T : Txt K mg A) {C : Addr} (cl : Cls K C) (n1 : NoAttr K C "low") (n2 : NoAttr K C "high") : FnOk P w K mg base CX0 2 A.f_c_Whole_fits A.d_c_Whole_fits ["self", "thing"] (spFits K C) := by
 have G_is_whole := ok_is_whole (P := P) (w := w) (base := base) T
 refine T.F_c_Whole_fits.ok sc_c_Whole_fits (fun vs H Q E h => ?_) (fun cdv A0 outer s H vs Q E hr h => ?_)
 · obtain ⟨p, dx, lo, hi, x, _, rfl, _⟩ := h
   rfl
 obtain ⟨p, dx, lo, hi, x, th, rfl, hp, q⟩ := h
 refine ⟨_, (zG (zP (pe_and (yH G_is_whole (hr.mono (by first | decide | omega)) rfl T.m_is_whole T.k_is_whole T.b_is_whole .nil zV (zA (pv 1) zE)) (pe_one (pe_chain op_le op_le (zM (pv 0) rfl) (pv 1) (zM (pv 0) rfl)))))), ?_⟩
 refine ⟨_, rfl, x, _, _, _, rfl, th.ty, th.ki, th.kb, _, rfl, ?_⟩
 cases e : (th.bi && !th.bb) with
 | false =>
   refine iteF ?_
   have : fitW lo hi x = false := by
     cases x <;> first | rfl | skip
     rw [th.ni _ rfl] at e; cases e
   rw [this] at q
   exact q
 | true =>
   obtain ⟨n, rfl⟩ := th.hi e
   refine iteT ?_
   refine ⟨_, rfl, p, C, dx, _, _, rfl, hp, cl, n1, lk1, _, rfl, _, _, rfl, rfl, _, rfl, ite2 (fun c => ?_) (fun c => ?_)⟩
   · refine ⟨_, rfl, p, C, dx, _, _, rfl, hp, cl, n2, lk2 nlo, _, _, rfl, rfl, ?_⟩
     have : fitW lo hi (.int n) = decide (n ≤ hi) := by
       show (decide (lo ≤ n) && decide (n ≤ hi)) = _
       rw [show decide (lo ≤ n) = true from c]; rfl
     rw [this] at q
     exact q
   · have : fitW lo hi (.int n) = false := by
       show (decide (lo ≤ n) && decide (n ≤ hi)) = _
       rw [show decide (lo ≤ n) = false from Bool.eq_false_iff.mpr c]; rfl
     rw [this] at q
     exact q
end
end K42
set_option maxHeartbeats 4000000
namespace K42
open PySem L2
seal PE PT PW PA PS PSs PG PGs PI PO PSet OpR UnR CallR TruR IxR SlR PC PPs
local macro_rules | `(tactic| walk_at "rd1") => `(tactic| first
 | (refine And.intro rfl ?_)
 | (refine And.intro (by assumption) ?_)
 | (refine And.intro (fun _ e => e) ?_)
 | (refine And.intro (TyOf.str _) ?_) | (refine And.intro (TyOf.int _) ?_) | (refine And.intro (TyOf.bl _) ?_) | (refine And.intro TyOf.non ?_)
 | (refine iteT ?_) | (refine iteF ?_)
 | (apply Exists.intro))
local macro_rules | `(tactic| walk_at "rd") => `(tactic| repeat (walk_at "rd1"))
def thInt {K : W.Frag} {mg : Str → Option Value} {A : Adr} (T : Txt K mg A) (H : Hp) (n : Int) : Thing K H (.int n) := ⟨_, _, _, _, .old (.int n), T.i_int_int, T.i_int_bool, T.i_int_str, fun _ => ⟨n, rfl⟩, fun h => (by cases h), fun _ _ => rfl, fun _ h => (by cases h), fun h => (by cases h), fun _ h => (by cases h)⟩
def thNon {K : W.Frag} {mg : Str → Option Value} {A : Adr} (T : Txt K mg A) (H : Hp) : Thing K H .non := ⟨_, _, _, _, .old .non, T.i_NoneType_int, T.i_NoneType_bool, T.i_NoneType_str, fun h => (by cases h), fun h => (by cases h), fun _ h => (by cases h), fun _ h => (by cases h), fun h => (by cases h), fun _ h => (by cases h)⟩
def thStr {K : W.Frag} {mg : Str → Option Value} {A : Adr} (T : Txt K mg A) (H : Hp) (z : Str) : Thing K H (.str z) := ⟨_, _, _, _, .old (.str z), T.i_str_int, T.i_str_bool, T.i_str_str, fun h => (by cases h), fun _ => ⟨z, rfl⟩, fun _ h => (by cases h), fun _ _ => rfl, fun h => (by cases h), fun _ h => (by cases h)⟩
def thNum {K : W.Frag} {mg : Str → Option Value} {A : Adr} (T : Txt K mg A) (H : Hp) : (o : Option Int) → Thing K H (numV o)
 | some n => thInt T H n
 | none => thNon T H
def spAns (ans : List Nat → Option Int) : Sp := fun vs H Q _ => ∃ p z, vs = [.ref p, .str z] ∧ Fine 1000 z ∧ ∀ H', Same H H' → Q (numV (ans (cd z))) H'
def readK (ans : List Nat → Option Int) (lo hi : Int) (l : List Nat) : Option Int := match ans (stripL l) with
 | some n => if lo ≤ n ∧ n ≤ hi then some n else none
 | none => none
def spRead (K : W.Frag) (A : Adr) (C : Addr) (ans : List Nat → Option Int) : Sp := fun vs H Q E => ∃ p dx lo hi x, ∃ _ : Thing K H x, vs = [.ref p, x] ∧ H p = some (.ins C dx (flds lo hi)) ∧
 ((∃ z, x = .str z ∧ Fine 1000 z ∧ (∀ n H', Same H H' → readK ans lo hi (cd z) = some n → Q (.int n) H') ∧ (∀ H', Same H H' → readK ans lo hi (cd z) = none → E (.ref A.c_NoAnswer) none H')) ∨ ((∀ z, x ≠ .str z) ∧ ∀ H', Same H H' → E (.ref A.c_NoAnswer) none H'))
section
variable {P : Program} {w : World} {K : W.Frag} {mg : Str → Option Value} {base : Heap} {A : Adr}
theorem ok_read (T : Txt K mg A) {C : Addr} (cl : Cls K C) {ans : List Nat → Option Int} {fa ff : Addr} {fda fdf : FuncData} {pa pf : List Str} (Fa : FnOk P w K mg base CX0 4 fa fda pa (spAns ans)) (ba : Binds K fda pa []) (ma : Meth K C "answer_of" fa) (Ff : FnOk P w K mg base CX0 4 ff fdf pf (spFits K C)) (bf : Binds K fdf pf []) (mf : Meth K C "fits" ff) :
   FnOk P w K mg base (CXW P w) 5 A.f_c_Kind_read A.d_c_Kind_read ["self", "text"] (spRead K A C ans) := by
 refine T.F_c_Kind_read.okX sc_c_Kind_read (fun vs H Q E h => ?_) (fun cdv A0 outer s H vs Q E hr h => ?_)
 · obtain ⟨p, dx, lo, hi, x, _, rfl, _⟩ := h
   rfl
 obtain ⟨p, dx, lo, hi, x, th, rfl, hp, h⟩ := h
 refine ⟨_, (zD (yK (xK (yS (zO yO (by rfl) T.n_isinstance Bt.isinstance (zA (pv 1) (zA (xT (v := .ty "str") rfl T.n_str Bt.str rfl) zE))))) (zG (ps_raise T.m_NoAnswer T.x_NoAnswer (zA zK zE) rfl)) zU)
     (zD (zR (i := 2) sc_c_Kind_read.nd rfl (by first | exact Or.inl rfl | exact Or.inr rfl) (yV (CX := CX0) (k := 4) (hr.mono (by first | decide | omega)) zV (pv 0) (zA (pe_bm PySem.F.plainAttrs_str PySem.F.slot_str_strip PySem.F.type_str_strip mt_strip (pv 1) (zA zK zE)) zE)))
     (zD (yK (xK (yS (yV (CX := CX0) (k := 4) (hr.mono (by first | decide | omega)) zV (pv 0) (zA (pv 2) zE)))) (zG (ps_raise T.m_NoAnswer T.x_NoAnswer (zA (pe_fstrR (pv 1)) zE) rfl)) zU)
     (zG (zP (pv 2)))))), ?_⟩
 rcases h with ⟨z, rfl, hz, qs, qn⟩ | ⟨hx, q⟩
 · refine ⟨_, rfl, _, _, _, _, rfl, rfl, .old (.str z), T.i_str_str, _, rfl, iteF ?_⟩
   refine ⟨_, rfl, p, C, dx, _, ⟨fa, fda, pa, spAns ans, [], [], cl, ma, Fa, ba, .nil⟩, rfl, hp, lk0 (by symm) (by symm), ?_⟩
   refine ⟨_, rfl, rfl, _, _, rfl, rfl, hz.size, ?_⟩
   refine ⟨p, _, rfl, hz.strip, fun H1 s1 => ?_⟩
   rw [show Str.ofString " " = ("\u0020" : Str) from rfl, strip_is]
   refine ⟨_, rfl, p, C, dx, _, ⟨ff, fdf, pf, spFits K C, [], [], cl, mf, Ff, bf, .nil⟩, rfl, s1 _ _ hp, lk0 (by symm) (by symm), ?_⟩
   refine ⟨_, rfl, p, dx, lo, hi, _, thNum T H1 _, rfl, s1 _ _ hp, _, rfl, ?_⟩
   have no : readK ans lo hi (cd z) = none → tRaise E A.c_NoAnswer (tCons (fun σ H Q => tVar 1 σ H fun x H1 => ∃ z, x = .str z ∧ z.length ≤ 100000 ∧ (∀ k ∈ cd z, k < 1000) ∧ ∀ y, Q (.str y) H1) tNil) { nx := fun _ _ => True, rt := Q } [some (.ref p), some (.str z), some (numV (ans (stripL (cd z))))] H1 := fun e => ⟨_, rfl, z, rfl, Nat.le_trans hz.len (by decide), hz.cod, fun y => ⟨(by show 1 ≤ sizeLine; decide), qn _ s1 e⟩⟩
   unfold readK at qs no
   cases ha : ans (stripL (cd z)) with
   | none =>
     rw [ha] at no
     refine iteT ?_
     obtain ⟨a, b, c, d, e, f, g⟩ := no rfl
     exact ⟨a, b, c, d, e, f, fun y => ⟨(g y).1, (g y).2⟩⟩
   | some n =>
     rw [ha] at no qs
     by_cases hn : lo ≤ n ∧ n ≤ hi
     · have : fitW lo hi (.int n) = true := by
         show (decide (lo ≤ n) && decide (n ≤ hi)) = true
         rw [decide_eq_true hn.1, decide_eq_true hn.2]; rfl
       rw [show fitW lo hi (numV (some n)) = true from this]
       exact iteF ⟨_, rfl, qs n _ s1 (if_pos hn)⟩
     · have : fitW lo hi (.int n) = false := by
         show (decide (lo ≤ n) && decide (n ≤ hi)) = false
         rw [← Bool.decide_and]
         exact decide_eq_false hn
       rw [show fitW lo hi (numV (some n)) = false from this]
       refine iteT ?_
       obtain ⟨a, b, c, d, e, f, g⟩ := no (if_neg hn)
       exact ⟨a, b, c, d, e, f, fun y => ⟨(g y).1, (g y).2⟩⟩
 · have hb : th.bs = false := by
     cases e : th.bs with
     | false => rfl
     | true => obtain ⟨z, rfl⟩ := th.hs e; exact absurd rfl (hx z)
   have ks := th.ks
   rw [hb] at ks
   refine ⟨_, rfl, _, _, _, _, rfl, rfl, th.ty, ks, _, rfl, iteT ?_⟩
   exact ⟨(by show 1 ≤ sizeLine; decide), q _ (Same.refl _)⟩
end
end K42
set_option maxHeartbeats 4000000
namespace K42
open PySem L2
seal PE PT PW PA PS PSs PG PGs PI PO PSet OpR UnR CallR TruR IxR SlR PC PPs
local macro_rules | `(tactic| walk_at "rd1") => `(tactic| first
 | (refine And.intro rfl ?_)
 | (refine And.intro (by assumption) ?_)
 | (refine And.intro (fun _ e => e) ?_)
 | (refine And.intro (TyOf.str _) ?_) | (refine And.intro (TyOf.int _) ?_) | (refine And.intro (TyOf.bl _) ?_) | (refine And.intro TyOf.non ?_)
 | (refine iteT ?_) | (refine iteF ?_)
 | (apply Exists.intro))
local macro_rules | `(tactic| walk_at "rd") => `(tactic| repeat (walk_at "rd1"))
abbrev ansW : List Nat → Option Int := fun l => numB l 60
def spId : Sp := fun vs H Q _ => ∃ p x, vs = [p, x] ∧ Q x H
section
variable {P : Program} {w : World} {K : W.Frag} {mg : Str → Option Value} {base : Heap} {A : Adr}
theorem ok_answer_of (T : Txt K mg A) : FnOk P w K mg base CX0 4 A.f_c_Whole_answer_of A.d_c_Whole_answer_of ["self", "text"] (spAns ansW) := by
 have G_number_or_none := ok_number_or_none (P := P) (w := w) (base := base) T
 refine T.F_c_Whole_answer_of.ok sc_c_Whole_answer_of (fun vs H Q E h => ?_) (fun cdv A0 outer s H vs Q E hr h => ?_)
 · obtain ⟨p, z, rfl, _⟩ := h
   rfl
 obtain ⟨p, z, rfl, hz, q⟩ := h
 refine ⟨_, (zG (zP (yH G_number_or_none (hr.mono (by first | decide | omega)) rfl T.m_number_or_none T.k_number_or_none T.b_number_or_none .nil zV (zA (pv 1) zE)))), ?_⟩
 exact ⟨_, rfl, z, rfl, hz, q⟩
theorem ok_rank (T : Txt K mg A) : FnOk P w K mg base CX0 1 A.f_c_Whole_rank A.d_c_Whole_rank ["self", "answer"] spId := by
 refine T.F_c_Whole_rank.ok sc_c_Whole_rank (fun vs H Q E h => ?_) (fun cdv A0 outer s H vs Q E hr h => ?_)
 · obtain ⟨p, z, rfl, _⟩ := h
   rfl
 obtain ⟨p, n, rfl, q⟩ := h
 exact ⟨_, (zG (zP (pv 1))), _, rfl, q⟩
def JF (T : Txt K mg A) : MethJ P w K mg base CX0 4 A.c_Whole "fits" := ⟨_, _, _, _, [], [], T.cl_Whole, T.me_Whole_fits, (ok_fits T T.cl_Whole T.no_Whole_low T.no_Whole_high).mono (by decide), T.b_c_Whole_fits, .nil⟩
def JK (T : Txt K mg A) : MethJ P w K mg base CX0 4 A.c_Whole "rank" := ⟨_, _, _, _, [], [], T.cl_Whole, T.me_Whole_rank, (ok_rank T).mono (by decide), T.b_c_Whole_rank, .nil⟩
def JR (T : Txt K mg A) : MethJ P w K mg base (CXW P w) 6 A.c_Whole "read" := ⟨_, _, _, _, [], [], T.cl_Whole, T.me_Whole_read, (ok_read T T.cl_Whole (ok_answer_of T) T.b_c_Whole_answer_of T.me_Whole_answer_of ((ok_fits T T.cl_Whole T.no_Whole_low T.no_Whole_high).mono (by decide)) T.b_c_Whole_fits T.me_Whole_fits).mono (by decide), T.b_c_Kind_read, .nil⟩
end
end K42
set_option maxHeartbeats 4000000
namespace K42
open PySem L2
seal PE PT PW PA PS PSs PG PGs PI PO PSet OpR UnR CallR TruR IxR SlR PC PPs
local macro_rules | `(tactic| walk_at "rd1") => `(tactic| first
 | (refine And.intro rfl ?_)
 | (refine And.intro (by assumption) ?_)
 | (refine And.intro (fun _ e => e) ?_)
 | (refine And.intro (TyOf.str _) ?_) | (refine And.intro (TyOf.int _) ?_) | (refine And.intro (TyOf.bl _) ?_) | (refine And.intro TyOf.non ?_)
 | (refine iteT ?_) | (refine iteF ?_)
 | (apply Exists.intro))
local macro_rules | `(tactic| walk_at "rd") => `(tactic| repeat (walk_at "rd1"))
theorem len_app (x y : Str) : (x ++ y).length = x.length + y.length := by rw [yX, cd_app, List.length_append, ← yX, ← yX]
theorem seq_mid {t u : TS} {D : Ends} {σ : St} {H : Hp} (R : St → Hp → Prop) (hk : ∀ σ' H', R σ' H' → u D σ' H') (hm : (∀ σ' H', R σ' H' → u D σ' H') → t { D with nx := u D } σ H) : tSeq t u D σ H := hm hk
abbrev KW : List Str := ["and", "each", "end", "is", "not", "or", "unless", "when"]
theorem inV_strs (z : Str) (ws : List Str) : inV (.str z) (ws.map V.str) = decide (z ∈ ws) := by
 unfold inV
 rw [List.any_map, Bool.eq_iff_iff, List.any_eq_true, decide_eq_true_iff]
 constructor
 · rintro ⟨y, hy, e⟩
   have : y = z := eq_of_beq e
   rw [← this]; exact hy
 · intro h; exact ⟨z, h, by show (z == z) = true; exact beq_self_eq_true z⟩
theorem kw_len : ∀ z ∈ KW, z.length ≤ 6 := by symm
theorem let_at (i : Int) (h0 : 0 ≤ i) (h1 : i < 26) : ∃ c, atI ("abcdefghijklmnopqrstuvwxyz" : Str).cps.toList i = some c ∧ 97 ≤ c ∧ c ≤ 122 := by
 have key : ∀ k : Nat, k < 26 → ("abcdefghijklmnopqrstuvwxyz" : Str).cps.toList[k]? = some (97 + k) := by symm
 refine ⟨97 + i.toNat, ?_, by omega, by omega⟩
 have := zX (key i.toNat (by omega))
 rw [show ((i.toNat : Nat) : Int) = i by omega] at this
 exact this
theorem tt_true {σ : St} {H : Hp} {a b : Hp → Prop} (h : a H) : tTrue σ H (fun c H3 => if c = true then a H3 else b H3) := by
 show if true = true then a H else b H
 rw [if_pos rfl]; exact h
theorem ib_e {x : Int} (h0 : 0 ≤ x) (h : x < 2 ^ 63) : ib x ≤ 60000000 := Nat.le_trans (ib_small (by omega) (by omega)) (by decide)
def opn (l : List Nat) : Str := if S l ∈ KW then S l ++ Str.ofString "x" else S l
def Lt (n : Nat) (l : List Nat) : Prop := l.length ≤ n ∧ 1 ≤ l.length ∧ ∀ c ∈ l, 97 ≤ c ∧ c ≤ 122
theorem opn_lt {l : List Nat} (h : Lt 12 l) : Lt 13 (cd (opn l)) := by
 have h1 := h.1
 have h2 := h.2.1
 unfold opn
 by_cases c : S l ∈ KW
 · have k := kw_len _ c
   rw [xQ] at k
   rw [if_pos c, cd_app, cd_S, show cd (Str.ofString "x") = [120] by symm]
   exact ⟨by rw [List.length_append]; show _ + 1 ≤ 13; omega, by rw [List.length_append]; show 1 ≤ _ + 1; omega, fun d hd => by
     rcases List.mem_append.mp hd with e | e
     · exact h.2.2 d e
     · rw [List.mem_singleton.mp e]; decide⟩
 · rw [if_neg c, cd_S]; exact ⟨by omega, h2, h.2.2⟩
theorem opn_inj {l m : List Nat} (h : l.length = m.length) (e : opn l = opn m) : l = m := by
 unfold opn at e
 by_cases c : S l ∈ KW <;> by_cases d : S m ∈ KW
 · rw [if_pos c, if_pos d] at e
   have := congrArg cd e
   rw [cd_app, cd_app] at this
   exact List.append_cancel_right this
 · rw [if_pos c, if_neg d] at e
   have := congrArg Str.length e
   rw [len_app, xQ, xQ, show (Str.ofString "x").length = 1 by symm] at this
   omega
 · rw [if_neg c, if_pos d] at e
   have := congrArg Str.length e
   rw [len_app, xQ, xQ, show (Str.ofString "x").length = 1 by symm] at this
   omega
 · rw [if_neg c, if_neg d] at e
   exact S_inj e
theorem nd_map {L : List Nat} {f : Nat → List Nat} (h : L.Nodup) (hf : ∀ a b, (f a).length = (f b).length) (hi : ∀ a b, f a = f b → a = b) : (L.map fun c => opn (f c)).Nodup :=
 List.pairwise_map.mpr (h.imp fun n e => n (hi _ _ (opn_inj (hf _ _) e)))
theorem take_step {L : List Nat} {f : Nat → Str} {i c : Nat} (h : L[i]? = some c) : ((L.take i).map f).map V.str ++ [V.str (f c)] = ((L.take (i + 1)).map f).map V.str := by
 rw [List.take_succ, h, List.map_append, List.map_append]; rfl
def spMixed : Sp := fun vs H Q _ => ∃ c k : Int, vs = [.int c, .int k] ∧ 0 ≤ k ∧ k < 100 ∧ ∀ r : Int, 0 ≤ r → r < 2147483587 → Q (.int r) H
def spOpn : Sp := fun vs H Q _ => ∃ l : List Nat, vs = [.str (S l)] ∧ Lt 12 l ∧ ∀ H', Same H H' → Q (.str (opn l)) H'
def spName : Sp := fun vs H Q _ => ∃ c : Int, vs = [.int c] ∧ ∀ l H', Lt 12 l → Same H H' → Q (.str (opn l)) H'
def spCell (K : W.Frag) : Sp := fun vs H Q _ => ∃ (a : Addr) (ns : List Int) (k : Int), vs = [.ref a, .int k] ∧ SqL K H a (ns.map V.int) ∧ 0 ≤ k ∧ (∀ n ∈ ns, ib n ≤ 1048576) ∧ ∀ n : Int, ib n ≤ 1048576 → Q (.int n) H
section
variable {P : Program} {w : World} {K : W.Frag} {mg : Str → Option Value} {base : Heap} {A : Adr}
theorem ok_law_cell_at (T : Txt K mg A) : FnOk P w K mg base CX0 1 A.f_law_cell_at A.d_law_cell_at ["_law_script", "_law_k"] (spCell K) := by
 refine T.F_law_cell_at.ok sc_law_cell_at (fun vs H Q E h => ?_) (fun cdv A0 outer s H vs Q E hr h => ?_)
 · obtain ⟨a, ns, k, rfl, _⟩ := h
   rfl
 obtain ⟨a, ns, k, rfl, hS, hk, hb, q⟩ := h
 refine ⟨_, (zD (yK (zQ op_lt (pv 1) (zO yD (by rfl) T.n_len PySem.boot_len (zA (pv 0) zE)) (zW _)) (zG (zP (yC yJ (pv 0) (pv 1) (fun _ _ => rfl)))) zU)
     (zG (zP zJ))), ?_⟩
 refine ⟨_, rfl, _, rfl, a, _, rfl, .inl hS, _, _, rfl, rfl, _, rfl, ?_⟩
 refine ite2 (fun c => ?_) (fun c => ?_)
 · have c' : k < ((ns.map V.int).length : Nat) := of_decide_eq_true c
   obtain ⟨v, hv, hv2⟩ := at_some (l := ns.map V.int) hk c'
   obtain ⟨n, hn, rfl⟩ := map_get hv2
   exact ⟨_, rfl, _, rfl, a, _, _, _, rfl, rfl, hS, hv, q _ (hb n (List.mem_of_getElem? hn))⟩
 · exact q _ (by decide)
theorem ok_law_mixed (T : Txt K mg A) : FnOk P w K mg base CX0 1 A.f_law_mixed A.d_law_mixed ["_law_cell", "_law_k"] spMixed := by
 refine T.F_law_mixed.ok sc_law_mixed (fun vs H Q E h => ?_) (fun cdv A0 outer s H vs Q E hr h => ?_)
 · obtain ⟨c, k, rfl, _⟩ := h
   rfl
 obtain ⟨c, k, rfl, k0, k1, q⟩ := h
 refine ⟨_, (zD (zR (i := 2) sc_law_mixed.nd rfl (by first | exact Or.inl rfl | exact Or.inr rfl) (yA xN (yA op_mulB (yA xJ (yA xN (pv 0) zJ) zJ) (yA xJ zJ (yA op_mulB zJ (pv 1)))) zJ))
     (zG (zP (yA xN (yA op_mulB (pv 2) (pv 2)) zJ)))), ?_⟩
 have a0 := Int.emod_nonneg c (b := 2147483647) (by decide)
 have a1 := Int.emod_lt_of_pos c (b := 2147483647) (by decide)
 refine ⟨_, rfl, _, _, rfl, rfl, (by show (0 : Int) < 2147483647; decide), _, _, rfl, rfl, _, rfl, _, _, rfl, rfl, ⟨ib_e (by decide) (by decide), ib_e k0 (by omega)⟩, _, _, rfl, rfl, _, _, rfl, rfl, ⟨ib_e (by show (0 : Int) ≤ c % 2147483647 + 7; omega) (by show c % 2147483647 + 7 < 2 ^ 63; omega), ib_e (by show (0 : Int) ≤ 48271 + 2 * k; omega) (by show 48271 + 2 * k < 2 ^ 63; omega)⟩, _, _, rfl, rfl, (by show (0 : Int) < 2147483629; decide), ?_⟩
 have b0 := Int.emod_nonneg ((c % 2147483647 + 7) * (48271 + 2 * k)) (b := 2147483629) (by decide)
 have b1 := Int.emod_lt_of_pos ((c % 2147483647 + 7) * (48271 + 2 * k)) (b := 2147483629) (by decide)
 refine ⟨_, rfl, _, rfl, _, _, rfl, rfl, ⟨ib_e b0 (by omega), ib_e b0 (by omega)⟩, _, _, rfl, rfl, (by show (0 : Int) < 2147483587; decide), q _ (Int.emod_nonneg _ (by decide)) (Int.emod_lt_of_pos _ (by decide))⟩
theorem ok_law_opn (T : Txt K mg A) : FnOk P w K mg base CX0 1 A.f_law_open A.d_law_open ["_law_word"] spOpn := by
 refine T.F_law_open.ok sc_law_open (fun vs H Q E h => ?_) (fun cdv A0 outer s H vs Q E hr h => ?_)
 · obtain ⟨l, rfl, _⟩ := h
   rfl
 obtain ⟨L, rfl, h1, q⟩ := h
 refine ⟨_, (zD (yK (zQ op_in_seq (pv 0) (yT (zA zK (zA zK (zA zK (zA zK (zA zK (zA zK (zA zK (zA zK zE))))))))) (by rfl)) (zG (zP (yA op_add_str (pv 0) zK))) zU)
     (zG (zP (pv 0)))), ?_⟩
 refine ⟨_, rfl, (by show 8 ≤ sizeLine; decide), fun p2 hp2 => ⟨p2, _, rfl, .inl (SqL.of zB), rfl, rfl, _, rfl, ?_⟩⟩
 have q := q _ (zH hp2 (.lst (KW.map V.str)))
 show if (inV (.str (S L)) (KW.map V.str)) = true then _ else _
 rw [inV_strs]
 unfold opn at q
 refine ite2 (fun c => ?_) (fun c => ?_)
 · have c' : S L ∈ KW := of_decide_eq_true c
   rw [if_pos c'] at q
   exact ⟨_, rfl, _, _, rfl, rfl, yB (m := 100) (by have := kw_len _ c'; rw [show (Str.ofString "x").length = 1 by symm]; omega), q⟩
 · rw [if_neg (fun z => c (decide_eq_true z))] at q
   exact ⟨_, rfl, q⟩
theorem ok_law_name (T : Txt K mg A) : FnOk P w K mg base CX0 2 A.f_law_name A.d_law_name ["_law_cell"] spName := by
 have G_law_open := ok_law_opn (P := P) (w := w) (base := base) T
 refine T.F_law_name.ok sc_law_name (fun vs H Q E h => ?_) (fun cdv A0 outer s H vs Q E hr h => ?_)
 · obtain ⟨c, rfl, _⟩ := h
   rfl
 obtain ⟨c, rfl, q⟩ := h
 refine ⟨_, (zD (zR (i := 1) sc_law_name.nd rfl (by first | exact Or.inl rfl | exact Or.inr rfl) (yA xN (yA op_fdiv (pv 0) zJ) (yA op_pow zJ zJ)))
     (zD (zR (i := 2) sc_law_name.nd rfl (by first | exact Or.inl rfl | exact Or.inr rfl) zK)
     (zD (xH PassesOwn.never rfl (pi_range1 rfl T.n_range (zA (yA xJ zJ (yA xN (pv 0) zJ)) zE)) (yM (i := 3) sc_law_name.nd rfl (by first | exact Or.inl rfl | exact Or.inr rfl)) (zD (zR (i := 2) sc_law_name.nd rfl (by first | exact Or.inl rfl | exact Or.inr rfl) (yA op_add_str (pv 2) (yC ix_str zK (yA xN (pv 1) zJ) (fun _ _ => rfl))))
     (zG (zR (i := 1) sc_law_name.nd rfl (by first | exact Or.inl rfl | exact Or.inr rfl) (yA op_fdiv (pv 1) zJ)))))
     (zG (zP (yH G_law_open (hr.mono (by first | decide | omega)) rfl T.m_law_open T.k_law_open T.b_law_open .nil zV (zA (pv 2) zE))))))), ?_⟩
 refine ⟨_, rfl, _, _, rfl, rfl, ⟨by decide, by decide⟩, _, _, rfl, rfl, ⟨by decide, by decide, by decide⟩, _, _, rfl, rfl, (by show (0 : Int) < 26 ^ (12 : Int).toNat; decide +kernel), ?_⟩
 have m0 : 0 ≤ c % 12 := Int.emod_nonneg _ (by decide)
 have m1 : c % 12 < 12 := Int.emod_lt_of_pos _ (by decide)
 have e0 : 0 ≤ c / 12 % 26 ^ (12 : Int).toNat := Int.emod_nonneg _ (by symm)
 refine ⟨_, rfl, _, _, rfl, rfl, (by show (0 : Int) < 12; decide), _, _, rfl, rfl, _, rfl, (by show (-2 ^ 62 : Int) ≤ 1 + c % 12; omega), (by show 1 + c % 12 < _; omega), ?_⟩
 obtain ⟨n, hn⟩ : ∃ n : Nat, (1 + c % 12).toNat = n := ⟨_, rfl⟩
 dsimp only
 rw [hn]
 refine for_rangeR (n := n) (fun i σ H' => H = H' ∧ ∃ (u : Int) (l : List Nat) (x : Option V), σ = [some (.int c), some (.int u), some (.str (S l)), x] ∧ 0 ≤ u ∧ l.length = i ∧ ∀ d ∈ l, 97 ≤ d ∧ d ≤ 122) ⟨rfl, c / 12 % 26 ^ (12 : Int).toNat, [], none, rfl, e0, rfl, fun d hd => by cases hd⟩ (fun i σ H' hi hh => ?_) (fun σ H' hh => ?_)
 · obtain ⟨rfl, u, l, x, rfl, hu, hl, hc⟩ := hh
   obtain ⟨d, hd1, hd2⟩ := let_at (u % 26) (Int.emod_nonneg _ (by decide)) (Int.emod_lt_of_pos _ (by decide))
   refine ⟨_, rfl, _, rfl, _, _, rfl, rfl, (by show (0 : Int) < 26; decide), _, _, d, rfl, rfl, (by symm), hd1, _, _, rfl, rfl, yB (m := 100) (by rw [xQ]; show l.length + 1 ≤ 100; omega), ?_⟩
   refine ⟨_, rfl, _, _, rfl, rfl, ⟨by decide, by decide⟩, rfl, u / 26, l ++ [d], some (.int (0 + (i : Nat))), ?_, Int.ediv_nonneg hu (by decide), (by rw [List.length_append, hl]; rfl), fun e he => ?_⟩
   · rw [← S_app]; rfl
   · rcases List.mem_append.mp he with z | z
     · exact hc e z
     · rw [List.mem_singleton.mp z]; exact hd2
 · obtain ⟨rfl, u, l, x, rfl, hu, hl, hc⟩ := hh
   exact ⟨_, rfl, l, rfl, ⟨by omega, by omega, hc⟩, fun H1 s1 => q l H1 ⟨by omega, by omega, hc⟩ s1⟩
end
end K42
set_option maxHeartbeats 4000000
namespace K42
open PySem L2
seal PE PT PW PA PS PSs PG PGs PI PO PSet OpR UnR CallR TruR IxR SlR PC PPs
local macro_rules | `(tactic| walk_at "rd1") => `(tactic| first
 | (refine And.intro rfl ?_)
 | (refine And.intro (by assumption) ?_)
 | (refine And.intro (fun _ e => e) ?_)
 | (refine And.intro (TyOf.str _) ?_) | (refine And.intro (TyOf.int _) ?_) | (refine And.intro (TyOf.bl _) ?_) | (refine And.intro TyOf.non ?_)
 | (refine iteT ?_) | (refine iteF ?_)
 | (apply Exists.intro))
local macro_rules | `(tactic| walk_at "rd") => `(tactic| repeat (walk_at "rd1"))
theorem upd_none {H : Hp} {a b : Addr} {o : HO} (h : upd H a o b = none) : b ≠ a ∧ H b = none := by
 by_cases e : b = a
 · subst e; rw [zB] at h; cases h
 · exact ⟨e, by rw [zF e] at h; exact h⟩
theorem xA {H H' : Hp} (s : Same H H') {b : Addr} (h : H' b = none) : H b = none := by
 cases e : H b with
 | none => rfl
 | some o => rw [s b o e] at h; cases h
def Fr (M : List Addr) (H H' : Hp) : Prop := ∀ b o, H b = some o → b ∉ M → H' b = some o
theorem Fr.of {M : List Addr} {H H' : Hp} (s : Same H H') : Fr M H H' := fun b o h _ => s b o h
theorem Fr.trans {M : List Addr} {H H' H'' : Hp} (a : Fr M H H') (b : Fr M H' H'') : Fr M H H'' := fun x o h n => b x o (a x o h n) n
theorem Fr.upd {M : List Addr} {H H' : Hp} (a : Fr M H H') {m : Addr} (h : m ∈ M) (o : HO) : Fr M H (upd H' m o) := fun x u hx n => by
 rw [zF (fun e => n (by rw [e]; exact h))]; exact a x u hx n
theorem Fr.new {M : List Addr} {H H' : Hp} (a : Fr M H H') {m : Addr} (h : H' m = none) (o : HO) : Fr M H (L2.upd H' m o) := fun x u hx n => by
 have := a x u hx n
 rw [zF (zI this h)]; exact this
theorem Fr.more {M M' : List Addr} {H H' : Hp} (a : Fr M H H') (h : ∀ m ∈ M, m ∈ M') : Fr M' H H' := fun x u hx n => a x u hx fun e => n (h x e)
theorem fr_none {M : List Addr} {H H' : Hp} (a : Fr M H H') {b : Addr} (n : b ∉ M) (h : H' b = none) : H b = none := by
 cases e : H b with
 | none => rfl
 | some o => rw [a b o e n] at h; cases h
theorem iteB {c : Bool} {A B : Prop} (h : c = true) (k : A) : if c = true then A else B := by rw [if_pos h]; exact k
theorem iteO {c : Bool} {A B : Prop} (h : c = false) (k : B) : if c = true then A else B := by rw [if_neg (by rw [h]; decide)]; exact k
theorem ni1 {x a : Addr} (h : x ≠ a) : x ∉ [a] := fun e => h (List.mem_singleton.mp e)
theorem cut_to {l : List Nat} {j : Nat} (h : j ≤ l.length) : cutN l none (some (j : Int)) = l.take j := by
 unfold cutN
 have e1 : HT.sIx l.length 0 none = 0 := rfl
 have e2 : HT.sIx l.length l.length (some (j : Int)) = j := by
   show (if (j : Int) < 0 then ((j : Int) + l.length).toNat else min (j : Int).toNat l.length) = _
   rw [if_neg (by omega)]; omega
 rw [e1, e2, List.drop_zero, Nat.sub_zero]
theorem cut_fr {l : List Nat} {j : Nat} (h : j ≤ l.length) : cutN l (some (j : Int)) none = l.drop j := by
 unfold cutN
 have e1 : HT.sIx l.length 0 (some (j : Int)) = j := by
   show (if (j : Int) < 0 then ((j : Int) + l.length).toNat else min (j : Int).toNat l.length) = _
   rw [if_neg (by omega)]; omega
 have e2 : HT.sIx l.length l.length none = l.length := rfl
 rw [e1, e2]
 exact List.take_of_length_le (by rw [List.length_drop]; exact Nat.le_refl _)
theorem cut_min {l : List Nat} {j : Nat} : cutN l none (some (j : Int)) = l.take j := by
 by_cases h : j ≤ l.length
 · exact cut_to h
 · unfold cutN
   have e1 : HT.sIx l.length 0 none = 0 := rfl
   have e2 : HT.sIx l.length l.length (some (j : Int)) = l.length := by
     show (if (j : Int) < 0 then ((j : Int) + l.length).toNat else min (j : Int).toNat l.length) = _
     rw [if_neg (by omega)]; omega
   rw [e1, e2, List.drop_zero, Nat.sub_zero, List.take_length, List.take_of_length_le (by omega)]
abbrev sgs : List Str := [Str.ofString "bcdefghjkm", Str.ofString "mkjhgfedcb", Str.ofString "fmbkcjdhge"]
theorem sgs_ok : ∀ z ∈ sgs, (cd z).Nodup ∧ (cd z).length = 10 ∧ z.length = 10 ∧ ∀ c ∈ cd z, 97 ≤ c ∧ c ≤ 122 := by symm
theorem opn_len {l : List Nat} : l.length ≤ (opn l).length := by
 unfold opn
 split
 · rw [len_app, xQ]; omega
 · rw [xQ]; exact Nat.le_refl _
def GN (ns : List Str) : Prop := ns.Nodup ∧ ∀ z ∈ ns, Fine 13 z ∧ 2 ≤ z.length
theorem zZ {α β : Type} {R : α → β → Prop} {as : List α} {bs : List β} (h : Paired R as bs) : as.length = bs.length := Paired.length h
theorem xB {α : Type} {l : List α} {i : Nat} {x : α} (h : l[i]? = some x) : l.take (i + 1) = l.take i ++ [x] := by rw [List.take_succ, h]; rfl
def spNames : Sp := fun vs H Q _ => ∃ (c : Int) (m : Nat), vs = [.int c, .int (m : Nat)] ∧ m ≤ 8 ∧ ∀ (l : Addr) (ns : List Str) H', H l = none → ns.length = m → GN ns → Same H H' → H' l = some (.lst (ns.map V.str)) → Q (.ref l) H'
abbrev Qn := Str × Int × Int
def rowT (q : Qn) : List V := [.str q.1, .int q.2.1, .int q.2.2]
def RwR (H : Hp) (x : V) (q : Qn) : Prop := ∃ a, x = .ref a ∧ H a = some (.tup (rowT q))
theorem RwR.same {H H' : Hp} (f : Same H H') {x : V} {q : Qn} (h : RwR H x q) : RwR H' x q := let ⟨a, e, h1⟩ := h; ⟨a, e, f _ _ h1⟩
def GQ (qs : List Qn) : Prop := (qs.map (·.1)).Nodup ∧ (∀ q ∈ qs, Fine 13 q.1 ∧ q.2.1 ≤ q.2.2 ∧ q.2.1.natAbs ≤ 10 ^ 18 ∧ q.2.2.natAbs ≤ 2 * 10 ^ 18) ∧ qs.length ≤ 8
def spQs : Sp := fun vs H Q _ => ∃ c : Int, vs = [.int c] ∧ ib c ≤ 1048576 ∧ ∀ (l : Addr) (xs : List V) (qs : List Qn) H', GQ qs → 1 ≤ qs.length → (∀ q ∈ qs, 2 ≤ q.1.length) → Same H H' → H' l = some (.lst xs) → Paired (RwR H') xs qs → Q (.ref l) H'
theorem zL {α β : Type} {R R' : α → β → Prop} {as : List α} {bs : List β} (h : Paired R as bs) (f : ∀ a b, R a b → R' a b) : Paired R' as bs := by
 induction h with
 | nil => exact .nil
 | cons r _ ih => exact .cons (f _ _ r) ih
theorem xE {α β : Type} {R : α → β → Prop} {as as' : List α} {bs bs' : List β} (h : Paired R as bs) (k : Paired R as' bs') : Paired R (as ++ as') (bs ++ bs') := by
 induction h with
 | nil => exact k
 | cons r _ ih => exact .cons r ih
section
variable {P : Program} {w : World} {K : W.Frag} {mg : Str → Option Value} {base : Heap} {A : Adr}
theorem ok_law_names (T : Txt K mg A) : FnOk P w K mg base CX0 3 A.f_law_names A.d_law_names ["_law_cell", "_law_many"] spNames := by
 have G_law_name := ok_law_name (P := P) (w := w) (base := base) T
 have G_law_open := ok_law_opn (P := P) (w := w) (base := base) T
 refine T.F_law_names.ok sc_law_names (fun vs H Q E h => ?_) (fun cdv A0 outer s H vs Q E hr h => ?_)
 · obtain ⟨c, m, rfl, _⟩ := h
   rfl
 obtain ⟨c, m, rfl, hm, q⟩ := h
 refine ⟨_, (zD (zR (i := 2) sc_law_names.nd rfl (by first | exact Or.inl rfl | exact Or.inr rfl) (pe_slice sl_str (yH G_law_name (hr.mono (by first | decide | omega)) rfl T.m_law_name T.k_law_name T.b_law_name .nil zV (zA (pv 0) zE)) po_none (po_some zJ)))
     (zD (zR (i := 3) sc_law_names.nd rfl (by first | exact Or.inl rfl | exact Or.inr rfl) (yA xN (yA op_fdiv (pv 0) zJ) (yA xJ (zO call_len_str (by rfl) T.n_len PySem.boot_len (zA (pv 2) zE)) zJ)))
     (zD (zR (i := 4) sc_law_names.nd rfl (by first | exact Or.inl rfl | exact Or.inr rfl) (yC yJ (yT (zA zK (zA zK (zA zK zE)))) (yA xN (yA op_fdiv (pv 0) zJ) zJ) (fun _ _ => rfl)))
     (zG (zP (pe_compR (yU (x := "_law_sign") (M := ["_law_cell", "_law_many", "_law_word", "_law_place", "_law_signs"]) rfl (by rfl)) rfl (pi_str (pe_slice sl_str (pv 4) po_none (po_some (pv 1)))) (fun _ _ _ _ => pe_eqv (by exact (yH G_law_open (hr.mono (by first | decide | omega)) rfl T.m_law_open T.k_law_open T.b_law_open .nil zV (zA (yA op_add_str (yA op_add_str (pe_slice sl_str (pv 3) po_none (po_some (pv 4))) (pv 0)) (pe_slice sl_str (pv 3) (po_some (pv 4)) po_none)) zE))) (by dsimp only [compCx] <;> rfl)))))))), ?_⟩
 refine ⟨_, rfl, c, rfl, fun l0 H1 hl0 s1 => ?_⟩
 have lz := opn_lt hl0
 refine ⟨_, rfl, _, rfl, yB (m := 100) (by rw [yX]; have := lz.1; omega), ?_⟩
 have hW : Lt 10 (cutN (cd (opn l0)) none (some 10)) := by
   rw [show (10 : Int) = ((10 : Nat) : Int) from rfl, cut_min]
   have := lz.2.1
   exact ⟨by rw [List.length_take]; omega, by rw [List.length_take]; omega, fun c hc => lz.2.2 c (List.mem_of_mem_take hc)⟩
 generalize cutN (cd (opn l0)) none (some 10) = W at hW
 have hW1 := hW.1
 refine ⟨_, rfl, _, _, rfl, rfl, ⟨by decide, by decide⟩, _, rfl, _, rfl, yB (m := 100) (by rw [xQ]; omega), _, _, rfl, rfl, _, _, rfl, rfl, (by show (0 : Int) < ((S W).length : Nat) + 1; omega), ?_⟩
 obtain ⟨p, hp, hp1⟩ : ∃ p : Nat, c / 7 % (((S W).length : Nat) + 1) = (p : Int) ∧ p ≤ W.length := by
   have a0 := Int.emod_nonneg (c / 7) (b := ((S W).length : Nat) + 1) (by omega)
   have a1 := Int.emod_lt_of_pos (c / 7) (b := ((S W).length : Nat) + 1) (by omega)
   rw [xQ] at a0 a1 ⊢
   exact ⟨(c / 7 % ((W.length : Nat) + 1)).toNat, by omega, by omega⟩
 dsimp only
 rw [hp]
 refine ⟨(by show 3 ≤ sizeLine; decide), fun lp hlp => ?_⟩
 have s2 := zH hlp (.lst (sgs.map V.str))
 obtain ⟨z, hz, hzm⟩ : ∃ z, atI (sgs.map V.str) (c / 5 % 3) = some (.str z) ∧ z ∈ sgs := by
   rcases (by omega : c / 5 % 3 = ((0 : Nat) : Int) ∨ c / 5 % 3 = ((1 : Nat) : Int) ∨ c / 5 % 3 = ((2 : Nat) : Int)) with e | e | e <;> rw [e]
   · exact ⟨_, zX rfl, List.mem_cons_self⟩
   · exact ⟨_, zX rfl, List.mem_cons_of_mem _ List.mem_cons_self⟩
   · exact ⟨_, zX rfl, List.mem_cons_of_mem _ (List.mem_cons_of_mem _ List.mem_cons_self)⟩
 obtain ⟨z1, z2, z3, z4⟩ := sgs_ok z hzm
 refine ⟨_, rfl, _, _, rfl, rfl, ⟨by decide, by decide⟩, _, _, rfl, rfl, (by show (0 : Int) < 3; decide), lp, _, _, _, rfl, rfl, SqL.of zB, hz, ?_⟩
 refine ⟨_, rfl, _, rfl, _, rfl, _, rfl, yB (m := 100) (by omega), _, rfl, ?_⟩
 have hL : (cutN (cd z) none (some ((m : Nat) : Int))) = (cd z).take m := cut_min
 dsimp only
 rw [hL]
 have hL1 : ((cd z).take m).length = m := by rw [List.length_take]; omega
 have hL2 : ((cd z).take m).Nodup := List.Nodup.sublist (List.take_sublist _ _) z1
 have hL3 : ∀ d ∈ (cd z).take m, 97 ≤ d ∧ d ≤ 122 := fun d hd => z4 d (List.mem_of_mem_take hd)
 generalize (cd z).take m = L at hL1 hL2 hL3
 have hn : ∀ d ∈ L, Lt 12 (W.take p ++ d :: W.drop p) := fun d hd => ⟨by rw [List.length_append, List.length_cons, List.length_take, List.length_drop]; omega, by rw [List.length_append, List.length_cons]; omega, fun x hx => by
   rcases List.mem_append.mp hx with e | e
   · exact hW.2.2 x (List.mem_of_mem_take e)
   · rcases List.mem_cons.mp e with e | e
     · rw [e]; exact hL3 d hd
     · exact hW.2.2 x (List.mem_of_mem_drop e)⟩
 have one1 : ∀ d : Nat, (S [d]).length = 1 := fun d => by rw [xQ]; rfl
 refine comp_strR (x := S L) (yB (m := 100) (by rw [xQ]; omega)) (fun i ys H' => Same (upd H1 lp (.lst (sgs.map V.str))) H' ∧ ys = ((L.take i).map fun d => opn (W.take p ++ d :: W.drop p)).map V.str) ⟨Same.refl _, rfl⟩ (fun i d ys H' hd _ hw => ?_) (fun ys H' _ hw p' hp' => ?_)
 · obtain ⟨sH, rfl⟩ := hw
   have hd : L[i]? = some d := hd
   refine ⟨_, rfl, _, rfl, _, rfl, _, rfl, yB (m := 100) (by rw [xQ]; omega), ?_⟩
   rw [cd_S, cut_to hp1]
   refine ⟨_, rfl, _, _, rfl, rfl, yB (m := 100) (by rw [one1, xQ, List.length_take]; omega), ?_⟩
   refine ⟨_, rfl, _, rfl, _, rfl, _, rfl, yB (m := 100) (by rw [xQ]; omega), ?_⟩
   rw [cd_S, cut_fr hp1, S_app]
   refine ⟨_, _, rfl, rfl, yB (m := 100) (by rw [xQ, xQ, List.length_append, List.length_take, List.length_drop]; show _ + 1 + _ ≤ 100; omega), ?_⟩
   rw [S_app, List.append_assoc]
   exact ⟨W.take p ++ d :: W.drop p, rfl, hn d (List.mem_of_getElem? hd), fun H2 s2 => ⟨sH.trans s2, take_step (f := fun d => opn (W.take p ++ d :: W.drop p)) hd⟩⟩
 · obtain ⟨sH, rfl⟩ := hw
   rw [xQ, List.take_length]
   exact q p' (L.map fun d => opn (W.take p ++ d :: W.drop p)) _ (xA (s1.trans (s2.trans sH)) hp') (by rw [List.length_map, hL1]) ⟨nd_map (f := fun d => W.take p ++ d :: W.drop p) hL2 (fun a b => by rw [List.length_append, List.length_append]; rfl) (fun a b e => (List.cons.inj (List.append_cancel_left e)).1), fun y hy => by
     obtain ⟨d, hd, rfl⟩ := List.mem_map.mp hy
     have := opn_lt (hn d hd)
     exact ⟨⟨by rw [yX]; exact this.1, fun c hc => by have := this.2.2 c hc; omega⟩, Nat.le_trans (by rw [List.length_append, List.length_cons, List.length_take, List.length_drop]; have := hW.2.1; omega) opn_len⟩⟩ (s1.trans (s2.trans (sH.trans (zH hp' _)))) zB
theorem low_of {r : Int} : ∃ lo : Int, r % (2 * 10 ^ (18 : Int).toNat) - 10 ^ (18 : Int).toNat = lo ∧ lo.natAbs ≤ 10 ^ 18 := by
 have a0 := Int.emod_nonneg r (b := 2 * 10 ^ (18 : Int).toNat) (by decide)
 have a1 := Int.emod_lt_of_pos r (b := 2 * 10 ^ (18 : Int).toNat) (by decide)
 refine ⟨_, rfl, ?_⟩
 rw [show (10 : Int) ^ (18 : Int).toNat = 1000000000000000000 by decide] at a0 a1 ⊢
 omega
theorem ok_law_questions (T : Txt K mg A) : FnOk P w K mg base CX0 4 A.f_law_questions A.d_law_questions ["_law_cell"] spQs := by
 have G_law_names := ok_law_names (P := P) (w := w) (base := base) T
 have G_law_mixed := ok_law_mixed (P := P) (w := w) (base := base) T
 refine T.F_law_questions.ok sc_law_questions (fun vs H Q E h => ?_) (fun cdv A0 outer s H vs Q E hr h => ?_)
 · obtain ⟨c, rfl, _⟩ := h
   rfl
 obtain ⟨c, rfl, hc, q⟩ := h
 refine ⟨_, (zD (zR (i := 1) sc_law_questions.nd rfl (by first | exact Or.inl rfl | exact Or.inr rfl) (yT zE))
     (zD (xH PassesOwn.never rfl (pi_enum rfl T.n_enumerate (zA (yH G_law_names (hr.mono (by first | decide | omega)) rfl T.m_law_names T.k_law_names T.b_law_names .nil zV (zA (yH G_law_mixed (hr.mono (by first | decide | omega)) rfl T.m_law_mixed T.k_law_mixed T.b_law_mixed .nil zV (zA (pv 0) (zA zJ zE))) (zA (yA xJ zJ (yA xN (pv 0) zJ)) zE))) zE)) (pg_tup rfl (yY (yM (i := 2) sc_law_questions.nd rfl (by first | exact Or.inl rfl | exact Or.inr rfl)) (yY (yM (i := 3) sc_law_questions.nd rfl (by first | exact Or.inl rfl | exact Or.inr rfl)) pgs_nil))) (zD (zR (i := 4) sc_law_questions.nd rfl (by first | exact Or.inl rfl | exact Or.inr rfl) (yA op_sub (yA xN (yA op_pow (yH G_law_mixed (hr.mono (by first | decide | omega)) rfl T.m_law_mixed T.k_law_mixed T.b_law_mixed .nil zV (zA (pv 0) (zA (yA xJ zJ (pv 2)) zE))) zJ) (yA op_mulB zJ (yA op_pow zJ zJ))) (yA op_pow zJ zJ)))
     (zG (yP (pe_bm PySem.F.plainAttrs_list PySem.F.slot_list_append PySem.F.type_list_append xO (pv 1) (zA (yI (zA (pv 3) (zA (pv 4) (zA (yA xJ (pv 4) (yC yJ (yT (zA zJ (zA zJ (zA zJ (zA (yA op_pow zJ zJ) zE))))) (yA xN (yH G_law_mixed (hr.mono (by first | decide | omega)) rfl T.m_law_mixed T.k_law_mixed T.b_law_mixed .nil zV (zA (pv 0) (zA (yA xJ zJ (pv 2)) zE))) zJ) (fun _ _ => rfl))) zE)))) zE))))))
     (zG (zP (pv 1))))), ?_⟩
 refine ⟨(by show 0 ≤ sizeLine; decide), fun l hl => ?_⟩
 have s0 := zH hl (.lst [])
 obtain ⟨m, hm, hm1, hm2⟩ : ∃ m : Nat, 1 + c % 8 = (m : Int) ∧ m ≤ 8 ∧ 1 ≤ m := ⟨(1 + c % 8).toNat, by omega, by omega, by omega⟩
 refine ⟨_, rfl, c, 1, rfl, by decide, by decide, fun r1 _ _ => ⟨_, rfl, _, _, rfl, rfl, (by show (0 : Int) < 8; decide), _, _, rfl, rfl, r1, m, by dsimp only; rw [hm]; rfl, hm1, fun ln ns H1 fln hns gn s1 hln => ?_⟩⟩
 refine ⟨ln, rfl, ⟨_, SqL.of hln⟩, ?_⟩
 have hl1 : H1 l = some (.lst []) := s1 _ _ zB
 have nl : ln ≠ l := (upd_none fln).1
 refine for_enumR (xs := ns.map V.str) (fun i σ H' => ∃ u v y xs, ∃ qs : List Qn, σ = [some (.int c), some (.ref l), u, v, y] ∧ Fr [l] H1 H' ∧ H' l = some (.lst xs) ∧ Paired (RwR H') xs qs ∧ qs.map (·.1) = ns.take i ∧ ∀ q ∈ qs, q.2.1 ≤ q.2.2 ∧ q.2.1.natAbs ≤ 10 ^ 18 ∧ q.2.2.natAbs ≤ 2 * 10 ^ 18) ⟨_, _, _, [], [], rfl, Fr.of (Same.refl _), hl1, .nil, rfl, fun q hq => by cases hq⟩ (fun i σ H' hi hw => ?_) (fun i x σ H' hx hw Tt hT => ?_) (fun σ H' hw => ?_)
 · obtain ⟨u, v, y, xs, qs, rfl, F, _⟩ := hw
   exact SqL.of (F _ _ hln (ni1 nl))
 · obtain ⟨u, v, y, xs, qs, rfl, F, h1, h2, h3, h4⟩ := hw
   obtain ⟨nm, hnm, rfl⟩ := map_get hx
   have hi : i < ns.length := (List.getElem?_eq_some_iff.mp hnm).1
   refine ⟨Tt, _, rfl, SqT.of zB, rfl, _, _, rfl, _, _, rfl, rfl, ?_⟩
   refine ⟨_, rfl, _, rfl, _, _, rfl, rfl, c, _, rfl, (by show (0 : Int) ≤ 10 + (i : Nat); omega), (by show (10 : Int) + (i : Nat) < 100; omega), fun r ra rb => ?_⟩
   refine ⟨_, _, rfl, rfl, ⟨by decide, by decide, (by show r.natAbs < 2 ^ 64; omega)⟩, _, _, rfl, rfl, ⟨by decide, by decide, by decide⟩, _, _, rfl, rfl, ⟨by decide, by decide⟩, _, _, rfl, rfl, (by show (0 : Int) < 2 * 10 ^ (18 : Int).toNat; decide), _, _, rfl, rfl, ⟨by decide, by decide, by decide⟩, _, _, rfl, rfl, ?_⟩
   obtain ⟨lo, hlo, hlo1⟩ := low_of (r := r ^ (2 : Int).toNat)
   dsimp only [gName]
   rw [hlo]
   have sT := zH hT (.tup [.int (i : Nat), .str nm])
   have h1T := sT _ _ h1
   refine ⟨_, rfl, .inl ⟨rfl, _, SqL.of h1T⟩, _, rfl, _, rfl, _, rfl, _, _, rfl, rfl, ⟨by decide, by decide, by decide⟩, (by show 4 ≤ sizeLine; decide), fun lp hlp => ?_⟩
   have sL := zH hlp (.lst [.int 0, .int 1, .int 9, .int (10 ^ (15 : Int).toNat)])
   refine ⟨_, rfl, _, rfl, _, _, rfl, rfl, c, _, rfl, (by show (0 : Int) ≤ 20 + (i : Nat); omega), (by show (20 : Int) + (i : Nat) < 100; omega), fun r2 _ _ => ?_⟩
   obtain ⟨wd, hwd, hwd0, hwd1⟩ : ∃ wd : Int, atI [V.int 0, .int 1, .int 9, .int (10 ^ (15 : Int).toNat)] (r2 % 4) = some (.int wd) ∧ 0 ≤ wd ∧ wd ≤ 10 ^ 15 := by
     rcases (by omega : r2 % 4 = ((0 : Nat) : Int) ∨ r2 % 4 = ((1 : Nat) : Int) ∨ r2 % 4 = ((2 : Nat) : Int) ∨ r2 % 4 = ((3 : Nat) : Int)) with e | e | e | e <;> rw [e]
     · exact ⟨_, zX rfl, by decide, by decide⟩
     · exact ⟨_, zX rfl, by decide, by decide⟩
     · exact ⟨_, zX rfl, by decide, by decide⟩
     · exact ⟨_, zX rfl, by decide, by decide⟩
   refine ⟨_, _, rfl, rfl, (by show (0 : Int) < 4; decide), lp, _, _, _, rfl, rfl, SqL.of zB, hwd, _, _, rfl, rfl, (by show 3 ≤ sizeLine; decide), fun t ht => ?_⟩
   have st := zH ht (.tup (rowT (nm, lo, lo + wd)))
   have sA := sT.trans (sL.trans st)
   have hlen := zZ h2
   have hq8 : qs.length ≤ 8 := by rw [← List.length_map (f := (·.1)), h3, List.length_take]; omega
   refine ⟨l, _, _, rfl, rfl, sA _ _ h1, yB (m := 100) (by omega), ?_⟩
   have nt : ∀ {x : V} {q : Qn}, RwR H' x q → RwR (upd (upd (upd (upd H' Tt (.tup [.int (i : Nat), .str nm])) lp (.lst [.int 0, .int 1, .int 9, .int (10 ^ (15 : Int).toNat)])) t (.tup (rowT (nm, lo, lo + wd)))) l (.lst (xs ++ [.ref t]))) x q := fun {x q} ⟨a, e, ha⟩ => ⟨a, e, by rw [zF (yE ha h1 (by intro z; cases z))]; exact sA _ _ ha⟩
   refine ⟨_, _, _, xs ++ [.ref t], qs ++ [(nm, lo, lo + wd)], rfl, (F.trans (Fr.of sA)).upd (List.mem_singleton.mpr rfl) _, zB, xE (zL h2 fun _ _ => nt) (.cons ⟨t, rfl, ?_⟩ .nil), ?_, fun p hp => ?_⟩
   · rw [zF (fun e => by rw [e, (sT.trans sL) _ _ h1] at ht; cases ht)]; exact zB
   · rw [List.map_append, h3, xB hnm]; rfl
   · rcases List.mem_append.mp hp with e | e
     · exact h4 p e
     · rw [List.mem_singleton.mp e]
       exact ⟨by show lo ≤ lo + wd; omega, hlo1, by show (lo + wd).natAbs ≤ _; omega⟩
 · obtain ⟨u, v, y, xs, qs, rfl, F, h1, h2, h3, h4⟩ := hw
   rw [List.length_map, List.take_length] at h3
   refine ⟨_, rfl, q l xs qs H' ⟨by rw [h3]; exact gn.1, fun p hp => ⟨(gn.2 p.1 (by rw [← h3]; exact List.mem_map_of_mem hp)).1, h4 p hp⟩, by rw [← List.length_map (f := (·.1)), h3]; omega⟩ (by rw [← List.length_map (f := (·.1)), h3]; omega) (fun p hp => (gn.2 p.1 (by rw [← h3]; exact List.mem_map_of_mem hp)).2) (fun b o hb => F _ _ (s1 _ _ (s0 _ _ hb)) (ni1 (zI hb hl))) h1 h2⟩
end
end K42
set_option maxHeartbeats 4000000
namespace K42
open PySem L2
seal PE PT PW PA PS PSs PG PGs PI PO PSet OpR UnR CallR TruR IxR SlR PC PPs
local macro_rules | `(tactic| walk_at "rd1") => `(tactic| first
 | (refine And.intro rfl ?_)
 | (refine And.intro (by assumption) ?_)
 | (refine And.intro (fun _ e => e) ?_)
 | (refine And.intro (TyOf.str _) ?_) | (refine And.intro (TyOf.int _) ?_) | (refine And.intro (TyOf.bl _) ?_) | (refine And.intro TyOf.non ?_)
 | (refine iteT ?_) | (refine iteF ?_)
 | (apply Exists.intro))
local macro_rules | `(tactic| walk_at "rd") => `(tactic| repeat (walk_at "rd1"))
abbrev oAsk (A : Adr) (dx : Addr) (u1 u2 u3 : V) : HO := .ins A.c_Ask dx [("name", u1), ("kind", u2), ("when", u3)]
abbrev oSh (A : Adr) (dx : Addr) (u1 u2 : V) (q1 q2 : Addr) : HO := .ins A.c_Sheet dx [("name", u1), ("each", u2), ("rows", .ref q1), ("ways", .ref q2)]
abbrev oPa (A : Adr) (dx : Addr) (u1 : V) (q1 q2 : Addr) : HO := .ins A.c_Paper dx [("name", u1), ("sheets", .ref q1), ("totals", .ref q2)]
def spRowI (K : W.Frag) : Sp := fun vs H Q _ => ∃ p C dx u1, vs = [.ref p, u1] ∧ H p = some (.ins C dx []) ∧ Cls K C ∧ NoAttr K C "name" ∧ Q .non (upd H p (.ins C dx [("name", u1)]))
def spAskI (A : Adr) : Sp := fun vs H Q _ => ∃ p dx u1 u2 u3, vs = [.ref p, u1, u2, u3] ∧ H p = some (.ins A.c_Ask dx []) ∧ Q .non (upd H p (oAsk A dx u1 u2 u3))
def spSheetI (A : Adr) (K : W.Frag) : Sp := fun vs H Q _ => ∃ p dx u1 u2 l1 l2 xs ys, vs = [.ref p, u1, u2, .ref l1, .ref l2] ∧ H p = some (.ins A.c_Sheet dx []) ∧ H l1 = some (.lst xs) ∧ H l2 = some (.lst ys) ∧
 ∀ q1 q2 H', q1 ≠ q2 → H q1 = none → H q2 = none → Fr [p] H H' → H' p = some (oSh A dx u1 u2 q1 q2) → H' q1 = some (.lst xs) → H' q2 = some (.lst ys) → Q .non H'
def spPaperI (A : Adr) (K : W.Frag) : Sp := fun vs H Q _ => ∃ p dx u1 l1 l2 xs, vs = [.ref p, u1, .ref l1, .ref l2] ∧ H p = some (.ins A.c_Paper dx []) ∧ H l1 = some (.lst xs) ∧ H l2 = some (.lst []) ∧
 ∀ q1 q2 H', Fr [p] H H' → H' p = some (oPa A dx u1 q1 q2) → H' q1 = some (.lst xs) → H' q2 = some (.lst []) → Q .non H'
section
variable {P : Program} {w : World} {K : W.Frag} {mg : Str → Option Value} {base : Heap} {A : Adr}
theorem ok_row_init (T : Txt K mg A) : FnOk P w K mg base CX0 1 A.f_c_Row___init A.d_c_Row___init ["self", "name"] (spRowI K) := by
 refine T.F_c_Row___init.ok sc_c_Row___init (fun vs H Q E h => ?_) (fun cdv A0 outer s H vs Q E hr h => ?_)
 · obtain ⟨p, C, dx, u1, rfl, _⟩ := h
   rfl
 obtain ⟨p, C, dx, u1, rfl, hp, cl, na, q⟩ := h
 refine ⟨_, (zG (yN (pv 0) (pv 1) rfl)), ?_⟩
 exact ⟨_, rfl, _, rfl, p, _, dx, _, rfl, hp, cl, na, by decide, q⟩
theorem ok_ask_init (T : Txt K mg A) : FnOk P w K mg base CX0 3 A.f_c_Ask___init A.d_c_Ask___init ["self", "name", "kind", "when"] (spAskI A) := by
 have G_c_Row___init := ok_row_init (P := P) (w := w) (base := base) T
 refine T.F_c_Ask___init.ok sc_c_Ask___init (fun vs H Q E h => ?_) (fun cdv A0 outer s H vs Q E hr h => ?_)
 · obtain ⟨p, dx, u1, u2, u3, rfl, _⟩ := h
   rfl
 obtain ⟨p, dx, u1, u2, u3, rfl, hp, q⟩ := h
 refine ⟨_, (zD (yP (pe_clsfn T.cf_Row_init G_c_Row___init (hr.mono (by first | decide | omega)) rfl T.m_Row T.b_c_Row___init zV (zA (pv 0) (zA (pv 1) zE))))
     (zD (yN (pv 0) (pv 2) rfl)
     (zG (yN (pv 0) (pv 3) rfl)))), ?_⟩
 refine ⟨_, rfl, _, rfl, p, _, dx, u1, rfl, hp, T.cl_Ask, T.no_Ask_name, ?_⟩
 refine ⟨_, rfl, _, rfl, p, _, dx, _, rfl, zB, T.cl_Ask, T.no_Ask_kind, (by show 1 < 1000; decide), ?_⟩
 refine ⟨_, rfl, _, rfl, p, _, dx, _, rfl, zB, T.cl_Ask, T.no_Ask_when, (by show 2 < 1000; decide), ?_⟩
 rw [upd_upd, upd_upd]
 exact q
theorem ok_sheet_init (T : Txt K mg A) : FnOk P w K mg base CX0 1 A.f_c_Sheet___init A.d_c_Sheet___init ["self", "name", "each", "rows", "ways"] (spSheetI A K) := by
 refine T.F_c_Sheet___init.ok sc_c_Sheet___init (fun vs H Q E h => ?_) (fun cdv A0 outer s H vs Q E hr h => ?_)
 · obtain ⟨p, dx, u1, u2, l1, l2, xs, ys, rfl, _⟩ := h
   rfl
 obtain ⟨p, dx, u1, u2, l1, l2, xs, ys, rfl, hp, h1, h2, q⟩ := h
 refine ⟨_, (zD (yN (pv 0) (pv 1) rfl)
     (zD (yN (pv 0) (pv 2) rfl)
     (zD (yN (pv 0) (yZ xG (by rfl) T.n_list Bt.list (zA (pv 3) zE)) rfl)
     (zG (yN (pv 0) (yZ xG (by rfl) T.n_list Bt.list (zA (pv 4) zE)) rfl))))), ?_⟩
 have n1 : l1 ≠ p := yE h1 hp (by intro z; cases z)
 have n2 : l2 ≠ p := yE h2 hp (by intro z; cases z)
 refine ⟨_, rfl, _, rfl, p, _, dx, _, rfl, hp, T.cl_Sheet, T.no_Sheet_name, by decide, ?_⟩
 refine ⟨_, rfl, _, rfl, p, _, dx, _, rfl, zB, T.cl_Sheet, T.no_Sheet_each, (by show 1 < 1000; decide), ?_⟩
 rw [upd_upd]
 refine ⟨_, rfl, l1, xs, rfl, .inl (SqL.of (by rw [zF n1]; exact h1)), fun q1 hq1 => ?_⟩
 obtain ⟨e1, f1⟩ := upd_none hq1
 refine ⟨_, rfl, p, _, dx, _, rfl, (by rw [zF (Ne.symm e1)]; exact zB), T.cl_Sheet, T.no_Sheet_rows, (by show 2 < 1000; decide), ?_⟩
 refine ⟨_, rfl, l2, ys, rfl, .inl (SqL.of (by rw [zF n2, zF (zI h2 f1), zF n2]; exact h2)), fun q2 hq2 => ?_⟩
 obtain ⟨e2, g2⟩ := upd_none hq2
 obtain ⟨e3, g3⟩ := upd_none g2
 obtain ⟨e4, f2⟩ := upd_none g3
 refine ⟨_, rfl, p, _, dx, _, rfl, (by rw [zF (Ne.symm e2)]; exact zB), T.cl_Sheet, T.no_Sheet_ways, (by show 3 < 1000; decide), ?_⟩
 refine q q1 q2 _ (Ne.symm e3) f1 f2 (fun b o hb hn => ?_) zB ?_ ?_
 · have nb : b ≠ p := fun e => hn (by rw [e]; exact List.mem_singleton.mpr rfl)
   rw [zF nb, zF (zI hb f2), zF nb, zF (zI hb f1), zF nb]; exact hb
 · rw [zF e1, zF (Ne.symm e3), zF e1]; exact zB
 · rw [zF e2]; exact zB
theorem ok_paper_init (T : Txt K mg A) : FnOk P w K mg base CX0 1 A.f_c_Paper___init A.d_c_Paper___init ["self", "name", "sheets", "totals"] (spPaperI A K) := by
 refine T.F_c_Paper___init.ok sc_c_Paper___init (fun vs H Q E h => ?_) (fun cdv A0 outer s H vs Q E hr h => ?_)
 · obtain ⟨p, dx, u1, l1, l2, xs, rfl, _⟩ := h
   rfl
 obtain ⟨p, dx, u1, l1, l2, xs, rfl, hp, h1, h2, q⟩ := h
 refine ⟨_, (zD (yN (pv 0) (pv 1) rfl)
     (zD (yN (pv 0) (yZ xG (by rfl) T.n_list Bt.list (zA (pv 2) zE)) rfl)
     (zG (yN (pv 0) (pe_compT (compOk2_of (yU (x := "total") (M := ["self", "name", "sheets", "totals"]) rfl (by rfl)) (by rfl) (by symm)) rfl (yQ (pv 3)) (fun _ _ _ _ => pifs_nil) (fun _ _ _ _ => pe_eqv (by exact (yI (zA (pv 0) (zA (yZ xG (by rfl) T.n_list Bt.list (zA (pv 1) zE)) zE)))) (by dsimp only [compCx2] <;> rfl))) rfl)))), ?_⟩
 have n1 : l1 ≠ p := yE h1 hp (by intro z; cases z)
 have n2 : l2 ≠ p := yE h2 hp (by intro z; cases z)
 refine ⟨_, rfl, _, rfl, p, _, dx, _, rfl, hp, T.cl_Paper, T.no_Paper_name, by decide, ?_⟩
 refine ⟨_, rfl, l1, xs, rfl, .inl (SqL.of (by rw [zF n1]; exact h1)), fun q1 hq1 => ?_⟩
 obtain ⟨e1, f1⟩ := upd_none hq1
 refine ⟨_, rfl, p, _, dx, _, rfl, (by rw [zF (Ne.symm e1)]; exact zB), T.cl_Paper, T.no_Paper_sheets, (by show 1 < 1000; decide), ?_⟩
 generalize hG : upd (upd (upd H p (.ins A.c_Paper dx (putF (Str.ofString "name") u1 []))) q1 (.lst xs)) p (.ins A.c_Paper dx (putF (Str.ofString "sheets") (V.ref q1) (putF (Str.ofString "name") u1 []))) = H1
 have F1 : Fr [p] H H1 := by rw [← hG]; exact (((Fr.of (Same.refl _)).upd (List.mem_singleton.mpr rfl) _).new hq1 _).upd (List.mem_singleton.mpr rfl) _
 have hp1 : H1 p = some (.ins A.c_Paper dx [("name", u1), ("sheets", .ref q1)]) := by rw [← hG]; exact zB
 have hq1' : H1 q1 = some (.lst xs) := by rw [← hG, zF e1]; exact zB
 have hl2 : H1 l2 = some (.lst []) := F1 _ _ h2 (ni1 n2)
 refine ⟨_, rfl, l2, rfl, ⟨_, SqL.of hl2⟩, ?_⟩
 refine comp_listT (xs := []) (Nat.zero_le _) (fun i zs H' => H1 = H' ∧ zs = []) ⟨rfl, rfl⟩ (fun i zs H' hw => by obtain ⟨rfl, _⟩ := hw; exact SqL.of hl2) (fun i x zs H' hx hlen hw => by simp at hx) (fun zs H' hw p2 hp2 => ?_)
 obtain ⟨rfl, rfl⟩ := hw
 have s2 := zH hp2 (.lst [])
 have np2 : p2 ≠ p := fun e => by rw [e, hp1] at hp2; cases hp2
 refine ⟨_, rfl, p, _, dx, _, rfl, s2 _ _ hp1, T.cl_Paper, T.no_Paper_totals, (by show 2 < 1000; decide), ?_⟩
 have F2 : Fr [p] H1 (upd (upd H1 p2 (.lst [])) p (oPa A dx u1 q1 p2)) := (Fr.of s2).upd (List.mem_singleton.mpr rfl) _
 refine q q1 p2 _ (F1.trans F2) zB (F2 _ _ hq1' (ni1 e1)) ?_
 show (upd (upd H1 p2 (.lst [])) p (oPa A dx u1 q1 p2)) p2 = _
 rw [zF np2]; exact zB
end
end K42
set_option maxHeartbeats 4000000
namespace K42
open PySem L2
seal PE PT PW PA PS PSs PG PGs PI PO PSet OpR UnR CallR TruR IxR SlR PC PPs
local macro_rules | `(tactic| walk_at "rd1") => `(tactic| first
 | (refine And.intro rfl ?_)
 | (refine And.intro (by assumption) ?_)
 | (refine And.intro (fun _ e => e) ?_)
 | (refine And.intro (TyOf.str _) ?_) | (refine And.intro (TyOf.int _) ?_) | (refine And.intro (TyOf.bl _) ?_) | (refine And.intro TyOf.non ?_)
 | (refine iteT ?_) | (refine iteF ?_)
 | (apply Exists.intro))
local macro_rules | `(tactic| walk_at "rd") => `(tactic| repeat (walk_at "rd1"))
def AsR (A : Adr) (H : Hp) (x : V) (q : Qn) : Prop := ∃ a dx k dk, x = .ref a ∧ H a = some (oAsk A dx (.str q.1) (.ref k) .non) ∧ H k = some (.ins A.c_Whole dk (flds q.2.1 q.2.2))
def ShR (A : Adr) (H : Hp) (x : V) (qs : List Qn) : Prop := ∃ a dx u q1 q2 xs, x = .ref a ∧ H a = some (oSh A dx u .non q1 q2) ∧ H q1 = some (.lst xs) ∧ H q2 = some (.lst []) ∧ Paired (AsR A H) xs qs
def PaR (A : Adr) (H : Hp) (a : Addr) (sh : List (List Qn)) : Prop := ∃ dx u q1 q2 xs, H a = some (oPa A dx u q1 q2) ∧ H q1 = some (.lst xs) ∧ H q2 = some (.lst []) ∧ Paired (ShR A H) xs sh
theorem AsR.same {A : Adr} {H H' : Hp} (f : Same H H') {x : V} {q : Qn} (h : AsR A H x q) : AsR A H' x q := let ⟨a, dx, k, dk, e, h1, h2⟩ := h; ⟨a, dx, k, dk, e, f _ _ h1, f _ _ h2⟩
theorem ShR.same {A : Adr} {H H' : Hp} (f : Same H H') {x : V} {q : List Qn} (h : ShR A H x q) : ShR A H' x q := let ⟨a, dx, u, q1, q2, xs, e, h1, h2, h3, h4⟩ := h; ⟨a, dx, u, q1, q2, xs, e, f _ _ h1, f _ _ h2, f _ _ h3, zL h4 fun _ _ => AsR.same f⟩
theorem PaR.same {A : Adr} {H H' : Hp} (f : Same H H') {a : Addr} {sh : List (List Qn)} (h : PaR A H a sh) : PaR A H' a sh := let ⟨dx, u, q1, q2, xs, h1, h2, h3, h4⟩ := h; ⟨dx, u, q1, q2, xs, f _ _ h1, f _ _ h2, f _ _ h3, zL h4 fun _ _ => ShR.same f⟩
theorem zS {α β : Type} {R : α → β → Prop} : ∀ {as : List α} {bs : List β} {i : Nat} {a : α}, Paired R as bs → as[i]? = some a → ∃ b, bs[i]? = some b ∧ R a b
 | _, _, 0, _, .cons r _, e => by simp at e; subst e; exact ⟨_, rfl, r⟩
 | _, _, i + 1, a, .cons _ t, e => by
   obtain ⟨b, h1, h2⟩ := zS (i := i) (a := a) t (by simpa using e)
   exact ⟨b, by simpa using h1, h2⟩
def fl (sh : List (List Qn)) (i j : Nat) : List Qn := (sh.take i).flatten ++ ((sh[i]?.getD []).take j)
theorem fl_next {sh : List (List Qn)} {i : Nat} {qs : List Qn} (h : sh[i]? = some qs) : fl sh i qs.length = fl sh (i + 1) 0 := by
 unfold fl
 rw [h, Option.getD_some, List.take_length, xB h, List.flatten_append, List.take_zero, List.append_nil]
 simp
theorem fl_step {sh : List (List Qn)} {i j : Nat} {qs : List Qn} {q : Qn} (h : sh[i]? = some qs) (k : qs[j]? = some q) : fl sh i (j + 1) = fl sh i j ++ [q] := by
 unfold fl
 rw [h, Option.getD_some, xB k, List.append_assoc]
theorem fl_all {sh : List (List Qn)} : fl sh sh.length 0 = sh.flatten := by
 unfold fl
 rw [List.take_length, List.take_zero, List.append_nil]
theorem fl_pre {sh : List (List Qn)} {i j : Nat} {qs : List Qn} {q : Qn} (h : sh[i]? = some qs) (k : qs[j]? = some q) : ∃ r, sh.flatten = fl sh i j ++ q :: r := by
 have e1 : sh = sh.take i ++ qs :: sh.drop (i + 1) := by
   have := List.take_append_drop i sh
   rw [List.drop_eq_getElem_cons (List.getElem?_eq_some_iff.mp h).1, (List.getElem?_eq_some_iff.mp h).2] at this
   exact this.symm
 have e2 : qs = qs.take j ++ q :: qs.drop (j + 1) := by
   have := List.take_append_drop j qs
   rw [List.drop_eq_getElem_cons (List.getElem?_eq_some_iff.mp k).1, (List.getElem?_eq_some_iff.mp k).2] at this
   exact this.symm
 refine ⟨qs.drop (j + 1) ++ (sh.drop (i + 1)).flatten, ?_⟩
 unfold fl
 rw [h, Option.getD_some]
 conv => lhs; rw [e1]
 rw [List.flatten_append, List.flatten_cons]
 conv => lhs; rw [e2]
 simp only [List.append_assoc, List.cons_append]
def KdR (A : Adr) (H : Hp) (kvs : List (Key × V)) (qs : List Qn) : Prop := kvs.length ≤ qs.length ∧ ∀ q ∈ qs, ∃ k dk, valV kvs (.inr q.1) = some (.ref k) ∧ H k = some (.ins A.c_Whole dk (flds q.2.1 q.2.2))
theorem KdR.same {A : Adr} {H H' : Hp} (f : Same H H') {kvs : List (Key × V)} {qs : List Qn} (h : KdR A H kvs qs) : KdR A H' kvs qs := ⟨h.1, fun q hq => let ⟨k, dk, h1, h2⟩ := h.2 q hq; ⟨k, dk, h1, f _ _ h2⟩⟩
theorem KdR.put {A : Adr} {H : Hp} {kvs : List (Key × V)} {qs : List Qn} {q : Qn} {k dk : Addr} (h : KdR A H kvs qs) (hn : ∀ p ∈ qs, p.1 ≠ q.1) (hk : H k = some (.ins A.c_Whole dk (flds q.2.1 q.2.2))) : KdR A H (putK kvs (.inr q.1) (.ref k)) (qs ++ [q]) := by
 refine ⟨?_, fun p hp => ?_⟩
 · have := xC kvs (.inr q.1) (.ref k)
   have := h.1
   rw [List.length_append]
   show _ ≤ _ + 1
   omega
 · rw [valV_put]
   rcases List.mem_append.mp hp with e | e
   · obtain ⟨k', dk', h1, h2⟩ := h.2 p e
     rw [if_neg (fun z => hn p e (Sum.inr.inj z))]
     exact ⟨k', dk', h1, h2⟩
   · rw [List.mem_singleton.mp e, if_pos rfl]
     exact ⟨k, dk, rfl, hk⟩
theorem nd_pre {qs : List Qn} (h : (qs.map (·.1)).Nodup) {a : List Qn} {q : Qn} {r : List Qn} (e : qs = a ++ q :: r) : ∀ p ∈ a, p.1 ≠ q.1 := by
 rw [e, List.map_append, List.nodup_append] at h
 intro p hp
 exact h.2.2 p.1 (List.mem_map_of_mem hp) q.1 (List.mem_map_of_mem List.mem_cons_self)
def spKinds (A : Adr) : Sp := fun vs H Q _ => ∃ a sh, vs = [.ref a] ∧ PaR A H a sh ∧ GQ sh.flatten ∧ ∀ d kvs H', H d = none → Same H H' → H' d = some (.dK kvs) → KdR A H kvs sh.flatten → Q (.ref d) H'
def spEaches (A : Adr) : Sp := fun vs H Q _ => ∃ a sh, vs = [.ref a] ∧ PaR A H a sh ∧ GQ sh.flatten ∧ ∀ d kvs H', H d = none → Same H H' → H' d = some (.dK kvs) → Q (.ref d) H'
section
variable {P : Program} {w : World} {K : W.Frag} {mg : Str → Option Value} {base : Heap} {A : Adr}
theorem ok_kinds_of (T : Txt K mg A) : FnOk P w K mg base CX0 1 A.f_kinds_of A.d_kinds_of ["paper"] (spKinds A) := by
 refine T.F_kinds_of.ok sc_kinds_of (fun vs H Q E h => ?_) (fun cdv A0 outer s H vs Q E hr h => ?_)
 · obtain ⟨a, sh, rfl, _⟩ := h
   rfl
 obtain ⟨a, sh, rfl, hP, hG, q⟩ := h
 refine ⟨_, (zD (zR (i := 1) sc_kinds_of.nd rfl (by first | exact Or.inl rfl | exact Or.inr rfl) pe_dnewK)
     (zD (xH PassesOwn.never rfl (yQ (zM (pv 0) rfl)) (yM (i := 2) sc_kinds_of.nd rfl (by first | exact Or.inl rfl | exact Or.inr rfl)) (zG (xH PassesOwn.never rfl (yQ (zM (pv 2) rfl)) (yM (i := 3) sc_kinds_of.nd rfl (by first | exact Or.inl rfl | exact Or.inr rfl)) (zG (yK (yS (zO yO (by rfl) T.n_isinstance Bt.isinstance (zA (pv 3) (zA (pe_gv rfl T.v_Ask) zE)))) (zG (ps_dput (hu_of hr) (pv 1) (zM (pv 3) rfl) (zM (pv 3) rfl) rfl)) zU)))))
     (zG (zP (pv 1))))), ?_⟩
 intro d hd
 obtain ⟨dx, u, q1, q2, xs, p1, p2, p3, p4⟩ := hP
 have s0 := zH hd (.dK [])
 refine ⟨_, rfl, a, _, dx, _, _, rfl, s0 _ _ p1, T.cl_Paper, T.no_Paper_sheets, (by rw [lk2 (by symm)]), q1, rfl, ⟨xs, SqL.of (s0 _ _ p2)⟩, ?_⟩
 have lens := zZ p4
 refine xI (xs := xs) (fun i σ H' => ∃ kvs u v, σ = [some (.ref a), some (.ref d), u, v] ∧ Fr [d] (upd H d (.dK [])) H' ∧ H' d = some (.dK kvs) ∧ KdR A H kvs (fl sh i 0)) ⟨[], _, _, rfl, Fr.of (Same.refl _), zB, Nat.zero_le _, fun q hq => by simp [fl] at hq⟩ (fun i σ H' hi hw => ?_) (fun i x σ H' hx hw => ?_) (fun σ H' hw => ?_)
 · obtain ⟨kvs, u, v, rfl, F, _⟩ := hw
   exact SqL.of (F _ _ (s0 _ _ p2) (ni1 (zI p2 hd)))
 · obtain ⟨kvs, u, v, rfl, F, hd', hK⟩ := hw
   obtain ⟨qs, hqs, hS⟩ := zS p4 hx
   obtain ⟨sa, sdx, su, r1, r2, rs, rfl, a1, a2, a3, a4⟩ := hS
   have nn : ∀ {b : Addr} {o : HO}, H b = some o → H' b = some o := fun {b o} hb => F _ _ (s0 _ _ hb) (ni1 (zI hb hd))
   refine ⟨_, rfl, sa, _, sdx, _, _, rfl, nn a1, T.cl_Sheet, T.no_Sheet_rows, rfl, r1, rfl, ⟨rs, SqL.of (nn a2)⟩, ?_⟩
   refine xI (xs := rs) (fun j σ H' => ∃ kvs v, σ = [some (.ref a), some (.ref d), some (.ref sa), v] ∧ Fr [d] (upd H d (.dK [])) H' ∧ H' d = some (.dK kvs) ∧ KdR A H kvs (fl sh i j)) ⟨kvs, _, rfl, F, hd', hK⟩ (fun j σ H2 hj hw => ?_) (fun j x σ H2 hx2 hw => ?_) (fun σ H2 hw => ?_)
   · obtain ⟨kvs, v, rfl, F, _⟩ := hw
     exact SqL.of (F _ _ (s0 _ _ a2) (ni1 (zI a2 hd)))
   · obtain ⟨kvs, v, rfl, F, hd', hK⟩ := hw
     obtain ⟨q, hq, ra, rdx, k, dk, rfl, b1, b2⟩ := zS a4 hx2
     have nn : ∀ {b : Addr} {o : HO}, H b = some o → H2 b = some o := fun {b o} hb => F _ _ (s0 _ _ hb) (ni1 (zI hb hd))
     have hlen : kvs.length ≤ 8 := by
       obtain ⟨r, hr⟩ := fl_pre hqs hq
       have e1 := hG.2.2
       have e2 := hK.1
       rw [hr, List.length_append] at e1
       omega
     refine ⟨_, rfl, _, _, _, _, rfl, rfl, .old (T.ty_Ask H2 ra rdx _ (nn b1)), T.kr_Ask_Ask, _, rfl, iteT ?_⟩
     refine ⟨_, rfl, ra, _, rdx, _, _, rfl, nn b1, T.cl_Ask, T.no_Ask_kind, rfl, _, rfl, _, rfl, ra, _, rdx, _, _, rfl, nn b1, T.cl_Ask, T.no_Ask_name, rfl, d, _, rfl, DPut.k (k := .inr q.1) hd' (yB (m := 1000) (by omega)), ?_⟩
     obtain ⟨r, hr⟩ := fl_pre hqs hq
     have nk : k ≠ d := zI b2 hd
     refine ⟨_, _, rfl, F.upd (List.mem_singleton.mpr rfl) _, zB, ?_⟩
     rw [fl_step hqs hq]
     exact KdR.put hK (nd_pre hG.1 hr) b2
   · obtain ⟨kvs, v, rfl, F, hd', hK⟩ := hw
     rw [zZ a4, fl_next hqs] at hK
     exact ⟨kvs, _, _, rfl, F, hd', hK⟩
 · obtain ⟨kvs, u, v, rfl, F, hd', hK⟩ := hw
   rw [lens, fl_all] at hK
   exact ⟨_, rfl, q d kvs H' hd (fun b o hb => F _ _ (s0 _ _ hb) (ni1 (zI hb hd))) hd' hK⟩
theorem ok_eaches_of (T : Txt K mg A) : FnOk P w K mg base CX0 1 A.f_eaches_of A.d_eaches_of ["paper"] (spEaches A) := by
 refine T.F_eaches_of.ok sc_eaches_of (fun vs H Q E h => ?_) (fun cdv A0 outer s H vs Q E hr h => ?_)
 · obtain ⟨a, sh, rfl, _⟩ := h
   rfl
 obtain ⟨a, sh, rfl, hP, hG, q⟩ := h
 refine ⟨_, (zD (zR (i := 1) sc_eaches_of.nd rfl (by first | exact Or.inl rfl | exact Or.inr rfl) pe_dnewK)
     (zD (xH PassesOwn.never rfl (yQ (zM (pv 0) rfl)) (yM (i := 2) sc_eaches_of.nd rfl (by first | exact Or.inl rfl | exact Or.inr rfl)) (zG (xH PassesOwn.never rfl (yQ (zM (pv 2) rfl)) (yM (i := 3) sc_eaches_of.nd rfl (by first | exact Or.inl rfl | exact Or.inr rfl)) (zG (yK (yS (zO yO (by rfl) T.n_isinstance Bt.isinstance (zA (pv 3) (zA (pe_gv rfl T.v_Ask) zE)))) (zG (ps_dput (hu_of hr) (pv 1) (zM (pv 3) rfl) (zM (pv 2) rfl) rfl)) zU)))))
     (zG (zP (pv 1))))), ?_⟩
 intro d hd
 obtain ⟨dx, u, q1, q2, xs, p1, p2, p3, p4⟩ := hP
 have s0 := zH hd (.dK [])
 refine ⟨_, rfl, a, _, dx, _, _, rfl, s0 _ _ p1, T.cl_Paper, T.no_Paper_sheets, (by rw [lk2 (by symm)]), q1, rfl, ⟨xs, SqL.of (s0 _ _ p2)⟩, ?_⟩
 have lens := zZ p4
 refine xI (xs := xs) (fun i σ H' => ∃ kvs u v, σ = [some (.ref a), some (.ref d), u, v] ∧ Fr [d] (upd H d (.dK [])) H' ∧ H' d = some (.dK kvs) ∧ kvs.length ≤ (fl sh i 0).length) ⟨[], _, _, rfl, Fr.of (Same.refl _), zB, Nat.zero_le _⟩ (fun i σ H' hi hw => ?_) (fun i x σ H' hx hw => ?_) (fun σ H' hw => ?_)
 · obtain ⟨kvs, u, v, rfl, F, _⟩ := hw
   exact SqL.of (F _ _ (s0 _ _ p2) (ni1 (zI p2 hd)))
 · obtain ⟨kvs, u, v, rfl, F, hd', hK⟩ := hw
   obtain ⟨qs, hqs, hS⟩ := zS p4 hx
   obtain ⟨sa, sdx, su, r1, r2, rs, rfl, a1, a2, a3, a4⟩ := hS
   have nn : ∀ {b : Addr} {o : HO}, H b = some o → H' b = some o := fun {b o} hb => F _ _ (s0 _ _ hb) (ni1 (zI hb hd))
   refine ⟨_, rfl, sa, _, sdx, _, _, rfl, nn a1, T.cl_Sheet, T.no_Sheet_rows, rfl, r1, rfl, ⟨rs, SqL.of (nn a2)⟩, ?_⟩
   refine xI (xs := rs) (fun j σ H' => ∃ kvs v, σ = [some (.ref a), some (.ref d), some (.ref sa), v] ∧ Fr [d] (upd H d (.dK [])) H' ∧ H' d = some (.dK kvs) ∧ kvs.length ≤ (fl sh i j).length) ⟨kvs, _, rfl, F, hd', hK⟩ (fun j σ H2 hj hw => ?_) (fun j x σ H2 hx2 hw => ?_) (fun σ H2 hw => ?_)
   · obtain ⟨kvs, v, rfl, F, _⟩ := hw
     exact SqL.of (F _ _ (s0 _ _ a2) (ni1 (zI a2 hd)))
   · obtain ⟨kvs, v, rfl, F, hd', hK⟩ := hw
     obtain ⟨q, hq, ra, rdx, k, dk, rfl, b1, b2⟩ := zS a4 hx2
     have nn : ∀ {b : Addr} {o : HO}, H b = some o → H2 b = some o := fun {b o} hb => F _ _ (s0 _ _ hb) (ni1 (zI hb hd))
     have hlen : kvs.length ≤ 8 := by
       obtain ⟨r, hr⟩ := fl_pre hqs hq
       have e1 := hG.2.2
       have e2 := hK
       rw [hr, List.length_append] at e1
       omega
     refine ⟨_, rfl, _, _, _, _, rfl, rfl, .old (T.ty_Ask H2 ra rdx _ (nn b1)), T.kr_Ask_Ask, _, rfl, iteT ?_⟩
     refine ⟨_, rfl, sa, _, sdx, _, _, rfl, nn a1, T.cl_Sheet, T.no_Sheet_each, rfl, _, rfl, _, rfl, ra, _, rdx, _, _, rfl, nn b1, T.cl_Ask, T.no_Ask_name, rfl, d, _, rfl, DPut.k (k := .inr q.1) hd' (yB (m := 1000) (by omega)), ?_⟩
     refine ⟨_, _, rfl, F.upd (List.mem_singleton.mpr rfl) _, zB, ?_⟩
     rw [fl_step hqs hq, List.length_append]
     have := xC kvs (.inr q.1) .non
     show _ ≤ _ + 1
     omega
   · obtain ⟨kvs, v, rfl, F, hd', hK⟩ := hw
     rw [zZ a4, fl_next hqs] at hK
     exact ⟨kvs, _, _, rfl, F, hd', hK⟩
 · obtain ⟨kvs, u, v, rfl, F, hd', hK⟩ := hw
   exact ⟨_, rfl, q d kvs H' hd (fun b o hb => F _ _ (s0 _ _ hb) (ni1 (zI hb hd))) hd'⟩
def spTog (A : Adr) : Sp := fun vs H Q _ => ∃ a sh, vs = [.ref a] ∧ PaR A H a sh ∧ ∀ d H', H d = none → Same H H' → H' d = some (.dK []) → Q (.ref d) H'
theorem ok_all_together (T : Txt K mg A) : FnOk P w K mg base CX0 1 A.f_all_together A.d_all_together ["paper"] (spTog A) := by
 refine T.F_all_together.ok sc_all_together (fun vs H Q E h => ?_) (fun cdv A0 outer s H vs Q E hr h => ?_)
 · obtain ⟨a, sh, rfl, _⟩ := h
   rfl
 obtain ⟨a, sh, rfl, hP, q⟩ := h
 refine ⟨_, (zG (zP (yZ (call_dict_nil rfl) (by rfl) T.n_dict Bt.dict (zA (pe_compT (compOk2_of (yU (x := "name") (M := ["paper"]) rfl (by rfl)) (by rfl) (by symm)) rfl (yQ (zM (pv 0) rfl)) (fun _ _ _ _ => pifs_nil) (fun _ _ _ _ => (yI (zA (pv 0) (zA pe_no zE))))) zE)))), ?_⟩
 obtain ⟨dx, u, q1, q2, xs, p1, p2, p3, p4⟩ := hP
 refine ⟨_, rfl, a, _, dx, _, _, rfl, p1, T.cl_Paper, T.no_Paper_totals, rfl, q2, rfl, ⟨[], SqL.of p3⟩, ?_⟩
 refine comp_listT (xs := []) (Nat.zero_le _) (fun i zs H' => H = H' ∧ zs = []) ⟨rfl, rfl⟩ (fun i zs H' hw => by obtain ⟨rfl, _⟩ := hw; exact SqL.of p3) (fun i x zs H' hx hlen hw => by simp at hx) (fun zs H' hw p2' hp2 => ?_)
 obtain ⟨rfl, rfl⟩ := hw
 refine ⟨p2', rfl, zB, fun d hd => ?_⟩
 exact q d _ (upd_none hd).2 ((zH hp2 _).trans (zH hd _)) zB
end
end K42
set_option maxHeartbeats 4000000
namespace K42
open PySem L2
seal PE PT PW PA PS PSs PG PGs PI PO PSet OpR UnR CallR TruR IxR SlR PC PPs
local macro_rules | `(tactic| walk_at "rd1") => `(tactic| first
 | (refine And.intro rfl ?_)
 | (refine And.intro (by assumption) ?_)
 | (refine And.intro (fun _ e => e) ?_)
 | (refine And.intro (TyOf.str _) ?_) | (refine And.intro (TyOf.int _) ?_) | (refine And.intro (TyOf.bl _) ?_) | (refine And.intro TyOf.non ?_)
 | (refine iteT ?_) | (refine iteF ?_)
 | (apply Exists.intro))
local macro_rules | `(tactic| walk_at "rd") => `(tactic| repeat (walk_at "rd1"))
abbrev Bk := List (List Key × V)
def keyOf (z : Str) : List Key := [.inr z, .inr (Str.ofString "")]
def getB (b : Bk) (z : Str) : V := (valV b (keyOf z)).getD .non
def fitQ (b : Bk) (q : Qn) : Bool := fitW q.2.1 q.2.2 (getB b q.1)
def askE (b : Bk) (q : Qn) : List V := [.str (Str.ofString "ask"), .str q.1, .str (Str.ofString ""), getB b q.1]
def opnE (q : Qn) : List V := [.str (Str.ofString "open"), .str q.1, .str (Str.ofString "")]
def endE : List V := [.str (Str.ofString "end")]
def TpR (H : Hp) (x : V) (t : List V) : Prop := ∃ a, x = .ref a ∧ H a = some (.tup t)
theorem TpR.same {H H' : Hp} (f : Same H H') {x : V} {t : List V} (h : TpR H x t) : TpR H' x t := let ⟨a, e, h1⟩ := h; ⟨a, e, f _ _ h1⟩
def StL (b : Bk) (l : List Qn) (L : List (List V)) (ov : Bool) : Prop := (ov = false ∧ (∀ q ∈ l, fitQ b q = true) ∧ L = l.map (askE b)) ∨ (ov = true ∧ ∃ pre q r, l = pre ++ q :: r ∧ (∀ p ∈ pre, fitQ b p = true) ∧ fitQ b q = false ∧ L = pre.map (askE b) ++ [opnE q])
theorem StL.nil {b : Bk} : StL b [] [] false := .inl ⟨rfl, (fun q hq => by cases hq), rfl⟩
theorem StL.yes {b : Bk} {l : List Qn} {L : List (List V)} (h : StL b l L false) {q : Qn} (hf : fitQ b q = true) : StL b (l ++ [q]) (L ++ [askE b q]) false := by
 rcases h with ⟨_, h1, h2⟩ | ⟨e, _⟩
 · refine .inl ⟨rfl, fun p hp => ?_, by rw [h2, List.map_append]; rfl⟩
   rcases List.mem_append.mp hp with e | e
   · exact h1 p e
   · rw [List.mem_singleton.mp e]; exact hf
 · cases e
theorem StL.no {b : Bk} {l : List Qn} {L : List (List V)} (h : StL b l L false) {q : Qn} (hf : fitQ b q = false) : StL b (l ++ [q]) (L ++ [opnE q]) true := by
 rcases h with ⟨_, h1, h2⟩ | ⟨e, _⟩
 · exact .inr ⟨rfl, l, q, [], rfl, h1, hf, by rw [h2]⟩
 · cases e
theorem StL.more {b : Bk} {l : List Qn} {L : List (List V)} (h : StL b l L true) (m : List Qn) : StL b (l ++ m) L true := by
 rcases h with ⟨e, _⟩ | ⟨_, pre, q, r, h1, h2⟩
 · cases e
 · exact .inr ⟨rfl, pre, q, r ++ m, by rw [h1, List.append_assoc]; rfl, h2⟩
structure GA where
 dx : Addr
 pa : Addr
 kd : Addr
 ed : Addr
 tg : Addr
 aq : Addr
 lg : Addr
 db : Addr
 bk : Addr
abbrev oGo (A : Adr) (c : GA) (ov : Bool) : HO := .ins A.c_Straight c.dx [("paper", .ref c.pa), ("alone", .str (Str.ofString "")), ("kinds", .ref c.kd), ("eaches", .ref c.ed), ("together", .ref c.tg), ("asked", .ref c.aq), ("log", .ref c.lg), ("doubles", .ref c.db), ("over", .bl ov), ("book", .ref c.bk)]
def AqR (kvs : List (Key × V)) (l : List Qn) : Prop := kvs.length ≤ l.length ∧ ∀ z, (∀ q ∈ l, q.1 ≠ z) → valV kvs (.inr z) = none
theorem AqR.put {kvs : List (Key × V)} {l : List Qn} (h : AqR kvs l) {q : Qn} {v : V} : AqR (putK kvs (.inr q.1) v) (l ++ [q]) := by
 refine ⟨?_, fun z hz => ?_⟩
 · have := xC kvs (.inr q.1) v
   have := h.1
   rw [List.length_append]
   show _ ≤ _ + 1
   omega
 · rw [valV_put, if_neg (fun e => hz q (List.mem_append_right _ (List.mem_singleton.mpr rfl)) (Sum.inr.inj e).symm)]
   exact h.2 z fun p hp => hz p (List.mem_append_left _ hp)
structure GoS (A : Adr) (H0 : Hp) (c : GA) (sh : List (List Qn)) (b : Bk) (g : Addr) (H : Hp) (l : List Qn) (L : List (List V)) (ov : Bool) : Prop where
 same : Same H0 H
 ng : H0 g = none
 nlg : H0 c.lg = none
 naq : H0 c.aq = none
 pa : PaR A H0 c.pa sh
 bk : H0 c.bk = some (.dT b)
 kd : ∃ kvs, H c.kd = some (.dK kvs) ∧ KdR A H0 kvs sh.flatten
 kdaq : c.kd ≠ c.aq
 go : H g = some (oGo A c ov)
 aq : ∃ kvs, H c.aq = some (.dK kvs) ∧ AqR kvs l
 lg : ∃ ts, H c.lg = some (.lst ts) ∧ Paired (TpR H) ts L
section
variable {A : Adr} {H0 H H' : Hp} {c : GA} {sh : List (List Qn)} {b : Bk} {g : Addr} {l : List Qn} {L : List (List V)} {ov : Bool}
theorem GoS.mono (h : GoS A H0 c sh b g H l L ov) (s : Same H H') : GoS A H0 c sh b g H' l L ov :=
 ⟨h.same.trans s, h.ng, h.nlg, h.naq, h.pa, h.bk, let ⟨k, a, e⟩ := h.kd; ⟨k, s _ _ a, e⟩, h.kdaq, s _ _ h.go, let ⟨k, a, e⟩ := h.aq; ⟨k, s _ _ a, e⟩, let ⟨k, a, e⟩ := h.lg; ⟨k, s _ _ a, zL e fun _ _ => TpR.same s⟩⟩
theorem same_upd {H0 H : Hp} {m : Addr} (s : Same H0 H) (n : H0 m = none) (o : HO) : Same H0 (upd H m o) := fun x u hx => by
 rw [zF (zI hx n)]; exact s _ _ hx
theorem tp_upd {m : Addr} {o u : HO} (hm : H m = some u) (hu : ∀ t, u ≠ .tup t) {ts : List V} (h : Paired (TpR H) ts L) : Paired (TpR (upd H m o)) ts L := zL h fun x t ⟨a, e, h1⟩ => ⟨a, e, by
 rw [zF (yE h1 hm fun z => hu t z.symm)]; exact h1⟩
theorem GoS.setOv (h : GoS A H0 c sh b g H l L ov) (o : Bool) : GoS A H0 c sh b g (upd H g (oGo A c o)) l L o := by
 obtain ⟨k, k1, k2⟩ := h.kd
 obtain ⟨a, a1, a2⟩ := h.aq
 obtain ⟨t, t1, t2⟩ := h.lg
 refine ⟨same_upd h.same h.ng _, h.ng, h.nlg, h.naq, h.pa, h.bk, ⟨k, ?_, k2⟩, h.kdaq, zB, ⟨a, ?_, a2⟩, ⟨t, ?_, tp_upd h.go (fun _ z => by cases z) t2⟩⟩
 · rw [zF (yE k1 h.go (by intro z; cases z))]; exact k1
 · rw [zF (yE a1 h.go (by intro z; cases z))]; exact a1
 · rw [zF (yE t1 h.go (by intro z; cases z))]; exact t1
theorem GoS.app (h : GoS A H0 c sh b g H l L ov) {ts : List V} (t1 : H c.lg = some (.lst ts)) {t : Addr} {e : List V} (ht : H t = some (.tup e)) : GoS A H0 c sh b g (upd H c.lg (.lst (ts ++ [.ref t]))) l (L ++ [e]) ov := by
 obtain ⟨k, k1, k2⟩ := h.kd
 obtain ⟨a, a1, a2⟩ := h.aq
 obtain ⟨t', t1', t2⟩ := h.lg
 rw [t1] at t1'; cases t1'
 refine ⟨same_upd h.same h.nlg _, h.ng, h.nlg, h.naq, h.pa, h.bk, ⟨k, ?_, k2⟩, h.kdaq, ?_, ⟨a, ?_, a2⟩, ⟨_, zB, xE (tp_upd t1 (fun _ z => by cases z) t2) (.cons ⟨t, rfl, ?_⟩ .nil)⟩⟩
 · rw [zF (yE k1 t1 (by intro z; cases z))]; exact k1
 · rw [zF (yE h.go t1 (by intro z; cases z))]; exact h.go
 · rw [zF (yE a1 t1 (by intro z; cases z))]; exact a1
 · rw [zF (yE ht t1 (by intro z; cases z))]; exact ht
theorem AqR.weak {kvs : List (Key × V)} (h : AqR kvs l) (m : List Qn) : AqR kvs (l ++ m) := ⟨by have := h.1; rw [List.length_append]; omega, fun z hz => h.2 z fun q hq => hz q (List.mem_append_left _ hq)⟩
theorem GoS.weak (h : GoS A H0 c sh b g H l L ov) (m : List Qn) : GoS A H0 c sh b g H (l ++ m) L ov :=
 ⟨h.same, h.ng, h.nlg, h.naq, h.pa, h.bk, h.kd, h.kdaq, h.go, let ⟨k, a, e⟩ := h.aq; ⟨k, a, e.weak m⟩, h.lg⟩
theorem GoS.putA (h : GoS A H0 c sh b g H l L ov) {kvs : List (Key × V)} (a1 : H c.aq = some (.dK kvs)) {q : Qn} {v : V} : GoS A H0 c sh b g (upd H c.aq (.dK (putK kvs (.inr q.1) v))) (l ++ [q]) L ov := by
 obtain ⟨k, k1, k2⟩ := h.kd
 obtain ⟨a, a1', a2⟩ := h.aq
 obtain ⟨t, t1, t2⟩ := h.lg
 rw [a1] at a1'; cases a1'
 refine ⟨same_upd h.same h.naq _, h.ng, h.nlg, h.naq, h.pa, h.bk, ⟨k, ?_, k2⟩, h.kdaq, ?_, ⟨_, zB, a2.put⟩, ⟨t, ?_, tp_upd a1 (fun _ z => by cases z) t2⟩⟩
 · rw [zF h.kdaq]; exact k1
 · rw [zF (yE h.go a1 (by intro z; cases z))]; exact h.go
 · rw [zF (yE t1 a1 (by intro z; cases z))]; exact t1
theorem GoS.other (h : GoS A H0 c sh b g H l L ov) {d : Addr} {u o : HO} (hd : H d = some u) (n0 : H0 d = none) (nk : c.kd ≠ d) (ng : g ≠ d) (nl : c.lg ≠ d) (na : c.aq ≠ d) (nt : ∀ t, u ≠ .tup t) : GoS A H0 c sh b g (upd H d o) l L ov := by
 obtain ⟨k, k1, k2⟩ := h.kd
 obtain ⟨a, a1, a2⟩ := h.aq
 obtain ⟨t, t1, t2⟩ := h.lg
 refine ⟨same_upd h.same n0 _, h.ng, h.nlg, h.naq, h.pa, h.bk, ⟨k, ?_, k2⟩, h.kdaq, ?_, ⟨a, ?_, a2⟩, ⟨t, ?_, tp_upd hd nt t2⟩⟩
 · rw [zF nk]; exact k1
 · rw [zF ng]; exact h.go
 · rw [zF na]; exact a1
 · rw [zF nl]; exact t1
theorem GoS.book (h : GoS A H0 c sh b g H l L ov) : H c.bk = some (.dT b) := h.same _ _ h.bk
end
def GB (b : Bk) : Prop := b.length ≤ 1000 ∧ ∀ z, getB b z = .non ∨ ∃ n, getB b z = .int n
def NF (l : List Qn) (z : Str) : Prop := ∀ q ∈ l, q.1 ≠ z
def spNote (A : Adr) : Sp := fun vs H Q _ => ∃ H0 c sh b g l L ov q n, vs = [.ref g, .str q.1, .str (Str.ofString ""), .int n] ∧ GoS A H0 c sh b g H l L ov ∧ NF l q.1 ∧ l.length ≤ 1000 ∧ ∀ H', GoS A H0 c sh b g H' (l ++ [q]) L ov → Q .non H'
def spStop (A : Adr) : Sp := fun vs H Q _ => ∃ H0 c sh b g l L ov t e, vs = [.ref g, .ref t] ∧ GoS A H0 c sh b g H l L ov ∧ H t = some (.tup e) ∧ L.length ≤ 1000 ∧ ∀ H', GoS A H0 c sh b g H' l (L ++ [e]) true → Q .non H'
def spIsSo : Sp := fun vs H Q _ => ∃ g x, vs = [g, .non, x] ∧ Q (.bl true) H
def spPut (A : Adr) : Sp := fun vs H Q _ => ∃ H0 c sh b g l L q, vs = [.ref g, .str q.1, .str (Str.ofString "")] ∧ GoS A H0 c sh b g H l L false ∧ GB b ∧ q ∈ sh.flatten ∧ NF l q.1 ∧ l.length ≤ 1000 ∧ L.length ≤ 1000 ∧
 (fitQ b q = true → ∀ H', GoS A H0 c sh b g H' (l ++ [q]) (L ++ [askE b q]) false → Q .non H') ∧ (fitQ b q = false → ∀ H', GoS A H0 c sh b g H' (l ++ [q]) (L ++ [opnE q]) true → Q .non H')
section
variable {P : Program} {w : World} {K : W.Frag} {mg : Str → Option Value} {base : Heap} {A : Adr}
theorem ok_note (T : Txt K mg A) : FnOk P w K mg base CX0 1 A.f_c_Going_note A.d_c_Going_note ["self", "question", "thing", "known"] (spNote A) := by
 refine T.F_c_Going_note.ok sc_c_Going_note (fun vs H Q E h => ?_) (fun cdv A0 outer s H vs Q E hr h => ?_)
 · obtain ⟨H0, c, sh, b, g, l, L, ov, q, n, rfl, _⟩ := h
   rfl
 obtain ⟨H0, c, sh, b, g, l, L, ov, q, n, rfl, hG, hn, hl, k⟩ := h
 refine ⟨_, (zD (yK (zQ (op_notIn_d (hu_of hr)) (pv 1) (zM (pv 0) rfl) (by rfl)) (zG (ps_dput (hu_of hr) (zM (pv 0) rfl) (pv 1) pe_dnewK rfl)) zU)
     (zG (ps_dput (hu_of hr) (pe_dget (hu_of hr) (zM (pv 0) rfl) (pv 1) (fun _ _ => rfl)) (pv 2) (pv 3) rfl))), ?_⟩
 obtain ⟨kvs, a1, a2⟩ := hG.aq
 have none1 := a2.2 q.1 hn
 have lk : ∀ ov', ([("paper", .ref c.pa), ("alone", .str (Str.ofString "")), ("kinds", .ref c.kd), ("eaches", .ref c.ed), ("together", .ref c.tg), ("asked", .ref c.aq), ("log", .ref c.lg), ("doubles", .ref c.db), ("over", .bl ov'), ("book", .ref c.bk)] : List (Str × V)).lookup (Str.ofString "asked") = some (.ref c.aq) := fun _ => rfl
 refine ⟨_, rfl, _, rfl, g, _, c.dx, _, _, rfl, hG.go, T.cl_Straight, T.no_Straight_asked, lk _, c.aq, _, rfl, DGet.k (k := .inr q.1) a1, _, rfl, ?_⟩
 rw [none1]
 refine iteT ?_
 intro d hd
 have s1 := zH hd (.dK [])
 have G1 := hG.mono s1
 refine ⟨_, rfl, g, _, c.dx, _, _, rfl, G1.go, T.cl_Straight, T.no_Straight_asked, lk _, _, rfl, c.aq, _, rfl, DPut.k (k := .inr q.1) (s1 _ _ a1) (yB (m := 1000000) (by have := a2.1; omega)), ?_⟩
 have G2 := G1.putA (s1 _ _ a1) (q := q) (v := .ref d)
 have hd2 : upd (upd H d (.dK [])) c.aq (.dK (putK kvs (.inr q.1) (.ref d))) d = some (.dK []) := by
   rw [zF (Ne.symm (zI a1 hd))]; exact zB
 have ha2 : upd (upd H d (.dK [])) c.aq (.dK (putK kvs (.inr q.1) (.ref d))) c.aq = some (.dK (putK kvs (.inr q.1) (.ref d))) := zB
 generalize upd (upd H d (.dK [])) c.aq (.dK (putK kvs (.inr q.1) (.ref d))) = H2 at G2 hd2 ha2 ⊢
 have g2 : DGet H2 c.aq (.str q.1) (some (.ref d)) := by
   have := DGet.k (k := .inr q.1) ha2
   rw [valV_put, if_pos rfl] at this
   exact this
 refine ⟨_, rfl, _, rfl, g, _, c.dx, _, _, rfl, G2.go, T.cl_Straight, T.no_Straight_asked, lk _, _, rfl, c.aq, _, rfl, g2, _, rfl, d, _, rfl, DPut.k (k := .inr (Str.ofString "")) hd2 (yB (m := 10) (by decide)), ?_⟩
 obtain ⟨kk, kk1, _⟩ := hG.kd
 obtain ⟨tt, tt1, _⟩ := hG.lg
 exact k _ (G2.other hd2 (xA hG.same hd) (zI kk1 hd) (zI hG.go hd) (zI tt1 hd) (zI a1 hd) (fun _ z => by cases z))
theorem ok_stop (T : Txt K mg A) : FnOk P w K mg base CX0 1 A.f_c_Going_stop_with A.d_c_Going_stop_with ["self", "row"] (spStop A) := by
 refine T.F_c_Going_stop_with.ok sc_c_Going_stop_with (fun vs H Q E h => ?_) (fun cdv A0 outer s H vs Q E hr h => ?_)
 · obtain ⟨H0, c, sh, b, g, l, L, ov, t, e, rfl, _⟩ := h
   rfl
 obtain ⟨H0, c, sh, b, g, l, L, ov, t, e, rfl, hG, ht, hl, k⟩ := h
 refine ⟨_, (zD (yP (pe_bm PySem.F.plainAttrs_list PySem.F.slot_list_append PySem.F.type_list_append xO (zM (pv 0) rfl) (zA (pv 1) zE)))
     (zG (yN (pv 0) pe_bl rfl))), ?_⟩
 obtain ⟨ts, t1, t2⟩ := hG.lg
 have tl := zZ t2
 refine ⟨_, rfl, g, _, c.dx, _, _, rfl, hG.go, T.cl_Straight, T.no_Straight_log, rfl, .inl ⟨rfl, _, SqL.of t1⟩, _, rfl, c.lg, _, _, rfl, rfl, t1, yB (m := 1000000) (by omega), ?_⟩
 have G1 := hG.app t1 ht
 refine ⟨_, rfl, g, _, c.dx, _, rfl, G1.go, T.cl_Straight, T.no_Straight_over, (by show 10 < 1000; decide), ?_⟩
 exact k _ (G1.setOv true)
theorem ok_is_so (T : Txt K mg A) : FnOk P w K mg base CX0 1 A.f_c_Straight_is_so A.d_c_Straight_is_so ["self", "saying", "thing"] spIsSo := by
 refine T.F_c_Straight_is_so.ok sc_c_Straight_is_so (fun vs H Q E h => ?_) (fun cdv A0 outer s H vs Q E hr h => ?_)
 · obtain ⟨g, x, rfl, _⟩ := h
   rfl
 obtain ⟨g, x, rfl, k⟩ := h
 refine ⟨_, (zG (zP (pe_or (xR op_isN (pv 1) xM (zW _)) (pe_one pe_no)))), ?_⟩
 exact ⟨_, rfl, rfl, _, rfl, iteT k⟩
end
end K42
set_option maxHeartbeats 4000000
namespace K42
open PySem L2
seal PE PT PW PA PS PSs PG PGs PI PO PSet OpR UnR CallR TruR IxR SlR PC PPs
local macro_rules | `(tactic| walk_at "rd1") => `(tactic| first
 | (refine And.intro rfl ?_)
 | (refine And.intro (by assumption) ?_)
 | (refine And.intro (fun _ e => e) ?_)
 | (refine And.intro (TyOf.str _) ?_) | (refine And.intro (TyOf.int _) ?_) | (refine And.intro (TyOf.bl _) ?_) | (refine And.intro TyOf.non ?_)
 | (refine iteT ?_) | (refine iteF ?_)
 | (apply Exists.intro))
local macro_rules | `(tactic| walk_at "rd") => `(tactic| repeat (walk_at "rd1"))
def JN {K : W.Frag} {mg : Str → Option Value} {A : Adr} (T : Txt K mg A) {P : Program} {w : World} {base : Heap} : MethJ P w K mg base CX0 4 A.c_Straight "note" := ⟨_, _, _, _, [], [], T.cl_Straight, T.me_Straight_note, (ok_note T).mono (by decide), T.b_c_Going_note, .nil⟩
def JSt {K : W.Frag} {mg : Str → Option Value} {A : Adr} (T : Txt K mg A) {P : Program} {w : World} {base : Heap} : MethJ P w K mg base CX0 4 A.c_Straight "stop_with" := ⟨_, _, _, _, [], [], T.cl_Straight, T.me_Straight_stop_with, (ok_stop T).mono (by decide), T.b_c_Going_stop_with, .nil⟩
def JSo {K : W.Frag} {mg : Str → Option Value} {A : Adr} (T : Txt K mg A) {P : Program} {w : World} {base : Heap} : MethJ P w K mg base CX0 4 A.c_Straight "is_so" := ⟨_, _, _, _, [], [], T.cl_Straight, T.me_Straight_is_so, (ok_is_so T).mono (by decide), T.b_c_Straight_is_so, .nil⟩
abbrev gF (c : GA) (ov : Bool) : List (Str × V) := [("paper", .ref c.pa), ("alone", .str (Str.ofString "")), ("kinds", .ref c.kd), ("eaches", .ref c.ed), ("together", .ref c.tg), ("asked", .ref c.aq), ("log", .ref c.lg), ("doubles", .ref c.db), ("over", .bl ov), ("book", .ref c.bk)]
section
variable {P : Program} {w : World} {K : W.Frag} {mg : Str → Option Value} {base : Heap} {A : Adr}
theorem ok_put (T : Txt K mg A) : FnOk P w K mg base CX0 5 A.f_c_Straight_put A.d_c_Straight_put ["self", "question", "thing"] (spPut A) := by
 refine T.F_c_Straight_put.ok sc_c_Straight_put (fun vs H Q E h => ?_) (fun cdv A0 outer s H vs Q E hr h => ?_)
 · obtain ⟨H0, c, sh, b, g, l, L, q, rfl, _⟩ := h
   rfl
 obtain ⟨H0, c, sh, b, g, l, L, q, rfl, hG, hB, hq, hn, hl, hL, ky, kn⟩ := h
 obtain ⟨k_fits, e1⟩ : ∃ k : Nat, k = 4 := ⟨_, rfl⟩
 obtain ⟨k_note, e2⟩ : ∃ k : Nat, k = 4 := ⟨_, rfl⟩
 obtain ⟨k_rank, e3⟩ : ∃ k : Nat, k = 4 := ⟨_, rfl⟩
 obtain ⟨k_stop_with, e4⟩ : ∃ k : Nat, k = 4 := ⟨_, rfl⟩
 refine ⟨_, (zD (zR (i := 3) sc_c_Straight_put.nd rfl (by first | exact Or.inl rfl | exact Or.inr rfl) (pe_dget (hu_of hr) (zM (pv 0) rfl) (pv 1) (fun _ _ => rfl)))
     (zD (zR (i := 4) sc_c_Straight_put.nd rfl (by first | exact Or.inl rfl | exact Or.inr rfl) (pe_dget1 (hu_of hr) (zM (pv 0) rfl) (yI (zA (pv 1) (zA (pv 2) zE))) ⟨rfl, rfl, rfl, rfl⟩))
     (zG (yK (yS (yV (CX := CX0) (k := 4) (hr.mono (by first | decide | omega)) zV (pv 3) (zA (pv 4) zE))) (zD (yP (pe_bm PySem.F.plainAttrs_list PySem.F.slot_list_append PySem.F.type_list_append xO (zM (pv 0) rfl) (zA (yI (zA zK (zA (pv 1) (zA (pv 2) (zA (pv 4) zE))))) zE)))
     (zG (yP (yV (CX := CX0) (k := k_note) (hr.mono (by first | decide | omega)) zV (pv 0) (zA (pv 1) (zA (pv 2) (zA (yV (CX := CX0) (k := 4) (hr.mono (by first | decide | omega)) zV (pv 3) (zA (pv 4) zE)) zE))))))) (zG (yP (yV (CX := CX0) (k := k_stop_with) (hr.mono (by first | decide | omega)) zV (pv 0) (zA (yI (zA zK (zA (pv 1) (zA (pv 2) zE)))) zE)))))))), ?_⟩
 subst e1 e2 e3 e4
 obtain ⟨kvs, k1, k2⟩ := hG.kd
 obtain ⟨kp, kdx, k3, k4⟩ := k2.2 q hq
 obtain ⟨ts, t1, t2⟩ := hG.lg
 have tl := zZ t2
 refine ⟨_, rfl, g, _, c.dx, gF c false, _, rfl, hG.go, T.cl_Straight, T.no_Straight_kinds, rfl, _, rfl, c.kd, _, rfl, (by rw [← k3]; exact DGet.k (k := .inr q.1) k1), ?_⟩
 refine ⟨_, rfl, g, _, c.dx, gF c false, _, rfl, hG.go, T.cl_Straight, T.no_Straight_book, rfl, c.bk, rfl, .inr ⟨b, .inl hG.book⟩, _, rfl, _, rfl, (by show 2 ≤ sizeLine; decide), fun t ht => ?_⟩
 have s1 := zH ht (.tup [.str q.1, .str (Str.ofString "")])
 have G1 := hG.mono s1
 refine ⟨_, DGet.t (k := keyOf q.1) G1.book zB, ?_⟩
 have hfq : fitQ b q = fitW q.2.1 q.2.2 (getB b q.1) := rfl
 have hae : askE b q = [.str (Str.ofString "ask"), .str q.1, .str (Str.ofString ""), getB b q.1] := rfl
 have hv : (valV b (keyOf q.1)).getD .non = getB b q.1 := rfl
 have hB1 := hB.2 q.1
 dsimp only [gName, List.set_cons_succ, List.set_cons_zero]
 rw [hv]
 generalize getB b q.1 = v at hfq hae hB1 ⊢
 have th : ∃ _ : Thing K (upd H t (.tup [.str q.1, .str (Str.ofString "")])) v, True := by
   rcases hB1 with e | ⟨n, e⟩
   · rw [e]; exact ⟨thNon T _, trivial⟩
   · rw [e]; exact ⟨thInt T _ n, trivial⟩
 obtain ⟨th, _⟩ := th
 have hk := G1.same _ _ k4
 refine ⟨_, rfl, kp, _, kdx, _, JF T, rfl, hk, lk0 (by symm) (by symm), _, rfl, kp, kdx, _, _, v, th, rfl, hk, _, rfl, ?_⟩
 rw [← hfq]
 have t1' := s1 _ _ t1
 refine ite2 (fun c1 => ?_) (fun c1 => ?_)
 · have hint : ∃ n, v = .int n := by
     rcases hB1 with e | e
     · rw [e] at hfq; rw [hfq] at c1; cases c1
     · exact e
   obtain ⟨n, rfl⟩ := hint
   refine ⟨_, rfl, g, _, c.dx, gF c false, _, rfl, G1.go, T.cl_Straight, T.no_Straight_log, rfl, .inl ⟨rfl, _, SqL.of t1'⟩, _, rfl, _, rfl, _, rfl, (by show 4 ≤ sizeLine; decide), fun t' ht' => ?_⟩
   have s2 := zH ht' (.tup [.str (Str.ofString "ask"), .str q.1, .str (Str.ofString ""), .int n])
   refine ⟨c.lg, _, _, rfl, rfl, s2 _ _ t1', yB (m := 1000000) (by omega), ?_⟩
   have G2 := (G1.mono s2).app (s2 _ _ t1') (e := askE b q) (t := t') (by rw [hae]; exact zB)
   refine ⟨_, rfl, g, _, c.dx, gF c false, JN T, rfl, G2.go, rfl, _, rfl, _, rfl, _, rfl, kp, _, kdx, _, JK T, rfl, G2.same _ _ k4, lk0 (by symm) (by symm), _, rfl, _, _, rfl, ?_⟩
   exact ⟨H0, c, sh, b, g, l, _, false, q, n, rfl, G2, hn, hl, fun H' G' => ky c1 H' G'⟩
 · refine ⟨_, rfl, g, _, c.dx, gF c false, JSt T, rfl, G1.go, rfl, _, rfl, _, rfl, (by show 3 ≤ sizeLine; decide), fun t' ht' => ?_⟩
   have s2 := zH ht' (.tup [.str (Str.ofString "open"), .str q.1, .str (Str.ofString "")])
   refine ⟨H0, c, sh, b, g, l ++ [q], L, false, t', opnE q, rfl, (G1.mono s2).weak [q], zB, hL, fun H' G' => ?_⟩
   exact kn (Bool.eq_false_iff.mpr c1) H' G'
theorem StL.len {b : Bk} {l : List Qn} {L : List (List V)} {ov : Bool} (h : StL b l L ov) : L.length ≤ l.length := by
 rcases h with ⟨_, _, rfl⟩ | ⟨_, pre, q, r, rfl, _, _, rfl⟩
 · rw [List.length_map]; exact Nat.le_refl _
 · simp only [List.length_append, List.length_map, List.length_cons, List.length_nil]
   omega
theorem fl_rest {sh : List (List Qn)} {i : Nat} {qs : List Qn} (h : sh[i]? = some qs) (j : Nat) : fl sh (i + 1) 0 = fl sh i j ++ qs.drop j := by
 unfold fl
 rw [h, Option.getD_some, xB h, List.flatten_append, List.take_zero, List.append_nil, List.append_assoc, List.take_append_drop]
 simp
theorem fl_len {sh : List (List Qn)} {i j : Nat} {qs : List Qn} {q : Qn} (h : sh[i]? = some qs) (k : qs[j]? = some q) (g : sh.flatten.length ≤ 8) : (fl sh i j).length ≤ 8 := by
 obtain ⟨r, e⟩ := fl_pre h k
 rw [e, List.length_append] at g
 omega
def JPu (T : Txt K mg A) : MethJ P w K mg base CX0 5 A.c_Straight "put" := ⟨_, _, _, _, [], [], T.cl_Straight, T.me_Straight_put, ok_put T, T.b_c_Straight_put, .nil⟩
def spThr (A : Adr) : Sp := fun vs H Q _ => ∃ H0 c sh b g i qs x L ov, vs = [.ref g, x, .str (Str.ofString "")] ∧ GoS A H0 c sh b g H (fl sh i 0) L ov ∧ StL b (fl sh i 0) L ov ∧ GB b ∧ GQ sh.flatten ∧ sh[i]? = some qs ∧ ShR A H0 x qs ∧
 ∀ H' L' ov', GoS A H0 c sh b g H' (fl sh (i + 1) 0) L' ov' → StL b (fl sh (i + 1) 0) L' ov' → Q .non H'
theorem ok_thr (T : Txt K mg A) : FnOk P w K mg base CX0 6 A.f_c_Going_go_through A.d_c_Going_go_through ["self", "sheet", "thing"] (spThr A) := by
 refine T.F_c_Going_go_through.ok sc_c_Going_go_through (fun vs H Q E h => ?_) (fun cdv A0 outer s H vs Q E hr h => ?_)
 · obtain ⟨H0, c, sh, b, g, i, qs, x, L, ov, rfl, _⟩ := h
   rfl
 obtain ⟨H0, c, sh, b, g, i, qs, x, L, ov, rfl, hG, hS, hB, hQ, hqs, hx, k⟩ := h
 obtain ⟨k_is_so, e1⟩ : ∃ k : Nat, k = 4 := ⟨_, rfl⟩
 obtain ⟨k_put, e2⟩ : ∃ k : Nat, k = 5 := ⟨_, rfl⟩
 refine ⟨_, (zG (xH PassesOwn.never rfl (yQ (zM (pv 1) rfl)) (yM (i := 3) sc_c_Going_go_through.nd rfl (by first | exact Or.inl rfl | exact Or.inr rfl)) (zD (yK (yS (zM (pv 0) rfl)) (zG ps_retN) zU)
     (zG (yK (xK (yS (zO yO (by rfl) T.n_isinstance Bt.isinstance (zA (pv 3) (zA (pe_gv rfl T.v_Ask) zE))))) (zG (yP pe_no)) (zG (yK (yS (yV (CX := CX0) (k := k_is_so) (hr.mono (by first | decide | omega)) zV (pv 0) (zA (zM (pv 3) rfl) (zA (pv 2) zE)))) (zG (yP (yV (CX := CX0) (k := k_put) (hr.mono (by first | decide | omega)) zV (pv 0) (zA (zM (pv 3) rfl) (zA (pv 2) zE))))) zU))))))), ?_⟩
 subst e1 e2
 obtain ⟨sa, sdx, su, r1, r2, rs, rfl, a1, a2, a3, a4⟩ := hx
 refine ⟨_, rfl, sa, _, sdx, _, _, rfl, hG.same _ _ a1, T.cl_Sheet, T.no_Sheet_rows, rfl, r1, rfl, ⟨rs, SqL.of (hG.same _ _ a2)⟩, ?_⟩
 refine xI (xs := rs) (fun j σ H' => ∃ L ov v, σ = [some (.ref g), some (.ref sa), some (.str (Str.ofString "")), v] ∧ GoS A H0 c sh b g H' (fl sh i j) L ov ∧ StL b (fl sh i j) L ov) ⟨L, ov, _, rfl, hG, hS⟩ (fun j σ H2 hj hw => ?_) (fun j x σ H2 hx2 hw => ?_) (fun σ H2 hw => ?_)
 · obtain ⟨L, ov, v, rfl, G, _⟩ := hw
   exact SqL.of (G.same _ _ a2)
 · obtain ⟨L, ov, v, rfl, G, S⟩ := hw
   obtain ⟨q, hq, ra, rdx, kp, dk, rfl, b1, b2⟩ := zS a4 hx2
   have b1' := G.same _ _ b1
   refine ⟨_, rfl, g, _, c.dx, gF c ov, _, rfl, G.go, T.cl_Straight, T.no_Straight_over, rfl, _, rfl, ?_⟩
   cases ov with
   | true =>
     refine iteT ?_
     have G' := G.weak (qs.drop j)
     have S' := S.more (qs.drop j)
     rw [← fl_rest hqs] at G' S'
     exact k _ _ _ G' S'
   | false =>
     refine iteF ?_
     refine ⟨_, rfl, _, _, _, _, rfl, rfl, .old (T.ty_Ask H2 ra rdx _ b1'), T.kr_Ask_Ask, _, rfl, iteF ?_⟩
     refine ⟨_, rfl, g, _, c.dx, gF c false, JSo T, rfl, G.go, rfl, _, rfl, ra, _, rdx, _, _, rfl, b1', T.cl_Ask, T.no_Ask_when, rfl, _, rfl, _, _, rfl, _, rfl, iteT ?_⟩
     obtain ⟨r, hr⟩ := fl_pre hqs hq
     have h8 := fl_len hqs hq hQ.2.2
     have hL := S.len
     have hst := fl_step hqs hq
     refine ⟨_, rfl, g, _, c.dx, gF c false, JPu T, rfl, G.go, rfl, _, rfl, ra, _, rdx, _, _, rfl, b1', T.cl_Ask, T.no_Ask_name, rfl, _, rfl, ?_⟩
     refine ⟨H0, c, sh, b, g, _, L, q, rfl, G, hB, (by rw [hr]; exact List.mem_append_right _ List.mem_cons_self), nd_pre hQ.1 hr, by omega, by omega, fun hf H' G' => ?_, fun hf H' G' => ?_⟩
     · rw [← hst] at G'
       exact ⟨_, _, _, rfl, G', by rw [hst]; exact S.yes hf⟩
     · rw [← hst] at G'
       exact ⟨_, _, _, rfl, G', by rw [hst]; exact S.no hf⟩
 · obtain ⟨L, ov, v, rfl, G, S⟩ := hw
   rw [zZ a4, fl_next hqs] at G S
   exact k _ _ _ G S
end
end K42
set_option maxHeartbeats 4000000
namespace K42
open PySem L2
seal PE PT PW PA PS PSs PG PGs PI PO PSet OpR UnR CallR TruR IxR SlR PC PPs
local macro_rules | `(tactic| walk_at "rd1") => `(tactic| first
 | (refine And.intro rfl ?_)
 | (refine And.intro (by assumption) ?_)
 | (refine And.intro (fun _ e => e) ?_)
 | (refine And.intro (TyOf.str _) ?_) | (refine And.intro (TyOf.int _) ?_) | (refine And.intro (TyOf.bl _) ?_) | (refine And.intro TyOf.non ?_)
 | (refine iteT ?_) | (refine iteF ?_)
 | (apply Exists.intro))
local macro_rules | `(tactic| walk_at "rd") => `(tactic| repeat (walk_at "rd1"))
def logF (b : Bk) (qs : List Qn) (L : List (List V)) : Prop := ∃ L', (StL b qs L' false ∧ L = L' ++ [endE]) ∨ (StL b qs L' true ∧ L = L')
def spTgs (A : Adr) : Sp := fun vs H Q _ => ∃ H0 c sh b g x qs l L ov, vs = [.ref g, x] ∧ GoS A H0 c sh b g H l L ov ∧ ShR A H0 x qs ∧ ∀ d H', Same H H' → H' d = some (.lst []) → Q (.ref d) H'
def spLv (A : Adr) : Sp := fun vs H Q _ => ∃ H0 c sh b g i qs l L ov, vs = [.ref g, .int (i : Nat)] ∧ GoS A H0 c sh b g H l L ov ∧ sh[i]? = some qs ∧ ∀ H', Same H H' → Q (.int ((i + 1 : Nat) : Int)) H'
def spThs (A : Adr) : Sp := fun vs H Q _ => ∃ H0 c sh b g x qs l L ov, vs = [.ref g, x] ∧ GoS A H0 c sh b g H l L ov ∧ ShR A H0 x qs ∧ ∀ d H', H d = none → Same H H' → H' d = some (.lst [.str (Str.ofString "")]) → Q (.ref d) H'
def spGo (A : Adr) : Sp := fun vs H Q _ => ∃ H0 c sh b g, vs = [.ref g] ∧ GoS A H0 c sh b g H [] [] false ∧ GB b ∧ GQ sh.flatten ∧ ∀ H0' H' L ov, Same H0 H0' → GoS A H0' c sh b g H' sh.flatten L ov → logF b sh.flatten L → Q .non H'
theorem paired_of {α β : Type} {R : α → β → Prop} : ∀ {as : List α} {bs : List β} {i : Nat} {b : β}, Paired R as bs → bs[i]? = some b → ∃ a, as[i]? = some a ∧ R a b
 | _, _, 0, _, .cons r _, e => by simp at e; subst e; exact ⟨_, rfl, r⟩
 | _, _, i + 1, b, .cons _ t, e => by
   obtain ⟨a, h1, h2⟩ := paired_of (i := i) (b := b) t (by simpa using e)
   exact ⟨a, by simpa using h1, h2⟩
section
variable {P : Program} {w : World} {K : W.Frag} {mg : Str → Option Value} {base : Heap} {A : Adr}
theorem ok_tgs (T : Txt K mg A) : FnOk P w K mg base CX0 5 A.f_c_Going_targets_of A.d_c_Going_targets_of ["self", "sheet"] (spTgs A) := by
 refine T.F_c_Going_targets_of.ok sc_c_Going_targets_of (fun vs H Q E h => ?_) (fun cdv A0 outer s H vs Q E hr h => ?_)
 · obtain ⟨H0, c, sh, b, g, x, qs, l, L, ov, rfl, _⟩ := h
   rfl
 obtain ⟨H0, c, sh, b, g, x, qs, l, L, ov, rfl, hG, hx, k⟩ := h
 obtain ⟨k_is_so, e1⟩ : ∃ k : Nat, k = 4 := ⟨_, rfl⟩
 refine ⟨_, (zD (zR (i := 2) sc_c_Going_targets_of.nd rfl (by first | exact Or.inl rfl | exact Or.inr rfl) (yT zE))
     (zD (xH PassesOwn.never rfl (yQ (zM (pv 1) rfl)) (pg_tup rfl (yY (yM (i := 3) sc_c_Going_targets_of.nd rfl (by first | exact Or.inl rfl | exact Or.inr rfl)) (yY (yM (i := 4) sc_c_Going_targets_of.nd rfl (by first | exact Or.inl rfl | exact Or.inr rfl)) pgs_nil))) (zG (yK (PW.pt (pw_and (xK (yS (zM (pv 0) rfl))) (pw_and1 (yS (yV (CX := CX0) (k := k_is_so) (hr.mono (by first | decide | omega)) zV (pv 0) (zA (pv 4) (zA (zM (pv 0) rfl) zE))))))) (zG (yP (pe_bm PySem.F.plainAttrs_list PySem.F.slot_list_append PySem.F.type_list_append xO (pv 2) (zA (pv 3) zE)))) zU)))
     (zG (zP (pv 2))))), ?_⟩
 subst e1
 obtain ⟨sa, sdx, su, r1, r2, rs, rfl, a1, a2, a3, a4⟩ := hx
 refine ⟨(by show 0 ≤ sizeLine; decide), fun d hd => ?_⟩
 have s1 := zH hd (.lst [])
 have a1' := s1 _ _ (hG.same _ _ a1)
 have a3' := s1 _ _ (hG.same _ _ a3)
 refine ⟨_, rfl, sa, _, sdx, _, _, rfl, a1', T.cl_Sheet, T.no_Sheet_ways, rfl, r2, rfl, ⟨[], SqL.of a3'⟩, ?_⟩
 refine xI (xs := []) (fun j σ H' => upd H d (.lst []) = H' ∧ ∃ v y, σ = [some (.ref g), some (.ref sa), some (.ref d), v, y]) ⟨rfl, _, _, rfl⟩ (fun j σ H2 hj hw => ?_) (fun j x σ H2 hx2 hw => by simp at hx2) (fun σ H2 hw => ?_)
 · obtain ⟨rfl, _⟩ := hw
   exact SqL.of a3'
 · obtain ⟨rfl, v, y, rfl⟩ := hw
   exact ⟨_, rfl, k d _ s1 zB⟩
theorem ok_ths (T : Txt K mg A) : FnOk P w K mg base CX0 1 A.f_c_Straight_things_of A.d_c_Straight_things_of ["self", "sheet"] (spThs A) := by
 refine T.F_c_Straight_things_of.ok sc_c_Straight_things_of (fun vs H Q E h => ?_) (fun cdv A0 outer s H vs Q E hr h => ?_)
 · obtain ⟨H0, c, sh, b, g, x, qs, l, L, ov, rfl, _⟩ := h
   rfl
 obtain ⟨H0, c, sh, b, g, x, qs, l, L, ov, rfl, hG, hx, k⟩ := h
 refine ⟨_, (zD (yK (zQ op_isN (zM (pv 1) rfl) xM (zW _)) (zG (zP (yT (zA (zM (pv 0) rfl) zE)))) zU)
     (zG (zP (pe_ifExp (zQ (op_in_d (hu_of hr)) (zM (pv 1) rfl) (zM (pv 0) rfl) (by rfl)) (yZ xG (by rfl) T.n_list Bt.list (zA (pe_dget (hu_of hr) (zM (pv 0) rfl) (yI (zA (zM (pv 1) rfl) (zA (zM (pv 0) rfl) zE))) (fun _ _ => rfl)) zE)) (yT zE))))), ?_⟩
 obtain ⟨sa, sdx, su, r1, r2, rs, rfl, a1, a2, a3, a4⟩ := hx
 refine ⟨_, rfl, sa, _, sdx, _, _, rfl, hG.same _ _ a1, T.cl_Sheet, T.no_Sheet_each, rfl, rfl, _, rfl, iteT ?_⟩
 refine ⟨_, rfl, g, _, c.dx, gF c ov, _, rfl, hG.go, T.cl_Straight, T.no_Straight_alone, rfl, (by show 1 ≤ sizeLine; decide), fun d hd => ?_⟩
 exact k d _ hd (zH hd _) zB
def JTg (T : Txt K mg A) : MethJ P w K mg base CX0 5 A.c_Straight "targets_of" := ⟨_, _, _, _, [], [], T.cl_Straight, T.me_Straight_targets_of, ok_tgs T, T.b_c_Going_targets_of, .nil⟩
theorem ok_lv (T : Txt K mg A) : FnOk P w K mg base CX0 6 A.f_c_Going_leave A.d_c_Going_leave ["self", "place"] (spLv A) := by
 refine T.F_c_Going_leave.ok sc_c_Going_leave (fun vs H Q E h => ?_) (fun cdv A0 outer s H vs Q E hr h => ?_)
 · obtain ⟨H0, c, sh, b, g, i, qs, l, L, ov, rfl, _⟩ := h
   rfl
 obtain ⟨H0, c, sh, b, g, i, qs, l, L, ov, rfl, hG, hqs, k⟩ := h
 obtain ⟨k_targets_of, e1⟩ : ∃ k : Nat, k = 5 := ⟨_, rfl⟩
 refine ⟨_, (zD (zR (i := 2) sc_c_Going_leave.nd rfl (by first | exact Or.inl rfl | exact Or.inr rfl) (yC yJ (zM (zM (pv 0) rfl) rfl) (pv 1) (fun _ _ => rfl)))
     (zD (zR (i := 3) sc_c_Going_leave.nd rfl (by first | exact Or.inl rfl | exact Or.inr rfl) (yV (CX := CX0) (k := k_targets_of) (hr.mono (by first | decide | omega)) zV (pv 0) (zA (pv 2) zE)))
     (zD (yK (PW.pt (pw_and (zQ op_gt (zO yD (by rfl) T.n_len PySem.boot_len (zA (pv 3) zE)) zJ (zW _)) (pw_and1 (xK (yS (zM (pv 0) rfl)))))) (zG (yP (pe_bm PySem.F.plainAttrs_list PySem.F.slot_list_append PySem.F.type_list_append xO (zM (pv 0) rfl) (zA (zM (pv 2) rfl) zE)))) zU)
     (zD (yK (zQ xP (zO yD (by rfl) T.n_len PySem.boot_len (zA (pv 3) zE)) zJ (zW _)) (zG (zP (yA xJ (pv 1) zJ))) zU)
     (zD (zR (i := 4) sc_c_Going_leave.nd rfl (by first | exact Or.inl rfl | exact Or.inr rfl) (yA op_cat (pe_compR (yU (x := "other") (M := ["self", "place", "sheet", "targets", "names"]) rfl (by rfl)) rfl (yQ (zM (zM (pv 0) rfl) rfl)) (fun _ _ _ _ => pe_eqv (by exact (zM (pv 0) rfl)) (by dsimp only [compCx] <;> rfl))) (yT (zA zK zE))))
     (zG (zP (pe_bm PySem.F.plainAttrs_list PySem.F.slot_list_index PySem.F.type_list_index mt_lindex (pv 4) (zA (yC yJ (pv 3) zJ (fun _ _ => rfl)) zE))))))))), ?_⟩
 subst e1
 obtain ⟨dx, u, q1, q2, xs, p1, p2, p3, p4⟩ := hG.pa
 obtain ⟨x, hx, hS⟩ := paired_of p4 hqs
 refine ⟨_, rfl, g, _, c.dx, gF c ov, _, rfl, hG.go, T.cl_Straight, T.no_Straight_paper, rfl, c.pa, _, dx, _, _, rfl, hG.same _ _ p1, T.cl_Paper, T.no_Paper_sheets, rfl, _, rfl, q1, _, _, _, rfl, rfl, SqL.of (hG.same _ _ p2), zX hx, ?_⟩
 refine ⟨_, rfl, g, _, c.dx, gF c ov, JTg T, rfl, hG.go, rfl, _, rfl, ?_⟩
 refine ⟨H0, c, sh, b, g, x, qs, l, L, ov, rfl, hG, hS, fun d H1 s1 hd => ?_⟩
 refine ⟨_, rfl, d, _, rfl, .inl (SqL.of hd), _, _, rfl, rfl, _, rfl, iteF ?_⟩
 refine ⟨_, rfl, d, _, rfl, .inl (SqL.of hd), rfl, _, rfl, iteT ?_⟩
 refine ⟨_, rfl, _, _, rfl, rfl, ?_⟩
 exact k _ s1
end
end K42
set_option maxHeartbeats 4000000
namespace K42
open PySem L2
seal PE PT PW PA PS PSs PG PGs PI PO PSet OpR UnR CallR TruR IxR SlR PC PPs
local macro_rules | `(tactic| walk_at "rd1") => `(tactic| first
 | (refine And.intro rfl ?_)
 | (refine And.intro (by assumption) ?_)
 | (refine And.intro (fun _ e => e) ?_)
 | (refine And.intro (TyOf.str _) ?_) | (refine And.intro (TyOf.int _) ?_) | (refine And.intro (TyOf.bl _) ?_) | (refine And.intro TyOf.non ?_)
 | (refine iteT ?_) | (refine iteF ?_)
 | (apply Exists.intro))
local macro_rules | `(tactic| walk_at "rd") => `(tactic| repeat (walk_at "rd1"))
theorem GoS.rebase {A : Adr} {H0 H : Hp} {c : GA} {sh : List (List Qn)} {b : Bk} {g : Addr} {l : List Qn} {L : List (List V)} {ov : Bool} (h : GoS A H0 c sh b g H l L ov) {d : Addr} {o : HO} (hd : H d = some o) (n0 : H0 d = none) (ng : g ≠ d) (nl : c.lg ≠ d) (na : c.aq ≠ d) : GoS A (upd H0 d o) c sh b g H l L ov := by
 have s1 := zH n0 o
 refine ⟨fun x u hx => ?_, by rw [zF ng]; exact h.ng, by rw [zF nl]; exact h.nlg, by rw [zF na]; exact h.naq, h.pa.same s1, s1 _ _ h.bk, let ⟨k, a, e⟩ := h.kd; ⟨k, a, e.same s1⟩, h.kdaq, h.go, h.aq, h.lg⟩
 by_cases e : x = d
 · subst e; rw [zB] at hx; cases hx; exact hd
 · rw [zF e] at hx; exact h.same _ _ hx
theorem fl_end {sh : List (List Qn)} (i : Nat) : ∃ r, sh.flatten = fl sh i 0 ++ r := by
 refine ⟨(sh.drop i).flatten, ?_⟩
 unfold fl
 rw [List.take_zero, List.append_nil, ← List.flatten_append, List.take_append_drop]
section
variable {P : Program} {w : World} {K : W.Frag} {mg : Str → Option Value} {base : Heap} {A : Adr}
def JTh (T : Txt K mg A) : MethJ P w K mg base CX0 5 A.c_Straight "things_of" := ⟨_, _, _, _, [], [], T.cl_Straight, T.me_Straight_things_of, (ok_ths T).mono (by decide), T.b_c_Straight_things_of, .nil⟩
def JTr (T : Txt K mg A) : MethJ P w K mg base CX0 6 A.c_Straight "go_through" := ⟨_, _, _, _, [], [], T.cl_Straight, T.me_Straight_go_through, ok_thr T, T.b_c_Going_go_through, .nil⟩
def JLv (T : Txt K mg A) : MethJ P w K mg base CX0 6 A.c_Straight "leave" := ⟨_, _, _, _, [], [], T.cl_Straight, T.me_Straight_leave, ok_lv T, T.b_c_Going_leave, .nil⟩
theorem ok_go (T : Txt K mg A) : FnOk P w K mg base CX0 7 A.f_c_Going_go A.d_c_Going_go ["self"] (spGo A) := by
 refine T.F_c_Going_go.ok sc_c_Going_go (fun vs H Q E h => ?_) (fun cdv A0 outer s H vs Q E hr h => ?_)
 · obtain ⟨H0, c, sh, b, g, rfl, _⟩ := h
   rfl
 obtain ⟨H0, c, sh, b, g, rfl, hG, hB, hQ, k⟩ := h
 obtain ⟨k_things_of, e1⟩ : ∃ k : Nat, k = 5 := ⟨_, rfl⟩
 obtain ⟨k_go_through, e2⟩ : ∃ k : Nat, k = 6 := ⟨_, rfl⟩
 obtain ⟨k_leave, e3⟩ : ∃ k : Nat, k = 6 := ⟨_, rfl⟩
 obtain ⟨k_stop_with, e4⟩ : ∃ k : Nat, k = 4 := ⟨_, rfl⟩
 refine ⟨_, (zD (zR (i := 1) sc_c_Going_go.nd rfl (by first | exact Or.inl rfl | exact Or.inr rfl) zJ)
     (zD (ps_whileR PassesOwn.never (PW.pt (pw_and (xK (yS (zM (pv 0) rfl))) (pw_and1 (zQ op_lt (pv 1) (zO yD (by rfl) T.n_len PySem.boot_len (zA (zM (zM (pv 0) rfl) rfl) zE)) (zW _))))) (zD (zR (i := 2) sc_c_Going_go.nd rfl (by first | exact Or.inl rfl | exact Or.inr rfl) (yC yJ (zM (zM (pv 0) rfl) rfl) (pv 1) (fun _ _ => rfl)))
     (zD (xH PassesOwn.never rfl (yQ (yV (CX := CX0) (k := k_things_of) (hr.mono (by first | decide | omega)) zV (pv 0) (zA (pv 2) zE))) (yM (i := 3) sc_c_Going_go.nd rfl (by first | exact Or.inl rfl | exact Or.inr rfl)) (zG (yP (yV (CX := CX0) (k := k_go_through) (hr.mono (by first | decide | omega)) zV (pv 0) (zA (pv 2) (zA (pv 3) zE))))))
     (zG (zR (i := 1) sc_c_Going_go.nd rfl (by first | exact Or.inl rfl | exact Or.inr rfl) (yV (CX := CX0) (k := k_leave) (hr.mono (by first | decide | omega)) zV (pv 0) (zA (pv 1) zE)))))))
     (zG (yK (xK (yS (zM (pv 0) rfl))) (zG (yP (yV (CX := CX0) (k := k_stop_with) (hr.mono (by first | decide | omega)) zV (pv 0) (zA (yI (zA zK zE)) zE)))) zU)))), ?_⟩
 subst e1 e2 e3 e4
 refine ⟨fun m σ H => ∃ H0' L ov v y, ∃ i : Nat, σ = [some (.ref g), some (.int (i : Nat)), v, y] ∧ i ≤ sh.length ∧ m = sh.length - i ∧ Same H0 H0' ∧ GoS A H0' c sh b g H (fl sh i 0) L ov ∧ StL b (fl sh i 0) L ov, ⟨_, H0, [], false, _, _, 0, rfl, Nat.zero_le _, rfl, Same.refl _, hG, .nil⟩, ?_⟩
 rintro m σ H1 ⟨H0', L, ov, v, y, i, rfl, hi, rfl, sH, G, S⟩
 refine ⟨_, rfl, g, _, c.dx, gF c ov, _, rfl, G.go, T.cl_Straight, T.no_Straight_over, rfl, _, rfl, ?_⟩
 obtain ⟨rest, hrest⟩ := fl_end (sh := sh) i
 cases ov with
 | true =>
   refine iteF (iteF ?_)
   refine ⟨_, rfl, g, _, c.dx, gF c true, _, rfl, G.go, T.cl_Straight, T.no_Straight_over, rfl, _, rfl, iteF ?_⟩
   have G' := G.weak rest
   have S' := S.more rest
   rw [← hrest] at G' S'
   exact k _ _ _ _ sH G' ⟨L, .inr ⟨S', rfl⟩⟩
 | false =>
   refine iteT ?_
   obtain ⟨dx, u, q1, q2, xs, p1, p2, p3, p4⟩ := G.pa
   have lens := zZ p4
   refine ⟨_, rfl, _, rfl, g, _, c.dx, gF c false, _, rfl, G.go, T.cl_Straight, T.no_Straight_paper, rfl, c.pa, _, dx, _, _, rfl, G.same _ _ p1, T.cl_Paper, T.no_Paper_sheets, rfl, q1, _, rfl, .inl (SqL.of (G.same _ _ p2)), _, _, rfl, rfl, _, rfl, ?_⟩
   rw [lens]
   refine ite2 (fun c1 => ?_) (fun c1 => ?_)
   · have hlt : i < sh.length := by have := of_decide_eq_true c1; omega
     have hqs : sh[i]? = some sh[i] := List.getElem?_eq_getElem hlt
     obtain ⟨x, hx, hS⟩ := paired_of p4 hqs
     refine ⟨fun σ' H' => ∃ H0' L ov v y, σ' = [some (.ref g), some (.int ((i + 1 : Nat) : Int)), v, y] ∧ Same H0 H0' ∧ GoS A H0' c sh b g H' (fl sh (i + 1) 0) L ov ∧ StL b (fl sh (i + 1) 0) L ov, fun σ' H' ⟨H0', L, ov, v, y, e, a1, a2, a3⟩ => ⟨sh.length - (i + 1), by omega, H0', L, ov, v, y, i + 1, e, by omega, rfl, a1, a2, a3⟩, ?_⟩
     refine ⟨_, rfl, g, _, c.dx, gF c false, _, rfl, G.go, T.cl_Straight, T.no_Straight_paper, rfl, c.pa, _, dx, _, _, rfl, G.same _ _ p1, T.cl_Paper, T.no_Paper_sheets, rfl, _, rfl, q1, _, _, _, rfl, rfl, SqL.of (G.same _ _ p2), zX hx, ?_⟩
     refine ⟨_, rfl, g, _, c.dx, gF c false, JTh T, rfl, G.go, rfl, _, rfl, ?_⟩
     refine ⟨H0', c, sh, b, g, x, _, _, L, false, rfl, G, hS, fun d H2 fd s2 hd => ?_⟩
     obtain ⟨aa, aa1, _⟩ := G.aq
     obtain ⟨tt, tt1, _⟩ := G.lg
     have G2 := (G.mono s2).rebase hd (xA G.same fd) (zI G.go fd) (zI tt1 fd) (zI aa1 fd)
     have sB := zH (xA G.same fd) (.lst [.str (Str.ofString "")])
     refine ⟨d, rfl, ⟨_, SqL.of hd⟩, ?_⟩
     refine xI (xs := [.str (Str.ofString "")]) (fun j σ H' => ∃ L ov v, σ = [some (.ref g), some (.int (i : Nat)), some x, v] ∧ GoS A (upd H0' d (.lst [.str (Str.ofString "")])) c sh b g H' (fl sh (i + j) 0) L ov ∧ StL b (fl sh (i + j) 0) L ov) ⟨L, false, _, rfl, G2, S⟩ (fun j σ H3 hj hw => ?_) (fun j x' σ H3 hx3 hw => ?_) (fun σ H3 hw => ?_)
     · obtain ⟨L, ov, v, rfl, G3, _⟩ := hw
       exact SqL.of (G3.same _ _ zB)
     · cases j with
       | succ j => simp at hx3
       | zero =>
         cases hx3
         obtain ⟨L, ov, v, rfl, G3, S3⟩ := hw
         refine ⟨_, rfl, g, _, c.dx, gF c ov, JTr T, rfl, G3.go, rfl, _, rfl, _, rfl, ?_⟩
         exact ⟨_, c, sh, b, g, i, _, x, L, ov, rfl, G3, S3, hB, hQ, hqs, hS.same sB, fun H' L' ov' G4 S4 => ⟨L', ov', _, rfl, G4, S4⟩⟩
     · obtain ⟨L, ov, v, rfl, G3, S3⟩ := hw
       refine ⟨_, rfl, g, _, c.dx, gF c ov, JLv T, rfl, G3.go, rfl, _, rfl, ?_⟩
       exact ⟨_, c, sh, b, g, i, _, _, L, ov, rfl, G3, hqs, fun H' s' => ⟨_, L, ov, _, _, rfl, sH.trans sB, G3.mono s', S3⟩⟩
   · have he : i = sh.length := by
       have : ¬ (i : Int) < (sh.length : Nat) := fun z => c1 (decide_eq_true z)
       omega
     subst he
     rw [fl_all] at G S
     refine ⟨_, rfl, g, _, c.dx, gF c false, _, rfl, G.go, T.cl_Straight, T.no_Straight_over, rfl, _, rfl, iteT ?_⟩
     refine ⟨_, rfl, g, _, c.dx, gF c false, JSt T, rfl, G.go, rfl, (by show 1 ≤ sizeLine; decide), fun t ht => ?_⟩
     have s2 := zH ht (.tup endE)
     have hL := S.len
     have h8 := hQ.2.2
     exact ⟨H0', c, sh, b, g, _, L, false, t, endE, rfl, G.mono s2, zB, by omega, fun H' G' => k _ _ _ _ sH G' ⟨L, .inl ⟨S, rfl⟩⟩⟩
end
end K42
set_option maxHeartbeats 4000000
namespace K42
open PySem L2
seal PE PT PW PA PS PSs PG PGs PI PO PSet OpR UnR CallR TruR IxR SlR PC PPs
local macro_rules | `(tactic| walk_at "rd1") => `(tactic| first
 | (refine And.intro rfl ?_)
 | (refine And.intro (by assumption) ?_)
 | (refine And.intro (fun _ e => e) ?_)
 | (refine And.intro (TyOf.str _) ?_) | (refine And.intro (TyOf.int _) ?_) | (refine And.intro (TyOf.bl _) ?_) | (refine And.intro TyOf.non ?_)
 | (refine iteT ?_) | (refine iteF ?_)
 | (apply Exists.intro))
local macro_rules | `(tactic| walk_at "rd") => `(tactic| repeat (walk_at "rd1"))
def okP (o : HO) : Prop := (∃ xs, o = .lst xs) ∨ (∃ C dx u r, o = .ins C dx (((Str.ofString "name"), u) :: r)) ∨ (∃ C dx u r, o = .ins C dx (((Str.ofString "low"), u) :: r))
def Kp (H H' : Hp) : Prop := ∀ b o, H b = some o → okP o → H' b = some o
theorem AsR.kp {A : Adr} {H H' : Hp} (f : Kp H H') {x : V} {q : Qn} (h : AsR A H x q) : AsR A H' x q := let ⟨a, dx, k, dk, e, h1, h2⟩ := h; ⟨a, dx, k, dk, e, f _ _ h1 (.inr (.inl ⟨_, _, _, _, rfl⟩)), f _ _ h2 (.inr (.inr ⟨_, _, _, _, rfl⟩))⟩
theorem ShR.kp {A : Adr} {H H' : Hp} (f : Kp H H') {x : V} {q : List Qn} (h : ShR A H x q) : ShR A H' x q := let ⟨a, dx, u, q1, q2, xs, e, h1, h2, h3, h4⟩ := h; ⟨a, dx, u, q1, q2, xs, e, f _ _ h1 (.inr (.inl ⟨_, _, _, _, rfl⟩)), f _ _ h2 (.inl ⟨_, rfl⟩), f _ _ h3 (.inl ⟨_, rfl⟩), zL h4 fun _ _ => AsR.kp f⟩
theorem PaR.kp {A : Adr} {H H' : Hp} (f : Kp H H') {a : Addr} {sh : List (List Qn)} (h : PaR A H a sh) : PaR A H' a sh := let ⟨dx, u, q1, q2, xs, h1, h2, h3, h4⟩ := h; ⟨dx, u, q1, q2, xs, f _ _ h1 (.inr (.inl ⟨_, _, _, _, rfl⟩)), f _ _ h2 (.inl ⟨_, rfl⟩), f _ _ h3 (.inl ⟨_, rfl⟩), zL h4 fun _ _ => ShR.kp f⟩
theorem KdR.kp {A : Adr} {H H' : Hp} (f : Kp H H') {kvs : List (Key × V)} {qs : List Qn} (h : KdR A H kvs qs) : KdR A H' kvs qs := ⟨h.1, fun q hq => let ⟨k, dk, h1, h2⟩ := h.2 q hq; ⟨k, dk, h1, f _ _ h2 (.inr (.inr ⟨_, _, _, _, rfl⟩))⟩⟩
theorem KdR.back {A : Adr} {H H' : Hp} {g C dx : Addr} {u : V} {r : List (Str × V)} {kvs : List (Key × V)} {qs : List Qn} (h : KdR A H' kvs qs) (e : ∀ b, b ≠ g → H' b = H b) (hg : H' g = some (.ins C dx ((Str.ofString "paper", u) :: r))) : KdR A H kvs qs := ⟨h.1, fun q hq => by
 obtain ⟨k, dk, h1, h2⟩ := h.2 q hq
 refine ⟨k, dk, h1, ?_⟩
 rw [← e k (yE h2 hg (by intro z; cases z))]; exact h2⟩
theorem Kp.of0 {H H' : Hp} {g C dx : Addr} (F : Fr [g] H H') (hg : H g = some (.ins C dx [])) : Kp H H' := fun b o hb ho => F b o hb (ni1 fun e => by
 rw [e, hg] at hb; cases hb
 rcases ho with ⟨_, z⟩ | ⟨_, _, _, _, z⟩ | ⟨_, _, _, _, z⟩ <;> cases z)
abbrev gI (c : GA) : List (Str × V) := [("paper", .ref c.pa), ("alone", .str (Str.ofString "")), ("kinds", .ref c.kd), ("eaches", .ref c.ed), ("together", .ref c.tg), ("asked", .ref c.aq), ("log", .ref c.lg), ("doubles", .ref c.db), ("over", .bl false)]
def spGI (A : Adr) : Sp := fun vs H Q _ => ∃ g dx pa sh, vs = [.ref g, .ref pa, .str (Str.ofString "")] ∧ H g = some (.ins A.c_Straight dx []) ∧ PaR A H pa sh ∧ GQ sh.flatten ∧
 ∀ (c : GA) kvs H', c.dx = dx → c.pa = pa → Fr [g] H H' → H' g = some (.ins A.c_Straight dx (gI c)) → H' c.kd = some (.dK kvs) → KdR A H kvs sh.flatten → H c.aq = none → H' c.aq = some (.dK []) → c.kd ≠ c.aq → H c.lg = none → H' c.lg = some (.lst []) → Q .non H'
def spSI (A : Adr) : Sp := fun vs H Q _ => ∃ g dx pa sh bk b, vs = [.ref g, .ref pa, .ref bk] ∧ H g = some (.ins A.c_Straight dx []) ∧ PaR A H pa sh ∧ GQ sh.flatten ∧ H bk = some (.dT b) ∧
 ∀ (c : GA) kvs H', Fr [g] H H' → H' g = some (oGo A c false) → c.pa = pa → c.bk = bk → H' c.kd = some (.dK kvs) → KdR A H kvs sh.flatten → H c.aq = none → H' c.aq = some (.dK []) → c.kd ≠ c.aq → H c.lg = none → H' c.lg = some (.lst []) → Q .non H'
section
variable {P : Program} {w : World} {K : W.Frag} {mg : Str → Option Value} {base : Heap} {A : Adr}
theorem ok_goi (T : Txt K mg A) : FnOk P w K mg base CX0 2 A.f_c_Going___init A.d_c_Going___init ["self", "paper", "alone"] (spGI A) := by
 have G_kinds_of := ok_kinds_of (P := P) (w := w) (base := base) T
 have G_eaches_of := ok_eaches_of (P := P) (w := w) (base := base) T
 have G_all_together := ok_all_together (P := P) (w := w) (base := base) T
 refine T.F_c_Going___init.ok sc_c_Going___init (fun vs H Q E h => ?_) (fun cdv A0 outer s H vs Q E hr h => ?_)
 · obtain ⟨g, dx, pa, sh, rfl, _⟩ := h
   rfl
 obtain ⟨g, dx, pa, sh, rfl, hg, hP, hQ, k⟩ := h
 refine ⟨_, (zD (yN (pv 0) (pv 1) rfl)
     (zD (yN (pv 0) (pv 2) rfl)
     (zD (yN (pv 0) (yH G_kinds_of (hr.mono (by first | decide | omega)) rfl T.m_kinds_of T.k_kinds_of T.b_kinds_of .nil zV (zA (pv 1) zE)) rfl)
     (zD (yN (pv 0) (yH G_eaches_of (hr.mono (by first | decide | omega)) rfl T.m_eaches_of T.k_eaches_of T.b_eaches_of .nil zV (zA (pv 1) zE)) rfl)
     (zD (yN (pv 0) (yH G_all_together (hr.mono (by first | decide | omega)) rfl T.m_all_together T.k_all_together T.b_all_together .nil zV (zA (pv 1) zE)) rfl)
     (zD (yN (pv 0) pe_dnewK rfl)
     (zD (yN (pv 0) (yT zE) rfl)
     (zD (yN (pv 0) (yT zE) rfl)
     (zG (yN (pv 0) pe_bl rfl)))))))))), ?_⟩
 have cl := T.cl_Straight
 have gg : g ∈ [g] := List.mem_singleton.mpr rfl
 refine ⟨_, rfl, _, rfl, g, _, dx, _, rfl, hg, cl, T.no_Straight_paper, by decide, ?_⟩
 refine ⟨_, rfl, _, rfl, g, _, dx, _, rfl, zB, cl, T.no_Straight_alone, (by show 1 < 1000; decide), ?_⟩
 rw [upd_upd]
 have F2 : Fr [g] H (upd H g (.ins A.c_Straight dx [("paper", .ref pa), ("alone", .str (Str.ofString ""))])) := (Fr.of (Same.refl _)).upd gg _
 have g2 : (upd H g (.ins A.c_Straight dx [("paper", .ref pa), ("alone", .str (Str.ofString ""))])) g = some (.ins A.c_Straight dx [("paper", .ref pa), ("alone", .str (Str.ofString ""))]) := zB
 refine (show (∀ H2, Fr [g] H H2 → H2 g = some (.ins A.c_Straight dx [("paper", .ref pa), ("alone", .str (Str.ofString ""))]) → (∀ b, b ≠ g → H2 b = H b) → _) → _ from fun z => z _ F2 g2 fun b hb => zF hb) ?_
 clear F2 g2
 intro H2 F2 g2 e2
 have st : ∀ {H2 H3 : Hp} {r : List (Str × V)} {o : HO}, Fr [g] H H2 → H2 g = some (.ins A.c_Straight dx r) → Same H2 H3 → Fr [g] H (upd H3 g o) ∧ H3 g = some (.ins A.c_Straight dx r) := fun F e s' => ⟨(F.trans (Fr.of s')).upd gg _, s' _ _ e⟩
 refine ⟨_, rfl, pa, sh, rfl, hP.kp (Kp.of0 F2 hg), hQ, fun kd kvs H3 fk s3 hk hK => ?_⟩
 have F3 := F2.trans (Fr.of s3)
 refine ⟨_, rfl, g, _, dx, _, rfl, s3 _ _ g2, cl, T.no_Straight_kinds, (by show 2 < 1000; decide), ?_⟩
 have nkd : kd ≠ g := yE hk (s3 _ _ g2) (by intro z; cases z)
 have F4 : Fr [g] H (upd H3 g (.ins A.c_Straight dx [("paper", .ref pa), ("alone", .str (Str.ofString "")), ("kinds", .ref kd)])) := F3.upd gg _
 have hk4 : (upd H3 g (.ins A.c_Straight dx [("paper", .ref pa), ("alone", .str (Str.ofString "")), ("kinds", .ref kd)])) kd = some (.dK kvs) := by rw [zF nkd]; exact hk
 have g4 : (upd H3 g (.ins A.c_Straight dx [("paper", .ref pa), ("alone", .str (Str.ofString "")), ("kinds", .ref kd)])) g = some (.ins A.c_Straight dx [("paper", .ref pa), ("alone", .str (Str.ofString "")), ("kinds", .ref kd)]) := zB
 refine (show (∀ H4, Fr [g] H H4 → H4 kd = some (.dK kvs) → H4 g = some (.ins A.c_Straight dx [("paper", .ref pa), ("alone", .str (Str.ofString "")), ("kinds", .ref kd)]) → _) → _ from fun z => z _ F4 hk4 g4) ?_
 clear F4 hk4 g4
 intro H4 F4 hk4 g4
 have hK0 : KdR A H kvs sh.flatten := hK.back e2 g2
 refine ⟨_, rfl, pa, sh, rfl, hP.kp (Kp.of0 F4 hg), hQ, fun ed kv2 H5 fe s5 he => ?_⟩
 refine ⟨_, rfl, g, _, dx, _, rfl, s5 _ _ g4, cl, T.no_Straight_eaches, (by show 3 < 1000; decide), ?_⟩
 have F6 : Fr [g] H (upd H5 g (.ins A.c_Straight dx [("paper", .ref pa), ("alone", .str (Str.ofString "")), ("kinds", .ref kd), ("eaches", .ref ed)])) := (F4.trans (Fr.of s5)).upd gg _
 have hk6 : (upd H5 g (.ins A.c_Straight dx [("paper", .ref pa), ("alone", .str (Str.ofString "")), ("kinds", .ref kd), ("eaches", .ref ed)])) kd = some (.dK kvs) := by rw [zF nkd]; exact s5 _ _ hk4
 have g6 : (upd H5 g (.ins A.c_Straight dx [("paper", .ref pa), ("alone", .str (Str.ofString "")), ("kinds", .ref kd), ("eaches", .ref ed)])) g = some (.ins A.c_Straight dx [("paper", .ref pa), ("alone", .str (Str.ofString "")), ("kinds", .ref kd), ("eaches", .ref ed)]) := zB
 refine (show (∀ H6, Fr [g] H H6 → H6 kd = some (.dK kvs) → H6 g = some (.ins A.c_Straight dx [("paper", .ref pa), ("alone", .str (Str.ofString "")), ("kinds", .ref kd), ("eaches", .ref ed)]) → _) → _ from fun z => z _ F6 hk6 g6) ?_
 clear F6 hk6 g6
 intro H6 F6 hk6 g6
 refine ⟨_, rfl, pa, sh, rfl, hP.kp (Kp.of0 F6 hg), fun tg H7 ft s7 ht => ?_⟩
 refine ⟨_, rfl, g, _, dx, _, rfl, s7 _ _ g6, cl, T.no_Straight_together, (by show 4 < 1000; decide), ?_⟩
 have F8 : Fr [g] H (upd H7 g (.ins A.c_Straight dx [("paper", .ref pa), ("alone", .str (Str.ofString "")), ("kinds", .ref kd), ("eaches", .ref ed), ("together", .ref tg)])) := (F6.trans (Fr.of s7)).upd gg _
 have hk8 : (upd H7 g (.ins A.c_Straight dx [("paper", .ref pa), ("alone", .str (Str.ofString "")), ("kinds", .ref kd), ("eaches", .ref ed), ("together", .ref tg)])) kd = some (.dK kvs) := by rw [zF nkd]; exact s7 _ _ hk6
 have g8 : (upd H7 g (.ins A.c_Straight dx [("paper", .ref pa), ("alone", .str (Str.ofString "")), ("kinds", .ref kd), ("eaches", .ref ed), ("together", .ref tg)])) g = some (.ins A.c_Straight dx [("paper", .ref pa), ("alone", .str (Str.ofString "")), ("kinds", .ref kd), ("eaches", .ref ed), ("together", .ref tg)]) := zB
 refine (show (∀ H8, Fr [g] H H8 → H8 kd = some (.dK kvs) → H8 g = some (.ins A.c_Straight dx [("paper", .ref pa), ("alone", .str (Str.ofString "")), ("kinds", .ref kd), ("eaches", .ref ed), ("together", .ref tg)]) → _) → _ from fun z => z _ F8 hk8 g8) ?_
 clear F8 hk8 g8
 intro H8 F8 hk8 g8
 intro aq ha
 have sa := zH ha (.dK [])
 refine ⟨_, rfl, g, _, dx, _, rfl, sa _ _ g8, cl, T.no_Straight_asked, (by show 5 < 1000; decide), ?_⟩
 have naq : aq ≠ g := Ne.symm (zI g8 ha)
 have nka : kd ≠ aq := zI hk8 ha
 have fa : H aq = none := fr_none F8 (ni1 naq) ha
 have F9 : Fr [g] H (upd (upd H8 aq (.dK [])) g (.ins A.c_Straight dx [("paper", .ref pa), ("alone", .str (Str.ofString "")), ("kinds", .ref kd), ("eaches", .ref ed), ("together", .ref tg), ("asked", .ref aq)])) := (F8.trans (Fr.of sa)).upd gg _
 have hk9 : (upd (upd H8 aq (.dK [])) g (.ins A.c_Straight dx [("paper", .ref pa), ("alone", .str (Str.ofString "")), ("kinds", .ref kd), ("eaches", .ref ed), ("together", .ref tg), ("asked", .ref aq)])) kd = some (.dK kvs) := by rw [zF nkd]; exact sa _ _ hk8
 have ha9 : (upd (upd H8 aq (.dK [])) g (.ins A.c_Straight dx [("paper", .ref pa), ("alone", .str (Str.ofString "")), ("kinds", .ref kd), ("eaches", .ref ed), ("together", .ref tg), ("asked", .ref aq)])) aq = some (.dK []) := by rw [zF naq]; exact zB
 have g9 : (upd (upd H8 aq (.dK [])) g (.ins A.c_Straight dx [("paper", .ref pa), ("alone", .str (Str.ofString "")), ("kinds", .ref kd), ("eaches", .ref ed), ("together", .ref tg), ("asked", .ref aq)])) g = some (.ins A.c_Straight dx [("paper", .ref pa), ("alone", .str (Str.ofString "")), ("kinds", .ref kd), ("eaches", .ref ed), ("together", .ref tg), ("asked", .ref aq)]) := zB
 refine (show (∀ H9, Fr [g] H H9 → H9 kd = some (.dK kvs) → H9 aq = some (.dK []) → H9 g = some (.ins A.c_Straight dx [("paper", .ref pa), ("alone", .str (Str.ofString "")), ("kinds", .ref kd), ("eaches", .ref ed), ("together", .ref tg), ("asked", .ref aq)]) → _) → _ from fun z => z _ F9 hk9 ha9 g9) ?_
 clear F9 hk9 ha9 g9
 intro H9 F9 hk9 ha9 g9
 refine ⟨(by show 0 ≤ sizeLine; decide), fun lg hl => ?_⟩
 have sl := zH hl (.lst [])
 have nlg : lg ≠ g := Ne.symm (zI g9 hl)
 have fl' : H lg = none := fr_none F9 (ni1 nlg) hl
 refine ⟨_, rfl, g, _, dx, _, rfl, sl _ _ g9, cl, T.no_Straight_log, (by show 6 < 1000; decide), ?_⟩
 refine ⟨(by show 0 ≤ sizeLine; decide), fun db hdb => ?_⟩
 obtain ⟨ndb, hdb1⟩ := upd_none hdb
 have sd := zH hdb (.lst [])
 refine ⟨_, rfl, g, _, dx, _, rfl, sd _ _ zB, cl, T.no_Straight_doubles, (by show 7 < 1000; decide), ?_⟩
 refine ⟨_, rfl, g, _, dx, _, rfl, zB, cl, T.no_Straight_over, (by show 8 < 1000; decide), ?_⟩
 rw [upd_upd]
 have nog : ∀ {x : Addr} {o : HO}, H9 x = some o → x ≠ g → ∀ {o1 o2 o3 : HO}, (upd (upd (upd (upd H9 lg (.lst [])) g o1) db o2) g o3) x = some o := fun {x o} hx hn {o1 o2 o3} => by
   rw [zF hn, zF (zI (sl _ _ hx) hdb1), zF hn]; exact sl _ _ hx
 exact k ⟨dx, pa, kd, ed, tg, aq, lg, db, pa⟩ kvs _ rfl rfl ((((F9.new hl _).upd gg _).new hdb _).upd gg _) zB (nog hk9 nkd) hK0 fa (nog ha9 naq) nka fl' (by
   rw [zF nlg, zF (zI (H := upd H9 lg (.lst [])) zB hdb1), zF nlg]; exact zB)
theorem ok_si (T : Txt K mg A) : FnOk P w K mg base CX0 4 A.f_c_Straight___init A.d_c_Straight___init ["self", "paper", "book"] (spSI A) := by
 have G_c_Going___init := ok_goi (P := P) (w := w) (base := base) T
 refine T.F_c_Straight___init.ok sc_c_Straight___init (fun vs H Q E h => ?_) (fun cdv A0 outer s H vs Q E hr h => ?_)
 · obtain ⟨g, dx, pa, sh, bk, b, rfl, _⟩ := h
   rfl
 obtain ⟨g, dx, pa, sh, bk, b, rfl, hg, hP, hQ, hb, k⟩ := h
 refine ⟨_, (zD (yP (pe_clsfn T.cf_Going_init G_c_Going___init (hr.mono (by first | decide | omega)) rfl T.m_Going T.b_c_Going___init zV (zA (pv 0) (zA (pv 1) (zA zK zE)))))
     (zG (yN (pv 0) (pv 2) rfl))), ?_⟩
 refine ⟨_, rfl, _, rfl, g, dx, pa, sh, rfl, hg, hP, hQ, fun c kvs H1 e1 e2 F1 h1 h2 h3 h4 h5 h6 h7 h8 => ?_⟩
 subst e1 e2
 refine ⟨_, rfl, _, rfl, g, _, c.dx, _, rfl, h1, T.cl_Straight, T.no_Straight_book, (by show 9 < 1000; decide), ?_⟩
 have F2 : Fr [g] H1 (upd H1 g (oGo A { c with bk := bk } false)) := (Fr.of (Same.refl _)).upd (List.mem_singleton.mpr rfl) _
 exact k { c with bk := bk } kvs _ (F1.trans F2) zB rfl rfl (F2 _ _ h2 (ni1 (yE h2 h1 (by intro z; cases z)))) h3 h4 (F2 _ _ h5 (ni1 (yE h5 h1 (by intro z; cases z)))) h6 h7 (F2 _ _ h8 (ni1 (yE h8 h1 (by intro z; cases z))))
def JGo (T : Txt K mg A) : MethJ P w K mg base CX0 7 A.c_Straight "go" := ⟨_, _, _, _, [], [], T.cl_Straight, T.me_Straight_go, ok_go T, T.b_c_Going_go, .nil⟩
def spStr (A : Adr) : Sp := fun vs H Q _ => ∃ pa bk sh b, vs = [.ref pa, .ref bk] ∧ PaR A H pa sh ∧ GQ sh.flatten ∧ H bk = some (.dT b) ∧ GB b ∧ ∀ l ts L H', Same H H' → H' l = some (.lst ts) → Paired (TpR H') ts L → logF b sh.flatten L → Q (.ref l) H'
theorem ok_straight (T : Txt K mg A) : FnOk P w K mg base CX0 8 A.f_straight A.d_straight ["paper", "book"] (spStr A) := by
 have G_c_Straight___init := ok_si (P := P) (w := w) (base := base) T
 refine T.F_straight.ok sc_straight (fun vs H Q E h => ?_) (fun cdv A0 outer s H vs Q E hr h => ?_)
 · obtain ⟨pa, bk, sh, b, rfl, _⟩ := h
   rfl
 obtain ⟨pa, bk, sh, b, rfl, hP, hQ, hb, hB, k⟩ := h
 obtain ⟨k_go, e1⟩ : ∃ k : Nat, k = 7 := ⟨_, rfl⟩
 refine ⟨_, (zD (zR (i := 2) sc_straight.nd rfl (by first | exact Or.inl rfl | exact Or.inr rfl) (pe_make T.mk_Straight G_c_Straight___init (hr.mono (by first | decide | omega)) rfl T.m_Straight T.b_c_Straight___init .nil zV (zA (pv 0) (zA (pv 1) zE))))
     (zD (yP (yF (CX := CX0) (k := k_go) (hr.mono (by first | decide | omega)) zV (pv 2)))
     (zG (zP (zM (pv 2) rfl))))), ?_⟩
 subst e1
 refine ⟨_, rfl, _, rfl, fun g dx ng ndx ne => ?_⟩
 have s1 : Same H (upd (upd H dx (.own g)) g (.ins A.c_Straight dx [])) := fun x u hx => by
   rw [zF (zI hx ng), zF (zI hx ndx)]; exact hx
 have hg1 : (upd (upd H dx (.own g)) g (.ins A.c_Straight dx [])) g = some (.ins A.c_Straight dx []) := zB
 have e1 : ∀ x, x ≠ g → x ≠ dx → (upd (upd H dx (.own g)) g (.ins A.c_Straight dx [])) x = H x := fun x h1 h2 => by rw [zF h1, zF h2]
 have hdx : (upd (upd H dx (.own g)) g (.ins A.c_Straight dx [])) dx = some (.own g) := by
   rw [zF ne]; exact zB
 generalize upd (upd H dx (.own g)) g (.ins A.c_Straight dx []) = H1 at s1 hg1 e1 hdx ⊢
 refine ⟨g, dx, pa, sh, bk, b, rfl, hg1, hP.same s1, hQ, s1 _ _ hb, fun c kvs H2 F h1 h2 h3 h4 h5 h6 h7 h8 h9 h10 => ⟨rfl, ?_⟩⟩
 subst h2 h3
 have sH : Same H H2 := fun x u hx => F _ _ (s1 _ _ hx) (ni1 (zI hx ng))
 have G0 : GoS A H c sh b g H2 [] [] false := ⟨sH, ng, xA s1 h9, xA s1 h6, hP, hb, ⟨kvs, h4, h5.1, fun q hq => by
   obtain ⟨kp, dk, k1, k2⟩ := h5.2 q hq
   refine ⟨kp, dk, k1, ?_⟩
   rw [← e1 kp (yE k2 hg1 (by intro z; injection z with _ _ z; cases z)) (yE k2 hdx (by intro z; cases z))]; exact k2⟩, h8, h1, ⟨[], h7, Nat.le_refl _, fun _ _ => rfl⟩, ⟨[], h10, .nil⟩⟩
 refine ⟨_, rfl, g, _, c.dx, gF c false, JGo T, rfl, h1, rfl, ?_⟩
 refine ⟨H, c, sh, b, g, rfl, G0, hB, hQ, fun H0' H3 L ov s3 G3 hL => ?_⟩
 refine ⟨_, rfl, g, _, c.dx, gF c ov, _, rfl, G3.go, T.cl_Straight, T.no_Straight_log, rfl, ?_⟩
 obtain ⟨ts, t1, t2⟩ := G3.lg
 exact k c.lg ts L H3 (s3.trans G3.same) t1 t2 hL
end
end K42
set_option maxHeartbeats 4000000
namespace K42
open PySem L2
seal PE PT PW PA PS PSs PG PGs PI PO PSet OpR UnR CallR TruR IxR SlR PC PPs
local macro_rules | `(tactic| walk_at "rd1") => `(tactic| first
 | (refine And.intro rfl ?_)
 | (refine And.intro (by assumption) ?_)
 | (refine And.intro (fun _ e => e) ?_)
 | (refine And.intro (TyOf.str _) ?_) | (refine And.intro (TyOf.int _) ?_) | (refine And.intro (TyOf.bl _) ?_) | (refine And.intro TyOf.non ?_)
 | (refine iteT ?_) | (refine iteF ?_)
 | (apply Exists.intro))
local macro_rules | `(tactic| walk_at "rd") => `(tactic| repeat (walk_at "rd1"))
def PreB (b : Bk) (qs : List Qn) (a : Nat) : Prop := a ≤ qs.length ∧ (∀ (i : Nat) q, i < a → qs[i]? = some q → fitQ b q = true) ∧ ∀ (i : Nat) q, a ≤ i → qs[i]? = some q → getB b q.1 = .non
def lastE (qs : List Qn) (a : Nat) : List V := match qs[a]? with
 | some q => opnE q
 | none => endE
theorem no_fit {b : Bk} {q : Qn} (h : getB b q.1 = .non) : fitQ b q = false := by
 unfold fitQ; rw [h]; rfl
theorem log_of {b : Bk} {qs : List Qn} {a : Nat} {L : List (List V)} (h : PreB b qs a) (hl : logF b qs L) : L = (qs.take a).map (askE b) ++ [lastE qs a] := by
 obtain ⟨h0, h1, h2⟩ := h
 obtain ⟨L', ⟨S, rfl⟩ | ⟨S, rfl⟩⟩ := hl
 · rcases S with ⟨_, s1, rfl⟩ | ⟨e, _⟩
   · have ha : a = qs.length := by
       by_cases c : a < qs.length
       · have e := List.getElem?_eq_getElem c
         have := s1 _ (List.getElem_mem c)
         rw [no_fit (h2 a _ (Nat.le_refl _) e)] at this
         cases this
       · omega
     subst ha
     rw [List.take_length]
     unfold lastE
     rw [List.getElem?_eq_none_iff.mpr (Nat.le_refl _)]
   · cases e
 · rcases S with ⟨e, _⟩ | ⟨_, pre, q, r, rfl, s1, s2, rfl⟩
   · cases e
   · have hq : (pre ++ q :: r)[pre.length]? = some q := by simp
     have ha : a = pre.length := by
       rcases Nat.lt_trichotomy a pre.length with c | c | c
       · have e : (pre ++ q :: r)[a]? = some pre[a] := by rw [List.getElem?_append_left c]; exact List.getElem?_eq_getElem c
         have := s1 _ (List.getElem_mem c)
         rw [no_fit (h2 a _ (Nat.le_refl _) e)] at this
         cases this
       · exact c
       · rw [h1 _ _ c hq] at s2; cases s2
     subst ha
     unfold lastE
     rw [hq]
     simp
theorem atI_last {α : Type} (l : List α) (x : α) : atI (l ++ [x]) (-1) = some x := by
 unfold atI ixN
 rw [if_neg (by decide), List.length_append]
 have : -(((l.length + [x].length : Nat) : Int)) ≤ -1 := by show -(((l.length + 1 : Nat) : Int)) ≤ -1; omega
 rw [if_pos this]
 show (l ++ [x])[((-1 : Int) + ((l.length + 1 : Nat) : Int)).toNat]? = some x
 rw [show ((-1 : Int) + ((l.length + 1 : Nat) : Int)).toNat = l.length by omega]
 simp
structure HA where
 dx : Addr
 pa : Addr
 kd : Addr
 bk : Addr
abbrev hF (c : HA) (fv : V) : List (Str × V) := [("paper", .ref c.pa), ("kinds", .ref c.kd), ("book", .ref c.bk), ("finger", fv)]
abbrev oHa (A : Adr) (c : HA) (fv : V) : HO := .ins A.c_Hand c.dx (hF c fv)
structure HaS (A : Adr) (c : HA) (sh : List (List Qn)) (b : Bk) (h : Addr) (H : Hp) (fv : V) : Prop where
 ha : H h = some (oHa A c fv)
 pa : PaR A H c.pa sh
 kd : ∃ kvs, H c.kd = some (.dK kvs) ∧ KdR A H kvs sh.flatten
 bk : H c.bk = some (.dT b)
theorem HaS.mono {A : Adr} {c : HA} {sh : List (List Qn)} {b : Bk} {h : Addr} {H H' : Hp} {fv : V} (x : HaS A c sh b h H fv) (s : Same H H') : HaS A c sh b h H' fv :=
 ⟨s _ _ x.ha, x.pa.same s, let ⟨k, a, e⟩ := x.kd; ⟨k, s _ _ a, e.same s⟩, s _ _ x.bk⟩
structure HaQ (A : Adr) (c : HA) (sh : List (List Qn)) (b : Bk) (h : Addr) (H : Hp) (r : List (Str × V)) : Prop where
 fin : r = [] ∨ ∃ v, r = [((Str.ofString "finger"), v)]
 ha : H h = some (.ins A.c_Hand c.dx (((Str.ofString "paper"), .ref c.pa) :: ((Str.ofString "kinds"), .ref c.kd) :: ((Str.ofString "book"), .ref c.bk) :: r))
 pa : PaR A H c.pa sh
 bk : H c.bk = some (.dT b)
theorem HaS.q {A : Adr} {c : HA} {sh : List (List Qn)} {b : Bk} {h : Addr} {H : Hp} {fv : V} (x : HaS A c sh b h H fv) : HaQ A c sh b h H [((Str.ofString "finger"), fv)] := ⟨.inr ⟨_, rfl⟩, x.ha, x.pa, x.bk⟩
def fgT (z : Str) : List V := [.str z, .str (Str.ofString "")]
def FgR (H : Hp) (fv : V) : Option Str → Prop
 | none => fv = .non
 | some z => ∃ t, fv = .ref t ∧ H t = some (.tup (fgT z))
theorem FgR.same {H H' : Hp} (s : Same H H') {fv : V} {o : Option Str} (h : FgR H fv o) : FgR H' fv o := by
 cases o with
 | none => exact h
 | some z => obtain ⟨t, e, h1⟩ := h; exact ⟨t, e, s _ _ h1⟩
def PlR (H : Hp) (x : V) (z : Str) : Prop := TpR H x (fgT z)
def plc (qs : List Qn) (a : Nat) : List Str := (qs.take (a + 1)).map (·.1)
def spLogN (A : Adr) : Sp := fun vs H Q _ => ∃ c sh b h r a, vs = [.ref h] ∧ HaQ A c sh b h H r ∧ GQ sh.flatten ∧ GB b ∧ PreB b sh.flatten a ∧ ∀ l ts H', Same H H' → H' l = some (.lst ts) → Paired (TpR H') ts ((sh.flatten.take a).map (askE b) ++ [lastE sh.flatten a]) → Q (.ref l) H'
def spPl (A : Adr) : Sp := fun vs H Q _ => ∃ c sh b h r a, vs = [.ref h] ∧ HaQ A c sh b h H r ∧ GQ sh.flatten ∧ GB b ∧ PreB b sh.flatten a ∧ ∀ l ts H', Same H H' → H' l = some (.lst ts) → Paired (PlR H') ts (plc sh.flatten a) → Q (.ref l) H'
def spState (A : Adr) : Sp := fun vs H Q _ => ∃ c sh b h fv a, vs = [.ref h] ∧ HaS A c sh b h H fv ∧ GQ sh.flatten ∧ GB b ∧ PreB b sh.flatten a ∧ ∀ t H', Same H H' → H' t = some (.tup (lastE sh.flatten a)) → Q (.ref t) H'
section
variable {P : Program} {w : World} {K : W.Frag} {mg : Str → Option Value} {base : Heap} {A : Adr}
theorem ok_logn (T : Txt K mg A) : FnOk P w K mg base CX0 9 A.f_c_Hand_log_now A.d_c_Hand_log_now ["self"] (spLogN A) := by
 have G_straight := ok_straight (P := P) (w := w) (base := base) T
 refine T.F_c_Hand_log_now.ok sc_c_Hand_log_now (fun vs H Q E h => ?_) (fun cdv A0 outer s H vs Q E hr h => ?_)
 · obtain ⟨c, sh, b, h, r, a, rfl, _⟩ := h
   rfl
 obtain ⟨c, sh, b, h, r, a, rfl, hH, hQ, hB, hp, k⟩ := h
 have hfin := hH.fin
 refine ⟨_, (zG (zP (yH G_straight (hr.mono (by first | decide | omega)) rfl T.m_straight T.k_straight T.b_straight .nil zV (zA (zM (pv 0) rfl) (zA (zM (pv 0) rfl) zE))))), ?_⟩
 refine ⟨_, rfl, h, _, c.dx, _, _, rfl, hH.ha, T.cl_Hand, T.no_Hand_paper, rfl, _, rfl, h, _, c.dx, _, _, rfl, hH.ha, T.cl_Hand, T.no_Hand_book, rfl, ?_⟩
 exact ⟨c.pa, c.bk, sh, b, rfl, hH.pa, hQ, hH.bk, hB, fun l ts L H' s1 h1 h2 h3 => k l ts H' s1 h1 (by rw [← log_of hp h3]; exact h2)⟩
def JLg (T : Txt K mg A) : MethJ P w K mg base CX0 9 A.c_Hand "log_now" := ⟨_, _, _, _, [], [], T.cl_Hand, T.me_Hand_log_now, ok_logn T, T.b_c_Hand_log_now, .nil⟩
theorem lastE_flat (qs : List Qn) (a : Nat) : (lastE qs a).all flatV = true := by
 unfold lastE
 cases qs[a]? with
 | some q => rfl
 | none => rfl
theorem ok_state (T : Txt K mg A) : FnOk P w K mg base CX0 10 A.f_c_Hand_state A.d_c_Hand_state ["self"] (spState A) := by
 refine T.F_c_Hand_state.ok sc_c_Hand_state (fun vs H Q E h => ?_) (fun cdv A0 outer s H vs Q E hr h => ?_)
 · obtain ⟨c, sh, b, h, fv, a, rfl, _⟩ := h
   rfl
 obtain ⟨c, sh, b, h, fv, a, rfl, hH, hQ, hB, hp, k⟩ := h
 obtain ⟨k_log_now, e1⟩ : ∃ k : Nat, k = 9 := ⟨_, rfl⟩
 refine ⟨_, (zG (zP (yC yJ (yF (CX := CX0) (k := k_log_now) (hr.mono (by first | decide | omega)) zV (pv 0)) (pe_un un_neg zJ) (fun _ _ => rfl)))), ?_⟩
 subst e1
 refine ⟨_, rfl, h, _, c.dx, hF c fv, JLg T, rfl, hH.ha, rfl, ?_⟩
 refine ⟨c, sh, b, h, _, a, rfl, hH.q, hQ, hB, hp, fun l ts H1 s1 h1 h2 => ?_⟩
 have hlen := zZ h2
 have hl2 : ts.length = (sh.flatten.take a).length + 1 := by rw [hlen, List.length_append, List.length_map]; rfl
 obtain ⟨x, hx, t, rfl, ht⟩ := paired_of (i := (sh.flatten.take a).length) (b := lastE sh.flatten a) h2 (by rw [List.getElem?_append_right (by rw [List.length_map]; exact Nat.le_refl _), List.length_map, Nat.sub_self]; rfl)
 refine ⟨_, rfl, l, _, _, _, rfl, rfl, SqL.of h1, ?_, k t H1 s1 ht⟩
 have e : ts = ts.take (sh.flatten.take a).length ++ [.ref t] := by
   have := xB hx
   rw [← hl2, List.take_length] at this
   exact this
 rw [e]
 exact atI_last _ _
theorem nd_idx {qs : List Qn} (h : (qs.map (·.1)).Nodup) {i j : Nat} {p q : Qn} (hi : qs[i]? = some p) (hj : qs[j]? = some q) (e : p.1 = q.1) : i = j := by
 have a1 : (qs.map (·.1))[i]? = some p.1 := by rw [List.getElem?_map, hi]; rfl
 have a2 : (qs.map (·.1))[j]? = some q.1 := by rw [List.getElem?_map, hj]; rfl
 have l1 := (List.getElem?_eq_some_iff.mp a1).1
 exact (List.getElem?_inj l1 h).mp (by rw [a1, a2, e])
theorem plc_snoc {qs : List Qn} {a : Nat} {q : Qn} (h : qs[a]? = some q) : plc qs a = (qs.take a).map (·.1) ++ [q.1] := by
 unfold plc; rw [xB h, List.map_append]; rfl
theorem plc_all {qs : List Qn} {a : Nat} (h : qs[a]? = none) : plc qs a = (qs.take a).map (·.1) := by
 have := List.getElem?_eq_none_iff.mp h
 unfold plc
 rw [List.take_of_length_le (by omega), List.take_of_length_le (by omega)]
theorem ok_pl (T : Txt K mg A) : FnOk P w K mg base CX0 10 A.f_c_Hand_places A.d_c_Hand_places ["self"] (spPl A) := by
 refine T.F_c_Hand_places.ok sc_c_Hand_places (fun vs H Q E h => ?_) (fun cdv A0 outer s H vs Q E hr h => ?_)
 · obtain ⟨c, sh, b, h, r, a, rfl, _⟩ := h
   rfl
 obtain ⟨c, sh, b, h, r0, a, rfl, hH, hQ, hB, hp, k⟩ := h
 obtain ⟨k_log_now, e1⟩ : ∃ k : Nat, k = 9 := ⟨_, rfl⟩
 refine ⟨_, (zG (zP (pe_compF (yU (x := "row") (M := ["self"]) rfl (by rfl)) rfl (yQ (yF (CX := CX0) (k := k_log_now) (hr.mono (by first | decide | omega)) zV (pv 0))) (fun _ _ _ _ => pifs_eqv (by exact (pifs_one (zQ (op_in2 (hu20 hr)) (yC yL (pv 0) zJ (fun _ _ => rfl)) (yI (zA zK (zA zK zE))) (by rfl)))) (by dsimp only [compCx] <;> rfl)) (fun _ _ _ _ => pe_eqv (by exact (yI (zA (yC yL (pv 0) zJ (fun _ _ => rfl)) (zA (yC yL (pv 0) zJ (fun _ _ => rfl)) zE)))) (by dsimp only [compCx] <;> rfl))))), ?_⟩
 subst e1
 refine ⟨_, rfl, h, _, c.dx, _, JLg T, rfl, hH.ha, (by rcases hH.fin with rfl | ⟨v, rfl⟩ <;> rfl), ?_⟩
 refine ⟨c, sh, b, h, r0, a, rfl, hH, hQ, hB, hp, fun l ts H1 s1 h1 h2 => ?_⟩
 have hlen := zZ h2
 have h8 := hQ.2.2
 have hl2 : ts.length = (sh.flatten.take a).length + 1 := by rw [hlen, List.length_append, List.length_map]; rfl
 have hl3 : (sh.flatten.take a).length ≤ 8 := by rw [List.length_take]; omega
 refine ⟨l, rfl, ⟨_, SqL.of h1⟩, ?_⟩
 generalize hF0 : sh.flatten = F at *
 refine comp_listF (xs := ts) (yB (m := 100) (by omega)) (fun i ys H' => Same H1 H' ∧ ((i ≤ (F.take a).length ∧ Paired (PlR H') ys (((F.take a).take i).map (·.1))) ∨ (i = (F.take a).length + 1 ∧ Paired (PlR H') ys (plc F a)))) ⟨Same.refl _, .inl ⟨Nat.zero_le _, .nil⟩⟩ (fun i ys H' hw => SqL.of (hw.1 _ _ h1)) (fun i x ys H' hx hyl hw => ?_) (fun ys H' hw p hp' => ?_)
 · obtain ⟨sH, hw⟩ := hw
   obtain ⟨e, he, t, rfl, ht⟩ := zS h2 hx
   have ht' := sH _ _ ht
   have two : (∃ wd z r, e = .str wd :: .str z :: .str (Str.ofString "") :: r ∧ inV (.str wd) [.str (Str.ofString "ask"), .str (Str.ofString "open")] = true ∧
       ∀ r' H2, Same H' H2 → H2 r' = some (.tup (fgT z)) → (i + 1 ≤ (F.take a).length ∧ Paired (PlR H2) (ys ++ [.ref r']) (((F.take a).take (i + 1)).map (·.1))) ∨ (i + 1 = (F.take a).length + 1 ∧ Paired (PlR H2) (ys ++ [.ref r']) (plc F a))) ∨
       (e = endE ∧ ∀ H2, Same H' H2 → i + 1 = (F.take a).length + 1 ∧ Paired (PlR H2) ys (plc F a)) := by
     have hi : i < ts.length := (List.getElem?_eq_some_iff.mp hx).1
     rcases hw with ⟨c1, hw⟩ | ⟨c1, _⟩
     · by_cases c2 : i < (F.take a).length
       · rw [List.getElem?_append_left (by rw [List.length_map]; exact c2), List.getElem?_map] at he
         have hq := List.getElem?_eq_getElem c2
         rw [hq] at he
         cases he
         refine .inl ⟨_, _, _, rfl, rfl, fun r' H2 s2 h => .inl ⟨c2, ?_⟩⟩
         rw [xB hq, List.map_append]
         exact xE (zL hw fun _ _ => TpR.same s2) (.cons ⟨r', rfl, h⟩ .nil)
       · have c3 : i = (F.take a).length := by omega
         rw [c3, List.getElem?_append_right (by rw [List.length_map]; exact Nat.le_refl _), List.length_map, Nat.sub_self] at he
         cases he
         rw [c3, List.take_length] at hw
         cases hq : F[a]? with
         | some q =>
           refine .inl ⟨Str.ofString "open", q.1, [], (by unfold lastE; rw [hq]; rfl), rfl, fun r' H2 s2 h => .inr ⟨by rw [c3], ?_⟩⟩
           rw [plc_snoc hq]
           exact xE (zL hw fun _ _ => TpR.same s2) (.cons ⟨r', rfl, h⟩ .nil)
         | none =>
           refine .inr ⟨by unfold lastE; rw [hq], fun H2 s2 => ⟨by rw [c3], ?_⟩⟩
           rw [plc_all hq]
           exact zL hw fun _ _ => TpR.same s2
     · omega
   rcases two with ⟨wd, z, r, rfl, hin, hW⟩ | ⟨rfl, hW⟩
   · refine ⟨_, rfl, t, _, _, _, rfl, rfl, SqT.of ht', zX rfl, (by show 2 ≤ sizeLine; decide), fun tp htp => ⟨tp, _, _, rfl, .inr (SqT.of zB), rfl, .inl ⟨rfl, rfl⟩, _, rfl, ?_⟩⟩
     have s2 := zH htp (.tup [.str (Str.ofString "ask"), .str (Str.ofString "open")])
     refine iteB hin ?_
     refine ⟨_, rfl, t, _, _, _, rfl, rfl, SqT.of (s2 _ _ ht'), zX rfl, _, rfl, t, _, _, _, rfl, rfl, SqT.of (s2 _ _ ht'), zX rfl, (by show 2 ≤ sizeLine; decide), fun r' hr' => ?_⟩
     have s3 := zH hr' (.tup (fgT z))
     exact ⟨sH.trans (s2.trans s3), hW r' _ (s2.trans s3) zB⟩
   · refine ⟨_, rfl, t, _, _, _, rfl, rfl, SqT.of ht', zX rfl, (by show 2 ≤ sizeLine; decide), fun tp htp => ⟨tp, _, _, rfl, .inr (SqT.of zB), rfl, .inl ⟨rfl, rfl⟩, _, rfl, ?_⟩⟩
     have s2 := zH htp (.tup [.str (Str.ofString "ask"), .str (Str.ofString "open")])
     refine iteO (by symm) ?_
     exact ⟨sH.trans s2, .inr (hW _ s2)⟩
 · obtain ⟨sH, hw⟩ := hw
   rcases hw with ⟨c1, _⟩ | ⟨_, hw⟩
   · omega
   · exact k p ys _ (s1.trans (sH.trans (zH hp' _))) zB (zL hw fun _ _ => TpR.same (zH hp' _))
end
end K42
set_option maxHeartbeats 4000000
namespace K42
open PySem L2
seal PE PT PW PA PS PSs PG PGs PI PO PSet OpR UnR CallR TruR IxR SlR PC PPs
local macro_rules | `(tactic| walk_at "rd1") => `(tactic| first
 | (refine And.intro rfl ?_)
 | (refine And.intro (by assumption) ?_)
 | (refine And.intro (fun _ e => e) ?_)
 | (refine And.intro (TyOf.str _) ?_) | (refine And.intro (TyOf.int _) ?_) | (refine And.intro (TyOf.bl _) ?_) | (refine And.intro TyOf.non ?_)
 | (refine iteT ?_) | (refine iteF ?_)
 | (apply Exists.intro))
local macro_rules | `(tactic| walk_at "rd") => `(tactic| repeat (walk_at "rd1"))
theorem Kp.ofH {H : Hp} {h C dx : Addr} {u : V} {r : List (Str × V)} {o : HO} (hh : H h = some (.ins C dx ((Str.ofString "paper", u) :: r))) : Kp H (upd H h o) := fun b x hb ho => by
 rw [zF (fun e => by
   rw [e, hh] at hb; cases hb
   rcases ho with ⟨_, z⟩ | ⟨_, _, _, _, z⟩ | ⟨_, _, _, _, z⟩
   · cases z
   · injection z with _ _ z; injection z with z _; injection z with z _; exact absurd z (by symm)
   · injection z with _ _ z; injection z with z _; injection z with z _; exact absurd z (by symm))]
 exact hb
theorem HaS.setF {A : Adr} {c : HA} {sh : List (List Qn)} {b : Bk} {h : Addr} {H : Hp} {fv : V} (x : HaS A c sh b h H fv) (v : V) : HaS A c sh b h (upd H h (oHa A c v)) v := by
 obtain ⟨kvs, k1, k2⟩ := x.kd
 have kp : Kp H (upd H h (oHa A c v)) := Kp.ofH x.ha
 exact ⟨zB, x.pa.kp kp, ⟨kvs, by rw [zF (yE k1 x.ha (by intro z; cases z))]; exact k1, k2.kp kp⟩, by rw [zF (yE x.bk x.ha (by intro z; cases z))]; exact x.bk⟩
theorem eqT (x y : Str) : eqL (fgT x) (fgT y) = decide (x = y) := by
 have := eqL_strs (xs := [x, Str.ofString ""]) (ys := [y, Str.ofString ""])
 rw [show fgT x = [x, Str.ofString ""].map V.str from rfl, show fgT y = [y, Str.ofString ""].map V.str from rfl, this]
 by_cases e : x = y
 · subst e; rw [decide_eq_true rfl, decide_eq_true rfl]
 · rw [decide_eq_false e, decide_eq_false (fun z => e (List.cons.inj z).1)]
def ebT (H : Hp) (z : Str) : V → Bool
 | .ref x => match H x with
   | some (.tup t) => eqL t (fgT z)
   | _ => false
 | _ => false
theorem ebT_at {H : Hp} {x : V} {y z : Str} (h : PlR H x y) : ebT H z x = decide (y = z) := by
 obtain ⟨a, rfl, h1⟩ := h
 show (match H a with | some (HO.tup t) => eqL t (fgT z) | _ => false) = _
 rw [h1]
 exact eqT y z
theorem plc_at {qs : List Qn} {a i : Nat} {q : Qn} (h : qs[i]? = some q) (hi : i ≤ a) : (plc qs a)[i]? = some q.1 := by
 unfold plc
 rw [List.getElem?_map, List.getElem?_take, if_pos (by omega), h]; rfl
theorem at_plc {qs : List Qn} {a i : Nat} {z : Str} (h : (plc qs a)[i]? = some z) : ∃ q, qs[i]? = some q ∧ q.1 = z := by
 unfold plc at h
 rw [List.getElem?_map, List.getElem?_take] at h
 by_cases c : i < a + 1
 · rw [if_pos c] at h
   cases e : qs[i]? with
   | none => rw [e] at h; cases h
   | some q => rw [e] at h; cases h; exact ⟨q, rfl, rfl⟩
 · rw [if_neg c] at h; cases h
theorem plc_len {qs : List Qn} {a : Nat} : (plc qs a).length = min (a + 1) qs.length := by unfold plc; rw [List.length_map, List.length_take]
theorem idx_pl {X : Cx} {H : Hp} {ts : List V} {qs : List Qn} {a p t : Nat} {q : Qn} (h2 : Paired (PlR H) ts (plc qs a)) (hn : (qs.map (·.1)).Nodup) (hq : qs[p]? = some q) (hp : p ≤ a) (ht : H t = some (.tup (fgT q.1))) :
   (∀ z ∈ ts, (∃ x, z = .ref x) ∧ EqJi X H 18 z (.ref t) (ebT H q.1 z)) ∧ ∃ z, ts[p]? = some z ∧ ebT H q.1 z = true ∧ ∀ (m : Nat) z, m < p → ts[m]? = some z → ebT H q.1 z = false := by
 refine ⟨fun z hz => ?_, ?_⟩
 · obtain ⟨m, hm⟩ := List.mem_iff_getElem?.mp hz
   obtain ⟨y, hy, hP⟩ := zS h2 hm
   have e := ebT_at (z := q.1) hP
   obtain ⟨x, rfl, hx⟩ := hP
   refine ⟨⟨x, rfl⟩, ?_⟩
   rw [e, ← eqT]
   exact eqi_ftups (n := 17) (SqT.of hx) (SqT.of ht) rfl rfl fun z => by
     rw [eqT] at z
     rw [of_decide_eq_true z]
 · obtain ⟨z, hz, hP⟩ := paired_of h2 (plc_at hq hp)
   refine ⟨z, hz, by rw [ebT_at hP]; exact decide_eq_true rfl, fun m y hm hy => ?_⟩
   obtain ⟨w, hw, hR⟩ := zS h2 hy
   rw [ebT_at hR]
   obtain ⟨q', hq', rfl⟩ := at_plc hw
   exact decide_eq_false fun e => absurd (nd_idx hn hq' hq e) (by omega)
def spPB (A : Adr) : Sp := fun vs H Q _ => ∃ c sh b h fv a p q, vs = [.ref h] ∧ HaS A c sh b h H fv ∧ GQ sh.flatten ∧ GB b ∧ PreB b sh.flatten a ∧ sh.flatten[p]? = some q ∧ FgR H fv (some q.1) ∧ p + 1 ≤ a ∧
 ∀ fv' H', Fr [h] H H' → HaS A c sh b h H' fv' → FgR H' fv' ((sh.flatten[p + 1]?).map (·.1)) → Q .non H'
def spDF (A : Adr) : Sp := fun vs H Q E => ∃ c h fv, vs = [.ref h] ∧ H h = some (oHa A c fv) ∧ ((fv = .non ∧ E (.ref A.c_Nowhere) none H) ∨ ((∃ t, fv = .ref t) ∧ Q .non H))
def spAt (A : Adr) : Sp := fun vs H Q _ => ∃ c h fv, vs = [.ref h] ∧ H h = some (oHa A c fv) ∧ Q fv H
section
variable {P : Program} {w : World} {K : W.Frag} {mg : Str → Option Value} {base : Heap} {A : Adr}
theorem ok_at (T : Txt K mg A) : FnOk P w K mg base CX0 1 A.f_c_Hand_at A.d_c_Hand_at ["self"] (spAt A) := by
 refine T.F_c_Hand_at.ok sc_c_Hand_at (fun vs H Q E h => ?_) (fun cdv A0 outer s H vs Q E hr h => ?_)
 · obtain ⟨c, h, fv, rfl, _⟩ := h
   rfl
 obtain ⟨c, h, fv, rfl, hh, k⟩ := h
 exact ⟨_, (zG (zP (zM (pv 0) rfl))), _, rfl, h, _, c.dx, hF c fv, _, rfl, hh, T.cl_Hand, T.no_Hand_finger, rfl, k⟩
theorem ok_df (T : Txt K mg A) : FnOk P w K mg base (CXW P w) 1 A.f_c_Hand_demand_finger A.d_c_Hand_demand_finger ["self"] (spDF A) := by
 refine T.F_c_Hand_demand_finger.okX sc_c_Hand_demand_finger (fun vs H Q E h => ?_) (fun cdv A0 outer s H vs Q E hr h => ?_)
 · obtain ⟨c, h, fv, rfl, _⟩ := h
   rfl
 obtain ⟨c, h, fv, rfl, hh, k⟩ := h
 refine ⟨_, (zG (yK (zQ op_isN (zM (pv 0) rfl) xM (zW _)) (zG (ps_raise T.m_Nowhere T.x_Nowhere (zA zK zE) rfl)) zU)), ?_⟩
 refine ⟨_, rfl, h, _, c.dx, hF c fv, _, rfl, hh, T.cl_Hand, T.no_Hand_finger, rfl, rfl, _, rfl, ?_⟩
 rcases k with ⟨rfl, k⟩ | ⟨⟨t, rfl⟩, k⟩
 · exact iteT ⟨(by show 1 ≤ sizeLine; decide), k⟩
 · exact iteF k
def JPl (T : Txt K mg A) : MethJ P w K mg base CX0 10 A.c_Hand "places" := ⟨_, _, _, _, [], [], T.cl_Hand, T.me_Hand_places, ok_pl T, T.b_c_Hand_places, .nil⟩
theorem ok_pb (T : Txt K mg A) : FnOk P w K mg base CX0 11 A.f_c_Hand_put_behind A.d_c_Hand_put_behind ["self"] (spPB A) := by
 refine T.F_c_Hand_put_behind.ok sc_c_Hand_put_behind (fun vs H Q E h => ?_) (fun cdv A0 outer s H vs Q E hr h => ?_)
 · obtain ⟨c, sh, b, h, fv, a, p, q, rfl, _⟩ := h
   rfl
 obtain ⟨c, sh, b, h, fv, a, p, q, rfl, hH, hQ, hB, hp, hq, ⟨t0, rfl, ht⟩, hpa, k⟩ := h
 obtain ⟨k_places, e1⟩ : ∃ k : Nat, k = 10 := ⟨_, rfl⟩
 refine ⟨_, (zD (zR (i := 1) sc_c_Hand_put_behind.nd rfl (by first | exact Or.inl rfl | exact Or.inr rfl) (yF (CX := CX0) (k := k_places) (hr.mono (by first | decide | omega)) zV (pv 0)))
     (zD (zR (i := 2) sc_c_Hand_put_behind.nd rfl (by first | exact Or.inl rfl | exact Or.inr rfl) (yA xJ (pe_bm PySem.F.plainAttrs_list PySem.F.slot_list_index PySem.F.type_list_index (mt_lindexT (hu20 hr)) (pv 1) (zA (zM (pv 0) rfl) zE)) zJ))
     (zG (yN (pv 0) (pe_ifExp (zQ op_lt (pv 2) (zO yD (by rfl) T.n_len PySem.boot_len (zA (pv 1) zE)) (zW _)) (yC yJ (pv 1) (pv 2) (fun _ _ => rfl)) xM) rfl)))), ?_⟩
 subst e1
 refine ⟨_, rfl, h, _, c.dx, hF c _, JPl T, rfl, hH.ha, rfl, ?_⟩
 refine ⟨c, sh, b, h, _, a, rfl, hH.q, hQ, hB, hp, fun l ts H1 s1 h1 h2 => ?_⟩
 have H1' := hH.mono s1
 have ht1 := s1 _ _ ht
 obtain ⟨hall, z, hz, hz1, hz2⟩ := idx_pl (X := (cxOf CX0 P w K mg base ["self", "places", "behind"] (Str.ofString "Hand.put_behind") (defScope s_c_Hand_put_behind) A.f_c_Hand_put_behind cdv A0 outer s H E).nox) h2 hQ.1 hq (by omega) ht1
 have tl : ts.length = min (a + 1) sh.flatten.length := (zZ h2).trans plc_len
 refine ⟨_, rfl, .inl ⟨rfl, _, SqL.of h1⟩, _, rfl, h, _, c.dx, hF c _, _, rfl, H1'.ha, T.cl_Hand, T.no_Hand_finger, rfl, l, ts, _, p, ebT H1 q.1, z, rfl, rfl, SqL.of h1, hall, hz, hz1, hz2, _, _, rfl, rfl, ?_⟩
 refine ⟨_, rfl, _, rfl, l, _, rfl, .inl (SqL.of h1), _, _, rfl, rfl, _, rfl, ?_⟩
 refine ite2 (fun c1 => ?_) (fun c1 => ?_)
 · have c2 : p + 1 < ts.length := by have := of_decide_eq_true c1; omega
   have hx := List.getElem?_eq_getElem c2
   obtain ⟨y, hy, x, ex, hxT⟩ := zS h2 hx
   obtain ⟨q', hq', rfl⟩ := at_plc hy
   rw [ex] at hx
   refine ⟨_, rfl, _, rfl, l, _, _, _, rfl, rfl, SqL.of h1, (by show atI ts ((p : Int) + 1) = _; rw [show ((p : Int) + 1) = ((p + 1 : Nat) : Int) by omega]; exact zX hx), _, rfl, h, _, c.dx, _, rfl, H1'.ha, T.cl_Hand, T.no_Hand_finger, (by show 4 < 1000; decide), ?_⟩
   refine k (.ref x) _ ((Fr.of s1).upd (List.mem_singleton.mpr rfl) _) (H1'.setF (.ref x)) ?_
   rw [hq']
   exact ⟨x, rfl, by rw [zF (yE hxT H1'.ha (by intro z; cases z))]; exact hxT⟩
 · have c2 : ¬ p + 1 < ts.length := fun z => c1 (decide_eq_true (by omega))
   refine ⟨_, rfl, h, _, c.dx, _, rfl, H1'.ha, T.cl_Hand, T.no_Hand_finger, (by show 4 < 1000; decide), ?_⟩
   refine k .non _ ((Fr.of s1).upd (List.mem_singleton.mpr rfl) _) (H1'.setF .non) ?_
   rw [List.getElem?_eq_none_iff.mpr (by omega)]
   rfl
end
end K42
set_option maxHeartbeats 4000000
namespace K42
open PySem L2
seal PE PT PW PA PS PSs PG PGs PI PO PSet OpR UnR CallR TruR IxR SlR PC PPs
local macro_rules | `(tactic| walk_at "rd1") => `(tactic| first
 | (refine And.intro rfl ?_)
 | (refine And.intro (by assumption) ?_)
 | (refine And.intro (fun _ e => e) ?_)
 | (refine And.intro (TyOf.str _) ?_) | (refine And.intro (TyOf.int _) ?_) | (refine And.intro (TyOf.bl _) ?_) | (refine And.intro TyOf.non ?_)
 | (refine iteT ?_) | (refine iteF ?_)
 | (apply Exists.intro))
local macro_rules | `(tactic| walk_at "rd") => `(tactic| repeat (walk_at "rd1"))
theorem HaS.setB {A : Adr} {c : HA} {sh : List (List Qn)} {b : Bk} {h : Addr} {H : Hp} {fv : V} (x : HaS A c sh b h H fv) (b' : Bk) : HaS A c sh b' h (upd H c.bk (.dT b')) fv := by
 obtain ⟨kvs, k1, k2⟩ := x.kd
 have kp : Kp H (upd H c.bk (.dT b')) := fun y o hy ho => by
   rw [zF (fun e => by
     rw [e, x.bk] at hy; cases hy
     rcases ho with ⟨_, z⟩ | ⟨_, _, _, _, z⟩ | ⟨_, _, _, _, z⟩ <;> cases z)]
   exact hy
 exact ⟨by rw [zF (yE x.ha x.bk (by intro z; cases z))]; exact x.ha, x.pa.kp kp, ⟨kvs, by rw [zF (yE k1 x.bk (by intro z; cases z))]; exact k1, k2.kp kp⟩, zB⟩
theorem getB_put (b : Bk) (z y : Str) (v : V) : getB (putK b (keyOf z) v) y = if y = z then v else getB b y := by
 unfold getB
 rw [valV_put]
 by_cases e : y = z
 · rw [if_pos e, if_pos (by rw [e])]; rfl
 · rw [if_neg e, if_neg (show ¬ keyOf y = keyOf z from fun x => e (Sum.inr.inj (List.cons.inj x).1))]
theorem PreB.put {b : Bk} {qs : List Qn} {a p : Nat} {q : Qn} {n : Int} (h : PreB b qs a) (hn : (qs.map (·.1)).Nodup) (hq : qs[p]? = some q) (hp : p ≤ a) (h1 : q.2.1 ≤ n) (h2 : n ≤ q.2.2) : PreB (putK b (keyOf q.1) (.int n)) qs (max a (p + 1)) := by
 have hl := (List.getElem?_eq_some_iff.mp hq).1
 refine ⟨by have := h.1; omega, fun i q' hi hq' => ?_, fun i q' hi hq' => ?_⟩
 · unfold fitQ
   rw [getB_put]
   by_cases e : q'.1 = q.1
   · have ei := nd_idx hn hq' hq e
     subst ei
     rw [hq] at hq'; cases hq'
     rw [if_pos rfl]
     show (decide (q.2.1 ≤ n) && decide (n ≤ q.2.2)) = true
     rw [decide_eq_true h1, decide_eq_true h2]; rfl
   · rw [if_neg e]
     refine h.2.1 i q' ?_ hq'
     have : i ≠ p := fun z => by subst z; rw [hq] at hq'; cases hq'; exact e rfl
     omega
 · rw [getB_put, if_neg (fun e => by have := nd_idx hn hq' hq e; omega)]
   exact h.2.2 i q' (by omega) hq'
theorem GB.put {b : Bk} (h : GB b) (hl : b.length ≤ 999) (z : Str) (n : Int) : GB (putK b (keyOf z) (.int n)) := ⟨by have := xC b (keyOf z) (.int n); omega, fun y => by
 rw [getB_put]
 by_cases e : y = z
 · rw [if_pos e]; exact .inr ⟨n, rfl⟩
 · rw [if_neg e]; exact h.2 y⟩
theorem readK_in {ans : List Nat → Option Int} {lo hi : Int} {l : List Nat} {n : Int} (h : readK ans lo hi l = some n) : lo ≤ n ∧ n ≤ hi := by
 unfold readK at h
 cases e : ans (stripL l) with
 | none => rw [e] at h; cases h
 | some m =>
   rw [e] at h
   dsimp only at h
   by_cases c : lo ≤ m ∧ m ≤ hi
   · rw [if_pos c] at h; cases h; exact c
   · rw [if_neg c] at h; cases h
def spAn (A : Adr) (K : W.Frag) : Sp := fun vs H Q E => ∃ c sh b h fv a p x, ∃ _ : Thing K H x, vs = [.ref h, x] ∧ HaS A c sh b h H fv ∧ GQ sh.flatten ∧ GB b ∧ b.length ≤ 999 ∧ PreB b sh.flatten a ∧ p ≤ a ∧ FgR H fv ((sh.flatten[p]?).map (·.1)) ∧
 (sh.flatten[p]? = none → E (.ref A.c_Nowhere) none H) ∧ ∀ q, sh.flatten[p]? = some q →
   ((∃ z, x = .str z ∧ Fine 1000 z ∧ (∀ n, readK ansW q.2.1 q.2.2 (cd z) = some n → ∀ fv' H', Fr [h, c.bk] H H' → HaS A c sh (putK b (keyOf q.1) (.int n)) h H' fv' → FgR H' fv' ((sh.flatten[p + 1]?).map (·.1)) → Q .non H') ∧ (readK ansW q.2.1 q.2.2 (cd z) = none → ∀ H', Same H H' → E (.ref A.c_NoAnswer) none H')) ∨ ((∀ z, x ≠ .str z) ∧ ∀ H', Same H H' → E (.ref A.c_NoAnswer) none H'))
section
variable {P : Program} {w : World} {K : W.Frag} {mg : Str → Option Value} {base : Heap} {A : Adr}
def JDF (T : Txt K mg A) : MethJ P w K mg base (CXW P w) 2 A.c_Hand "demand_finger" := ⟨_, _, _, _, [], [], T.cl_Hand, T.me_Hand_demand_finger, (ok_df T).mono (by decide), T.b_c_Hand_demand_finger, .nil⟩
def JPB (T : Txt K mg A) : MethJ P w K mg base CX0 11 A.c_Hand "put_behind" := ⟨_, _, _, _, [], [], T.cl_Hand, T.me_Hand_put_behind, ok_pb T, T.b_c_Hand_put_behind, .nil⟩
theorem ok_an (T : Txt K mg A) : FnOk P w K mg base (CXW P w) 12 A.f_c_Hand_answer A.d_c_Hand_answer ["self", "text"] (spAn A K) := by
 refine T.F_c_Hand_answer.okX sc_c_Hand_answer (fun vs H Q E h => ?_) (fun cdv A0 outer s H vs Q E hr h => ?_)
 · obtain ⟨c, sh, b, h, fv, a, p, x, th, rfl, _⟩ := h
   rfl
 obtain ⟨c, sh, b, h, fv, a, p, x, th, rfl, hH, hQ, hB, hb, hp, hpa, hf, kn, ks⟩ := h
 obtain ⟨k_demand_finger, e1⟩ : ∃ k : Nat, k = 2 := ⟨_, rfl⟩
 obtain ⟨k_put_behind, e2⟩ : ∃ k : Nat, k = 11 := ⟨_, rfl⟩
 refine ⟨_, (zD (yP (yF (CX := CXW P w) (k := k_demand_finger) (hr.mono (by first | decide | omega)) passX (pv 0)))
     (zD (ps_dput (hu_of hr) (zM (pv 0) rfl) (zM (pv 0) rfl) (yV (CX := CXW P w) (k := 6) (hr.mono (by first | decide | omega)) passX (pe_dget (hu_of hr) (zM (pv 0) rfl) (yC yL (zM (pv 0) rfl) zJ (fun _ _ => rfl)) (fun _ _ => rfl)) (zA (pv 1) zE)) rfl)
     (zG (yP (yF (CX := CX0) (k := k_put_behind) (hr.mono (by first | decide | omega)) zV (pv 0)))))), ?_⟩
 subst e1 e2
 refine ⟨_, rfl, h, _, c.dx, hF c fv, JDF T, rfl, hH.ha, rfl, ?_⟩
 cases hq : sh.flatten[p]? with
 | none =>
   rw [hq] at hf
   exact ⟨c, h, fv, rfl, hH.ha, .inl ⟨hf, kn hq⟩⟩
 | some q =>
   rw [hq] at hf
   obtain ⟨t0, rfl, ht⟩ := hf
   refine ⟨c, h, _, rfl, hH.ha, .inr ⟨⟨t0, rfl⟩, ?_⟩⟩
   obtain ⟨kvs, k1, k2⟩ := hH.kd
   obtain ⟨kp, kdx, k3, k4⟩ := k2.2 q (List.mem_of_getElem? hq)
   refine ⟨_, rfl, h, _, c.dx, hF c _, _, rfl, hH.ha, T.cl_Hand, T.no_Hand_kinds, rfl, _, rfl, h, _, c.dx, hF c _, _, rfl, hH.ha, T.cl_Hand, T.no_Hand_finger, rfl, t0, _, _, _, rfl, rfl, SqT.of ht, zX rfl, c.kd, _, rfl, (by rw [← k3]; exact DGet.k (k := .inr q.1) k1), ?_⟩
   refine ⟨kp, _, kdx, _, JR T, rfl, k4, lk0 (by symm) (by symm), _, rfl, ?_⟩
   refine ⟨kp, kdx, _, _, x, th, rfl, k4, ?_⟩
   rcases ks q hq with ⟨z, rfl, hz, k5, k6⟩ | ⟨hx, k6⟩
   · refine .inl ⟨z, rfl, hz, fun n H1 s1 hn => ?_, fun H1 s1 hn => k6 hn H1 s1⟩
     have H1' := hH.mono s1
     have ht1 := s1 _ _ ht
     obtain ⟨n1, n2⟩ := readK_in hn
     refine ⟨_, rfl, h, _, c.dx, hF c _, _, rfl, H1'.ha, T.cl_Hand, T.no_Hand_book, rfl, _, rfl, h, _, c.dx, hF c _, _, rfl, H1'.ha, T.cl_Hand, T.no_Hand_finger, rfl, c.bk, _, rfl, DPut.t (k := keyOf q.1) H1'.bk ht1 (yB (m := 100000) (by omega)), ?_⟩
     have H2 := H1'.setB (putK b (keyOf q.1) (.int n))
     refine ⟨_, rfl, h, _, c.dx, hF c _, JPB T, rfl, H2.ha, rfl, ?_⟩
     refine ⟨c, sh, _, h, _, max a (p + 1), p, q, rfl, H2, hQ, hB.put hb _ _, hp.put hQ.1 hq hpa n1 n2, hq, ⟨t0, rfl, by rw [zF (yE ht1 H1'.bk (by intro z; cases z))]; exact ht1⟩, by omega, fun fv' H' F' h1 h2 => ?_⟩
     refine k5 n hn fv' H' ?_ h1 h2
     exact ((Fr.of s1).upd (m := c.bk) (List.mem_cons_of_mem _ (List.mem_singleton.mpr rfl)) _).trans (F'.more fun m hm => by rw [List.mem_singleton.mp hm]; exact List.mem_cons_self)
   · exact .inr ⟨hx, k6⟩
def spOn (A : Adr) : Sp := fun vs H Q E => ∃ c sh b h fv a p, vs = [.ref h] ∧ HaS A c sh b h H fv ∧ GQ sh.flatten ∧ GB b ∧ PreB b sh.flatten a ∧ p ≤ a ∧ FgR H fv ((sh.flatten[p]?).map (·.1)) ∧
 (sh.flatten[p]? = none → E (.ref A.c_Nowhere) none H) ∧ (∀ q, sh.flatten[p]? = some q → p = a → ∀ H', Same H H' → E (.ref A.c_NotYet) none H') ∧ ∀ q, sh.flatten[p]? = some q → p < a → ∀ fv' H', Fr [h] H H' → HaS A c sh b h H' fv' → FgR H' fv' ((sh.flatten[p + 1]?).map (·.1)) → Q .non H'
def JSta (T : Txt K mg A) : MethJ P w K mg base CX0 10 A.c_Hand "state" := ⟨_, _, _, _, [], [], T.cl_Hand, T.me_Hand_state, ok_state T, T.b_c_Hand_state, .nil⟩
theorem eq_last {qs : List Qn} {a p : Nat} {q : Qn} (hn : (qs.map (·.1)).Nodup) (hq : qs[p]? = some q) (hp : p ≤ a) : eqL (lastE qs a) (.str (Str.ofString "open") :: fgT q.1) = decide (p = a) := by
 unfold lastE
 cases e : qs[a]? with
 | none =>
   have : p ≠ a := fun z => by subst z; rw [hq] at e; cases e
   rw [decide_eq_false this]
   rfl
 | some q' =>
   show eqL (opnE q') _ = _
   have h1 := eqL_strs (xs := [Str.ofString "open", q'.1, Str.ofString ""]) (ys := [Str.ofString "open", q.1, Str.ofString ""])
   rw [show opnE q' = [Str.ofString "open", q'.1, Str.ofString ""].map V.str from rfl, show V.str (Str.ofString "open") :: fgT q.1 = [Str.ofString "open", q.1, Str.ofString ""].map V.str from rfl, h1]
   by_cases c : p = a
   · subst c; rw [hq] at e; cases e; rw [decide_eq_true rfl, decide_eq_true rfl]
   · rw [decide_eq_false c]
     refine decide_eq_false fun z => c (nd_idx hn hq e ?_)
     have := (List.cons.inj (List.cons.inj z).2).1
     exact this.symm
theorem ok_on (T : Txt K mg A) : FnOk P w K mg base (CXW P w) 12 A.f_c_Hand_on A.d_c_Hand_on ["self"] (spOn A) := by
 refine T.F_c_Hand_on.okX sc_c_Hand_on (fun vs H Q E h => ?_) (fun cdv A0 outer s H vs Q E hr h => ?_)
 · obtain ⟨c, sh, b, h, fv, a, p, rfl, _⟩ := h
   rfl
 obtain ⟨c, sh, b, h, fv, a, p, rfl, hH, hQ, hB, hp, hpa, hf, kn, ky, ks⟩ := h
 obtain ⟨k_demand_finger, e1⟩ : ∃ k : Nat, k = 2 := ⟨_, rfl⟩
 obtain ⟨k_put_behind, e2⟩ : ∃ k : Nat, k = 11 := ⟨_, rfl⟩
 obtain ⟨k_state, e3⟩ : ∃ k : Nat, k = 10 := ⟨_, rfl⟩
 refine ⟨_, (zD (yP (yF (CX := CXW P w) (k := k_demand_finger) (hr.mono (by first | decide | omega)) passX (pv 0)))
     (zD (yK (zQ (op_eqJ (hu20 hr)) (yF (CX := CX0) (k := k_state) (hr.mono (by first | decide | omega)) zV (pv 0)) (yA op_catT (yI (zA zK zE)) (zM (pv 0) rfl)) (zW _)) (zG (ps_raise T.m_NotYet T.x_NotYet (zA zK zE) rfl)) zU)
     (zG (yP (yF (CX := CX0) (k := k_put_behind) (hr.mono (by first | decide | omega)) zV (pv 0)))))), ?_⟩
 subst e1 e2 e3
 refine ⟨_, rfl, h, _, c.dx, hF c fv, JDF T, rfl, hH.ha, rfl, ?_⟩
 cases hq : sh.flatten[p]? with
 | none =>
   rw [hq] at hf
   exact ⟨c, h, fv, rfl, hH.ha, .inl ⟨hf, kn hq⟩⟩
 | some q =>
   rw [hq] at hf
   obtain ⟨t0, rfl, ht⟩ := hf
   refine ⟨c, h, _, rfl, hH.ha, .inr ⟨⟨t0, rfl⟩, ?_⟩⟩
   refine ⟨_, rfl, h, _, c.dx, hF c _, JSta T, rfl, hH.ha, rfl, ?_⟩
   refine ⟨c, sh, b, h, _, a, rfl, hH, hQ, hB, hp, fun t1 H1 s1 h1 => ?_⟩
   have H1' := hH.mono s1
   refine ⟨(by show 1 ≤ sizeLine; decide), fun t2 ht2 => ?_⟩
   have s2 := zH ht2 (.tup [.str (Str.ofString "open")])
   have H2' := H1'.mono s2
   refine ⟨_, rfl, h, _, c.dx, hF c _, _, rfl, H2'.ha, T.cl_Hand, T.no_Hand_finger, rfl, ?_⟩
   refine ⟨t2, t0, _, _, rfl, rfl, SqT.of zB, SqT.of (s2 _ _ (s1 _ _ ht)), (by simp), (by show 3 ≤ sizeLine; decide), fun z => absurd z (by unfold fgT; simp), fun _ t3 ht3 => ?_⟩
   have s3 := zH ht3 (.tup ([.str (Str.ofString "open")] ++ fgT q.1))
   refine ⟨_, eqj_ftups (n := 19) (SqT.of (s3 _ _ (s2 _ _ h1))) (SqT.of zB) (lastE_flat _ _) rfl, _, rfl, ?_⟩
   rw [show [V.str (Str.ofString "open")] ++ fgT q.1 = .str (Str.ofString "open") :: fgT q.1 from rfl, eq_last hQ.1 hq hpa]
   have sA := s1.trans (s2.trans s3)
   refine ite2 (fun c1 => ?_) (fun c1 => ?_)
   · exact ⟨(by show 1 ≤ sizeLine; decide), ky q hq (of_decide_eq_true c1) _ sA⟩
   · have hlt : p < a := by
       have : p ≠ a := fun z => c1 (decide_eq_true z)
       omega
     have H3 := hH.mono sA
     refine ⟨_, rfl, h, _, c.dx, hF c _, JPB T, rfl, H3.ha, rfl, ?_⟩
     exact ⟨c, sh, b, h, _, a, p, q, rfl, H3, hQ, hB, hp, hq, ⟨t0, rfl, sA _ _ ht⟩, by omega, fun fv' H' F' h1 h2 => ks q hq hlt fv' H' ((Fr.of sA).trans F') h1 h2⟩
def spBk (A : Adr) : Sp := fun vs H Q E => ∃ c sh b h fv a p, vs = [.ref h] ∧ HaS A c sh b h H fv ∧ GQ sh.flatten ∧ GB b ∧ PreB b sh.flatten a ∧ p ≤ a ∧ FgR H fv ((sh.flatten[p]?).map (·.1)) ∧
 (p = 0 → ∀ H', Same H H' → E (.ref A.c_Nowhere) none H') ∧ (0 < p → ∀ fv' H', Fr [h] H H' → HaS A c sh b h H' fv' → FgR H' fv' ((sh.flatten[p - 1]?).map (·.1)) → Q .non H')
theorem ok_bk (T : Txt K mg A) : FnOk P w K mg base (CXW P w) 12 A.f_c_Hand_back A.d_c_Hand_back ["self"] (spBk A) := by
 refine T.F_c_Hand_back.okX sc_c_Hand_back (fun vs H Q E h => ?_) (fun cdv A0 outer s H vs Q E hr h => ?_)
 · obtain ⟨c, sh, b, h, fv, a, p, rfl, _⟩ := h
   rfl
 obtain ⟨c, sh, b, h, fv, a, p, rfl, hH, hQ, hB, hp, hpa, hf, kn, ks⟩ := h
 obtain ⟨k_places, e1⟩ : ∃ k : Nat, k = 10 := ⟨_, rfl⟩
 refine ⟨_, (zD (zR (i := 1) sc_c_Hand_back.nd rfl (by first | exact Or.inl rfl | exact Or.inr rfl) (yF (CX := CX0) (k := k_places) (hr.mono (by first | decide | omega)) zV (pv 0)))
     (zD (zR (i := 2) sc_c_Hand_back.nd rfl (by first | exact Or.inl rfl | exact Or.inr rfl) (pe_ifExp (zQ op_isN (zM (pv 0) rfl) xM (zW _)) (zO yD (by rfl) T.n_len PySem.boot_len (zA (pv 1) zE)) (pe_bm PySem.F.plainAttrs_list PySem.F.slot_list_index PySem.F.type_list_index (mt_lindexT (hu20 hr)) (pv 1) (zA (zM (pv 0) rfl) zE))))
     (zD (yK (zQ xP (pv 2) zJ (zW _)) (zG (ps_raise T.m_Nowhere T.x_Nowhere (zA zK zE) rfl)) zU)
     (zG (yN (pv 0) (yC yJ (pv 1) (yA op_sub (pv 2) zJ) (fun _ _ => rfl)) rfl))))), ?_⟩
 subst e1
 refine ⟨_, rfl, h, _, c.dx, hF c fv, JPl T, rfl, hH.ha, rfl, ?_⟩
 refine ⟨c, sh, b, h, _, a, rfl, hH.q, hQ, hB, hp, fun l ts H1 s1 h1 h2 => ?_⟩
 have H1' := hH.mono s1
 have tl : ts.length = min (a + 1) sh.flatten.length := (zZ h2).trans plc_len
 have hal := hp.1
 refine ⟨_, rfl, h, _, c.dx, hF c fv, _, rfl, H1'.ha, T.cl_Hand, T.no_Hand_finger, rfl, rfl, _, rfl, ?_⟩
 cases hq : sh.flatten[p]? with
 | none =>
   have hpn : p = ts.length := by
     have := List.getElem?_eq_none_iff.mp hq
     omega
   rw [hq] at hf
   cases (show fv = .non from hf)
   refine iteT ⟨_, rfl, l, _, rfl, .inl (SqL.of h1), ?_⟩
   rw [← hpn]
   refine ⟨_, rfl, rfl, _, rfl, ite2 (fun c1 => ?_) (fun c1 => ?_)⟩
   · have c2 : p = 0 := by have := of_decide_eq_true c1; injection this with z; omega
     exact ⟨(by show 1 ≤ sizeLine; decide), kn c2 _ s1⟩
   · have c2 : 0 < p := Nat.pos_of_ne_zero fun z => c1 (decide_eq_true (by rw [z]; rfl))
     have hx := List.getElem?_eq_getElem (l := ts) (i := p - 1) (by omega)
     obtain ⟨y, hy, x, ex, hxT⟩ := zS h2 hx
     obtain ⟨q', hq', rfl⟩ := at_plc hy
     rw [ex] at hx
     refine ⟨_, rfl, _, rfl, _, _, rfl, rfl, l, _, _, _, rfl, rfl, SqL.of h1, (by show atI ts ((p : Int) - 1) = _; rw [show ((p : Int) - 1) = ((p - 1 : Nat) : Int) by omega]; exact zX hx), _, rfl, h, _, c.dx, _, rfl, H1'.ha, T.cl_Hand, T.no_Hand_finger, (by show 4 < 1000; decide), ?_⟩
     refine ks c2 (.ref x) _ ((Fr.of s1).upd (List.mem_singleton.mpr rfl) _) (H1'.setF (.ref x)) ?_
     rw [hq']
     exact ⟨x, rfl, by rw [zF (yE hxT H1'.ha (by intro z; cases z))]; exact hxT⟩
 | some q =>
   rw [hq] at hf
   obtain ⟨t0, rfl, ht⟩ := hf
   have ht1 := s1 _ _ ht
   have hpl := (List.getElem?_eq_some_iff.mp hq).1
   obtain ⟨hall, z, hz, hz1, hz2⟩ := idx_pl (X := cxOf (CXW P w) P w K mg base ["self", "places", "place"] (Str.ofString "Hand.back") (defScope s_c_Hand_back) A.f_c_Hand_back cdv A0 outer s H E) h2 hQ.1 hq hpa ht1
   refine iteF ⟨_, rfl, .inl ⟨rfl, _, SqL.of h1⟩, _, rfl, h, _, c.dx, hF c _, _, rfl, H1'.ha, T.cl_Hand, T.no_Hand_finger, rfl, l, ts, _, p, ebT H1 q.1, z, rfl, rfl, SqL.of h1, hall, hz, hz1, hz2, ?_⟩
   refine ⟨_, rfl, rfl, _, rfl, ite2 (fun c1 => ?_) (fun c1 => ?_)⟩
   · have c2 : p = 0 := by have := of_decide_eq_true c1; injection this with z; omega
     exact ⟨(by show 1 ≤ sizeLine; decide), kn c2 _ s1⟩
   · have c2 : 0 < p := Nat.pos_of_ne_zero fun z => c1 (decide_eq_true (by rw [z]; rfl))
     have hx := List.getElem?_eq_getElem (l := ts) (i := p - 1) (by omega)
     obtain ⟨y, hy, x, ex, hxT⟩ := zS h2 hx
     obtain ⟨q', hq', rfl⟩ := at_plc hy
     rw [ex] at hx
     refine ⟨_, rfl, _, rfl, _, _, rfl, rfl, l, _, _, _, rfl, rfl, SqL.of h1, (by show atI ts ((p : Int) - 1) = _; rw [show ((p : Int) - 1) = ((p - 1 : Nat) : Int) by omega]; exact zX hx), _, rfl, h, _, c.dx, _, rfl, H1'.ha, T.cl_Hand, T.no_Hand_finger, (by show 4 < 1000; decide), ?_⟩
     refine ks c2 (.ref x) _ ((Fr.of s1).upd (List.mem_singleton.mpr rfl) _) (H1'.setF (.ref x)) ?_
     rw [hq']
     exact ⟨x, rfl, by rw [zF (yE hxT H1'.ha (by intro z; cases z))]; exact hxT⟩
end
end K42
set_option maxHeartbeats 4000000
namespace K42
open PySem L2
seal PE PT PW PA PS PSs PG PGs PI PO PSet OpR UnR CallR TruR IxR SlR PC PPs
local macro_rules | `(tactic| walk_at "rd1") => `(tactic| first
 | (refine And.intro rfl ?_)
 | (refine And.intro (by assumption) ?_)
 | (refine And.intro (fun _ e => e) ?_)
 | (refine And.intro (TyOf.str _) ?_) | (refine And.intro (TyOf.int _) ?_) | (refine And.intro (TyOf.bl _) ?_) | (refine And.intro TyOf.non ?_)
 | (refine iteT ?_) | (refine iteF ?_)
 | (apply Exists.intro))
local macro_rules | `(tactic| walk_at "rd") => `(tactic| repeat (walk_at "rd1"))
def spHI (A : Adr) : Sp := fun vs H Q _ => ∃ h dx pa sh, vs = [.ref h, .ref pa] ∧ H h = some (.ins A.c_Hand dx []) ∧ PaR A H pa sh ∧ GQ sh.flatten ∧ ∀ c fv H', Fr [h] H H' → HaS A c sh [] h H' fv → FgR H' fv ((sh.flatten[0]?).map (·.1)) → H c.bk = none → c.pa = pa → Q .non H'
theorem preB0 (qs : List Qn) : PreB [] qs 0 := ⟨Nat.zero_le _, fun i q hi _ => absurd hi (by omega), fun _ _ _ _ => rfl⟩
theorem GB0 : GB [] := ⟨by decide, fun _ => .inl rfl⟩
section
variable {P : Program} {w : World} {K : W.Frag} {mg : Str → Option Value} {base : Heap} {A : Adr}
theorem ok_hi (T : Txt K mg A) : FnOk P w K mg base CX0 11 A.f_c_Hand___init A.d_c_Hand___init ["self", "paper"] (spHI A) := by
 have G_kinds_of := ok_kinds_of (P := P) (w := w) (base := base) T
 refine T.F_c_Hand___init.ok sc_c_Hand___init (fun vs H Q E h => ?_) (fun cdv A0 outer s H vs Q E hr h => ?_)
 · obtain ⟨h, dx, pa, sh, rfl, _⟩ := h
   rfl
 obtain ⟨h, dx, pa, sh, rfl, hg, hP, hQ, k⟩ := h
 obtain ⟨k_places, e1⟩ : ∃ k : Nat, k = 10 := ⟨_, rfl⟩
 refine ⟨_, (zD (yN (pv 0) (pv 1) rfl)
     (zD (yN (pv 0) (yH G_kinds_of (hr.mono (by first | decide | omega)) rfl T.m_kinds_of T.k_kinds_of T.b_kinds_of .nil zV (zA (pv 1) zE)) rfl)
     (zD (yN (pv 0) pe_dnewT rfl)
     (zD (zR (i := 2) sc_c_Hand___init.nd rfl (by first | exact Or.inl rfl | exact Or.inr rfl) (yF (CX := CX0) (k := k_places) (hr.mono (by first | decide | omega)) zV (pv 0)))
     (zG (yN (pv 0) (pe_ifExp (zQ op_gt (zO yD (by rfl) T.n_len PySem.boot_len (zA (pv 2) zE)) zJ (zW _)) (yC yJ (pv 2) zJ (fun _ _ => rfl)) xM) rfl)))))), ?_⟩
 subst e1
 have cl := T.cl_Hand
 have gg : h ∈ [h] := List.mem_singleton.mpr rfl
 refine ⟨_, rfl, _, rfl, h, _, dx, _, rfl, hg, cl, T.no_Hand_paper, by decide, ?_⟩
 have F2 : Fr [h] H (upd H h (.ins A.c_Hand dx [("paper", .ref pa)])) := (Fr.of (Same.refl _)).upd gg _
 have g2 : (upd H h (.ins A.c_Hand dx [("paper", .ref pa)])) h = some (.ins A.c_Hand dx [("paper", .ref pa)]) := zB
 refine (show (∀ H2, Fr [h] H H2 → H2 h = some (.ins A.c_Hand dx [("paper", .ref pa)]) → (∀ b, b ≠ h → H2 b = H b) → _) → _ from fun z => z _ F2 g2 fun b hb => zF hb) ?_
 clear F2 g2
 intro H2 F2 g2 e2
 refine ⟨_, rfl, pa, sh, rfl, hP.kp (Kp.of0 F2 hg), hQ, fun kd kvs H3 fk s3 hk hK => ?_⟩
 refine ⟨_, rfl, h, _, dx, _, rfl, s3 _ _ g2, cl, T.no_Hand_kinds, (by show 1 < 1000; decide), ?_⟩
 have hK0 : KdR A H kvs sh.flatten := hK.back e2 g2
 have nkd : kd ≠ h := yE hk (s3 _ _ g2) (by intro z; cases z)
 have F4 : Fr [h] H (upd H3 h (.ins A.c_Hand dx [("paper", .ref pa), ("kinds", .ref kd)])) := (F2.trans (Fr.of s3)).upd gg _
 have hk4 : (upd H3 h (.ins A.c_Hand dx [("paper", .ref pa), ("kinds", .ref kd)])) kd = some (.dK kvs) := by rw [zF nkd]; exact hk
 have g4 : (upd H3 h (.ins A.c_Hand dx [("paper", .ref pa), ("kinds", .ref kd)])) h = some (.ins A.c_Hand dx [("paper", .ref pa), ("kinds", .ref kd)]) := zB
 refine (show (∀ H4, Fr [h] H H4 → H4 kd = some (.dK kvs) → H4 h = some (.ins A.c_Hand dx [("paper", .ref pa), ("kinds", .ref kd)]) → _) → _ from fun z => z _ F4 hk4 g4) ?_
 clear F4 hk4 g4
 intro H4 F4 hk4 g4
 intro bk hb
 have sb := zH hb (.dT [])
 have nbk : bk ≠ h := Ne.symm (zI g4 hb)
 have fb : H bk = none := fr_none F4 (ni1 nbk) hb
 refine ⟨_, rfl, h, _, dx, _, rfl, sb _ _ g4, cl, T.no_Hand_book, (by show 2 < 1000; decide), ?_⟩
 have F5 : Fr [h] H (upd (upd H4 bk (.dT [])) h (.ins A.c_Hand dx [("paper", .ref pa), ("kinds", .ref kd), ("book", .ref bk)])) := (F4.trans (Fr.of sb)).upd gg _
 have hk5 : (upd (upd H4 bk (.dT [])) h (.ins A.c_Hand dx [("paper", .ref pa), ("kinds", .ref kd), ("book", .ref bk)])) kd = some (.dK kvs) := by rw [zF nkd]; exact sb _ _ hk4
 have hb5 : (upd (upd H4 bk (.dT [])) h (.ins A.c_Hand dx [("paper", .ref pa), ("kinds", .ref kd), ("book", .ref bk)])) bk = some (.dT []) := by rw [zF nbk]; exact zB
 have g5 : (upd (upd H4 bk (.dT [])) h (.ins A.c_Hand dx [("paper", .ref pa), ("kinds", .ref kd), ("book", .ref bk)])) h = some (.ins A.c_Hand dx [("paper", .ref pa), ("kinds", .ref kd), ("book", .ref bk)]) := zB
 refine (show (∀ H5, Fr [h] H H5 → H5 kd = some (.dK kvs) → H5 bk = some (.dT []) → H5 h = some (.ins A.c_Hand dx [("paper", .ref pa), ("kinds", .ref kd), ("book", .ref bk)]) → _) → _ from fun z => z _ F5 hk5 hb5 g5) ?_
 clear F5 hk5 hb5 g5
 intro H5 F5 hk5 hb5 g5
 have kp5 := Kp.of0 F5 hg
 have Hq : HaQ A ⟨dx, pa, kd, bk⟩ sh [] h H5 [] := ⟨.inl rfl, g5, hP.kp kp5, hb5⟩
 refine ⟨_, rfl, h, _, dx, _, JPl T, rfl, g5, rfl, ?_⟩
 refine ⟨⟨dx, pa, kd, bk⟩, sh, [], h, [], 0, rfl, Hq, hQ, GB0, preB0 _, fun l ts H6 s6 h1 h2 => ?_⟩
 have tl : ts.length = min (0 + 1) sh.flatten.length := (zZ h2).trans plc_len
 have fin : ∀ v, HaS A ⟨dx, pa, kd, bk⟩ sh [] h (upd H6 h (oHa A ⟨dx, pa, kd, bk⟩ v)) v := fun v => by
   have F7 : Fr [h] H (upd H6 h (oHa A ⟨dx, pa, kd, bk⟩ v)) := (F5.trans (Fr.of s6)).upd gg _
   have kp7 := Kp.of0 F7 hg
   exact ⟨zB, hP.kp kp7, ⟨kvs, by rw [zF nkd]; exact s6 _ _ hk5, hK0.kp kp7⟩, by rw [zF nbk]; exact s6 _ _ hb5⟩
 refine ⟨_, rfl, l, _, rfl, .inl (SqL.of h1), _, _, rfl, rfl, _, rfl, ?_⟩
 refine ite2 (fun c1 => ?_) (fun c1 => ?_)
 · have c2 : 0 < ts.length := by have := of_decide_eq_true c1; omega
   have hx := List.getElem?_eq_getElem c2
   obtain ⟨y, hy, x, ex, hxT⟩ := zS h2 hx
   obtain ⟨q', hq', rfl⟩ := at_plc hy
   rw [ex] at hx
   refine ⟨_, rfl, l, _, _, _, rfl, rfl, SqL.of h1, zX hx, _, rfl, h, _, dx, _, rfl, s6 _ _ g5, cl, T.no_Hand_finger, (by show 3 < 1000; decide), ?_⟩
   refine k ⟨dx, pa, kd, bk⟩ (.ref x) _ ((F5.trans (Fr.of s6)).upd gg _) (fin _) ?_ fb rfl
   rw [hq']
   exact ⟨x, rfl, by rw [zF (yE hxT (s6 _ _ g5) (by intro z; cases z))]; exact hxT⟩
 · have c2 : ¬ 0 < ts.length := fun z => c1 (decide_eq_true (by omega))
   refine ⟨_, rfl, h, _, dx, _, rfl, s6 _ _ g5, cl, T.no_Hand_finger, (by show 3 < 1000; decide), ?_⟩
   refine k ⟨dx, pa, kd, bk⟩ .non _ ((F5.trans (Fr.of s6)).upd gg _) (fin _) ?_ fb rfl
   rw [List.getElem?_eq_none_iff.mpr (by omega)]
   rfl
end
end K42
set_option maxHeartbeats 4000000
namespace K42
open PySem L2
seal PE PT PW PA PS PSs PG PGs PI PO PSet OpR UnR CallR TruR IxR SlR PC PPs
local macro_rules | `(tactic| walk_at "rd1") => `(tactic| first
 | (refine And.intro rfl ?_)
 | (refine And.intro (by assumption) ?_)
 | (refine And.intro (fun _ e => e) ?_)
 | (refine And.intro (TyOf.str _) ?_) | (refine And.intro (TyOf.int _) ?_) | (refine And.intro (TyOf.bl _) ?_) | (refine And.intro TyOf.non ?_)
 | (refine iteT ?_) | (refine iteF ?_)
 | (apply Exists.intro))
local macro_rules | `(tactic| walk_at "rd") => `(tactic| repeat (walk_at "rd1"))
def cntE (b : Bk) (q : Qn) : List V := [.str q.1, .str (Str.ofString ""), getB b q.1]
def spCo (A : Adr) : Sp := fun vs H Q _ => ∃ c sh b h fv a, vs = [.ref h] ∧ HaS A c sh b h H fv ∧ GQ sh.flatten ∧ GB b ∧ PreB b sh.flatten a ∧ ∀ l ts H', H l = none → Same H H' → H' l = some (.lst ts) → Paired (TpR H') ts ((sh.flatten.take a).map (cntE b)) → Q (.ref l) H'
section
variable {P : Program} {w : World} {K : W.Frag} {mg : Str → Option Value} {base : Heap} {A : Adr}
theorem ok_counts (T : Txt K mg A) : FnOk P w K mg base CX0 10 A.f_c_Hand_counts A.d_c_Hand_counts ["self"] (spCo A) := by
 refine T.F_c_Hand_counts.ok sc_c_Hand_counts (fun vs H Q E h => ?_) (fun cdv A0 outer s H vs Q E hr h => ?_)
 · obtain ⟨c, sh, b, h, fv, a, rfl, _⟩ := h
   rfl
 obtain ⟨c, sh, b, h, fv, a, rfl, hH, hQ, hB, hp, k⟩ := h
 obtain ⟨k_log_now, e1⟩ : ∃ k : Nat, k = 9 := ⟨_, rfl⟩
 refine ⟨_, (zG (zP (pe_compF (yU (x := "row") (M := ["self"]) rfl (by rfl)) rfl (yQ (yF (CX := CX0) (k := k_log_now) (hr.mono (by first | decide | omega)) zV (pv 0))) (fun _ _ _ _ => pifs_eqv (by exact (pifs_one (zQ xP (yC yL (pv 0) zJ (fun _ _ => rfl)) zK (zW _)))) (by dsimp only [compCx] <;> rfl)) (fun _ _ _ _ => pe_eqv (by exact (yI (zA (yC yL (pv 0) zJ (fun _ _ => rfl)) (zA (yC yL (pv 0) zJ (fun _ _ => rfl)) (zA (yC yL (pv 0) zJ (fun _ _ => rfl)) zE))))) (by dsimp only [compCx] <;> rfl))))), ?_⟩
 subst e1
 refine ⟨_, rfl, h, _, c.dx, _, JLg T, rfl, hH.ha, rfl, ?_⟩
 refine ⟨c, sh, b, h, _, a, rfl, hH.q, hQ, hB, hp, fun l ts H1 s1 h1 h2 => ?_⟩
 have hlen := zZ h2
 have h8 := hQ.2.2
 have hl2 : ts.length = (sh.flatten.take a).length + 1 := by rw [hlen, List.length_append, List.length_map]; rfl
 have hl3 : (sh.flatten.take a).length ≤ 8 := by rw [List.length_take]; omega
 refine ⟨l, rfl, ⟨_, SqL.of h1⟩, ?_⟩
 generalize hF0 : sh.flatten = F at *
 refine comp_listF (xs := ts) (yB (m := 100) (by omega)) (fun i ys H' => Same H1 H' ∧ Paired (TpR H') ys (((F.take a).take i).map (cntE b))) ⟨Same.refl _, .nil⟩ (fun i ys H' hw => SqL.of (hw.1 _ _ h1)) (fun i x ys H' hx hyl hw => ?_) (fun ys H' hw p hp' => ?_)
 · obtain ⟨sH, hw⟩ := hw
   obtain ⟨e, he, t, rfl, ht⟩ := zS h2 hx
   have ht' := sH _ _ ht
   have hi : i < ts.length := (List.getElem?_eq_some_iff.mp hx).1
   by_cases c2 : i < (F.take a).length
   · rw [List.getElem?_append_left (by rw [List.length_map]; exact c2), List.getElem?_map] at he
     have hq := List.getElem?_eq_getElem c2
     rw [hq] at he
     cases he
     refine ⟨_, rfl, t, _, _, _, rfl, rfl, SqT.of ht', rfl, rfl, _, rfl, iteT ?_⟩
     refine ⟨_, rfl, t, _, _, _, rfl, rfl, SqT.of ht', rfl, _, rfl, t, _, _, _, rfl, rfl, SqT.of ht', rfl, _, rfl, t, _, _, _, rfl, rfl, SqT.of ht', rfl, (by show 3 ≤ sizeLine; decide), fun r' hr' => ⟨sH.trans (zH hr' _), ?_⟩⟩
     rw [xB hq, List.map_append]
     exact xE (zL hw fun _ _ => TpR.same (zH hr' _)) (.cons ⟨r', rfl, zB⟩ .nil)
   · have c3 : i = (F.take a).length := by omega
     rw [c3, List.getElem?_append_right (by rw [List.length_map]; exact Nat.le_refl _), List.length_map, Nat.sub_self] at he
     cases he
     rw [c3, List.take_length] at hw
     have lst : ∃ wd r, lastE F a = .str wd :: r ∧ ¬ wd = Str.ofString "ask" := by
       unfold lastE
       cases hq : F[a]? with
       | some q => exact ⟨Str.ofString "open", _, rfl, by symm⟩
       | none => exact ⟨Str.ofString "end", _, rfl, by symm⟩
     obtain ⟨wd, r, el, hwd⟩ := lst
     rw [el] at ht'
     refine ⟨_, rfl, t, _, _, _, rfl, rfl, SqT.of ht', (show atI (V.str wd :: r) ((0 : Nat) : Int) = some (.str wd) from zX rfl), rfl, _, rfl, iteN ?_ ⟨sH, ?_⟩⟩
     · exact decide_eq_false fun e => hwd (V.str.inj e)
     · rw [List.take_of_length_le (by omega)]; exact hw
 · rw [hl2, List.take_of_length_le (by omega)] at hw
   exact k p ys _ (xA (s1.trans hw.1) hp') ((s1.trans hw.1).trans (zH hp' _)) zB (zL hw.2 fun _ _ => TpR.same (zH hp' _))
end
end K42
set_option maxHeartbeats 4000000
namespace K42
open PySem L2
seal PE PT PW PA PS PSs PG PGs PI PO PSet OpR UnR CallR TruR IxR SlR PC PPs
local macro_rules | `(tactic| walk_at "rd1") => `(tactic| first
 | (refine And.intro rfl ?_)
 | (refine And.intro (by assumption) ?_)
 | (refine And.intro (fun _ e => e) ?_)
 | (refine And.intro (TyOf.str _) ?_) | (refine And.intro (TyOf.int _) ?_) | (refine And.intro (TyOf.bl _) ?_) | (refine And.intro TyOf.non ?_)
 | (refine iteT ?_) | (refine iteF ?_)
 | (apply Exists.intro))
local macro_rules | `(tactic| walk_at "rd") => `(tactic| repeat (walk_at "rd1"))
def KB (b : Bk) (qs : List Qn) (a : Nat) : Prop := ∀ k ∈ b.map (·.1), ∃ (i : Nat) (q : Qn), i < a ∧ qs[i]? = some q ∧ k = keyOf q.1
theorem in_pl {K : W.Frag} {H : Hp} {ts : List V} {ns : List Str} {z : Str} (h2 : Paired (PlR H) ts ns) :
   (∀ y ∈ ts, ∃ q ys, y = .ref q ∧ SqT K H q ys ∧ ys.all flatV = true ∧ (eqL ys (fgT z) = true → ys = fgT z) ∧ ebT H z y = eqL ys (fgT z)) ∧ ts.any (ebT H z) = decide (z ∈ ns) := by
 refine ⟨fun y hy => ?_, ?_⟩
 · obtain ⟨m, hm⟩ := List.mem_iff_getElem?.mp hy
   obtain ⟨y', hy', hP⟩ := zS h2 hm
   have e := ebT_at (z := z) hP
   obtain ⟨x, rfl, hx⟩ := hP
   refine ⟨x, _, rfl, SqT.of hx, rfl, fun z => ?_, by rw [e, eqT]⟩
   rw [eqT] at z
   rw [of_decide_eq_true z]
 · induction h2 with
   | nil => rfl
   | cons r _ ih =>
     rw [List.any_cons, ih, ebT_at r, Bool.eq_iff_iff, Bool.or_eq_true, decide_eq_true_iff, decide_eq_true_iff, decide_eq_true_iff, List.mem_cons]
     exact ⟨fun h => h.imp Eq.symm id, fun h => h.imp Eq.symm id⟩
theorem not_pl {K : W.Frag} {H : Hp} {ts : List V} {ns : List Str} {z th : Str} (h2 : Paired (PlR H) ts ns) (hn : ¬ th = Str.ofString "") :
   ∀ y ∈ ts, ∃ q ys, y = .ref q ∧ SqT K H q ys ∧ ys.all flatV = true ∧ (eqL ys [.str z, .str th] = true → ys = [.str z, .str th]) ∧ ((fun _ => false) y : Bool) = eqL ys [.str z, .str th] := fun y hy => by
 obtain ⟨m, hm⟩ := List.mem_iff_getElem?.mp hy
 obtain ⟨y', hy', x, rfl, hx⟩ := zS h2 hm
 have e : eqL (fgT y') [.str z, .str th] = false := by
   show ((y' == z) && ((Str.ofString "" == th) && true)) = false
   rw [beq_eq_false_iff_ne.mpr (fun e => hn e.symm : ¬ Str.ofString "" = th), Bool.false_and, Bool.and_false]
 exact ⟨x, _, rfl, SqT.of hx, rfl, fun z => (by rw [e] at z; cases z), e.symm⟩
def spAs (A : Adr) : Sp := fun vs H Q _ => ∃ c sh b h fv a, vs = [.ref h] ∧ HaS A c sh b h H fv ∧ GQ sh.flatten ∧ GB b ∧ b.length < 64 ∧ PreB b sh.flatten a ∧ KB b sh.flatten a ∧ ∀ l H', H l = none → Same H H' → H' l = some (.lst []) → Q (.ref l) H'
section
variable {P : Program} {w : World} {K : W.Frag} {mg : Str → Option Value} {base : Heap} {A : Adr}
def JCo (T : Txt K mg A) : MethJ P w K mg base CX0 10 A.c_Hand "counts" := ⟨_, _, _, _, [], [], T.cl_Hand, T.me_Hand_counts, ok_counts T, T.b_c_Hand_counts, .nil⟩
theorem ok_aside (T : Txt K mg A) : FnOk P w K mg base CX0 11 A.f_c_Hand_aside A.d_c_Hand_aside ["self"] (spAs A) := by
 refine T.F_c_Hand_aside.ok sc_c_Hand_aside (fun vs H Q E h => ?_) (fun cdv A0 outer s H vs Q E hr h => ?_)
 · obtain ⟨c, sh, b, h, fv, a, rfl, _⟩ := h
   rfl
 obtain ⟨c, sh, b, h, fv, a, rfl, hH, hQ, hB, hb, hp, hKB, k⟩ := h
 obtain ⟨k_counts, e1⟩ : ∃ k : Nat, k = 10 := ⟨_, rfl⟩
 refine ⟨_, (zD (zR (i := 1) sc_c_Hand_aside.nd rfl (by first | exact Or.inl rfl | exact Or.inr rfl) (pe_compT3 (compOk2_of (yU (x := "question") (M := ["self", "counting"]) rfl (by rfl)) (by rfl) (by symm)) (by rfl) (by symm) rfl (yQ (yF (CX := CX0) (k := k_counts) (hr.mono (by first | decide | omega)) zV (pv 0))) (fun _ _ _ _ => pifs_nil) (fun _ _ _ _ => (yI (zA (pv 0) (zA (pv 1) zE))))))
     (zG (zP (pe_compF (yU (x := "key") (M := ["self", "counting"]) rfl (by rfl)) rfl (yQ (zO (call_sortedT rfl) (by rfl) T.n_sorted PyProof.Rows.boot_sorted (zA (zM (pv 0) rfl) zE))) (fun _ _ _ _ => pifs_eqv (by exact (pifs_one (zQ (op_notIn2 (hu20 hr)) (pv 0) (pv 2) (by rfl)))) (by dsimp only [compCx] <;> rfl)) (fun _ _ _ _ => pe_eqv (by exact (yI (zA (yC yL (pv 0) zJ (fun _ _ => rfl)) (zA (yC yL (pv 0) zJ (fun _ _ => rfl)) (zA (pe_dget (hu_of hr) (zM (pv 1) rfl) (pv 0) (fun _ _ => rfl)) zE))))) (by dsimp only [compCx] <;> rfl)))))), ?_⟩
 subst e1
 refine ⟨_, rfl, h, _, c.dx, hF c fv, JCo T, rfl, hH.ha, rfl, ?_⟩
 refine ⟨c, sh, b, h, fv, a, rfl, hH, hQ, hB, hp, fun l1 ts H1 fl1 s1 h1 h2 => ?_⟩
 have hlen := zZ h2
 have h8 := hQ.2.2
 have hl2 : ts.length = (sh.flatten.take a).length := by rw [hlen, List.length_map]
 have hl3 : (sh.flatten.take a).length ≤ 8 := by rw [List.length_take]; omega
 refine ⟨l1, rfl, ⟨_, SqL.of h1⟩, ?_⟩
 refine comp_listT3 (xs := ts) (yB (m := 100) (by omega)) (fun i ys H' => Same H1 H' ∧ Paired (PlR H') ys (((sh.flatten.take a).take i).map (·.1))) ⟨Same.refl _, .nil⟩ (fun i ys H' hw => SqL.of (hw.1 _ _ h1)) (fun i x ys H' hx hyl hw => ?_) (fun ys H2 hw lc hlc => ?_)
 · obtain ⟨sH, hw⟩ := hw
   obtain ⟨e, he, t, rfl, ht⟩ := zS h2 hx
   have ht' := sH _ _ ht
   rw [List.getElem?_map] at he
   cases hq : (sh.flatten.take a)[i]? with
   | none => rw [hq] at he; cases he
   | some q =>
     rw [hq] at he
     cases he
     refine ⟨t, _, _, _, rfl, SqT.of ht', tt_true ?_⟩
     refine ⟨_, rfl, _, rfl, (by show 2 ≤ sizeLine; decide), fun r' hr' => ⟨sH.trans (zH hr' _), ?_⟩⟩
     rw [xB hq, List.map_append]
     exact xE (zL hw fun _ _ => TpR.same (zH hr' _)) (.cons ⟨r', rfl, zB⟩ .nil)
 obtain ⟨s2, hw⟩ := hw
 rw [hl2, List.take_length] at hw
 have s3 := zH hlc (.lst ys)
 have hlc3 : (upd H2 lc (.lst ys)) lc = some (.lst ys) := zB
 dsimp only [gName, List.set_cons_succ, List.set_cons_zero]
 generalize upd H2 lc (.lst ys) = H3 at s3 hlc3 ⊢
 have s13 := s1.trans (s2.trans s3)
 have hH3 := hH.mono s13
 have hw3 : Paired (PlR H3) ys ((sh.flatten.take a).map (·.1)) := zL hw fun _ _ => TpR.same s3
 refine ⟨_, rfl, h, _, c.dx, hF c fv, _, rfl, hH3.ha, T.cl_Hand, T.no_Hand_book, rfl, c.bk, b, rfl, hH3.bk, hb, (fun k hk => by
   obtain ⟨i, q, _, _, rfl⟩ := hKB k hk
   exact ⟨_, _, rfl⟩), fun l2 zs f2 g1 g2 => ?_⟩
 have s4 := zH f2 (.lst zs)
 refine ⟨l2, rfl, ⟨_, SqL.of zB⟩, ?_⟩
 refine comp_listF (xs := zs) (yB (m := 100) (by omega)) (fun i ys H' => (upd H3 l2 (.lst zs)) = H' ∧ ys = []) ⟨rfl, rfl⟩ (fun i ys H' hw => SqL.of (hw.1 ▸ zB)) (fun i x ys' H' hx hyl hw => ?_) (fun ys' H' hw p hp' => ?_)
 · obtain ⟨rfl, rfl⟩ := hw
   obtain ⟨t, rfl, k, hk, ht⟩ := g1 x (List.mem_of_getElem? hx)
   obtain ⟨j, q, hj, hq, rfl⟩ := hKB k hk
   have ht4 : (upd H3 l2 (.lst zs)) t = some (.tup (fgT q.1)) := s4 _ _ ht
   have hw4 : Paired (PlR (upd H3 l2 (.lst zs))) ys ((sh.flatten.take a).map (·.1)) := zL hw3 fun _ _ => TpR.same s4
   have ip := in_pl (K := K) (z := q.1) hw4
   refine ⟨_, rfl, _, rfl, lc, ys, t, fgT q.1, ebT _ q.1, rfl, rfl, SqT.of ht4, SqL.of (s4 _ _ hlc3), rfl, ip.1, _, rfl, ?_⟩
   refine iteN ?_ ⟨rfl, rfl⟩
   rw [ip.2, decide_eq_true (List.mem_map.mpr ⟨q, List.mem_of_getElem? (i := j) (by rw [List.getElem?_take, if_pos hj]; exact hq), rfl⟩)]
   rfl
 · obtain ⟨rfl, rfl⟩ := hw
   exact k p _ (xA (s13.trans s4) hp') ((s13.trans s4).trans (zH hp' _)) zB
end
end K42
set_option maxHeartbeats 4000000
namespace K42
open PySem L2
seal PE PT PW PA PS PSs PG PGs PI PO PSet OpR UnR CallR TruR IxR SlR PC PPs
local macro_rules | `(tactic| walk_at "rd1") => `(tactic| first
 | (refine And.intro rfl ?_)
 | (refine And.intro (by assumption) ?_)
 | (refine And.intro (fun _ e => e) ?_)
 | (refine And.intro (TyOf.str _) ?_) | (refine And.intro (TyOf.int _) ?_) | (refine And.intro (TyOf.bl _) ?_) | (refine And.intro TyOf.non ?_)
 | (refine iteT ?_) | (refine iteF ?_)
 | (apply Exists.intro))
local macro_rules | `(tactic| walk_at "rd") => `(tactic| repeat (walk_at "rd1"))
def spJu (A : Adr) : Sp := fun vs H Q E => ∃ c sh b h fv a z th, vs = [.ref h, .str z, .str th] ∧ Fine 100 z ∧ Fine 100 th ∧ HaS A c sh b h H fv ∧ GQ sh.flatten ∧ GB b ∧ PreB b sh.flatten a ∧
 ((∃ (i : Nat) (q : Qn), i ≤ a ∧ sh.flatten[i]? = some q ∧ z = q.1 ∧ th = Str.ofString "" ∧ ∀ fv' H', Fr [h] H H' → HaS A c sh b h H' fv' → FgR H' fv' (some q.1) → Q .non H') ∨
  ((¬ th = Str.ofString "" ∨ (th = Str.ofString "" ∧ z ∉ plc sh.flatten a)) ∧ ∀ H', Same H H' → E (.ref A.c_NotCome) none H'))
section
variable {P : Program} {w : World} {K : W.Frag} {mg : Str → Option Value} {base : Heap} {A : Adr}
theorem ok_jump (T : Txt K mg A) : FnOk P w K mg base (CXW P w) 12 A.f_c_Hand_jump A.d_c_Hand_jump ["self", "question", "thing"] (spJu A) := by
 refine T.F_c_Hand_jump.okX sc_c_Hand_jump (fun vs H Q E h => ?_) (fun cdv A0 outer s H vs Q E hr h => ?_)
 · obtain ⟨c, sh, b, h, fv, a, z, th, rfl, _⟩ := h
   rfl
 obtain ⟨c, sh, b, h, fv, a, z, th, rfl, hz, hth, hH, hQ, hB, hp, k⟩ := h
 obtain ⟨k_places, e1⟩ : ∃ k : Nat, k = 10 := ⟨_, rfl⟩
 refine ⟨_, (zD (yK (zQ (op_notIn2 (hu20 hr)) (yI (zA (pv 1) (zA (pv 2) zE))) (yF (CX := CX0) (k := k_places) (hr.mono (by first | decide | omega)) zV (pv 0)) (by rfl)) (zG (ps_raise T.m_NotCome T.x_NotCome (zA (pe_fstrJ (jp_c (jp_r (pv 1) (jp_c (jp_r (pv 2) jp_nil))))) zE) rfl)) zU)
     (zG (yN (pv 0) (yI (zA (pv 1) (zA (pv 2) zE))) rfl))), ?_⟩
 subst e1
 refine ⟨_, rfl, _, rfl, (by show 2 ≤ sizeLine; decide), fun t ht => ?_⟩
 have s0 := zH ht (.tup [.str z, .str th])
 have t0 : (upd H t (.tup [.str z, .str th])) t = some (.tup [.str z, .str th]) := zB
 generalize upd H t (.tup [.str z, .str th]) = H0 at s0 t0 ⊢
 have hH0 := hH.mono s0
 refine ⟨_, rfl, h, _, c.dx, hF c fv, JPl T, rfl, hH0.ha, rfl, ?_⟩
 refine ⟨c, sh, b, h, _, a, rfl, hH0.q, hQ, hB, hp, fun l ts H1 s1 h1 h2 => ?_⟩
 have s01 := s0.trans s1
 have hH1 := hH.mono s01
 have t1 := s1 _ _ t0
 have z1 : z.length ≤ 100000 := Nat.le_trans hz.1 (by decide)
 have z2 : th.length ≤ 100000 := Nat.le_trans hth.1 (by decide)
 rcases k with ⟨i, q, hi, hq, rfl, rfl, k⟩ | ⟨hno, k⟩
 · have ip := in_pl (K := K) (z := q.1) h2
   refine ⟨l, ts, t, fgT q.1, ebT H1 q.1, rfl, rfl, SqT.of t1, SqL.of h1, rfl, ip.1, _, rfl, iteN ?_ ?_⟩
   · rw [ip.2, decide_eq_true (List.mem_of_getElem? (plc_at hq hi))]; rfl
   refine ⟨_, rfl, _, rfl, (by show 2 ≤ sizeLine; decide), fun t2 ht2 => ?_⟩
   have s2 := zH ht2 (.tup (fgT q.1))
   have hH2 := hH1.mono s2
   refine ⟨_, rfl, h, _, c.dx, _, rfl, hH2.ha, T.cl_Hand, T.no_Hand_finger, (by show 4 < 1000; decide), ?_⟩
   refine k (.ref t2) _ ((Fr.of (s01.trans s2)).upd (List.mem_singleton.mpr rfl) _) (hH2.setF (.ref t2)) ⟨t2, rfl, ?_⟩
   rw [zF (yE zB hH2.ha (by intro z; cases z))]
   exact zB
 · have key : ∃ eb : V → Bool, (∀ y ∈ ts, ∃ q ys, y = .ref q ∧ SqT K H1 q ys ∧ ys.all flatV = true ∧ (eqL ys [.str z, .str th] = true → ys = [.str z, .str th]) ∧ eb y = eqL ys [.str z, .str th]) ∧ ts.any eb = false := by
     rcases hno with hn | ⟨rfl, hn⟩
     · exact ⟨fun _ => false, not_pl h2 hn, by simp⟩
     · have ip := in_pl (K := K) (z := z) h2
       exact ⟨ebT H1 z, ip.1, by rw [ip.2, decide_eq_false hn]⟩
   obtain ⟨eb, k1, k2⟩ := key
   refine ⟨l, ts, t, [.str z, .str th], eb, rfl, rfl, SqT.of t1, SqL.of h1, rfl, k1, _, rfl, iteY (by rw [k2]; rfl) ?_⟩
   refine ⟨_, rfl, z, rfl, z1, hz.2, _, rfl, th, rfl, z2, hth.2, fun y => ?_⟩
   exact ⟨(by show 1 ≤ sizeLine; decide), k _ s01⟩
end
end K42
set_option maxHeartbeats 4000000
namespace K42
open PySem L2
seal PE PT PW PA PS PSs PG PGs PI PO PSet OpR UnR CallR TruR IxR SlR PC PPs
local macro_rules | `(tactic| walk_at "rd1") => `(tactic| first
 | (refine And.intro rfl ?_)
 | (refine And.intro (by assumption) ?_)
 | (refine And.intro (fun _ e => e) ?_)
 | (refine And.intro (TyOf.str _) ?_) | (refine And.intro (TyOf.int _) ?_) | (refine And.intro (TyOf.bl _) ?_) | (refine And.intro TyOf.non ?_)
 | (refine iteT ?_) | (refine iteF ?_)
 | (apply Exists.intro))
local macro_rules | `(tactic| walk_at "rd") => `(tactic| repeat (walk_at "rd1"))
def spAF (A : Adr) : Sp := fun vs H Q _ => ∃ c h fv dv o, vs = [.ref h, dv] ∧ H h = some (oHa A c fv) ∧ FgR H fv o ∧ FgR H dv o ∧ Q (.bl true) H
abbrev clsN : List Str := [Str.ofString "Nowhere", Str.ofString "NotYet", Str.ofString "NotCome", Str.ofString "NoAnswer"]
def clsA (A : Adr) : Nat → Addr
 | 0 => A.c_Nowhere
 | 1 => A.c_NotYet
 | 2 => A.c_NotCome
 | _ => A.c_NoAnswer
def clsI : Nat → Nat
 | 0 => 0
 | 1 => 1
 | 2 => 2
 | _ => 3
def clsZ (j : Nat) : Str := clsN.getD (clsI j) (Str.ofString "")
def spCl (A : Adr) : Sp := fun vs H Q _ => ∃ e j, vs = [.ref e] ∧ j < 4 ∧ H e = some (excO e (clsA A j)) ∧ ∀ H', Same H H' → Q (.str (clsZ j)) H'
section
variable {P : Program} {w : World} {K : W.Frag} {mg : Str → Option Value} {base : Heap} {A : Adr}
def JAt (T : Txt K mg A) : MethJ P w K mg base CX0 2 A.c_Hand "at" := ⟨_, _, _, _, [], [], T.cl_Hand, T.me_Hand_at, (ok_at T).mono (by decide), T.b_c_Hand_at, .nil⟩
theorem ok_af (T : Txt K mg A) : FnOk P w K mg base CX0 3 A.f_law_at_fits A.d_law_at_fits ["_law_hand", "_law_due"] (spAF A) := by
 refine T.F_law_at_fits.ok sc_law_at_fits (fun vs H Q E h => ?_) (fun cdv A0 outer s H vs Q E hr h => ?_)
 · obtain ⟨c, h, fv, dv, o, rfl, _⟩ := h
   rfl
 obtain ⟨c, h, fv, dv, o, rfl, hh, h1, h2, k⟩ := h
 obtain ⟨k_at, e1⟩ : ∃ k : Nat, k = 2 := ⟨_, rfl⟩
 refine ⟨_, (zD (zR (i := 2) sc_law_at_fits.nd rfl (by first | exact Or.inl rfl | exact Or.inr rfl) (yF (CX := CX0) (k := k_at) (hr.mono (by first | decide | omega)) zV (pv 0)))
     (zD (yK (zQ op_isN (pv 1) xM (zW _)) (zG (zP (xR op_isN (pv 2) xM (zW _)))) zU)
     (zG (zP (pe_and (zO yO (by rfl) T.n_isinstance Bt.isinstance (zA (pv 2) (zA (xT (v := .ty "tuple") rfl T.n_tuple Bt.tuple rfl) zE))) (pe_and (xR xP (zO yD (by rfl) T.n_len PySem.boot_len (zA (pv 2) zE)) zJ (zW _)) (pe_one (xR (op_eqJ (hu20 hr)) (pv 2) (pv 1) (zW _))))))))), ?_⟩
 subst e1
 refine ⟨_, rfl, h, _, c.dx, hF c fv, JAt T, rfl, hh, rfl, c, h, fv, rfl, hh, ?_⟩
 cases o with
 | none =>
   cases (show fv = .non from h1)
   cases (show dv = .non from h2)
   exact ⟨_, rfl, rfl, _, rfl, iteT ⟨_, rfl, rfl, k⟩⟩
 | some z =>
   obtain ⟨t, rfl, ht⟩ := h1
   obtain ⟨t', rfl, ht'⟩ := h2
   refine ⟨_, rfl, rfl, _, rfl, iteF ?_⟩
   refine ⟨_, rfl, _, _, _, _, rfl, rfl, .tpl (SqT.of ht), T.i_tuple_tuple, _, rfl, iteT ?_⟩
   refine ⟨_, rfl, t, _, rfl, .inr (SqT.of ht), rfl, _, rfl, iteT ?_⟩
   refine ⟨_, rfl, _, rfl, _, eqj_ftups (n := 19) (SqT.of ht) (SqT.of ht') rfl rfl, ?_⟩
   rw [eqT, decide_eq_true rfl]
   exact k
theorem ok_cl (T : Txt K mg A) : FnOk P w K mg base CX0 1 A.f_law_class A.d_law_class ["_law_error"] (spCl A) := by
 refine T.F_law_class.ok sc_law_class (fun vs H Q E h => ?_) (fun cdv A0 outer s H vs Q E hr h => ?_)
 · obtain ⟨e, j, rfl, _⟩ := h
   rfl
 obtain ⟨e, j, rfl, hj, he, k⟩ := h
 refine ⟨_, (zD (zR (i := 1) sc_law_class.nd rfl (by first | exact Or.inl rfl | exact Or.inr rfl) (yT (zA (zO yO (by rfl) T.n_isinstance Bt.isinstance (zA (pv 0) (zA (pe_gv rfl T.v_Nowhere) zE))) (zA (zO yO (by rfl) T.n_isinstance Bt.isinstance (zA (pv 0) (zA (pe_gv rfl T.v_NotYet) zE))) (zA (zO yO (by rfl) T.n_isinstance Bt.isinstance (zA (pv 0) (zA (pe_gv rfl T.v_NotCome) zE))) zE)))))
     (zD (yP (pe_bm PySem.F.plainAttrs_list PySem.F.slot_list_append PySem.F.type_list_append xO (pv 1) (zA (zO yO (by rfl) T.n_isinstance Bt.isinstance (zA (pv 0) (zA (pe_gv rfl T.v_NoAnswer) zE))) zE)))
     (zD (yK (PW.pt (pw_or (xK (yS (zO yO (by rfl) T.n_isinstance Bt.isinstance (zA (pv 0) (zA (xT (v := .ty "ValueError") rfl T.n_ValueError Bt.ValueError rfl) zE))))) (pw_or1 (zQ op_ne (pe_bm PySem.F.plainAttrs_list PySem.F.slot_list_count PySem.F.type_list_count mt_count (pv 1) (zA pe_bl zE)) zJ (zW _))))) (zG (zP zK)) zU)
     (zG (zP (yC yJ (yT (zA zK (zA zK (zA zK (zA zK zE))))) (pe_bm PySem.F.plainAttrs_list PySem.F.slot_list_index PySem.F.type_list_index mt_lindex (pv 1) (zA pe_bl zE)) (fun _ _ => rfl))))))), ?_⟩
 have fac : ∃ b1 b2 b3 b4, ExcCls K (clsA A j) ∧ W.kitOne K (.ref (clsA A j)) (.ref A.c_Nowhere) = some b1 ∧ W.kitOne K (.ref (clsA A j)) (.ref A.c_NotYet) = some b2 ∧ W.kitOne K (.ref (clsA A j)) (.ref A.c_NotCome) = some b3 ∧ W.kitOne K (.ref (clsA A j)) (.ref A.c_NoAnswer) = some b4 ∧ W.kitOne K (.ref (clsA A j)) (.type "ValueError") = some true ∧
     [V.bl b1, .bl b2, .bl b3, .bl b4].countP (fun z => eqV z (.bl true)) = 1 ∧ IdxOf (.bl true) [V.bl b1, .bl b2, .bl b3, .bl b4] (clsI j) := by
   rcases (by omega : j = 0 ∨ j = 1 ∨ j = 2 ∨ j = 3) with rfl | rfl | rfl | rfl
   · exact ⟨_, _, _, _, T.ec_Nowhere, T.kr_Nowhere_Nowhere, T.kr_Nowhere_NotYet, T.kr_Nowhere_NotCome, T.kr_Nowhere_NoAnswer, T.krt_Nowhere_ValueError, rfl, _, rfl, rfl, fun m z hm => absurd hm (by show ¬ m < 0; omega)⟩
   · refine ⟨_, _, _, _, T.ec_NotYet, T.kr_NotYet_Nowhere, T.kr_NotYet_NotYet, T.kr_NotYet_NotCome, T.kr_NotYet_NoAnswer, T.krt_NotYet_ValueError, rfl, _, rfl, rfl, fun m z hm hz => ?_⟩
     have : m = 0 := by have : m < 1 := hm; omega
     subst this; cases hz; rfl
   · refine ⟨_, _, _, _, T.ec_NotCome, T.kr_NotCome_Nowhere, T.kr_NotCome_NotYet, T.kr_NotCome_NotCome, T.kr_NotCome_NoAnswer, T.krt_NotCome_ValueError, rfl, _, rfl, rfl, fun m z hm hz => ?_⟩
     have h3 : m < 2 := hm
     rcases (by omega : m = 0 ∨ m = 1) with rfl | rfl <;> (cases hz; rfl)
   · refine ⟨_, _, _, _, T.ec_NoAnswer, T.kr_NoAnswer_Nowhere, T.kr_NoAnswer_NotYet, T.kr_NoAnswer_NotCome, T.kr_NoAnswer_NoAnswer, T.krt_NoAnswer_ValueError, rfl, _, rfl, rfl, fun m z hm hz => ?_⟩
     have h3 : m < 3 := hm
     rcases (by omega : m = 0 ∨ m = 1 ∨ m = 2) with rfl | rfl | rfl <;> (cases hz; rfl)
 obtain ⟨b1, b2, b3, b4, ec, q1, q2, q3, q4, q5, cnt, idx⟩ := fac
 refine ⟨_, rfl, _, _, _, _, rfl, rfl, .exc he ec, q1, _, rfl, _, _, _, _, rfl, rfl, .exc he ec, q2, _, rfl, _, _, _, _, rfl, rfl, .exc he ec, q3, (by show 3 ≤ sizeLine; decide), fun l hl => ?_⟩
 have s1 := zH hl (.lst [.bl b1, .bl b2, .bl b3])
 refine ⟨_, rfl, .inl ⟨rfl, _, SqL.of zB⟩, _, rfl, _, _, _, _, rfl, rfl, .exc (s1 _ _ he) ec, q4, l, _, _, rfl, rfl, zB, (by show 3 < sizeLine; decide), ?_⟩
 rw [upd_upd]
 have s2 := zH hl (.lst [.bl b1, .bl b2, .bl b3, .bl b4])
 refine ⟨_, rfl, _, _, _, _, rfl, rfl, .exc (s2 _ _ he) ec, q5, _, rfl, iteF ?_⟩
 refine ⟨_, rfl, .inl ⟨rfl, _, SqL.of zB⟩, l, _, _, rfl, rfl, SqL.of zB, rfl, rfl, rfl, _, rfl, ?_⟩
 refine iteO (by rw [show ([V.bl b1, .bl b2, .bl b3] ++ [V.bl b4]) = [V.bl b1, .bl b2, .bl b3, .bl b4] from rfl, cnt]; rfl) ?_
 refine ⟨(by show 4 ≤ sizeLine; decide), fun l2 hl2 => ?_⟩
 have s3 := zH hl2 (.lst (clsN.map V.str))
 refine ⟨_, rfl, .inl ⟨rfl, _, SqL.of (s3 _ _ zB)⟩, l, _, _, clsI j, rfl, rfl, SqL.of (s3 _ _ zB), rfl, rfl, idx, l2, _, _, _, rfl, rfl, SqL.of zB, ?_, k _ (s2.trans s3)⟩
 rcases (by omega : j = 0 ∨ j = 1 ∨ j = 2 ∨ j = 3) with rfl | rfl | rfl | rfl <;> exact zX rfl
def OutA (A : Adr) (c : HA) (sh : List (List Qn)) (b : Bk) (h : Addr) (p : Nat) (x : V) (H : Hp) (Q : VK) : Prop :=
 (sh.flatten[p]? = none → ∀ H', Same H H' → Q (.str (Str.ofString "Nowhere")) H') ∧ ∀ q, sh.flatten[p]? = some q →
   ((∃ z, x = .str z ∧ Fine 1000 z ∧ (∀ n, readK ansW q.2.1 q.2.2 (cd z) = some n → ∀ fv' H', Fr [h, c.bk] H H' → HaS A c sh (putK b (keyOf q.1) (.int n)) h H' fv' → FgR H' fv' ((sh.flatten[p + 1]?).map (·.1)) → Q (.str (Str.ofString "")) H') ∧ (readK ansW q.2.1 q.2.2 (cd z) = none → ∀ H', Same H H' → Q (.str (Str.ofString "NoAnswer")) H')) ∨ ((∀ z, x ≠ .str z) ∧ ∀ H', Same H H' → Q (.str (Str.ofString "NoAnswer")) H'))
def OutO (A : Adr) (c : HA) (sh : List (List Qn)) (b : Bk) (h : Addr) (a p : Nat) (H : Hp) (Q : VK) : Prop :=
 (sh.flatten[p]? = none → ∀ H', Same H H' → Q (.str (Str.ofString "Nowhere")) H') ∧ (∀ q, sh.flatten[p]? = some q → p = a → ∀ H', Same H H' → Q (.str (Str.ofString "NotYet")) H') ∧ ∀ q, sh.flatten[p]? = some q → p < a → ∀ fv' H', Fr [h] H H' → HaS A c sh b h H' fv' → FgR H' fv' ((sh.flatten[p + 1]?).map (·.1)) → Q (.str (Str.ofString "")) H'
def OutB (A : Adr) (c : HA) (sh : List (List Qn)) (b : Bk) (h : Addr) (p : Nat) (H : Hp) (Q : VK) : Prop :=
 (p = 0 → ∀ H', Same H H' → Q (.str (Str.ofString "Nowhere")) H') ∧ (0 < p → ∀ fv' H', Fr [h] H H' → HaS A c sh b h H' fv' → FgR H' fv' ((sh.flatten[p - 1]?).map (·.1)) → Q (.str (Str.ofString "")) H')
def OutJ (A : Adr) (c : HA) (sh : List (List Qn)) (b : Bk) (h : Addr) (a : Nat) (z th : Str) (H : Hp) (Q : VK) : Prop :=
 (∃ (i : Nat) (q : Qn), i ≤ a ∧ sh.flatten[i]? = some q ∧ z = q.1 ∧ th = Str.ofString "" ∧ ∀ fv' H', Fr [h] H H' → HaS A c sh b h H' fv' → FgR H' fv' (some q.1) → Q (.str (Str.ofString "")) H') ∨
 ((¬ th = Str.ofString "" ∨ (th = Str.ofString "" ∧ z ∉ plc sh.flatten a)) ∧ ∀ H', Same H H' → Q (.str (Str.ofString "NotCome")) H')
def spAsked (A : Adr) (K : W.Frag) : Sp := fun vs H Q _ => ∃ c sh b h fv a p wd x, vs = [.ref h, .str wd, x] ∧ HaS A c sh b h H fv ∧ GQ sh.flatten ∧ GB b ∧ b.length ≤ 999 ∧ PreB b sh.flatten a ∧ p ≤ a ∧ FgR H fv ((sh.flatten[p]?).map (·.1)) ∧
 ((wd = Str.ofString "answer" ∧ (∃ _ : Thing K H x, True) ∧ OutA A c sh b h p x H Q) ∨ (wd = Str.ofString "on" ∧ OutO A c sh b h a p H Q) ∨ (wd = Str.ofString "back" ∧ OutB A c sh b h p H Q) ∨ (wd = Str.ofString "jump" ∧ ∃ t z th, x = .ref t ∧ H t = some (.tup [.str z, .str th]) ∧ Fine 100 z ∧ Fine 100 th ∧ OutJ A c sh b h a z th H Q))
def JJu (T : Txt K mg A) : MethJ P w K mg base (CXW P w) 12 A.c_Hand "jump" := ⟨_, _, _, _, [], [], T.cl_Hand, T.me_Hand_jump, ok_jump T, T.b_c_Hand_jump, .nil⟩
def JJd (T : Txt K mg A) : MethJ P w K mg base (CXW P w) 12 A.c_Hand "jump" := ⟨_, _, _, _, A.ds_c_Hand_jump, [.str (Str.ofString "")], T.cl_Hand, T.me_Hand_jump, ok_jump T, T.bd_c_Hand_jump, T.dv_c_Hand_jump⟩
def JAn (T : Txt K mg A) : MethJ P w K mg base (CXW P w) 12 A.c_Hand "answer" := ⟨_, _, _, _, [], [], T.cl_Hand, T.me_Hand_answer, ok_an T, T.b_c_Hand_answer, .nil⟩
def JOn (T : Txt K mg A) : MethJ P w K mg base (CXW P w) 12 A.c_Hand "on" := ⟨_, _, _, _, [], [], T.cl_Hand, T.me_Hand_on, ok_on T, T.b_c_Hand_on, .nil⟩
def JBk (T : Txt K mg A) : MethJ P w K mg base (CXW P w) 12 A.c_Hand "back" := ⟨_, _, _, _, [], [], T.cl_Hand, T.me_Hand_back, ok_bk T, T.b_c_Hand_back, .nil⟩
theorem ok_asked (T : Txt K mg A) : FnOk P w K mg base CX0 13 A.f_law_asked A.d_law_asked ["_law_hand", "_law_word", "_law_thing"] (spAsked A K) := by
 have G_law_class := ok_cl (P := P) (w := w) (base := base) T
 refine T.F_law_asked.ok sc_law_asked (fun vs H Q E h => ?_) (fun cdv A0 outer s H vs Q E hr h => ?_)
 · obtain ⟨c, sh, b, h, fv, a, p, wd, x, rfl, _⟩ := h
   rfl
 obtain ⟨c, sh, b, h, fv, a, p, wd, x, rfl, hH, hQ, hB, hb, hp, hpa, hf, k⟩ := h
 obtain ⟨k_answer, e1⟩ : ∃ k : Nat, k = 12 := ⟨_, rfl⟩
 obtain ⟨k_on, e2⟩ : ∃ k : Nat, k = 12 := ⟨_, rfl⟩
 obtain ⟨k_back, e3⟩ : ∃ k : Nat, k = 12 := ⟨_, rfl⟩
 obtain ⟨k_jump, e4⟩ : ∃ k : Nat, k = 12 := ⟨_, rfl⟩
 refine ⟨_, (zD (zR (i := 3) sc_law_asked.nd rfl (by first | exact Or.inl rfl | exact Or.inr rfl) xM)
     (zD (zR (i := 4) sc_law_asked.nd rfl (by first | exact Or.inl rfl | exact Or.inr rfl) xM)
     (zD (ps_tryAs (j := 5) sc_law_asked.nd rfl rfl rfl rfl rfl (psx_one (psx_if (zQ xP (pv 1) zK (zW _)) (psx_one (psx_set (i := 4) sc_law_asked.nd rfl (by first | exact Or.inl rfl | exact Or.inr rfl) (pex_methG (k := k_answer) (hr.mono (by first | decide | omega)) (pv 0) (zA (pv 2) zE)))) (psx_one (psx_if (zQ xP (pv 1) zK (zW _)) (psx_one (psx_set (i := 4) sc_law_asked.nd rfl (by first | exact Or.inl rfl | exact Or.inr rfl) (pex_methG0 (k := k_on) (hr.mono (by first | decide | omega)) (pv 0)))) (psx_one (psx_if (zQ xP (pv 1) zK (zW _)) (psx_one (psx_set (i := 4) sc_law_asked.nd rfl (by first | exact Or.inl rfl | exact Or.inr rfl) (pex_methG0 (k := k_back) (hr.mono (by first | decide | omega)) (pv 0)))) (psx_one (psx_if (zQ xP (yC yL (pv 2) zJ (fun _ _ => rfl)) zK (zW _)) (psx_one (psx_set (i := 4) sc_law_asked.nd rfl (by first | exact Or.inl rfl | exact Or.inr rfl) (pex_methG (k := k_jump) (hr.mono (by first | decide | omega)) (pv 0) (zA (yC yL (pv 2) zJ (fun _ _ => rfl)) zE)))) (psx_one (psx_set (i := 4) sc_law_asked.nd rfl (by first | exact Or.inl rfl | exact Or.inr rfl) (pex_methG (k := k_jump) (hr.mono (by first | decide | omega)) (pv 0) (zA (yC yL (pv 2) zJ (fun _ _ => rfl)) (zA (yC yL (pv 2) zJ (fun _ _ => rfl)) zE))))))))))))) rfl T.m_AskError (fun _ => (zG (zR (i := 3) sc_law_asked.nd rfl (by first | exact Or.inl rfl | exact Or.inr rfl) (pv 5)))))
     (zD (yK (zQ op_notN (pv 3) xM (zW _)) (zG (zP (yH G_law_class (hr.mono (by first | decide | omega)) rfl T.m_law_class T.k_law_class T.b_law_class .nil zV (zA (pv 3) zE)))) zU)
     (zD (yK (zQ op_notN (pv 4) xM (zW _)) (zG (zP zK)) zU)
     (zG (zP zK))))))), ?_⟩
 subst e1 e2 e3 e4
 refine ⟨_, rfl, rfl, _, rfl, ?_⟩
 rcases k with ⟨rfl, ⟨th, _⟩, k⟩ | ⟨rfl, k⟩ | ⟨rfl, k⟩ | ⟨rfl, k⟩
 · refine iteT ?_
   refine ⟨_, rfl, h, _, c.dx, hF c fv, JAn T, rfl, hH.ha, rfl, _, rfl, ?_⟩
   refine ⟨c, sh, b, h, fv, a, p, x, th, rfl, hH, hQ, hB, hb, hp, hpa, hf, fun hq => ?_, fun q hq => ?_⟩
   · exact ⟨_, rfl, T.em_Nowhere_AskError, fun ea hea => ⟨_, rfl, _, rfl, rfl, _, rfl, iteT ⟨_, rfl, ea, 0, rfl, by decide, zB, fun H2 s2 => k.1 hq H2 ((zH hea _).trans s2)⟩⟩⟩
   · rcases k.2 q hq with ⟨z, rfl, hz, k1, k2⟩ | ⟨hx, k2⟩
     · refine .inl ⟨z, rfl, hz, fun n hn fv' H' F' a1 a2 => ?_, fun hn H' s1 => ?_⟩
       · exact ⟨_, rfl, rfl, _, rfl, iteF ⟨_, rfl, rfl, _, rfl, iteF (k1 n hn fv' H' F' a1 a2)⟩⟩
       · exact ⟨_, rfl, T.em_NoAnswer_AskError, fun ea hea => ⟨_, rfl, _, rfl, rfl, _, rfl, iteT ⟨_, rfl, ea, 3, rfl, by decide, zB, fun H2 s2 => k2 hn H2 (s1.trans ((zH hea _).trans s2))⟩⟩⟩
     · refine .inr ⟨hx, fun H' s1 => ?_⟩
       exact ⟨_, rfl, T.em_NoAnswer_AskError, fun ea hea => ⟨_, rfl, _, rfl, rfl, _, rfl, iteT ⟨_, rfl, ea, 3, rfl, by decide, zB, fun H2 s2 => k2 H2 (s1.trans ((zH hea _).trans s2))⟩⟩⟩
 · refine iteO (by symm) ?_
   refine ⟨_, rfl, rfl, _, rfl, iteT ?_⟩
   refine ⟨_, rfl, h, _, c.dx, hF c fv, JOn T, rfl, hH.ha, rfl, ?_⟩
   refine ⟨c, sh, b, h, fv, a, p, rfl, hH, hQ, hB, hp, hpa, hf, fun hq => ?_, fun q hq e H' s1 => ?_, fun q hq e fv' H' F' a1 a2 => ?_⟩
   · exact ⟨_, rfl, T.em_Nowhere_AskError, fun ea hea => ⟨_, rfl, _, rfl, rfl, _, rfl, iteT ⟨_, rfl, ea, 0, rfl, by decide, zB, fun H2 s2 => k.1 hq H2 ((zH hea _).trans s2)⟩⟩⟩
   · exact ⟨_, rfl, T.em_NotYet_AskError, fun ea hea => ⟨_, rfl, _, rfl, rfl, _, rfl, iteT ⟨_, rfl, ea, 1, rfl, by decide, zB, fun H2 s2 => k.2.1 q hq e H2 (s1.trans ((zH hea _).trans s2))⟩⟩⟩
   · exact ⟨_, rfl, rfl, _, rfl, iteF ⟨_, rfl, rfl, _, rfl, iteF (k.2.2 q hq e fv' H' F' a1 a2)⟩⟩
 · refine iteO (by symm) ?_
   refine ⟨_, rfl, rfl, _, rfl, iteO (by symm) ?_⟩
   refine ⟨_, rfl, rfl, _, rfl, iteT ?_⟩
   refine ⟨_, rfl, h, _, c.dx, hF c fv, JBk T, rfl, hH.ha, rfl, ?_⟩
   refine ⟨c, sh, b, h, fv, a, p, rfl, hH, hQ, hB, hp, hpa, hf, fun e H' s1 => ?_, fun e fv' H' F' a1 a2 => ?_⟩
   · exact ⟨_, rfl, T.em_Nowhere_AskError, fun ea hea => ⟨_, rfl, _, rfl, rfl, _, rfl, iteT ⟨_, rfl, ea, 0, rfl, by decide, zB, fun H2 s2 => k.1 e H2 (s1.trans ((zH hea _).trans s2))⟩⟩⟩
   · exact ⟨_, rfl, rfl, _, rfl, iteF ⟨_, rfl, rfl, _, rfl, iteF (k.2 e fv' H' F' a1 a2)⟩⟩
 · obtain ⟨t, z, th, rfl, ht, hz, hth, k⟩ := k
   refine iteO (by symm) ?_
   refine ⟨_, rfl, rfl, _, rfl, iteO (by symm) ?_⟩
   refine ⟨_, rfl, rfl, _, rfl, iteO (by symm) ?_⟩
   have i0 : atI [V.str z, V.str th] ((0 : Nat) : Int) = some (V.str z) := zX rfl
   have i1 : atI [V.str z, V.str th] ((1 : Nat) : Int) = some (V.str th) := zX rfl
   refine ⟨_, rfl, t, _, _, _, rfl, rfl, SqT.of ht, i1, rfl, _, rfl, ?_⟩
   by_cases e0 : th = Str.ofString ""
   · refine iteY (decide_eq_true (congrArg V.str e0)) ?_
     refine ⟨_, rfl, h, _, c.dx, hF c fv, JJd T, rfl, hH.ha, rfl, _, rfl, t, _, _, _, rfl, rfl, SqT.of ht, i0, ?_⟩
     subst e0
     refine ⟨c, sh, b, h, fv, a, z, _, rfl, hz, hth, hH, hQ, hB, hp, ?_⟩
     rcases k with ⟨i, q, h1, h2, h3, h4, k⟩ | ⟨h1, k⟩
     · exact .inl ⟨i, q, h1, h2, h3, h4, fun fv' H' F' a1 a2 => ⟨_, rfl, rfl, _, rfl, iteF ⟨_, rfl, rfl, _, rfl, iteF (k fv' H' F' a1 a2)⟩⟩⟩
     · exact .inr ⟨h1, fun H' s1 => ⟨_, rfl, T.em_NotCome_AskError, fun ea hea => ⟨_, rfl, _, rfl, rfl, _, rfl, iteT ⟨_, rfl, ea, 2, rfl, by decide, zB, fun H2 s2 => k H2 (s1.trans ((zH hea _).trans s2))⟩⟩⟩⟩
   · refine iteN (decide_eq_false fun e => e0 (V.str.inj e)) ?_
     refine ⟨_, rfl, h, _, c.dx, hF c fv, JJu T, rfl, hH.ha, rfl, _, rfl, t, _, _, _, rfl, rfl, SqT.of ht, i0, _, rfl, t, _, _, _, rfl, rfl, SqT.of ht, i1, ?_⟩
     refine ⟨c, sh, b, h, fv, a, z, th, rfl, hz, hth, hH, hQ, hB, hp, ?_⟩
     rcases k with ⟨i, q, h1, h2, h3, h4, k⟩ | ⟨h1, k⟩
     · exact absurd h4 e0
     · exact .inr ⟨h1, fun H' s1 => ⟨_, rfl, T.em_NotCome_AskError, fun ea hea => ⟨_, rfl, _, rfl, rfl, _, rfl, iteT ⟨_, rfl, ea, 2, rfl, by decide, zB, fun H2 s2 => k H2 (s1.trans ((zH hea _).trans s2))⟩⟩⟩⟩
end
end K42
set_option maxHeartbeats 4000000
namespace K42
open PySem L2
seal PE PT PW PA PS PSs PG PGs PI PO PSet OpR UnR CallR TruR IxR SlR PC PPs
local macro_rules | `(tactic| walk_at "rd1") => `(tactic| first
 | (refine And.intro rfl ?_)
 | (refine And.intro (by assumption) ?_)
 | (refine And.intro (fun _ e => e) ?_)
 | (refine And.intro (TyOf.str _) ?_) | (refine And.intro (TyOf.int _) ?_) | (refine And.intro (TyOf.bl _) ?_) | (refine And.intro TyOf.non ?_)
 | (refine iteT ?_) | (refine iteF ?_)
 | (apply Exists.intro))
local macro_rules | `(tactic| walk_at "rd") => `(tactic| repeat (walk_at "rd1"))
abbrev zN : Str := Str.ofString "Nowhere"
abbrev zY : Str := Str.ofString "NotYet"
abbrev zC : Str := Str.ofString "NotCome"
abbrev z0 : Str := Str.ofString ""
abbrev LBk := List (Key × V)
def FO (lb : LBk) (qs : List Qn) (a : Nat) : Prop := a ≤ qs.length ∧ (∀ (i : Nat) q, i < a → qs[i]? = some q → (valV lb (.inr q.1)).isSome = true) ∧ ∀ q, qs[a]? = some q → valV lb (.inr q.1) = none
def spFO : Sp := fun vs H Q _ => ∃ lr bk xs qs lb a, vs = [.ref lr, .ref bk] ∧ H lr = some (.lst xs) ∧ Paired (RwR H) xs qs ∧ GQ qs ∧ H bk = some (.dK lb) ∧ FO lb qs a ∧ Q (.int (a : Nat)) H
theorem ieq {a b : Int} (h : decide (V.int a = V.int b) = true) : a = b := V.int.inj (of_decide_eq_true h)
theorem ine {a b : Int} (h : ¬ decide (V.int a = V.int b) = true) : ¬ a = b := fun e => h (decide_eq_true (congrArg V.int e))
def DeJ (H : Hp) (qs : List Qn) (a p : Nat) (x : V) (due : Str) (p' : Nat) : Prop := ∃ t z th, x = .ref t ∧ H t = some (.tup [.str z, .str th]) ∧ Fine 100 z ∧ Fine 100 th ∧
 ((∃ (q : Qn), p' ≤ a ∧ qs[p']? = some q ∧ z = q.1 ∧ th = z0 ∧ due = z0) ∨ ((¬ th = z0 ∨ (th = z0 ∧ z ∉ plc qs a)) ∧ due = zC ∧ p' = p))
def DeA (qs : List Qn) (p : Nat) (x : V) (due : Str) (p' : Nat) : Prop := (qs[p]? = none ∧ x = .str (Str.ofString "x") ∧ due = zN ∧ p' = p) ∨ (∃ q v, qs[p]? = some q ∧ x = .int v ∧ q.2.1 ≤ v ∧ v ≤ q.2.2 ∧ due = z0 ∧ p' = p + 1)
def DeO (qs : List Qn) (a p : Nat) (due : Str) (p' : Nat) : Prop := (qs[p]? = none ∧ due = zN ∧ p' = p) ∨ (∃ q, qs[p]? = some q ∧ p = a ∧ due = zY ∧ p' = p) ∨ (∃ q, qs[p]? = some q ∧ p < a ∧ due = z0 ∧ p' = p + 1)
def DeB (p : Nat) (due : Str) (p' : Nat) : Prop := (p = 0 ∧ due = zN ∧ p' = p) ∨ (0 < p ∧ due = z0 ∧ p' = p - 1)
def Deed (H : Hp) (qs : List Qn) (a p : Nat) (wd : Str) (x : V) (due : Str) (p' : Nat) : Prop := (wd = Str.ofString "answer" ∧ DeA qs p x due p') ∨ (wd = Str.ofString "on" ∧ DeO qs a p due p') ∨ (wd = Str.ofString "back" ∧ DeB p due p') ∨ (wd = Str.ofString "jump" ∧ DeJ H qs a p x due p')
theorem DeJ.same {H H' : Hp} (s : Same H H') {qs : List Qn} {a p : Nat} {x : V} {due : Str} {p' : Nat} (h : DeJ H qs a p x due p') : DeJ H' qs a p x due p' := let ⟨t, z, th, e, h1, r⟩ := h; ⟨t, z, th, e, s _ _ h1, r⟩
theorem Deed.same {H H' : Hp} (s : Same H H') {qs : List Qn} {a p : Nat} {wd : Str} {x : V} {due : Str} {p' : Nat} (h : Deed H qs a p wd x due p') : Deed H' qs a p wd x due p' := by
 rcases h with h | h | h | ⟨e, h⟩
 · exact .inl h
 · exact .inr (.inl h)
 · exact .inr (.inr (.inl h))
 · exact .inr (.inr (.inr ⟨e, h.same s⟩))
def spDeed : Sp := fun vs H Q _ => ∃ (c : Int) (lr bk : Addr) (xs : List V) (qs : List Qn) (lb : LBk) (a p : Nat), vs = [.int c, .ref lr, .ref bk, .int (p : Nat)] ∧ H lr = some (.lst xs) ∧ Paired (RwR H) xs qs ∧ GQ qs ∧ 1 ≤ qs.length ∧ (∀ q ∈ qs, 2 ≤ q.1.length) ∧ H bk = some (.dK lb) ∧ FO lb qs a ∧ p ≤ a ∧
 ∀ (t : Addr) (wd : Str) (x : V) (due : Str) (p' : Nat) H', Same H H' → H' t = some (.tup [.str wd, x, .str due, .int (p' : Nat)]) → Deed H' qs a p wd x due p' → Q (.ref t) H'
theorem not_far {qs : List Qn} {a i : Nat} {q : Qn} (hn : (qs.map (·.1)).Nodup) (hq : qs[i]? = some q) (hi : a < i) : q.1 ∉ plc qs a := fun h => by
 obtain ⟨j, hj⟩ := List.mem_iff_getElem?.mp h
 obtain ⟨q', hq', e⟩ := at_plc hj
 have hja : j ≤ a := by
   have := (List.getElem?_eq_some_iff.mp hj).1
   rw [plc_len] at this; omega
 have h1 : (qs.map (·.1))[i]? = some q.1 := by rw [List.getElem?_map, hq]; rfl
 have h2 : (qs.map (·.1))[j]? = some q.1 := by rw [List.getElem?_map, hq', ← e]; rfl
 have := (List.getElem?_inj (List.getElem?_eq_some_iff.mp h2).1 hn).mp (h2.trans h1.symm)
 omega
section
variable {P : Program} {w : World} {K : W.Frag} {mg : Str → Option Value} {base : Heap} {A : Adr}
theorem ok_fo (T : Txt K mg A) : FnOk P w K mg base CX0 1 A.f_law_first_open A.d_law_first_open ["_law_rows", "_law_book"] spFO := by
 refine T.F_law_first_open.ok sc_law_first_open (fun vs H Q E h => ?_) (fun cdv A0 outer s H vs Q E hr h => ?_)
 · obtain ⟨lr, bk, xs, qs, lb, a, rfl, _⟩ := h
   rfl
 obtain ⟨lr, bk, xs, qs, lb, a, rfl, hlr, hP, hQ, hbk, hfo, k⟩ := h
 refine ⟨_, (zD (xH PassesOwn.never rfl (pi_range1 rfl T.n_range (zA (zO yD (by rfl) T.n_len PySem.boot_len (zA (pv 0) zE)) zE)) (yM (i := 2) sc_law_first_open.nd rfl (by first | exact Or.inl rfl | exact Or.inr rfl)) (zG (yK (zQ (op_notIn_d (hu_of hr)) (yC yL (yC yJ (pv 0) (pv 2) (fun _ _ => rfl)) zJ (fun _ _ => rfl)) (pv 1) (by rfl)) (zG (zP (pv 2))) zU)))
     (zG (zP (zO yD (by rfl) T.n_len PySem.boot_len (zA (pv 0) zE))))), ?_⟩
 have hlen := zZ hP
 have h8 := hQ.2.2
 refine ⟨_, rfl, lr, xs, rfl, .inl (SqL.of hlr), _, rfl, (by omega), (by omega), ?_⟩
 refine for_rangeR (lo := 0) (n := xs.length) (fun i σ H' => H = H' ∧ i ≤ a ∧ ∃ v, σ = [some (.ref lr), some (.ref bk), v]) ⟨rfl, Nat.zero_le _, none, rfl⟩ (fun i σ H' hi hw => ?_) (fun σ H' hw => ?_)
 · obtain ⟨rfl, hia, v, rfl⟩ := hw
   have hx := List.getElem?_eq_getElem hi
   obtain ⟨q, hq, ra, era, hra⟩ := zS hP hx
   rw [era] at hx
   refine ⟨_, rfl, _, rfl, lr, _, _, _, rfl, rfl, SqL.of hlr, (by rw [Int.zero_add]; exact zX hx), ra, _, _, _, rfl, rfl, SqT.of hra, rfl, _, rfl, bk, _, rfl, DGet.k (k := .inr q.1) hbk, _, rfl, ?_⟩
   by_cases c : i < a
   · exact iteN (by rw [hfo.2.1 i q c hq]; rfl) ⟨rfl, c, _, rfl⟩
   · have : i = a := by omega
     subst this
     refine iteY (by rw [hfo.2.2 q hq]; rfl) ⟨_, rfl, ?_⟩
     rw [Int.zero_add]; exact k
 · obtain ⟨rfl, hia, v, rfl⟩ := hw
   have := hfo.1
   refine ⟨_, rfl, lr, xs, rfl, .inl (SqL.of hlr), ?_⟩
   rw [show xs.length = a by omega]
   exact k
theorem ok_deed (T : Txt K mg A) : FnOk P w K mg base CX0 2 A.f_law_deed A.d_law_deed ["_law_cell", "_law_rows", "_law_book", "_law_place"] spDeed := by
 have G_law_first_open := ok_fo (P := P) (w := w) (base := base) T
 refine T.F_law_deed.ok sc_law_deed (fun vs H Q E h => ?_) (fun cdv A0 outer s H vs Q E hr h => ?_)
 · obtain ⟨c, lr, bk, xs, qs, lb, a, p, rfl, _⟩ := h
   rfl
 obtain ⟨c, lr, bk, xs, qs, lb, a, p, rfl, hr', hP, hQ, hq1, hq2, hbk, hfo, hpa, k⟩ := h
 refine ⟨_, (zD (zR (i := 4) sc_law_deed.nd rfl (by first | exact Or.inl rfl | exact Or.inr rfl) (yH G_law_first_open (hr.mono (by first | decide | omega)) rfl T.m_law_first_open T.k_law_first_open T.b_law_first_open .nil zV (zA (pv 1) (zA (pv 2) zE))))
     (zD (zR (i := 5) sc_law_deed.nd rfl (by first | exact Or.inl rfl | exact Or.inr rfl) (yC yJ (yT (zA zK (zA zK (zA zK (zA zK (zA zK (zA zK (zA zK zE)))))))) (yA xN (pv 0) zJ) (fun _ _ => rfl)))
     (zD (yK (zQ xP (pv 5) zK (zW _)) (zD (zR (i := 6) sc_law_deed.nd rfl (by first | exact Or.inl rfl | exact Or.inr rfl) (yA xN (yA op_fdiv (pv 0) zJ) (yA xJ (zO yD (by rfl) T.n_len PySem.boot_len (zA (pv 1) zE)) zJ)))
     (zD (yK (zQ op_ge (pv 6) (zO yD (by rfl) T.n_len PySem.boot_len (zA (pv 1) zE)) (zW _)) (zG (zP (yI (zA (pv 5) (zA (yC yJ (yT (zA (yI (zA zK (zA zK zE))) (zA (yI (zA (yC yL (yC yJ (pv 1) zJ (fun _ _ => rfl)) zJ (fun _ _ => rfl)) (zA zK zE))) zE))) (yA op_sub (pv 6) (zO yD (by rfl) T.n_len PySem.boot_len (zA (pv 1) zE))) (fun _ _ => rfl)) (zA zK (zA (pv 3) zE))))))) zU)
     (zG (zP (yI (zA (pv 5) (zA (yI (zA (yC yL (yC yJ (pv 1) (pv 6) (fun _ _ => rfl)) zJ (fun _ _ => rfl)) (zA zK zE))) (zA (yC yJ (yT (zA zK (zA zK zE))) (yZ call_int1 (by rfl) T.n_int Bt.int (zA (xR op_le (pv 6) (pv 4) (zW _)) zE)) (fun _ _ => rfl)) (zA (yC yJ (yT (zA (pv 3) (zA (pv 6) zE))) (yZ call_int1 (by rfl) T.n_int Bt.int (zA (xR op_le (pv 6) (pv 4) (zW _)) zE)) (fun _ _ => rfl)) zE))))))))) zU)
     (zD (yK (zQ xP (pv 5) zK (zW _)) (zG (zP (yI (zA (pv 5) (zA zK (zA (yC yJ (yT (zA zK (zA zK zE))) (yZ call_int1 (by rfl) T.n_int Bt.int (zA (xR op_gt (pv 3) zJ (zW _)) zE)) (fun _ _ => rfl)) (zA (zO (call_max2 rfl) (by rfl) T.n_max PyProof.Rows.boot_max (zA (yA op_sub (pv 3) zJ) (zA zJ zE))) zE))))))) zU)
     (zD (yK (zQ xP (pv 3) (zO yD (by rfl) T.n_len PySem.boot_len (zA (pv 1) zE)) (zW _)) (zG (zP (yI (zA (pv 5) (zA zK (zA zK (zA (pv 3) zE))))))) zU)
     (zD (yK (PW.pt (pw_and (zQ xP (pv 5) zK (zW _)) (pw_and1 (zQ xP (pv 3) (pv 4) (zW _))))) (zG (zP (yI (zA (pv 5) (zA zK (zA zK (zA (pv 3) zE))))))) zU)
     (zD (yK (zQ xP (pv 5) zK (zW _)) (zG (zP (yI (zA (pv 5) (zA zK (zA zK (zA (yA xJ (pv 3) zJ) zE))))))) zU)
     (zG (zP (yI (zA (pv 5) (zA (yA xJ (yC yL (yC yJ (pv 1) (pv 3) (fun _ _ => rfl)) zJ (fun _ _ => rfl)) (yA xN (yA op_fdiv (pv 0) zJ) (yA xJ (yA op_sub (yC yL (yC yJ (pv 1) (pv 3) (fun _ _ => rfl)) zJ (fun _ _ => rfl)) (yC yL (yC yJ (pv 1) (pv 3) (fun _ _ => rfl)) zJ (fun _ _ => rfl))) zJ))) (zA zK (zA (yA xJ (pv 3) zJ) zE)))))))))))))), ?_⟩
 have hlen := zZ hP
 have m0 : 0 ≤ c % 7 := Int.emod_nonneg _ (by decide)
 have m1 : c % 7 < 7 := Int.emod_lt_of_pos _ (by decide)
 have han := hfo.1
 refine ⟨_, rfl, _, rfl, lr, bk, xs, qs, lb, a, rfl, hr', hP, hQ, hbk, hfo, ?_⟩
 dsimp only [gName, List.set_cons_succ, List.set_cons_zero]
 refine ⟨(by show 7 ≤ sizeLine; decide), fun l hl => ?_⟩
 have s1 := zH hl (.lst [.str (Str.ofString "answer"), .str (Str.ofString "jump"), .str (Str.ofString "answer"), .str (Str.ofString "jump"), .str (Str.ofString "on"), .str (Str.ofString "back"), .str (Str.ofString "answer")])
 obtain ⟨wd, hwd, hw⟩ : ∃ wd : Str, atI [V.str (Str.ofString "answer"), .str (Str.ofString "jump"), .str (Str.ofString "answer"), .str (Str.ofString "jump"), .str (Str.ofString "on"), .str (Str.ofString "back"), .str (Str.ofString "answer")] (c % 7) = some (.str wd) ∧ (wd = Str.ofString "answer" ∨ wd = Str.ofString "on" ∨ wd = Str.ofString "back" ∨ wd = Str.ofString "jump") := by
   rcases (by omega : c % 7 = ((0 : Nat) : Int) ∨ c % 7 = ((1 : Nat) : Int) ∨ c % 7 = ((2 : Nat) : Int) ∨ c % 7 = ((3 : Nat) : Int) ∨ c % 7 = ((4 : Nat) : Int) ∨ c % 7 = ((5 : Nat) : Int) ∨ c % 7 = ((6 : Nat) : Int)) with e | e | e | e | e | e | e <;> rw [e]
   · exact ⟨_, zX rfl, .inl rfl⟩
   · exact ⟨_, zX rfl, .inr (.inr (.inr rfl))⟩
   · exact ⟨_, zX rfl, .inl rfl⟩
   · exact ⟨_, zX rfl, .inr (.inr (.inr rfl))⟩
   · exact ⟨_, zX rfl, .inr (.inl rfl)⟩
   · exact ⟨_, zX rfl, .inr (.inr (.inl rfl))⟩
   · exact ⟨_, zX rfl, .inl rfl⟩
 refine ⟨_, rfl, _, _, rfl, rfl, (by show (0 : Int) < 7; decide), l, _, _, _, rfl, rfl, SqL.of zB, hwd, ?_⟩
 have hr1 := s1 _ _ hr'
 generalize upd H l _ = H1 at s1 hr1 ⊢
 dsimp only [gName, List.set_cons_succ, List.set_cons_zero]
 have hP1 : Paired (RwR H1) xs qs := zL hP fun _ _ h => RwR.same s1 h
 have nn : ¬ p < qs.length → qs[p]? = none := fun h => List.getElem?_eq_none (by omega)
 have fin : ∀ (H2 : Hp), Same H H2 → ∀ (wd : Str) (x : V) (due : Str) (p' : Nat), Deed H2 qs a p wd x due p' → ∀ t, H2 t = none → Q (.ref t) (upd H2 t (.tup [.str wd, x, .str due, .int (p' : Nat)])) := fun H2 s2 wd x due p' hD t ht =>
   k t wd x due p' _ (s2.trans (zH ht _)) zB (hD.same (zH ht _))
 rcases hw with rfl | rfl | rfl | rfl
 · refine ⟨_, rfl, rfl, _, rfl, iteO (by symm) ?_⟩
   refine ⟨_, rfl, rfl, _, rfl, iteO (by symm) ?_⟩
   refine ⟨_, rfl, _, rfl, lr, xs, rfl, .inl (SqL.of hr1), rfl, _, rfl, ?_⟩
   refine ite2 (fun e => ?_) (fun e => ?_)
   · have e : (p : Int) = (xs.length : Nat) := ieq e
     exact ⟨_, rfl, _, rfl, (by show 4 ≤ sizeLine; decide), fun t ht => fin H1 s1 _ _ _ p (.inl ⟨rfl, .inl ⟨nn (by omega), rfl, rfl, rfl⟩⟩) t ht⟩
   have e : ¬ (p : Int) = (xs.length : Nat) := ine e
   refine ⟨_, rfl, rfl, _, rfl, iteO (by symm) (iteF ?_)⟩
   refine ⟨_, rfl, rfl, _, rfl, iteO (by symm) ?_⟩
   obtain ⟨v, hv, hv2⟩ := at_some (l := xs) (i := (p : Int)) (by omega) (by omega)
   obtain ⟨q, hq, ra, rfl, hra⟩ := zS hP1 hv2
   rw [show ((p : Int)).toNat = p by omega] at hq
   have gq := hQ.2.1 q (List.mem_of_getElem? hq)
   have hpos : (0 : Int) < q.2.2 - q.2.1 + 1 := by have := gq.2.1; omega
   have c0 := Int.emod_nonneg (c / 7) (b := q.2.2 - q.2.1 + 1) (by omega)
   have c1 := Int.emod_lt_of_pos (c / 7) hpos
   refine ⟨_, rfl, _, rfl, _, rfl, lr, _, _, _, rfl, rfl, SqL.of hr1, hv, ra, _, _, _, rfl, rfl, SqT.of hra, rfl, _, rfl, _, _, rfl, rfl, ⟨by decide, by decide⟩, _, rfl, _, rfl, lr, _, _, _, rfl, rfl, SqL.of hr1, hv, ra, _, _, _, rfl, rfl, SqT.of hra, rfl, _, rfl, _, rfl, lr, _, _, _, rfl, rfl, SqL.of hr1, hv, ra, _, _, _, rfl, rfl, SqT.of hra, rfl, _, _, rfl, rfl, _, _, rfl, rfl, _, _, rfl, rfl, hpos, _, _, rfl, rfl, ?_⟩
   exact ⟨_, rfl, _, _, rfl, rfl, (by show 4 ≤ sizeLine; decide), fun t ht => fin H1 s1 _ _ _ (p + 1) (.inl ⟨rfl, .inr ⟨q, _, hq, rfl, by omega, by omega, rfl, rfl⟩⟩) t ht⟩
 · refine ⟨_, rfl, rfl, _, rfl, iteO (by symm) ?_⟩
   refine ⟨_, rfl, rfl, _, rfl, iteO (by symm) ?_⟩
   refine ⟨_, rfl, _, rfl, lr, xs, rfl, .inl (SqL.of hr1), rfl, _, rfl, ?_⟩
   refine ite2 (fun e => ?_) (fun e => ?_)
   · have e : (p : Int) = (xs.length : Nat) := ieq e
     exact ⟨_, rfl, _, rfl, (by show 4 ≤ sizeLine; decide), fun t ht => fin H1 s1 _ _ _ p (.inr (.inl ⟨rfl, .inl ⟨nn (by omega), rfl, rfl⟩⟩)) t ht⟩
   have e : ¬ (p : Int) = (xs.length : Nat) := ine e
   obtain ⟨q, hq⟩ : ∃ q, qs[p]? = some q := ⟨_, List.getElem?_eq_getElem (by omega)⟩
   refine ⟨_, rfl, rfl, _, rfl, iteT ?_⟩
   refine ⟨_, rfl, _, rfl, rfl, _, rfl, ?_⟩
   refine ite2 (fun e => ?_) (fun e => ?_)
   · have e : (p : Int) = (a : Nat) := ieq e
     exact ⟨_, rfl, _, rfl, (by show 4 ≤ sizeLine; decide), fun t ht => fin H1 s1 _ _ _ p (.inr (.inl ⟨rfl, .inr (.inl ⟨q, hq, by omega, rfl, rfl⟩)⟩)) t ht⟩
   have e : ¬ (p : Int) = (a : Nat) := ine e
   refine ⟨_, rfl, rfl, _, rfl, iteT ?_⟩
   exact ⟨_, rfl, _, rfl, _, _, rfl, rfl, (by show 4 ≤ sizeLine; decide), fun t ht => fin H1 s1 _ _ _ (p + 1) (.inr (.inl ⟨rfl, .inr (.inr ⟨q, hq, by omega, rfl, rfl⟩)⟩)) t ht⟩
 · refine ⟨_, rfl, rfl, _, rfl, iteO (by symm) ?_⟩
   refine ⟨_, rfl, rfl, _, rfl, iteT ?_⟩
   refine ⟨_, rfl, (by show 2 ≤ sizeLine; decide), fun l1 hl1 => ⟨_, rfl, _, _, rfl, rfl, .inr ⟨_, rfl, ?_⟩⟩⟩
   have s2 := zH hl1 (.lst [.str (Str.ofString "Nowhere"), .str (Str.ofString "")])
   by_cases e : p = 0
   · subst e
     refine ⟨l1, _, _, _, rfl, rfl, SqL.of zB, rfl, _, rfl, _, _, rfl, rfl, _, _, rfl, (by show 4 ≤ sizeLine; decide), fun t ht => ?_⟩
     exact fin _ (s1.trans s2) _ _ zN 0 (.inr (.inr (.inl ⟨rfl, .inl ⟨rfl, rfl, rfl⟩⟩))) t ht
   · have e1 : decide ((0 : Int) < (p : Nat)) = true := decide_eq_true (by omega)
     refine ⟨l1, _, _, .str z0, rfl, rfl, SqL.of zB, (by rw [e1]; rfl), _, rfl, _, _, rfl, rfl, _, _, rfl, (by show 4 ≤ sizeLine; decide), fun t ht => ?_⟩
     rw [show (if (0 : Int) > (p : Int) - 1 then (0 : Int) else (p : Int) - 1) = ((p - 1 : Nat) : Int) by rw [if_neg (by omega)]; omega]
     exact fin _ (s1.trans s2) _ _ z0 (p - 1) (.inr (.inr (.inl ⟨rfl, .inr ⟨by omega, rfl, rfl⟩⟩))) t ht
 · refine ⟨_, rfl, rfl, _, rfl, iteT ?_⟩
   have hpos : (0 : Int) < (xs.length : Nat) + 2 := by omega
   have c0 := Int.emod_nonneg (c / 7) (b := ((xs.length : Nat) : Int) + 2) (by omega)
   have c1 := Int.emod_lt_of_pos (c / 7) hpos
   refine ⟨_, rfl, _, _, rfl, rfl, ⟨by decide, by decide⟩, _, rfl, lr, xs, rfl, .inl (SqL.of hr1), _, _, rfl, rfl, _, _, rfl, rfl, hpos, ?_⟩
   dsimp only [gName, List.set_cons_succ, List.set_cons_zero]
   obtain ⟨m, hm⟩ : ∃ m : Nat, c / 7 % (((xs.length : Nat) : Int) + 2) = (m : Nat) := ⟨(c / 7 % (((xs.length : Nat) : Int) + 2)).toNat, by omega⟩
   rw [hm]
   rw [hm] at c1
   refine ⟨_, rfl, _, rfl, lr, xs, rfl, .inl (SqL.of hr1), _, _, rfl, rfl, _, rfl, ?_⟩
   refine ite2 (fun e => ?_) (fun e => ?_)
   · have e : ((xs.length : Nat) : Int) ≤ (m : Nat) := of_decide_eq_true e
     refine ⟨_, rfl, (by show 2 ≤ sizeLine; decide), fun t1 ht1 => ?_⟩
     have s2 := zH ht1 (.tup [.str (Str.ofString "a"), .str z0])
     have t1a : (upd H1 t1 (.tup [.str (Str.ofString "a"), .str z0])) t1 = some (.tup [.str (Str.ofString "a"), .str z0]) := zB
     generalize upd H1 t1 (.tup [.str (Str.ofString "a"), .str z0]) = H2 at s2 t1a ⊢
     have hx0 := List.getElem?_eq_getElem (l := xs) (i := 0) (by omega)
     obtain ⟨q0, hq0, r0, er0, hr0⟩ := zS hP1 hx0
     rw [er0] at hx0
     have f0 := (hQ.2.1 q0 (List.mem_of_getElem? hq0)).1
     refine ⟨_, rfl, lr, _, _, _, rfl, rfl, SqL.of (s2 _ _ hr1), zX (j := 0) hx0, r0, _, _, _, rfl, rfl, SqT.of (s2 _ _ hr0), rfl, (by show 2 ≤ sizeLine; decide), fun t2 ht2 => ?_⟩
     have s3 := zH ht2 (.tup [.str q0.1, .str (Str.ofString "bob")])
     have t2a : (upd H2 t2 (.tup [.str q0.1, .str (Str.ofString "bob")])) t2 = some (.tup [.str q0.1, .str (Str.ofString "bob")]) := zB
     generalize upd H2 t2 (.tup [.str q0.1, .str (Str.ofString "bob")]) = H3 at s3 t2a ⊢
     refine ⟨(by show 2 ≤ sizeLine; decide), fun l3 hl3 => ?_⟩
     have s4 := zH hl3 (.lst [.ref t1, .ref t2])
     have l3a : (upd H3 l3 (.lst [.ref t1, .ref t2])) l3 = some (.lst [.ref t1, .ref t2]) := zB
     generalize upd H3 l3 (.lst [.ref t1, .ref t2]) = H4 at s4 l3a ⊢
     have s14 := s1.trans (s2.trans (s3.trans s4))
     have pick : ∃ t z th, atI [V.ref t1, V.ref t2] ((m : Int) - (xs.length : Nat)) = some (.ref t) ∧ H4 t = some (.tup [.str z, .str th]) ∧ Fine 100 z ∧ Fine 100 th ∧ (¬ th = z0 ∨ (th = z0 ∧ z ∉ plc qs a)) := by
       rcases (by omega : (m : Int) - (xs.length : Nat) = ((0 : Nat) : Int) ∨ (m : Int) - (xs.length : Nat) = ((1 : Nat) : Int)) with e | e <;> rw [e]
       · refine ⟨t1, _, _, zX rfl, (s3.trans s4) _ _ t1a, ⟨by symm, by symm⟩, ⟨by symm, by symm⟩, .inr ⟨rfl, fun h => ?_⟩⟩
         obtain ⟨j, hj⟩ := List.mem_iff_getElem?.mp h
         obtain ⟨q', hq', e⟩ := at_plc hj
         have := hq2 q' (List.mem_of_getElem? hq')
         rw [e, show (Str.ofString "a").length = 1 by symm] at this
         omega
       · exact ⟨t2, _, _, zX rfl, s4 _ _ t2a, ⟨Nat.le_trans f0.1 (by decide), f0.2⟩, ⟨by symm, by symm⟩, .inl (by symm)⟩
     obtain ⟨tt, z, th, i1, i2, i3, i4, i5⟩ := pick
     refine ⟨_, rfl, _, rfl, lr, xs, rfl, .inl (SqL.of (s2.trans (s3.trans s4) _ _ hr1)), _, _, rfl, rfl, l3, _, _, _, rfl, rfl, SqL.of l3a, i1, _, rfl, (by show 4 ≤ sizeLine; decide), fun t ht => ?_⟩
     exact fin H4 s14 _ _ zC p (.inr (.inr (.inr ⟨rfl, tt, z, th, rfl, i2, i3, i4, .inr ⟨i5, rfl, rfl⟩⟩))) t ht
   · have e : ¬ ((xs.length : Nat) : Int) ≤ (m : Nat) := fun z => e (decide_eq_true z)
     obtain ⟨v, hv, hv2⟩ := at_some (l := xs) (i := (m : Int)) (by omega) (by omega)
     obtain ⟨q, hq, ra, rfl, hra⟩ := zS hP1 hv2
     rw [show ((m : Int)).toNat = m by omega] at hq
     have f0 := (hQ.2.1 q (List.mem_of_getElem? hq)).1
     refine ⟨_, rfl, _, rfl, _, rfl, lr, _, _, _, rfl, rfl, SqL.of hr1, hv, ra, _, _, _, rfl, rfl, SqT.of hra, rfl, (by show 2 ≤ sizeLine; decide), fun t1 ht1 => ?_⟩
     have s2 := zH ht1 (.tup [.str q.1, .str z0])
     have t1a : (upd H1 t1 (.tup [.str q.1, .str z0])) t1 = some (.tup [.str q.1, .str z0]) := zB
     generalize upd H1 t1 (.tup [.str q.1, .str z0]) = H2 at s2 t1a ⊢
     refine ⟨(by show 2 ≤ sizeLine; decide), fun l1 hl1 => ?_⟩
     have s3 := zH hl1 (.lst [.str zC, .str z0])
     have l1a : (upd H2 l1 (.lst [.str zC, .str z0])) l1 = some (.lst [.str zC, .str z0]) := zB
     generalize upd H2 l1 (.lst [.str zC, .str z0]) = H3 at s3 l1a ⊢
     obtain ⟨bb, hbb⟩ : ∃ bb : Bool, decide ((m : Int) ≤ (a : Nat)) = bb := ⟨_, rfl⟩
     have two : ∀ (u v : V), atI [u, v] (if bb = true then (1 : Int) else 0) = some (if bb = true then v else u) := fun u v => by cases bb <;> rfl
     refine ⟨_, rfl, _, rfl, _, _, rfl, rfl, .inr ⟨_, rfl, ?_⟩⟩
     rw [hbb]
     refine ⟨l1, _, _, _, rfl, rfl, SqL.of l1a, two _ _, _, rfl, _, rfl, (by show 2 ≤ sizeLine; decide), fun l2 hl2 => ?_⟩
     have s4 := zH hl2 (.lst [.int (p : Nat), .int (m : Nat)])
     have l2a : (upd H3 l2 (.lst [.int (p : Nat), .int (m : Nat)])) l2 = some (.lst [.int (p : Nat), .int (m : Nat)]) := zB
     generalize upd H3 l2 (.lst [.int (p : Nat), .int (m : Nat)]) = H4 at s4 l2a ⊢
     refine ⟨_, rfl, _, rfl, _, _, rfl, rfl, .inr ⟨_, rfl, ?_⟩⟩
     rw [hbb]
     refine ⟨l2, _, _, _, rfl, rfl, SqL.of l2a, two _ _, (by show 4 ≤ sizeLine; decide), fun t ht => ?_⟩
     have s14 := s1.trans (s2.trans (s3.trans s4))
     have hf1 : Fine 100 q.1 := ⟨Nat.le_trans f0.1 (by decide), f0.2⟩
     have hf2 : Fine 100 z0 := ⟨by symm, by symm⟩
     cases bb with
     | true =>
       have : (m : Int) ≤ (a : Nat) := of_decide_eq_true hbb
       exact fin H4 s14 _ _ z0 m (.inr (.inr (.inr ⟨rfl, t1, q.1, z0, rfl, (s3.trans s4) _ _ t1a, hf1, hf2, .inl ⟨q, by omega, hq, rfl, rfl, rfl⟩⟩))) t ht
     | false =>
       have : ¬ (m : Int) ≤ (a : Nat) := of_decide_eq_false hbb
       exact fin H4 s14 _ _ zC p (.inr (.inr (.inr ⟨rfl, t1, q.1, z0, rfl, (s3.trans s4) _ _ t1a, hf1, hf2, .inr ⟨.inr ⟨rfl, not_far hQ.1 hq (by omega)⟩, rfl, rfl⟩⟩))) t ht
end
end K42
set_option maxHeartbeats 4000000
namespace K42
open PySem L2
seal PE PT PW PA PS PSs PG PGs PI PO PSet OpR UnR CallR TruR IxR SlR PC PPs
local macro_rules | `(tactic| walk_at "rd1") => `(tactic| first
 | (refine And.intro rfl ?_)
 | (refine And.intro (by assumption) ?_)
 | (refine And.intro (fun _ e => e) ?_)
 | (refine And.intro (TyOf.str _) ?_) | (refine And.intro (TyOf.int _) ?_) | (refine And.intro (TyOf.bl _) ?_) | (refine And.intro TyOf.non ?_)
 | (refine iteT ?_) | (refine iteF ?_)
 | (apply Exists.intro))
local macro_rules | `(tactic| walk_at "rd") => `(tactic| repeat (walk_at "rd1"))
def Row3 (L : List V) : Prop := ∃ (z : Str) (n : Int), L = [.str z, .str z0, .int n]
theorem Row3.eq {L : List V} (h : Row3 L) : L.all flatV = true ∧ eqL L L = true := by
 obtain ⟨z, n, rfl⟩ := h
 refine ⟨rfl, ?_⟩
 show ((z == z) && ((z0 == z0) && ((n == n) && true))) = true
 rw [beq_self_eq_true, beq_self_eq_true, beq_self_eq_true]; rfl
def spCF : Sp := fun vs H Q _ => ∃ l d ts us Ls, vs = [.ref l, .ref d] ∧ H l = some (.lst ts) ∧ H d = some (.lst us) ∧ Paired (TpR H) ts Ls ∧ Paired (TpR H) us Ls ∧ (∀ L ∈ Ls, Row3 L) ∧ Q (.bl true) H
section
variable {P : Program} {w : World} {K : W.Frag} {mg : Str → Option Value} {base : Heap} {A : Adr}
theorem ok_cf (T : Txt K mg A) : FnOk P w K mg base CX0 1 A.f_law_counts_fit A.d_law_counts_fit ["_law_found", "_law_due"] spCF := by
 refine T.F_law_counts_fit.ok sc_law_counts_fit (fun vs H Q E h => ?_) (fun cdv A0 outer s H vs Q E hr h => ?_)
 · obtain ⟨l, d, ts, us, Ls, rfl, _⟩ := h
   rfl
 obtain ⟨l, d, ts, us, Ls, rfl, hl, hd, h1, h2, hL, k⟩ := h
 refine ⟨_, (zD (yK (PW.pt (pw_or (xK (yS (zO yO (by rfl) T.n_isinstance Bt.isinstance (zA (pv 0) (zA (xT (v := .ty "list") rfl T.n_list Bt.list rfl) zE))))) (pw_or1 (zQ (op_neJ (hu20 hr)) (pv 0) (pv 1) (zW _))))) (zG (zP pe_bl)) zU)
     (zD (xH PassesOwn.never rfl (yQ (pv 0)) (yM (i := 2) sc_law_counts_fit.nd rfl (by first | exact Or.inl rfl | exact Or.inr rfl)) (zG (yK (PW.pt (pw_or (xK (yS (zO yO (by rfl) T.n_isinstance Bt.isinstance (zA (pv 2) (zA (xT (v := .ty "tuple") rfl T.n_tuple Bt.tuple rfl) zE))))) (pw_or1 (yS (zO yO (by rfl) T.n_isinstance Bt.isinstance (zA (yC yL (pv 2) zJ (fun _ _ => rfl)) (zA (xT (v := .ty "bool") rfl T.n_bool Bt.bool rfl) zE))))))) (zG (zP pe_bl)) zU)))
     (zG (zP pe_bl)))), ?_⟩
 have e1 := zZ h1
 have e2 := zZ h2
 refine ⟨_, rfl, _, _, _, _, rfl, rfl, .old (.lst hl), T.i_list_list, _, rfl, iteF ?_⟩
 refine ⟨_, rfl, _, rfl, _, eqj_lists (n := 19) (e := fun _ => true) (SqL.of hl) (SqL.of hd) (by omega) (fun j x y hx hy => ?_), _, rfl, iteN ?_ ?_⟩
 · obtain ⟨L, hLj, p, rfl, hp⟩ := zS h1 hx
   obtain ⟨L', hLj', q, rfl, hq⟩ := zS h2 hy
   rw [hLj] at hLj'
   cases hLj'
   have r := (hL L (List.mem_of_getElem? hLj)).eq
   exact (show ∀ {X : Cx}, EqJi X H 19 (.ref p) (.ref q) true from fun {X} => by
     have := eqi_ftups (X := X) (n := 18) (SqT.of hp) (SqT.of hq) r.1 r.1 fun _ => rfl
     rw [r.2] at this
     exact this)
 · rw [show (List.range ts.length).all (fun _ => true) = true by simp]; rfl
 refine ⟨_, rfl, l, rfl, ⟨_, SqL.of hl⟩, ?_⟩
 refine xI (xs := ts) (fun i σ H' => H = H' ∧ ∃ v, σ = [some (.ref l), some (.ref d), v]) ⟨rfl, _, rfl⟩ (fun i σ H' _ hw => SqL.of (hw.1 ▸ hl)) (fun i x σ H' hx hw => ?_) (fun σ H' hw => ?_)
 · obtain ⟨rfl, v, rfl⟩ := hw
   obtain ⟨L, hLj, p, rfl, hp⟩ := zS h1 hx
   obtain ⟨z, n, rfl⟩ := hL L (List.mem_of_getElem? hLj)
   refine ⟨_, rfl, _, _, _, _, rfl, rfl, .tpl (SqT.of hp), T.i_tuple_tuple, _, rfl, iteF ?_⟩
   refine ⟨_, rfl, p, _, _, _, rfl, rfl, SqT.of hp, rfl, _, _, _, _, rfl, rfl, .old (.int n), T.i_int_bool, _, rfl, iteF ⟨rfl, _, rfl⟩⟩
 · obtain ⟨rfl, v, rfl⟩ := hw
   exact k
end
end K42
set_option maxHeartbeats 4000000
namespace K42
open PySem L2
seal PE PT PW PA PS PSs PG PGs PI PO PSet OpR UnR CallR TruR IxR SlR PC PPs
local macro_rules | `(tactic| walk_at "rd1") => `(tactic| first
 | (refine And.intro rfl ?_)
 | (refine And.intro (by assumption) ?_)
 | (refine And.intro (fun _ e => e) ?_)
 | (refine And.intro (TyOf.str _) ?_) | (refine And.intro (TyOf.int _) ?_) | (refine And.intro (TyOf.bl _) ?_) | (refine And.intro TyOf.non ?_)
 | (refine iteT ?_) | (refine iteF ?_)
 | (apply Exists.intro))
local macro_rules | `(tactic| walk_at "rd") => `(tactic| repeat (walk_at "rd1"))
def LbR (lb : LBk) (b : Bk) : Prop := ∀ z, valV lb (.inr z) = valV b (keyOf z)
def HeldR (H : Hp) (lh : Addr) (hs : List V) : Prop := ∀ y ∈ hs, ∃ t l1 l2 ts, y = .ref t ∧ H t = some (.tup [.ref l1, .ref l2]) ∧ H l1 = some (.lst ts) ∧ H l2 = some (.lst ts) ∧ (∀ z ∈ ts, ∃ r, z = .ref r) ∧ l1 ≠ lh ∧ l2 ≠ lh
theorem HeldR.same {H H' : Hp} (s : Same H H') {lh : Addr} {hs : List V} (h : HeldR H lh hs) : HeldR H' lh hs := fun y hy => let ⟨t, l1, l2, ts, e, h1, h2, h3, r⟩ := h y hy; ⟨t, l1, l2, ts, e, s _ _ h1, s _ _ h2, s _ _ h3, r⟩
theorem HeldR.upd {H : Hp} {lh : Addr} {hs zs : List V} (hl : H lh = some (.lst zs)) (us : List V) (h : HeldR H lh hs) : HeldR (upd H lh (.lst us)) lh hs := fun y hy => by
 obtain ⟨t, l1, l2, ts, e, h1, h2, h3, h4, n1, n2⟩ := h y hy
 exact ⟨t, l1, l2, ts, e, by rw [zF (yE h1 hl (by intro z; cases z))]; exact h1, by rw [zF n1]; exact h2, by rw [zF n2]; exact h3, h4, n1, n2⟩
theorem fo_of {lb : LBk} {b : Bk} {qs : List Qn} {a : Nat} (hl : LbR lb b) (hp : PreB b qs a) (hk : KB b qs a) (hn : (qs.map (·.1)).Nodup) : FO lb qs a := by
 refine ⟨hp.1, fun i q hi hq => ?_, fun q hq => ?_⟩
 · rw [hl]
   cases e : valV b (keyOf q.1) with
   | some v => rfl
   | none =>
     have := hp.2.1 i q hi hq
     rw [no_fit (show getB b q.1 = .non by unfold getB; rw [e]; rfl)] at this
     cases this
 · rw [hl]
   cases e : valV b (keyOf q.1) with
   | none => rfl
   | some v =>
     obtain ⟨j, q', hj, hq', e2⟩ := hk _ (valV_in e)
     have e3 : q.1 = q'.1 := by
       have : (Sum.inr q.1 : Key) = Sum.inr q'.1 := (List.cons.inj e2).1
       exact Sum.inr.inj this
     have h1 : (qs.map (·.1))[a]? = some q.1 := by rw [List.getElem?_map, hq]; rfl
     have h2 : (qs.map (·.1))[j]? = some q.1 := by rw [List.getElem?_map, hq', e3]; rfl
     have := (List.getElem?_inj (List.getElem?_eq_some_iff.mp h2).1 hn).mp (h2.trans h1.symm)
     omega
theorem row3_of {b : Bk} {qs : List Qn} {a : Nat} (hp : PreB b qs a) (hB : GB b) : ∀ L ∈ (qs.take a).map (cntE b), Row3 L := fun L hL => by
 obtain ⟨q, hq, rfl⟩ := List.mem_map.mp hL
 obtain ⟨i, hi⟩ := List.mem_iff_getElem?.mp hq
 have hia : i < a := by have := (List.getElem?_eq_some_iff.mp hi).1; rw [List.length_take] at this; omega
 rw [List.getElem?_take, if_pos hia] at hi
 have f := hp.2.1 i q hia hi
 rcases hB.2 q.1 with e | ⟨n, e⟩
 · rw [no_fit e] at f; cases f
 · exact ⟨q.1, n, by unfold cntE; rw [e]⟩
def spLook (A : Adr) : Sp := fun vs H Q _ => ∃ hb c sh b h fv a lr bk lh xs lb hs, ∃ tn : Int, PaR A hb c.pa sh ∧ hb lh = none ∧ Same hb H ∧ vs = [.ref h, .ref lr, .ref bk, .int tn, .ref lh] ∧ HaS A c sh b h H fv ∧ GQ sh.flatten ∧ GB b ∧ b.length < 64 ∧ PreB b sh.flatten a ∧ KB b sh.flatten a ∧ H lr = some (.lst xs) ∧ Paired (RwR H) xs sh.flatten ∧ H bk = some (.dK lb) ∧ LbR lb b ∧ H lh = some (.lst hs) ∧ hs.length ≤ 100 ∧ HeldR H lh hs ∧
 ∀ H' hs', Fr [lh] H H' → HaS A c sh b h H' fv → H' lh = some (.lst hs') → hs'.length = hs.length + 1 → HeldR H' lh hs' → Q (.bl true) H'
theorem HaS.updN {A : Adr} {hb : Hp} {c : HA} {sh : List (List Qn)} {b : Bk} {h : Addr} {H : Hp} {fv : V} {m : Addr} {zs ws : List V} (x : HaS A c sh b h H fv) (hm : H m = some (.lst zs)) (p : PaR A hb c.pa sh) (n : hb m = none) (s : Same hb H) : HaS A c sh b h (upd H m (.lst ws)) fv := by
 obtain ⟨kvs, k1, k2⟩ := x.kd
 refine ⟨?_, p.same fun y o e => by rw [zF (zI e n)]; exact s y o e, ⟨kvs, ?_, k2.1, fun q hq => ?_⟩, ?_⟩
 · rw [zF (yE x.ha hm (by intro z; cases z))]; exact x.ha
 · rw [zF (yE k1 hm (by intro z; cases z))]; exact k1
 · obtain ⟨k, dk, e1, e2⟩ := k2.2 q hq
   exact ⟨k, dk, e1, by rw [zF (yE e2 hm (by intro z; cases z))]; exact e2⟩
 · rw [zF (yE x.bk hm (by intro z; cases z))]; exact x.bk
theorem st_eq {X : Cx} {H : Hp} {t u : Addr} {qs : List Qn} {a : Nat} (h1 : H t = some (.tup (lastE qs a))) (h2 : H u = some (.tup (lastE qs a))) : EqJ X H 20 (.ref t) (.ref u) true := by
 have e : (lastE qs a).all flatV = true ∧ eqL (lastE qs a) (lastE qs a) = true := by
   unfold lastE
   cases qs[a]? with
   | none => exact ⟨rfl, by symm⟩
   | some q =>
     refine ⟨rfl, ?_⟩
     show ((Str.ofString "open" == Str.ofString "open") && ((q.1 == q.1) && ((Str.ofString "" == Str.ofString "") && true))) = true
     rw [beq_self_eq_true, beq_self_eq_true, beq_self_eq_true]; rfl
 have := eqj_ftups (X := X) (n := 19) (SqT.of h1) (SqT.of h2) e.1 e.1
 rw [e.2] at this
 exact this
theorem cutV_take {l : List V} {j : Nat} : cutV l none (some (j : Int)) = l.take j := by
 unfold cutV
 have e1 : HT.sIx l.length 0 none = 0 := rfl
 have e2 : HT.sIx l.length l.length (some (j : Int)) = min j l.length := by
   show (if (j : Int) < 0 then ((j : Int) + l.length).toNat else min (j : Int).toNat l.length) = _
   rw [if_neg (by omega)]; rfl
 rw [e1, e2, List.drop_zero, Nat.sub_zero]
 by_cases h : j ≤ l.length
 · rw [Nat.min_eq_left h]
 · rw [Nat.min_eq_right (by omega), List.take_length, List.take_of_length_le (by omega)]
theorem val_get {b : Bk} {qs : List Qn} {a i : Nat} {q : Qn} (hp : PreB b qs a) (hi : i < a) (hq : qs[i]? = some q) : valV b (keyOf q.1) = some (getB b q.1) := by
 unfold getB
 cases e : valV b (keyOf q.1) with
 | some v => rfl
 | none =>
   have := hp.2.1 i q hi hq
   rw [no_fit (show getB b q.1 = .non by unfold getB; rw [e]; rfl)] at this
   cases this
section
variable {P : Program} {w : World} {K : W.Frag} {mg : Str → Option Value} {base : Heap} {A : Adr}
def JAs (T : Txt K mg A) : MethJ P w K mg base CX0 11 A.c_Hand "aside" := ⟨_, _, _, _, [], [], T.cl_Hand, T.me_Hand_aside, ok_aside T, T.b_c_Hand_aside, .nil⟩
theorem ok_look (T : Txt K mg A) : FnOk P w K mg base CX0 13 A.f_law_look A.d_law_look ["_law_hand", "_law_rows", "_law_book", "_law_turn", "_law_held"] (spLook A) := by
 have G_law_first_open := ok_fo (P := P) (w := w) (base := base) T
 have G_law_counts_fit := ok_cf (P := P) (w := w) (base := base) T
 refine T.F_law_look.ok sc_law_look (fun vs H Q E h => ?_) (fun cdv A0 outer s H vs Q E hr h => ?_)
 · obtain ⟨hb0, c, sh, b, h, fv, a, lr, bk, lh, xs, lb, hs, tn, _, _, _, rfl, _⟩ := h
   rfl
 obtain ⟨hb0, c, sh, b, h, fv, a, lr, bk, lh, xs, lb, hs, tn, hb1, hb2, hb3, rfl, hH, hQ, hB, hb, hp, hKB, hlr, hP, hbk, hLb, hlh, hsl, hHe, k⟩ := h
 obtain ⟨k_state, e1⟩ : ∃ k : Nat, k = 10 := ⟨_, rfl⟩
 obtain ⟨k_counts, e2⟩ : ∃ k : Nat, k = 10 := ⟨_, rfl⟩
 obtain ⟨k_aside, e3⟩ : ∃ k : Nat, k = 11 := ⟨_, rfl⟩
 refine ⟨_, (zD (zR (i := 5) sc_law_look.nd rfl (by first | exact Or.inl rfl | exact Or.inr rfl) (yH G_law_first_open (hr.mono (by first | decide | omega)) rfl T.m_law_first_open T.k_law_first_open T.b_law_first_open .nil zV (zA (pv 1) (zA (pv 2) zE))))
     (zD (ps_compR (i := 6) sc_law_look.nd rfl (by first | exact Or.inl rfl | exact Or.inr rfl) (yU (x := "_law_row") (M := ["_law_hand", "_law_rows", "_law_book", "_law_turn", "_law_held", "_law_come", "_law_due", "_law_state", "_law_found", "_law_aside", "_law_told"]) rfl (by rfl)) rfl (yQ (pe_slice sl_list (pv 1) po_none (po_some (pv 5)))) (fun _ _ _ _ => pe_eqv (by exact (yI (zA (yC yL (pv 0) zJ (fun _ _ => rfl)) (zA zK (zA (pe_dget (hu_of hr) (pv 3) (yC yL (pv 0) zJ (fun _ _ => rfl)) (fun _ _ => rfl)) zE))))) (by dsimp only [compCx] <;> rfl)))
     (zD (zR (i := 7) sc_law_look.nd rfl (by first | exact Or.inl rfl | exact Or.inr rfl) (yI (zA zK zE)))
     (zD (yK (zQ op_lt (pv 5) (zO yD (by rfl) T.n_len PySem.boot_len (zA (pv 1) zE)) (zW _)) (zG (zR (i := 7) sc_law_look.nd rfl (by first | exact Or.inl rfl | exact Or.inr rfl) (yI (zA zK (zA (yC yL (yC yJ (pv 1) (pv 5) (fun _ _ => rfl)) zJ (fun _ _ => rfl)) (zA zK zE)))))) zU)
     (zD (yK (PW.pt (pw_and (zQ xP (pv 3) zJ (zW _)) (pw_and1 (zQ (op_neJ (hu20 hr)) (yF (CX := CX0) (k := k_state) (hr.mono (by first | decide | omega)) zV (pv 0)) (pv 7) (zW _))))) (zG (zP pe_bl)) zU)
     (zD (zR (i := 8) sc_law_look.nd rfl (by first | exact Or.inl rfl | exact Or.inr rfl) (yF (CX := CX0) (k := k_counts) (hr.mono (by first | decide | omega)) zV (pv 0)))
     (zD (zR (i := 9) sc_law_look.nd rfl (by first | exact Or.inl rfl | exact Or.inr rfl) (yF (CX := CX0) (k := k_aside) (hr.mono (by first | decide | omega)) zV (pv 0)))
     (zD (yK (PW.pt (pw_or (xK (yS (yH G_law_counts_fit (hr.mono (by first | decide | omega)) rfl T.m_law_counts_fit T.k_law_counts_fit T.b_law_counts_fit .nil zV (zA (pv 8) (zA (pv 6) zE))))) (pw_or (xK (yS (zO yO (by rfl) T.n_isinstance Bt.isinstance (zA (pv 9) (zA (xT (v := .ty "list") rfl T.n_list Bt.list rfl) zE))))) (pw_or1 (zQ (op_neJ (hu20 hr)) (pv 9) (yT zE) (zW _)))))) (zG (zP pe_bl)) zU)
     (zD (yP (pe_bm PySem.F.plainAttrs_list PySem.F.slot_list_append PySem.F.type_list_append xO (pv 4) (zA (yI (zA (pv 8) (zA (yZ xG (by rfl) T.n_list Bt.list (zA (pv 8) zE)) zE))) zE)))
     (zD (yP (pe_bm PySem.F.plainAttrs_list PySem.F.slot_list_append PySem.F.type_list_append xO (yF (CX := CX0) (k := k_counts) (hr.mono (by first | decide | omega)) zV (pv 0)) (zA (yI (zA zK (zA zK (zA zJ zE)))) zE)))
     (zD (zR (i := 10) sc_law_look.nd rfl (by first | exact Or.inl rfl | exact Or.inr rfl) (yF (CX := CX0) (k := k_state) (hr.mono (by first | decide | omega)) zV (pv 0)))
     (zG (zP (pe_and (zO yO (by rfl) T.n_isinstance Bt.isinstance (zA (pv 10) (zA (xT (v := .ty "tuple") rfl T.n_tuple Bt.tuple rfl) zE))) (pe_one (xR (op_eqJ (hu20 hr)) (pv 10) (pv 7) (zW _))))))))))))))))), ?_⟩
 subst e1 e2 e3
 generalize h0 : L2.start _ _ = σ0
 have h0 : σ0 = [some (.ref h), some (.ref lr), some (.ref bk), some (.int tn), some (.ref lh), none, none, none, none, none, none] := by rw [← h0]; rfl
 subst h0
 have hlen := zZ hP
 have h8 := hQ.2.2
 have hfo := fo_of hLb hp hKB hQ.1
 refine ⟨_, rfl, _, rfl, lr, bk, xs, sh.flatten, lb, a, rfl, hlr, hP, hQ, hbk, hfo, ?_⟩
 dsimp only [gName, List.set_cons_succ, List.set_cons_zero]
 refine ⟨_, rfl, _, rfl, _, rfl, lr, _, rfl, SqL.of hlr, fun ls hls => ?_⟩
 rw [cutV_take]
 have s1 := zH hls (.lst (xs.take a))
 have hls1 : (upd H ls (.lst (xs.take a))) ls = some (.lst (xs.take a)) := zB
 generalize upd H ls (.lst (xs.take a)) = H1 at s1 hls1 ⊢
 have hle : (xs.take a).length = (sh.flatten.take a).length := by rw [List.length_take, List.length_take, hlen]
 have hl8 : (sh.flatten.take a).length ≤ 8 := by rw [List.length_take]; omega
 refine ⟨ls, rfl, ⟨_, SqL.of hls1⟩, ?_⟩
 refine comp_listR (xs := xs.take a) (yB (m := 100) (by omega)) (fun i ys H' => Same H1 H' ∧ Paired (TpR H') ys (((sh.flatten.take a).take i).map (cntE b))) ⟨Same.refl _, .nil⟩ (fun i ys H' hw => SqL.of (hw.1 _ _ hls1)) (fun i x ys H' hx hy hw => ?_) (fun us H2 hy hw ld hld => ?_)
 · obtain ⟨sH, hw⟩ := hw
   have hia : i < a := by have := (List.getElem?_eq_some_iff.mp hx).1; rw [List.length_take] at this; omega
   rw [List.getElem?_take, if_pos hia] at hx
   obtain ⟨q, hq, ra, rfl, hra⟩ := zS hP hx
   have s2 := s1.trans sH
   have g := val_get hp hia hq
   rw [← hLb] at g
   have dg : DGet H' bk (.str q.1) (some (getB b q.1)) := by
     have := DGet.k (k := .inr q.1) (s2 _ _ hbk)
     rw [g] at this
     exact this
   refine ⟨_, rfl, ra, _, _, _, rfl, rfl, SqT.of (s2 _ _ hra), rfl, _, rfl, _, rfl, ra, _, _, _, rfl, rfl, SqT.of (s2 _ _ hra), rfl, bk, _, rfl, dg, (by show 3 ≤ sizeLine; decide), fun t ht => ⟨sH.trans (zH ht _), ?_⟩⟩
   rw [xB (show (sh.flatten.take a)[i]? = some q by rw [List.getElem?_take, if_pos hia]; exact hq), List.map_append]
   exact xE (zL hw fun _ _ => TpR.same (zH ht _)) (.cons ⟨t, rfl, zB⟩ .nil)
 obtain ⟨s2, hw⟩ := hw
 rw [hle, List.take_length] at hw
 have s3 := zH hld (.lst us)
 have hld3 : (upd H2 ld (.lst us)) ld = some (.lst us) := zB
 dsimp only [gName, List.set_cons_succ, List.set_cons_zero]
 generalize upd H2 ld (.lst us) = H3 at s3 hld3 ⊢
 have s03 := s1.trans (s2.trans s3)
 have hw3 : Paired (TpR H3) us ((sh.flatten.take a).map (cntE b)) := zL hw fun _ _ => TpR.same s3
 refine ⟨(by show 1 ≤ sizeLine; decide), fun t0 ht0 => ?_⟩
 have s4 := zH ht0 (.tup [.str (Str.ofString "end")])
 have t0a : (upd H3 t0 (.tup [.str (Str.ofString "end")])) t0 = some (.tup [.str (Str.ofString "end")]) := zB
 dsimp only [gName, List.set_cons_succ, List.set_cons_zero]
 generalize upd H3 t0 (.tup [.str (Str.ofString "end")]) = H4 at s4 t0a ⊢
 have s04 := s03.trans s4
 refine seq_mid (fun σ' H' => ∃ st, Same H4 H' ∧ H' st = some (.tup (lastE sh.flatten a)) ∧ σ' = [some (.ref h), some (.ref lr), some (.ref bk), some (.int tn), some (.ref lh), some (.int (a : Nat)), some (.ref ld), some (.ref st), none, none, none]) (fun σ' H5 hh => ?_) (fun hk => ?_)
 · obtain ⟨st, s5, hst, rfl⟩ := hh
   refine seq_mid (fun σ' H' => ∃ st, Same H4 H' ∧ H' st = some (.tup (lastE sh.flatten a)) ∧ σ' = [some (.ref h), some (.ref lr), some (.ref bk), some (.int tn), some (.ref lh), some (.int (a : Nat)), some (.ref ld), some (.ref st), none, none, none]) (fun σ' H6 hh => ?_) (fun hk => ?_)
   · obtain ⟨st, s6, hst, rfl⟩ := hh
     have s06 := s04.trans s6
     have hH6 := hH.mono s06
     refine ⟨_, rfl, h, _, c.dx, hF c fv, JCo T, rfl, hH6.ha, rfl, ?_⟩
     refine ⟨c, sh, b, h, fv, a, rfl, hH6, hQ, hB, hp, fun l1 ts H7 f1 s7 h71 h72 => ?_⟩
     dsimp only [gName, List.set_cons_succ, List.set_cons_zero]
     have s07 := s06.trans s7
     have hH7 := hH.mono s07
     refine ⟨_, rfl, h, _, c.dx, hF c fv, JAs T, rfl, hH7.ha, rfl, ?_⟩
     refine ⟨c, sh, b, h, fv, a, rfl, hH7, hQ, hB, hb, hp, hKB, fun l2 H8 f2 s8 h81 => ?_⟩
     dsimp only [gName, List.set_cons_succ, List.set_cons_zero]
     have s08 := s07.trans s8
     have s38 : Same H3 H8 := s4.trans (s6.trans (s7.trans s8))
     have hH8 := hH.mono s08
     refine ⟨_, rfl, _, rfl, l1, ld, ts, us, (sh.flatten.take a).map (cntE b), rfl, s8 _ _ h71, s38 _ _ hld3, zL h72 (fun _ _ => TpR.same s8), zL hw3 (fun _ _ => TpR.same s38), row3_of hp hB, _, rfl, iteF ?_⟩
     refine ⟨_, rfl, _, _, _, _, rfl, rfl, .old (.lst h81), T.i_list_list, _, rfl, iteF ?_⟩
     refine ⟨_, rfl, (by show 0 ≤ sizeLine; decide), fun l3 f3 => ?_⟩
     have s9 := zH f3 (.lst [])
     have l3a : (upd H8 l3 (.lst [])) l3 = some (.lst []) := zB
     generalize upd H8 l3 (.lst []) = H9 at s9 l3a ⊢
     have s09 := s08.trans s9
     refine ⟨_, eqj_lists (n := 19) (e := fun _ => true) (SqL.of (s9 _ _ h81)) (SqL.of l3a) rfl (fun j x y hx => by cases hx), _, rfl, iteN rfl ?_⟩
     have hlh9 := s09 _ _ hlh
     have h71' := (s8.trans s9) _ _ h71
     refine ⟨_, rfl, .inl ⟨rfl, _, SqL.of hlh9⟩, _, rfl, _, rfl, l1, ts, rfl, .inl (SqL.of h71'), fun l4 f4 => ?_⟩
     have s10 := zH f4 (.lst ts)
     have l4a : (upd H9 l4 (.lst ts)) l4 = some (.lst ts) := zB
     generalize upd H9 l4 (.lst ts) = H10 at s10 l4a ⊢
     refine ⟨(by show 2 ≤ sizeLine; decide), fun t5 f5 => ?_⟩
     have s11 := zH f5 (.tup [.ref l1, .ref l4])
     have t5a : (upd H10 t5 (.tup [.ref l1, .ref l4])) t5 = some (.tup [.ref l1, .ref l4]) := zB
     generalize upd H10 t5 (.tup [.ref l1, .ref l4]) = H11 at s11 t5a ⊢
     have s011 := s09.trans (s10.trans s11)
     have hlh11 := s011 _ _ hlh
     refine ⟨lh, hs, _, rfl, rfl, hlh11, yB (m := 1000) (by omega), ?_⟩
     have n1 : l1 ≠ lh := fun e => by rw [e, s06 _ _ hlh] at f1; cases f1
     have n4 : l4 ≠ lh := fun e => by rw [e, hlh9] at f4; cases f4
     have he : HeldR H11 lh (hs ++ [.ref t5]) := fun y hy => by
       rcases List.mem_append.mp hy with z | z
       · exact (hHe.same s011) y z
       · rw [List.mem_singleton.mp z]
         refine ⟨t5, l1, l4, ts, rfl, t5a, (s10.trans s11) _ _ h71', s11 _ _ l4a, fun z hz => ?_, n1, n4⟩
         obtain ⟨m, hm⟩ := List.mem_iff_getElem?.mp hz
         obtain ⟨_, _, r, e, _⟩ := zS h72 hm
         exact ⟨r, e⟩
     have he2 := he.upd hlh11 (hs ++ [.ref t5])
     have F12 : Fr [lh] H (upd H11 lh (.lst (hs ++ [.ref t5]))) := (Fr.of s011).upd (List.mem_singleton.mpr rfl) _
     have lha : (upd H11 lh (.lst (hs ++ [.ref t5]))) lh = some (.lst (hs ++ [.ref t5])) := zB
     have hH12 : HaS A c sh b h (upd H11 lh (.lst (hs ++ [.ref t5]))) fv := (hH.mono s011).updN hlh11 hb1 hb2 (hb3.trans s011)
     have hst12 : (upd H11 lh (.lst (hs ++ [.ref t5]))) st = some (.tup (lastE sh.flatten a)) := by
       have : H11 st = some (.tup (lastE sh.flatten a)) := (s7.trans (s8.trans (s9.trans (s10.trans s11)))) _ _ hst
       rw [zF (yE this hlh11 (by intro z; cases z))]; exact this
     generalize upd H11 lh (.lst (hs ++ [.ref t5])) = H12 at he2 F12 lha hH12 hst12 ⊢
     refine ⟨_, rfl, h, _, c.dx, hF c fv, JCo T, rfl, hH12.ha, rfl, ?_⟩
     refine ⟨c, sh, b, h, fv, a, rfl, hH12, hQ, hB, hp, fun l6 ts6 H13 f6 s13 h131 h132 => ?_⟩
     refine ⟨.inl ⟨rfl, _, SqL.of h131⟩, (by show 3 ≤ sizeLine; decide), fun t7 f7 => ?_⟩
     have s14 := zH f7 (.tup [.str (Str.ofString "a"), .str (Str.ofString ""), .int 1])
     have l6b := s14 _ _ h131
     generalize upd H13 t7 (.tup [.str (Str.ofString "a"), .str (Str.ofString ""), .int 1]) = H14 at s14 l6b ⊢
     have l6c := Paired.length h132
     rw [List.length_map] at l6c
     refine ⟨l6, _, _, rfl, rfl, l6b, yB (m := 1000) (by omega), ?_⟩
     have s15 : Same H12 (upd H14 l6 (.lst (ts6 ++ [.ref t7]))) := fun y o e => by rw [zF (zI e f6)]; exact (s13.trans s14) _ _ e
     generalize upd H14 l6 (.lst (ts6 ++ [.ref t7])) = H15 at s15 ⊢
     have hH15 := hH12.mono s15
     refine ⟨_, rfl, h, _, c.dx, hF c fv, JSta T, rfl, hH15.ha, rfl, ?_⟩
     refine ⟨c, sh, b, h, fv, a, rfl, hH15, hQ, hB, hp, fun t8 H16 s16 ht8 => ?_⟩
     dsimp only [gName, List.set_cons_succ, List.set_cons_zero]
     have s1216 := s15.trans s16
     refine ⟨_, rfl, _, _, _, _, rfl, rfl, .tpl (SqT.of ht8), T.i_tuple_tuple, _, rfl, iteT ?_⟩
     refine ⟨_, rfl, _, rfl, _, st_eq ht8 (s1216 _ _ hst12), ?_⟩
     exact k H16 (hs ++ [.ref t5]) (F12.trans (Fr.of s1216)) (hH12.mono s1216) (s1216 _ _ lha) (by rw [List.length_append]; rfl) (he2.same s1216)
   · have s05 := s04.trans s5
     have hH5 := hH.mono s05
     refine ⟨_, rfl, rfl, _, rfl, ite2 (fun e => ?_) (fun e => ?_)⟩
     · refine ⟨_, rfl, h, _, c.dx, hF c fv, JSta T, rfl, hH5.ha, rfl, ?_⟩
       refine ⟨c, sh, b, h, fv, a, rfl, hH5, hQ, hB, hp, fun t8 H6 s6 ht8 => ?_⟩
       exact ⟨_, rfl, _, st_eq ht8 (s6 _ _ hst), _, rfl, iteF (hk _ _ ⟨st, s5.trans s6, s6 _ _ hst, rfl⟩)⟩
     · exact iteF (hk _ _ ⟨st, s5, hst, rfl⟩)
 · refine ⟨_, rfl, _, rfl, lr, xs, rfl, .inl (SqL.of (s04 _ _ hlr)), _, _, rfl, rfl, _, rfl, ite2 (fun e => ?_) (fun e => ?_)⟩
   · have e : ((a : Nat) : Int) < (xs.length : Nat) := of_decide_eq_true e
     have hx := List.getElem?_eq_getElem (l := xs) (i := a) (by omega)
     obtain ⟨q, hq, ra, era, hra⟩ := zS hP hx
     rw [era] at hx
     refine ⟨_, rfl, _, rfl, lr, _, _, _, rfl, rfl, SqL.of (s04 _ _ hlr), zX hx, ra, _, _, _, rfl, rfl, SqT.of (s04 _ _ hra), rfl, (by show 3 ≤ sizeLine; decide), fun t1 ht1 => hk _ _ ⟨t1, zH ht1 _, ?_, rfl⟩⟩
     rw [zB]
     unfold lastE
     rw [hq]; rfl
   · have e : ¬ ((a : Nat) : Int) < (xs.length : Nat) := fun z => e (decide_eq_true z)
     refine hk _ _ ⟨t0, Same.refl _, ?_, rfl⟩
     rw [t0a]
     unfold lastE
     rw [List.getElem?_eq_none (by omega)]; rfl
end
end K42
set_option maxHeartbeats 4000000
namespace K42
open PySem L2
seal PE PT PW PA PS PSs PG PGs PI PO PSet OpR UnR CallR TruR IxR SlR PC PPs
local macro_rules | `(tactic| walk_at "rd1") => `(tactic| first
 | (refine And.intro rfl ?_)
 | (refine And.intro (by assumption) ?_)
 | (refine And.intro (fun _ e => e) ?_)
 | (refine And.intro (TyOf.str _) ?_) | (refine And.intro (TyOf.int _) ?_) | (refine And.intro (TyOf.bl _) ?_) | (refine And.intro TyOf.non ?_)
 | (refine iteT ?_) | (refine iteF ?_)
 | (apply Exists.intro))
local macro_rules | `(tactic| walk_at "rd") => `(tactic| repeat (walk_at "rd1"))
theorem readK_num {lo hi n : Int} (h : n.natAbs < 10 ^ 60) {l : List Nat} (e : stripL l = numL n) : readK ansW lo hi l = dueK lo hi n := by
 unfold readK dueK
 rw [e]
 show (match numB (numL n) 60 with | some n => _ | none => _) = _
 rw [numB_str h]
theorem same_make {H : Hp} {x dx : Addr} (nx : H x = none) (nd : H dx = none) (o : HO) : Same H (upd (upd H dx (.own x)) x o) := fun b u e => by
 rw [zF (zI e nx), zF (zI e nd)]; exact e
def NT (H : Hp) (M : List Addr) : Prop := ∀ m ∈ M, ∀ ts, H m ≠ some (.tup ts)
theorem FgR.fr {M : List Addr} {H H' : Hp} (F : Fr M H H') (n : NT H M) {v : V} {o : Option Str} (h : FgR H v o) : FgR H' v o := by
 cases o with
 | none => exact h
 | some z => obtain ⟨t, e, h1⟩ := h; exact ⟨t, e, F _ _ h1 fun m => n t m _ h1⟩
theorem RwR.fr {M : List Addr} {H H' : Hp} (F : Fr M H H') (n : NT H M) {v : V} {q : Qn} (h : RwR H v q) : RwR H' v q := by
 obtain ⟨t, e, h1⟩ := h; exact ⟨t, e, F _ _ h1 fun m => n t m _ h1⟩
abbrev nmAt (qs : List Qn) (i : Nat) : Option Str := (qs[i]?).map (·.1)
def KeyR (H : Hp) (ks : List V) (qs : List Qn) : Prop := ∀ i, i ≤ qs.length → ∃ v, ks[i]? = some v ∧ FgR H v (nmAt qs i)
theorem putK_mem {κ : Type} [DecidableEq κ] {kvs : List (κ × V)} {k0 k : κ} {v : V} (h : k ∈ (putK kvs k0 v).map (·.1)) : k = k0 ∨ k ∈ kvs.map (·.1) := by
 by_cases e : k = k0
 · exact .inl e
 · refine .inr ?_
   cases e2 : valV kvs k with
   | some u => exact valV_in e2
   | none =>
     obtain ⟨p, hp, rfl⟩ := List.mem_map.mp h
     have h1 := valV_put kvs k0 p.1 v
     rw [if_neg e, e2] at h1
     exact absurd (List.mem_map.mpr ⟨p, hp, rfl⟩) (valV_not h1)
theorem KB.put {b : Bk} {qs : List Qn} {a p : Nat} {q : Qn} {v : V} (h : KB b qs a) (hq : qs[p]? = some q) : KB (putK b (keyOf q.1) v) qs (max a (p + 1)) := fun k hk => by
 rcases putK_mem hk with e | e
 · exact ⟨p, q, by omega, hq, e⟩
 · obtain ⟨i, q', hi, r⟩ := h k e
   exact ⟨i, q', by omega, r⟩
theorem LbR.put {lb : LBk} {b : Bk} (h : LbR lb b) (z : Str) (v : V) : LbR (putK lb (.inr z) v) (putK b (keyOf z) v) := fun y => by
 rw [valV_put, valV_put]
 by_cases e : y = z
 · subst e; rw [if_pos rfl, if_pos rfl]
 · rw [if_neg (fun h => e (Sum.inr.inj h)), if_neg (show ¬ keyOf y = keyOf z from fun h => e (Sum.inr.inj (List.cons.inj h).1))]
   exact h y
theorem AsR.updK {A : Adr} {H : Hp} {m : Addr} {lb lb' : LBk} (hm : H m = some (.dK lb)) {x : V} {q : Qn} (h : AsR A H x q) : AsR A (upd H m (.dK lb')) x q := by
 obtain ⟨a, dx, k, dk, e, h1, h2⟩ := h
 exact ⟨a, dx, k, dk, e, by rw [zF (yE h1 hm (by intro z; cases z))]; exact h1, by rw [zF (yE h2 hm (by intro z; cases z))]; exact h2⟩
theorem ShR.updK {A : Adr} {H : Hp} {m : Addr} {lb lb' : LBk} (hm : H m = some (.dK lb)) {x : V} {q : List Qn} (h : ShR A H x q) : ShR A (upd H m (.dK lb')) x q := by
 obtain ⟨a, dx, u, q1, q2, xs, e, h1, h2, h3, h4⟩ := h
 exact ⟨a, dx, u, q1, q2, xs, e, by rw [zF (yE h1 hm (by intro z; cases z))]; exact h1, by rw [zF (yE h2 hm (by intro z; cases z))]; exact h2, by rw [zF (yE h3 hm (by intro z; cases z))]; exact h3, zL h4 fun _ _ h => AsR.updK hm h⟩
theorem HaS.updK {A : Adr} {c : HA} {sh : List (List Qn)} {b : Bk} {h : Addr} {H : Hp} {fv : V} {m : Addr} {lb lb' : LBk} (x : HaS A c sh b h H fv) (hm : H m = some (.dK lb)) (n : c.kd ≠ m) : HaS A c sh b h (upd H m (.dK lb')) fv := by
 obtain ⟨kvs, k1, k2⟩ := x.kd
 obtain ⟨dx, u, q1, q2, xs, h1, h2, h3, h4⟩ := x.pa
 refine ⟨?_, ⟨dx, u, q1, q2, xs, by rw [zF (yE h1 hm (by intro z; cases z))]; exact h1, by rw [zF (yE h2 hm (by intro z; cases z))]; exact h2, by rw [zF (yE h3 hm (by intro z; cases z))]; exact h3, zL h4 fun _ _ h => ShR.updK hm h⟩, ⟨kvs, ?_, k2.1, fun q hq => ?_⟩, ?_⟩
 · rw [zF (yE x.ha hm (by intro z; cases z))]; exact x.ha
 · rw [zF n]; exact k1
 · obtain ⟨k, dk, e1, e2⟩ := k2.2 q hq
   exact ⟨k, dk, e1, by rw [zF (yE e2 hm (by intro z; cases z))]; exact e2⟩
 · rw [zF (yE x.bk hm (by intro z; cases z))]; exact x.bk
theorem FgR.updK {H : Hp} {m : Addr} {lb lb' : LBk} (hm : H m = some (.dK lb)) {fv : V} {o : Option Str} (h : FgR H fv o) : FgR (upd H m (.dK lb')) fv o := by
 cases o with
 | none => exact h
 | some z => obtain ⟨t, e, h1⟩ := h; exact ⟨t, e, by rw [zF (yE h1 hm (by intro z; cases z))]; exact h1⟩
theorem HeldR.fr {H H' : Hp} {M : List Addr} (F : Fr M H H') {lh : Addr} {hs : List V} (hM : ∀ m ∈ M, m = lh ∨ ((∀ ts, H m ≠ some (.tup ts)) ∧ ∀ ts, H m ≠ some (.lst ts))) (hl : ∃ zs, H lh = some (.lst zs)) (h : HeldR H lh hs) : HeldR H' lh hs := fun y hy => by
 obtain ⟨t, l1, l2, ts, e, h1, h2, h3, h4, n1, n2⟩ := h y hy
 obtain ⟨zs, hz⟩ := hl
 refine ⟨t, l1, l2, ts, e, F _ _ h1 fun m => ?_, F _ _ h2 fun m => ?_, F _ _ h3 fun m => ?_, h4, n1, n2⟩
 · rcases hM t m with z | z
   · rw [z, hz] at h1; cases h1
   · exact z.1 _ h1
 · rcases hM l1 m with z | z
   · exact n1 z
   · exact z.2 _ h2
 · rcases hM l2 m with z | z
   · exact n2 z
   · exact z.2 _ h3
structure Inv (A : Adr) (H0 : Hp) (c : HA) (sh : List (List Qn)) (h bk lh : Addr) (i a p : Nat) (b : Bk) (lb : LBk) (hs : List V) (fv : V) (H : Hp) : Prop where
 fr : Fr [h, c.bk, bk, lh] H0 H
 st : HaS A c sh b h H fv
 fg : FgR H fv (nmAt sh.flatten p)
 pre : PreB b sh.flatten a
 gb : GB b
 kb : KB b sh.flatten a
 bl : b.length ≤ i
 pa : p ≤ a
 lk : H bk = some (.dK lb)
 lr : LbR lb b
 ll : lb.length ≤ i
 hl : H lh = some (.lst hs)
 hn : hs.length ≤ i
 he : HeldR H lh hs
theorem Inv.mono {A : Adr} {H0 H H' : Hp} {c : HA} {sh : List (List Qn)} {h bk lh : Addr} {i a p : Nat} {b : Bk} {lb : LBk} {hs : List V} {fv : V} (I : Inv A H0 c sh h bk lh i a p b lb hs fv H) (s : Same H H') : Inv A H0 c sh h bk lh i a p b lb hs fv H' :=
 ⟨I.fr.trans (Fr.of s), I.st.mono s, I.fg.same s, I.pre, I.gb, I.kb, I.bl, I.pa, s _ _ I.lk, I.lr, I.ll, s _ _ I.hl, I.hn, I.he.same s⟩
def Hd (wd due : Str) (qs : List Qn) (p : Nat) (x xh : V) (lb lb' : LBk) : Prop := (wd = Str.ofString "answer" ∧ due = z0 ∧ ∃ q v, qs[p]? = some q ∧ q.2.1 ≤ v ∧ v ≤ q.2.2 ∧ xh = .str (S (numL v)) ∧ lb' = putK lb (.inr q.1) (.int v)) ∨ (¬ (wd = Str.ofString "answer" ∧ due = z0) ∧ xh = x ∧ lb' = lb)
section
variable {P : Program} {w : World} {K : W.Frag} {mg : Str → Option Value} {base : Heap} {A : Adr}
theorem asked_step (T : Txt K mg A) {H : Hp} {c : HA} {sh : List (List Qn)} {h : Addr} {i a p : Nat} {b : Bk} {lb lb' : LBk} {fv : V} (hH : HaS A c sh b h H fv) (hfg : FgR H fv (nmAt sh.flatten p)) (hpre : PreB b sh.flatten a) (hB : GB b) (hKB : KB b sh.flatten a) (hbl : b.length ≤ i) (hpa : p ≤ a) (hLb : LbR lb b) (hi : i < 900) (hQ : GQ sh.flatten) {wd : Str} {x xh : V} {due : Str} {p' : Nat} (hD : Deed H sh.flatten a p wd x due p') (hx : Hd wd due sh.flatten p x xh lb lb') {Q : VK} {E : XK}
   (k : ∀ H' fv' a' b', Fr [h, c.bk] H H' → HaS A c sh b' h H' fv' → FgR H' fv' (nmAt sh.flatten p') → PreB b' sh.flatten a' → GB b' → KB b' sh.flatten a' → LbR lb' b' → b'.length ≤ i + 1 → p' ≤ a' → Q (.str due) H') : spAsked A K [.ref h, .str wd, xh] H Q E := by
 have more : ∀ {H' : Hp}, Fr [h] H H' → Fr [h, c.bk] H H' := fun F1 => F1.more fun m hm => by rw [List.mem_singleton.mp hm]; exact List.mem_cons_self ..
 have dz1 : ¬ zN = z0 := by symm
 have dz2 : ¬ zY = z0 := by symm
 have dz3 : ¬ zC = z0 := by symm
 refine ⟨c, sh, b, h, fv, a, p, wd, xh, rfl, hH, hQ, hB, by omega, hpre, hpa, hfg, ?_⟩
 rcases hD with ⟨rfl, hD⟩ | ⟨rfl, hD⟩ | ⟨rfl, hD⟩ | ⟨rfl, hD⟩
 · rcases hD with ⟨hn, rfl, rfl, rfl⟩ | ⟨q, v, hq, rfl, v1, v2, rfl, rfl⟩
   · rcases hx with ⟨_, z, _⟩ | ⟨_, rfl, rfl⟩
     · exact absurd z dz1
     refine .inl ⟨rfl, ⟨thStr T _ _, trivial⟩, fun _ H' s => k H' fv a b (Fr.of s) (hH.mono s) (hfg.same s) hpre hB hKB hLb (by omega) hpa, fun q hq => by rw [hn] at hq; cases hq⟩
   · rcases hx with ⟨_, _, q', v', hq', w1, w2, rfl, rfl⟩ | ⟨z, _⟩
     · obtain rfl : q = q' := by rw [hq] at hq'; exact Option.some.inj hq'
       have gq := hQ.2.1 q (List.mem_of_getElem? hq)
       have g3 := gq.2.2.1
       have g4 := gq.2.2.2
       have nv : v'.natAbs < 10 ^ 60 := Nat.lt_of_le_of_lt (show v'.natAbs ≤ 4 * 10 ^ 18 by omega) (by symm)
       have hr : readK ansW q.2.1 q.2.2 (cd (S (numL v'))) = some v' := by
         rw [cd_S, readK_num nv (numL_strip v')]; exact if_pos ⟨w1, w2⟩
       have fz := fineNum nv
       refine .inl ⟨rfl, ⟨thStr T _ _, trivial⟩, fun hn => (by rw [hn] at hq; cases hq), fun q2 hq2 => ?_⟩
       obtain rfl : q = q2 := by rw [hq] at hq2; exact Option.some.inj hq2
       refine .inl ⟨_, rfl, ⟨Nat.le_trans fz.1 (by decide), fz.2⟩, fun m hm fv' H' F1 a1 a2 => ?_, fun hn => by rw [hr] at hn; cases hn⟩
       obtain rfl : v' = m := by rw [hr] at hm; exact Option.some.inj hm
       have := xC b (keyOf q.1) (.int v')
       exact k H' fv' _ _ F1 a1 a2 (hpre.put hQ.1 hq hpa w1 w2) (hB.put (by omega) _ _) (hKB.put hq) (hLb.put _ _) (by omega) (by omega)
     · exact absurd ⟨rfl, rfl⟩ z
 · have hx : xh = x ∧ lb' = lb := by
     rcases hx with ⟨z, _⟩ | ⟨_, e⟩
     · exact absurd z (by symm)
     · exact e
   obtain ⟨rfl, rfl⟩ := hx
   refine .inr (.inl ⟨rfl, ?_⟩)
   rcases hD with ⟨hn, rfl, rfl⟩ | ⟨q, hq, rfl, rfl, rfl⟩ | ⟨q, hq, hp, rfl, rfl⟩
   · exact ⟨fun _ H' s => k H' fv a b (Fr.of s) (hH.mono s) (hfg.same s) hpre hB hKB hLb (by omega) hpa, (fun q hq => by rw [hn] at hq; cases hq), fun q hq => by rw [hn] at hq; cases hq⟩
   · exact ⟨fun hn => (by rw [hn] at hq; cases hq), fun _ _ _ H' s => k H' fv _ b (Fr.of s) (hH.mono s) (hfg.same s) hpre hB hKB hLb (by omega) hpa, fun _ _ z => absurd z (by omega)⟩
   · refine ⟨fun hn => (by rw [hn] at hq; cases hq), fun _ _ z => absurd z (by omega), fun q' hq' _ fv' H' F1 a1 a2 => ?_⟩
     exact k H' fv' a b (more F1) a1 a2 hpre hB hKB hLb (by omega) (by omega)
 · have hx : xh = x ∧ lb' = lb := by
     rcases hx with ⟨z, _⟩ | ⟨_, e⟩
     · exact absurd z (by symm)
     · exact e
   obtain ⟨rfl, rfl⟩ := hx
   refine .inr (.inr (.inl ⟨rfl, ?_⟩))
   rcases hD with ⟨rfl, rfl, rfl⟩ | ⟨hp, rfl, rfl⟩
   · exact ⟨fun _ H' s => k H' fv a b (Fr.of s) (hH.mono s) (hfg.same s) hpre hB hKB hLb (by omega) hpa, fun z => absurd z (by omega)⟩
   · refine ⟨fun z => absurd z (by omega), fun _ fv' H' F1 a1 a2 => ?_⟩
     exact k H' fv' a b (more F1) a1 a2 hpre hB hKB hLb (by omega) (by omega)
 · have hx : xh = x ∧ lb' = lb := by
     rcases hx with ⟨z, _⟩ | ⟨_, e⟩
     · exact absurd z (by symm)
     · exact e
   obtain ⟨rfl, rfl⟩ := hx
   obtain ⟨t, z, th, rfl, ht, hz, hth, hJ⟩ := hD
   refine .inr (.inr (.inr ⟨rfl, t, z, th, rfl, ht, hz, hth, ?_⟩))
   rcases hJ with ⟨q, j1, j2, j3, j4, rfl⟩ | ⟨j1, rfl, rfl⟩
   · refine .inl ⟨p', q, j1, j2, j3, j4, fun fv' H' F1 a1 a2 => k H' fv' a b (more F1) a1 ?_ hpre hB hKB hLb (by omega) j1⟩
     unfold nmAt; rw [j2]; exact a2
   · exact .inr ⟨j1, fun H' s => k H' fv a b (Fr.of s) (hH.mono s) (hfg.same s) hpre hB hKB hLb (by omega) hpa⟩
end
end K42
set_option maxHeartbeats 4000000
namespace K42
open PySem L2
seal PE PT PW PA PS PSs PG PGs PI PO PSet OpR UnR CallR TruR IxR SlR PC PPs
local macro_rules | `(tactic| walk_at "rd1") => `(tactic| first
 | (refine And.intro rfl ?_)
 | (refine And.intro (by assumption) ?_)
 | (refine And.intro (fun _ e => e) ?_)
 | (refine And.intro (TyOf.str _) ?_) | (refine And.intro (TyOf.int _) ?_) | (refine And.intro (TyOf.bl _) ?_) | (refine And.intro TyOf.non ?_)
 | (refine iteT ?_) | (refine iteF ?_)
 | (apply Exists.intro))
local macro_rules | `(tactic| walk_at "rd") => `(tactic| repeat (walk_at "rd1"))
def sp_law (K : W.Frag) : Sp := fun vs H Q _ => ∃ (a : Addr) (ns : List Int), vs = [.ref a] ∧ SqL K H a (ns.map V.int) ∧ ns.length ≤ 63 ∧ (∀ n ∈ ns, ib n ≤ 1048576) ∧ ∀ H', Q (.bl true) H'
theorem Deed.fr {M : List Addr} {H H' : Hp} (F : Fr M H H') (n : NT H M) {qs : List Qn} {a p : Nat} {wd : Str} {x : V} {due : Str} {p' : Nat} (h : Deed H qs a p wd x due p') : Deed H' qs a p wd x due p' := by
 rcases h with h | h | h | ⟨e, t, z, th, e1, h1, r⟩
 · exact .inl h
 · exact .inr (.inl h)
 · exact .inr (.inr (.inl h))
 · exact .inr (.inr (.inr ⟨e, t, z, th, e1, F _ _ h1 fun m => n t m _ h1, r⟩))
section
variable {P : Program} {w : World} {K : W.Frag} {mg : Str → Option Value} {base : Heap} {A : Adr}
theorem ok_law (T : Txt K mg A) : FnOk P w K mg base CX0 50 A.f_law A.d_law ["_law_script"] (sp_law K) := by
 have G_law_cell_at := ok_law_cell_at (P := P) (w := w) (base := base) T
 have G_law_questions := ok_law_questions (P := P) (w := w) (base := base) T
 have G_c_Ask___init := ok_ask_init (P := P) (w := w) (base := base) T
 have G_c_Kind___init := ok_init (P := P) (w := w) (base := base) T
 have G_c_Sheet___init := ok_sheet_init (P := P) (w := w) (base := base) T
 have G_c_Paper___init := ok_paper_init (P := P) (w := w) (base := base) T
 have G_c_Hand___init := ok_hi (P := P) (w := w) (base := base) T
 have G_law_at_fits := ok_af (P := P) (w := w) (base := base) T
 have G_law_deed := ok_deed (P := P) (w := w) (base := base) T
 have G_law_asked := ok_asked (P := P) (w := w) (base := base) T
 have G_law_look := ok_look (P := P) (w := w) (base := base) T
 refine T.F_law.ok sc_law (fun vs H Q E h => ?_) (fun cdv A0 outer s H vs' Q E hr h => ?_)
 · obtain ⟨a, ns, rfl, _⟩ := h
   rfl
 obtain ⟨sc, ns, rfl, hS, hlen, hbits, k⟩ := h
 refine ⟨_, (zD (zR (i := 1) sc_law.nd rfl (by first | exact Or.inl rfl | exact Or.inr rfl) (yH G_law_questions (hr.mono (by first | decide | omega)) rfl T.m_law_questions T.k_law_questions T.b_law_questions .nil zV (zA (yH G_law_cell_at (hr.mono (by first | decide | omega)) rfl T.m_law_cell_at T.k_law_cell_at T.b_law_cell_at .nil zV (zA (pv 0) (zA zJ zE))) zE)))
     (zD (ps_compR (i := 2) sc_law.nd rfl (by first | exact Or.inl rfl | exact Or.inr rfl) (yU (x := "_law_row") (M := ["_law_script", "_law_rows", "_law_made", "_law_hand", "_law_keys", "_law_book", "_law_held", "_law_place", "_law_cell", "_law_word", "_law_thing", "_law_due", "_law_behind", "_law_handed"]) rfl (by rfl)) rfl (yQ (pv 1)) (fun _ _ _ _ => pe_eqv (by exact (pe_make T.mk_Ask G_c_Ask___init (hr.mono (by first | decide | omega)) rfl T.m_Ask T.bd_c_Ask___init T.dv_c_Ask___init zV (zA (yC yL (pv 0) zJ (fun _ _ => rfl)) (zA (pe_make T.mk_Whole G_c_Kind___init (hr.mono (by first | decide | omega)) rfl T.m_Whole T.b_c_Kind___init .nil zV (zA (yC yL (pv 0) zJ (fun _ _ => rfl)) (zA (yC yL (pv 0) zJ (fun _ _ => rfl)) zE))) zE)))) (by dsimp only [compCx] <;> rfl)))
     (zD (zR (i := 3) sc_law.nd rfl (by first | exact Or.inl rfl | exact Or.inr rfl) (pe_make T.mk_Hand G_c_Hand___init (hr.mono (by first | decide | omega)) rfl T.m_Hand T.b_c_Hand___init .nil zV (zA (pe_make T.mk_Paper G_c_Paper___init (hr.mono (by first | decide | omega)) rfl T.m_Paper T.b_c_Paper___init .nil zV (zA zK (zA (yT (zA (pe_make T.mk_Sheet G_c_Sheet___init (hr.mono (by first | decide | omega)) rfl T.m_Sheet T.b_c_Sheet___init .nil zV (zA zK (zA xM (zA (pv 2) (zA (yT zE) zE))))) zE)) (zA (yT zE) zE)))) zE)))
     (zD (zR (i := 4) sc_law.nd rfl (by first | exact Or.inl rfl | exact Or.inr rfl) (yA op_cat (pe_compR (yU (x := "_law_row") (M := ["_law_script", "_law_rows", "_law_made", "_law_hand", "_law_keys", "_law_book", "_law_held", "_law_place", "_law_cell", "_law_word", "_law_thing", "_law_due", "_law_behind", "_law_handed"]) rfl (by rfl)) rfl (yQ (pv 1)) (fun _ _ _ _ => pe_eqv (by exact (yI (zA (yC yL (pv 0) zJ (fun _ _ => rfl)) (zA zK zE)))) (by dsimp only [compCx] <;> rfl))) (yT (zA xM zE))))
     (zD (zR (i := 5) sc_law.nd rfl (by first | exact Or.inl rfl | exact Or.inr rfl) pe_dnewK)
     (zD (zR (i := 6) sc_law.nd rfl (by first | exact Or.inl rfl | exact Or.inr rfl) (yT zE))
     (zD (zR (i := 7) sc_law.nd rfl (by first | exact Or.inl rfl | exact Or.inr rfl) zJ)
     (zD (xH PassesOwn.never rfl (yQ (pe_slice sl_list (pv 0) (po_some zJ) (po_some zJ))) (yM (i := 8) sc_law.nd rfl (by first | exact Or.inl rfl | exact Or.inr rfl)) (zD (ps_asg (yH G_law_deed (hr.mono (by first | decide | omega)) rfl T.m_law_deed T.k_law_deed T.b_law_deed .nil zV (zA (pv 8) (zA (pv 1) (zA (pv 5) (zA (pv 7) zE))))) (pg_tup rfl (yY (yM (i := 9) sc_law.nd rfl (by first | exact Or.inl rfl | exact Or.inr rfl)) (yY (yM (i := 10) sc_law.nd rfl (by first | exact Or.inl rfl | exact Or.inr rfl)) (yY (yM (i := 11) sc_law.nd rfl (by first | exact Or.inl rfl | exact Or.inr rfl)) (yY (yM (i := 12) sc_law.nd rfl (by first | exact Or.inl rfl | exact Or.inr rfl)) pgs_nil))))))
     (zD (zR (i := 13) sc_law.nd rfl (by first | exact Or.inl rfl | exact Or.inr rfl) (pv 10))
     (zD (yK (PW.pt (pw_and (zQ xP (pv 9) zK (zW _)) (pw_and1 (zQ xP (pv 11) zK (zW _))))) (zD (zR (i := 13) sc_law.nd rfl (by first | exact Or.inl rfl | exact Or.inr rfl) (yZ call_str_int (by rfl) T.n_str Bt.str (zA (pv 10) zE)))
     (zG (ps_dput (hu_of hr) (pv 5) (yC yL (yC yJ (pv 1) (pv 7) (fun _ _ => rfl)) zJ (fun _ _ => rfl)) (pv 10) rfl))) zU)
     (zD (yK (zQ op_ne (yH G_law_asked (hr.mono (by first | decide | omega)) rfl T.m_law_asked T.k_law_asked T.b_law_asked .nil zV (zA (pv 3) (zA (pv 9) (zA (pv 13) zE)))) (pv 11) (zW _)) (zG (zP pe_bl)) zU)
     (zD (zR (i := 7) sc_law.nd rfl (by first | exact Or.inl rfl | exact Or.inr rfl) (pv 12))
     (zG (yK (PW.pt (pw_or (xK (yS (yH G_law_at_fits (hr.mono (by first | decide | omega)) rfl T.m_law_at_fits T.k_law_at_fits T.b_law_at_fits .nil zV (zA (pv 3) (zA (yC yJ (pv 4) (pv 7) (fun _ _ => rfl)) zE))))) (pw_or1 (xK (yS (yH G_law_look (hr.mono (by first | decide | omega)) rfl T.m_law_look T.k_law_look T.b_law_look .nil zV (zA (pv 3) (zA (pv 1) (zA (pv 5) (zA (yA xN (yA op_fdiv (pv 8) zJ) zJ) (zA (pv 6) zE))))))))))) (zG (zP pe_bl)) zU))))))))
     (zG (zP (xR (op_eqJ (hu20 hr)) (pe_compF (yU (x := "_law_pair") (M := ["_law_script", "_law_rows", "_law_made", "_law_hand", "_law_keys", "_law_book", "_law_held", "_law_place", "_law_cell", "_law_word", "_law_thing", "_law_due", "_law_behind", "_law_handed"]) rfl (by rfl)) rfl (yQ (pv 6)) (fun _ _ _ _ => pifs_eqv (by exact (pifs_one (zQ (op_neSame (hu20 hr)) (yC yL (pv 0) zJ (fun _ _ => rfl)) (yC yL (pv 0) zJ (fun _ _ => rfl)) (zW _)))) (by dsimp only [compCx] <;> rfl)) (fun _ _ _ _ => pe_eqv (by exact (pv 0)) (by dsimp only [compCx] <;> rfl))) (yT zE) (zW _)))))))))))), ?_⟩
 generalize h0 : L2.start _ [V.ref sc] = σ0
 have h0 : σ0 = [some (.ref sc), none, none, none, none, none, none, none, none, none, none, none, none, none] := by rw [← h0]; rfl
 subst h0
 refine ⟨_, rfl, sc, ns, 0, rfl, hS, by decide, hbits, fun n0 hn0 => ⟨n0, rfl, hn0, fun lr xs qs H1 hQ hq1 hq2 s1 hlr hR => ?_⟩⟩
 dsimp only [gName, List.set_cons_succ, List.set_cons_zero]
 obtain ⟨sh, hsh⟩ : ∃ sh : List (List Qn), sh = [qs] := ⟨_, rfl⟩
 have hfl : sh.flatten = qs := by rw [hsh]; simp
 subst hfl
 have hxl := zZ hR
 have h8 := hQ.2.2
 refine ⟨_, rfl, lr, rfl, ⟨_, SqL.of hlr⟩, ?_⟩
 refine comp_listR (xs := xs) (yB (m := 100) (by omega)) (fun i ys H' => Same H1 H' ∧ Paired (AsR A H') ys (sh.flatten.take i)) ⟨Same.refl _, .nil⟩ (fun i ys H' hw => SqL.of (hw.1 _ _ hlr)) (fun i x ys H' hx hy hw => ?_) (fun ms H2 hy hw lm hlm => ?_)
 · obtain ⟨sH, hw⟩ := hw
   obtain ⟨q, hq, ra, rfl, hra⟩ := zS hR hx
   have ra' := sH _ _ hra
   refine ⟨_, rfl, ra, _, _, _, rfl, rfl, SqT.of ra', rfl, _, rfl, ra, _, _, _, rfl, rfl, SqT.of ra', rfl, _, rfl, ra, _, _, _, rfl, rfl, SqT.of ra', rfl, fun kp kdx nk nkd nek => ?_⟩
   have s2 := same_make nk nkd (.ins A.c_Whole kdx (flds q.2.1 q.2.2))
   refine ⟨kp, _, kdx, _, _, rfl, zB, T.cl_Whole, T.no_Whole_low, T.no_Whole_high, rfl, ?_⟩
   rw [upd_upd]
   refine fun ka kadx na nad nea => ?_
   have s3 := same_make na nad (oAsk A kadx (.str q.1) (.ref kp) .non)
   refine ⟨ka, kadx, _, _, _, rfl, zB, rfl, ?_⟩
   rw [upd_upd]
   have s4 := s2.trans s3
   refine ⟨sH.trans s4, ?_⟩
   rw [xB hq]
   exact xE (zL hw fun _ _ h => AsR.same s4 h) (.cons ⟨ka, kadx, kp, kdx, rfl, zB, s3 _ _ zB⟩ .nil)
 obtain ⟨s2, hw⟩ := hw
 rw [hxl, List.take_length] at hw
 have s3 := zH hlm (.lst ms)
 have hlm3 : (upd H2 lm (.lst ms)) lm = some (.lst ms) := zB
 dsimp only [gName, List.set_cons_succ, List.set_cons_zero]
 generalize upd H2 lm (.lst ms) = H3 at s3 hlm3 ⊢
 have hw3 : Paired (AsR A H3) ms sh.flatten := zL hw fun _ _ h => AsR.same s3 h
 have s13 : Same H1 H3 := s2.trans s3
 refine ⟨_, rfl, (by show 0 ≤ sizeLine; decide), fun lw hlw => ?_⟩
 have sw := zH hlw (.lst [])
 refine fun sa sdx ns' nsd nes => ?_
 have sm := same_make ns' nsd (.ins A.c_Sheet sdx [])
 refine ⟨sa, sdx, _, _, lm, lw, ms, [], rfl, zB, (sw.trans sm) _ _ hlm3, sm _ _ zB, fun q1 q2 H4 _ _ _ F3 h1 h2 h3 => ⟨rfl, ?_⟩⟩
 have sF : Same H3 H4 := fun b o hb => F3 _ _ ((sw.trans sm) _ _ hb) (ni1 fun e => by
   rw [e] at hb
   have := sw _ _ hb
   rw [this] at ns'; cases ns')
 have shR : ShR A H4 (.ref sa) sh.flatten := ⟨sa, sdx, _, q1, q2, ms, rfl, h1, h2, h3, zL hw3 fun _ _ => AsR.same sF⟩
 clear sw sm F3
 refine ⟨(by show 1 ≤ sizeLine; decide), fun lp hlp => ?_⟩
 have sp := zH hlp (.lst [.ref sa])
 refine ⟨(by show 0 ≤ sizeLine; decide), fun lt hlt => ?_⟩
 have st := zH hlt (.lst [])
 refine fun pa pdx np npd nep => ?_
 have sm := same_make np npd (.ins A.c_Paper pdx [])
 refine ⟨pa, pdx, _, lp, lt, [.ref sa], rfl, zB, (st.trans sm) _ _ zB, sm _ _ zB, fun p1 p2 H5 F4 g1 g2 g3 => ⟨rfl, ?_⟩⟩
 have sG : Same H4 H5 := fun b o hb => F4 _ _ ((sp.trans (st.trans sm)) _ _ hb) (ni1 fun e => by
   rw [e] at hb
   have := (sp.trans st) _ _ hb
   rw [this] at np; cases np)
 have hpa : PaR A H5 pa sh := by
   have : PaR A H5 pa [sh.flatten] := ⟨pdx, _, p1, p2, _, g1, g2, g3, .cons (shR.same sG) .nil⟩
   rw [← hsh] at this
   exact this
 clear sp st sm F4
 have s15 : Same H1 H5 := s13.trans (sF.trans sG)
 have hlr5 := s15 _ _ hlr
 have hR5 : Paired (RwR H5) xs sh.flatten := zL hR fun _ _ h => h.same s15
 refine fun h dx nh ndx ne => ?_
 have s5 := same_make nh ndx (.ins A.c_Hand dx [])
 refine ⟨h, dx, pa, sh, rfl, zB, hpa.same s5, hQ, fun c fv H6 F6 hs6 hf6 hcb hcp => ⟨rfl, ?_⟩⟩
 have s56 : Same H5 H6 := fun x u hx => F6 _ _ (s5 _ _ hx) (ni1 (zI hx nh))
 dsimp only [gName, List.set_cons_succ, List.set_cons_zero]
 clear s5 F6
 have hlr6 := s56 _ _ hlr5
 have hR6 : Paired (RwR H6) xs sh.flatten := zL hR5 fun _ _ h => h.same s56
 refine ⟨_, rfl, lr, rfl, ⟨_, SqL.of hlr6⟩, ?_⟩
 refine comp_listR (xs := xs) (yB (m := 100) (by omega)) (fun i ys H' => Same H6 H' ∧ ∀ j, j < i → ∃ v, ys[j]? = some v ∧ FgR H' v (nmAt sh.flatten j)) ⟨Same.refl _, fun j hj => absurd hj (by omega)⟩ (fun i ys H' hw => SqL.of (hw.1 _ _ hlr6)) (fun i x ys H' hx hy hw => ?_) (fun ys H7 hy hw lk0 hlk0 => ?_)
 · obtain ⟨s3, hw⟩ := hw
   obtain ⟨q, hq, ra, rfl, hra⟩ := zS hR6 hx
   refine ⟨_, rfl, ra, _, _, _, rfl, rfl, SqT.of (s3 _ _ hra), rfl, (by show 2 ≤ sizeLine; decide), fun t ht => ⟨s3.trans (zH ht _), fun j hj => ?_⟩⟩
   by_cases e : j < i
   · obtain ⟨v, hv, hf⟩ := hw j e
     exact ⟨v, by rw [List.getElem?_append_left (by omega)]; exact hv, hf.same (zH ht _)⟩
   · have : j = i := by omega
     subst this
     refine ⟨.ref t, by rw [List.getElem?_append_right (by omega), hy, Nat.sub_self]; rfl, ?_⟩
     unfold nmAt
     rw [hq]
     exact ⟨t, rfl, zB⟩
 obtain ⟨s67, hw⟩ := hw
 refine ⟨(by show 1 ≤ sizeLine; decide), fun ln hln => ⟨lk0, ln, _, _, rfl, rfl, zH hln _ _ _ zB, zB, yB (m := 100) (by show ys.length + 1 ≤ 100; omega), fun lk hlk => ?_⟩⟩
 dsimp only [gName, List.set_cons_succ, List.set_cons_zero]
 have s78 : Same H7 (upd (upd (upd H7 lk0 (.lst ys)) ln (.lst [.non])) lk (.lst (ys ++ [.non]))) := (zH hlk0 _).trans ((zH hln _).trans (zH hlk _))
 have hlk8 : (upd (upd (upd H7 lk0 (.lst ys)) ln (.lst [.non])) lk (.lst (ys ++ [.non]))) lk = some (.lst (ys ++ [.non])) := zB
 generalize upd (upd (upd H7 lk0 (.lst ys)) ln (.lst [.non])) lk (.lst (ys ++ [.non])) = H8 at s78 hlk8 ⊢
 have hK : KeyR H8 (ys ++ [.non]) sh.flatten := fun i hi => by
   by_cases e : i < xs.length
   · obtain ⟨v, hv, hf⟩ := hw i e
     exact ⟨v, by rw [List.getElem?_append_left (by omega)]; exact hv, hf.same s78⟩
   · have : i = xs.length := by omega
     subst this
     refine ⟨.non, by rw [List.getElem?_append_right (by omega), hy, Nat.sub_self]; rfl, ?_⟩
     unfold nmAt
     rw [List.getElem?_eq_none (by omega)]
     exact rfl
 have s68 := s67.trans s78
 refine fun bk hbk => ?_
 have s89 := zH hbk (.dK [])
 have bk9 : (upd H8 bk (.dK [])) bk = some (.dK []) := zB
 dsimp only [gName, List.set_cons_succ, List.set_cons_zero]
 have hs8 := hs6.mono s68
 have nkd : c.kd ≠ bk := by
   obtain ⟨kvs, k1, _⟩ := hs8.kd
   exact zI k1 hbk
 generalize upd H8 bk (.dK []) = H9 at s89 bk9 ⊢
 refine ⟨(by show 0 ≤ sizeLine; decide), fun lh hlh => ?_⟩
 have s910 := zH hlh (.lst [])
 have lh10 : (upd H9 lh (.lst [])) lh = some (.lst []) := zB
 dsimp only [gName, List.set_cons_succ, List.set_cons_zero]
 have hbl : H5 lh = none := xA (s56.trans (s68.trans s89)) hlh
 have ne9 : ∀ {x : Addr} {o : HO}, H9 x = some o → x ≠ lh := fun hx => zI hx hlh
 have nlr : lr ≠ lh := ne9 ((s68.trans s89) _ _ hlr6)
 have nlk : lk ≠ lh := ne9 (s89 _ _ hlk8)
 generalize upd H9 lh (.lst []) = H10 at s910 lh10 ⊢
 have s610 := s68.trans (s89.trans s910)
 have s810 := s89.trans s910
 have sHX := s1.trans (s15.trans (s56.trans s610))
 refine ⟨_, rfl, _, rfl, _, rfl, sc, _, rfl, sHX.seq hS, fun ps hps => ?_⟩
 obtain ⟨ms2, em, hm, hml⟩ := cutV_map V.int ns (some 1) (some 61)
 rw [em]
 have s11 := zH hps (.lst (ms2.map V.int))
 have hps11 : (upd H10 ps (.lst (ms2.map V.int))) ps = some (.lst (ms2.map V.int)) := zB
 have nps : ∀ {x : Addr} {o : HO}, H10 x = some o → ps ≠ x := fun hx e => by rw [← e, hps] at hx; cases hx
 have hs10 := hs6.mono s610
 have bk10 := s910 _ _ bk9
 have m1 : ps ∉ [h, c.bk, bk, lh] := fun e => by
   simp only [List.mem_cons, List.not_mem_nil, or_false] at e
   rcases e with e | e | e | e
   · exact nps hs10.ha e
   · exact nps hs10.bk e
   · exact nps bk10 e
   · exact nps lh10 e
 refine ⟨ps, rfl, ⟨_, SqL.of zB⟩, ?_⟩
 generalize upd H10 ps (.lst (ms2.map V.int)) = HB at s11 hps11 ⊢
 have s6B := s610.trans s11
 have hlrB := s6B _ _ hlr6
 have hlkB := (s810.trans s11) _ _ hlk8
 have hKB : KeyR HB (ys ++ [.non]) sh.flatten := fun i hi => let ⟨v, e, f⟩ := hK i hi; ⟨v, e, f.same (s810.trans s11)⟩
 have hRB : Paired (RwR HB) xs sh.flatten := zL hR6 fun _ _ h => h.same s6B
 have hsB := hs6.mono s6B
 have hfB := hf6.same s6B
 have bkB := s11 _ _ bk10
 have lhB := s11 _ _ lh10
 have hpaB : PaR A H5 c.pa sh := by rw [hcp]; exact hpa
 have nTB : NT HB [h, c.bk, bk, lh] := fun m hm ts e => by
   simp only [List.mem_cons, List.not_mem_nil, or_false] at hm
   rcases hm with rfl | rfl | rfl | rfl
   · rw [hsB.ha] at e; cases e
   · rw [hsB.bk] at e; cases e
   · rw [bkB] at e; cases e
   · rw [lhB] at e; cases e
 have nmem : ∀ {x : Addr} {ls : List V}, HB x = some (.lst ls) → x ≠ lh → x ∉ [h, c.bk, bk, lh] := fun {x ls} hx n e => by
   simp only [List.mem_cons, List.not_mem_nil, or_false] at e
   rcases e with rfl | rfl | rfl | e
   · rw [hsB.ha] at hx; cases hx
   · rw [hsB.bk] at hx; cases hx
   · rw [bkB] at hx; cases hx
   · exact n e
 have mlr := nmem hlrB nlr
 have mlk := nmem hlkB nlk
 have m5 : ∀ {y : Addr} {o : HO}, H5 y = some o → y ∉ [h, c.bk, bk, lh] := fun {y o} hy e => by
   simp only [List.mem_cons, List.not_mem_nil, or_false] at e
   rcases e with e | e | e | e
   · rw [e, nh] at hy; cases hy
   · have : H5 c.bk = none := xA (same_make nh ndx (.ins A.c_Hand dx [])) hcb
     rw [e, this] at hy; cases hy
   · have : H5 bk = none := xA (s56.trans s68) hbk
     rw [e, this] at hy; cases hy
   · rw [e, hbl] at hy; cases hy
 have s5B := s56.trans s6B
 refine xI (xs := ms2.map V.int) (fun i σ H' => ∃ (a p : Nat) (b : Bk) (lb : LBk) (hs : List V) (fv' : V) (u8 u9 u10 u11 u12 u13 : Option V), σ = [some (.ref sc), some (.ref lr), some (.ref lm), some (.ref h), some (.ref lk), some (.ref bk), some (.ref lh), some (.int (p : Nat)), u8, u9, u10, u11, u12, u13] ∧ Inv A HB c sh h bk lh i a p b lb hs fv' H') ⟨0, 0, [], [], [], fv, none, none, none, none, none, none, rfl, ⟨Fr.of (Same.refl _), hsB, hfB, preB0 _, GB0, (fun k hk => by cases hk), Nat.le_refl _, Nat.le_refl _, bkB, (fun _ => rfl), Nat.le_refl _, lhB, Nat.le_refl _, fun y hy => by cases hy⟩⟩ (fun i σ H' _ hw => ?_) (fun i x σ H' hx hw => ?_) (fun σ H' hw => ?_)
 · obtain ⟨a, p, b, lb, hs, fv', u8, u9, u10, u11, u12, u13, rfl, I⟩ := hw
   exact SqL.of (I.fr _ _ hps11 m1)
 · obtain ⟨a, p, b, lb, hs, fv', u8, u9, u10, u11, u12, u13, rfl, I⟩ := hw
   obtain ⟨cc, hc, rfl⟩ := map_get hx
   have hi : i < ms2.length := (List.getElem?_eq_some_iff.mp hc).1
   have hF := I.fr
   have hlr' := hF _ _ hlrB mlr
   have hfo := fo_of I.lr I.pre I.kb hQ.1
   refine ⟨_, rfl, _, rfl, _, rfl, _, rfl, cc, lr, bk, xs, sh.flatten, lb, a, p, rfl, hlr', zL hRB (fun _ _ h => h.fr hF nTB), hQ, hq1, hq2, I.lk, hfo, I.pa, fun t wd x due p' HD sD ht hD => ?_⟩
   refine ⟨t, _, rfl, SqT.of ht, rfl, _, _, rfl, _, _, rfl, _, _, rfl, _, _, rfl, rfl, ?_⟩
   dsimp only [gName, List.set_cons_succ, List.set_cons_zero]
   refine ⟨_, rfl, ?_⟩
   dsimp only [gName, List.set_cons_succ, List.set_cons_zero]
   have ID := I.mono sD
   have rows_at : ∀ {q : Qn}, sh.flatten[p]? = some q → ∃ ra, xs[p]? = some (.ref ra) ∧ HD ra = some (.tup (rowT q)) := fun {q} hq => by
     obtain ⟨v, hv, ra, e, hra⟩ := paired_of hRB hq
     rw [e] at hv
     exact ⟨ra, hv, ID.fr _ _ hra fun m => nTB ra m _ hra⟩
   refine seq_mid (fun σ' H' => ∃ xh lb', Fr [bk] HD H' ∧ H' bk = some (.dK lb') ∧ lb'.length ≤ i + 1 ∧ HaS A c sh b h H' fv' ∧ FgR H' fv' (nmAt sh.flatten p) ∧ Hd wd due sh.flatten p x xh lb lb' ∧ σ' = [some (.ref sc), some (.ref lr), some (.ref lm), some (.ref h), some (.ref lk), some (.ref bk), some (.ref lh), some (.int (p : Nat)), some (.int cc), some (.str wd), some x, some (.str due), some (.int (p' : Nat)), some xh]) (fun σ' HE hh => ?_) (fun hk => ?_)
   · obtain ⟨xh, lb', FE, bkE, lbl, hsE, fgE, hHd, rfl⟩ := hh
     have nbt : NT HD [bk] := fun m hm ts e => by rw [List.mem_singleton.mp hm, ID.lk] at e; cases e
     refine ⟨_, rfl, _, rfl, _, rfl, ?_⟩
     refine asked_step T (E := E0) hsE fgE I.pre I.gb I.kb I.bl I.pa I.lr (by omega) hQ (hD.fr FE nbt) hHd fun HF fv2 a' b' F1 a1 a2 a3 a4 a5 a6 a7 a8 => ?_
     refine ⟨_, rfl, rfl, _, rfl, iteO (by rw [decide_eq_true rfl]; rfl) ?_⟩
     refine ⟨_, rfl, ?_⟩
     dsimp only [gName, List.set_cons_succ, List.set_cons_zero]
     have FX : Fr [h, c.bk, bk, lh] HB HF := (ID.fr.trans (FE.more fun m hm => by
       rw [List.mem_singleton.mp hm]; simp)).trans (F1.more fun m hm => by
       simp only [List.mem_cons, List.not_mem_nil, or_false] at hm ⊢
       rcases hm with e | e
       · exact .inl e
       · exact .inr (.inl e))
     have nbk1 : bk ∉ [h, c.bk] := fun e => by
       simp only [List.mem_cons, List.not_mem_nil, or_false] at e
       rcases e with e | e
       · rw [e, hsE.ha] at bkE; cases bkE
       · rw [e, hsE.bk] at bkE; cases bkE
     have bkF := F1 _ _ bkE nbk1
     have lhE : HE lh = some (.lst hs) := FE _ _ ID.hl (ni1 fun e => by
       have := ID.lk
       rw [← e, ID.hl] at this; cases this)
     have lhF : HF lh = some (.lst hs) := F1 _ _ lhE (fun e => by
       simp only [List.mem_cons, List.not_mem_nil, or_false] at e
       rcases e with e | e
       · rw [e, hsE.ha] at lhE; cases lhE
       · rw [e, hsE.bk] at lhE; cases lhE)
     have heE : HeldR HE lh hs := ID.he.fr FE (fun m hm => .inr ⟨fun ts e => (by rw [List.mem_singleton.mp hm, ID.lk] at e; cases e), fun ts e => by rw [List.mem_singleton.mp hm, ID.lk] at e; cases e⟩) ⟨_, ID.hl⟩
     have heF : HeldR HF lh hs := heE.fr F1 (fun m hm => .inr (by
       simp only [List.mem_cons, List.not_mem_nil, or_false] at hm
       rcases hm with rfl | rfl
       · exact ⟨fun ts e => (by rw [hsE.ha] at e; cases e), fun ts e => by rw [hsE.ha] at e; cases e⟩
       · exact ⟨fun ts e => (by rw [hsE.bk] at e; cases e), fun ts e => by rw [hsE.bk] at e; cases e⟩)) ⟨_, lhE⟩
     have s5F : Same H5 HF := fun y o hy => FX _ _ (s5B _ _ hy) (m5 hy)
     have p'n : p' ≤ sh.flatten.length := Nat.le_trans a8 a3.1
     obtain ⟨v1, hv1, hfv1⟩ := hKB p' p'n
     refine ⟨_, rfl, _, rfl, _, rfl, lk, _, _, _, rfl, rfl, SqL.of (FX _ _ hlkB mlk), zX hv1, c, h, fv2, v1, _, rfl, a1.ha, a2, hfv1.fr FX nTB, _, rfl, iteF ?_⟩
     refine ⟨_, rfl, _, rfl, _, rfl, _, rfl, _, _, rfl, rfl, ⟨by decide, by decide⟩, _, _, rfl, rfl, (by show (0 : Int) < 2; decide), _, rfl, ?_⟩
     have hin := I.hn
     refine ⟨H5, c, sh, b', h, fv2, a', lr, bk, lh, xs, lb', hs, _, hpaB, hbl, s5F, rfl, a1, hQ, a4, by omega, a3, a5, FX _ _ hlrB mlr, zL hRB (fun _ _ h => h.fr FX nTB), bkF, a6, lhF, by omega, heF, fun HG hs' FG g1 g2 g3 g4 => ?_⟩
     have nlT : NT HF [lh] := fun m hm ts e => by rw [List.mem_singleton.mp hm, lhF] at e; cases e
     refine ⟨_, rfl, iteF ⟨a', p', b', lb', hs', fv2, _, _, _, _, _, _, rfl, ?_⟩⟩
     exact ⟨FX.trans (FG.more fun m hm => by rw [List.mem_singleton.mp hm]; simp), g1, a2.fr FG nlT, a3, a4, a5, a7, a8, FG _ _ bkF (ni1 fun e => by rw [e, lhF] at bkF; cases bkF), a6, lbl, g2, by omega, g4⟩
   · have ill := I.ll
     have nope : ¬ (wd = Str.ofString "answer" ∧ due = z0) → _ := fun hn => hk _ _ ⟨x, lb, Fr.of (Same.refl _), ID.lk, by omega, ID.st, ID.fg, .inr ⟨hn, rfl, rfl⟩, rfl⟩
     refine ⟨_, rfl, rfl, _, rfl, ?_⟩
     by_cases e1 : wd = Str.ofString "answer"
     · refine iteY (decide_eq_true (congrArg V.str e1)) ?_
       refine ⟨_, rfl, rfl, _, rfl, ?_⟩
       by_cases e2 : due = z0
       · refine iteY (decide_eq_true (congrArg V.str e2)) ?_
         subst e1
         obtain ⟨q, v, hq, rfl, v1, v2⟩ : ∃ q v, sh.flatten[p]? = some q ∧ x = .int v ∧ q.2.1 ≤ v ∧ v ≤ q.2.2 := by
           rcases hD with ⟨_, h⟩ | ⟨z, _⟩ | ⟨z, _⟩ | ⟨z, _⟩
           · rcases h with ⟨_, _, z, _⟩ | ⟨q, v, h1, h2, h3, h4, _⟩
             · rw [e2] at z; exact absurd z (by symm)
             · exact ⟨q, v, h1, h2, h3, h4⟩
           · exact absurd z (by symm)
           · exact absurd z (by symm)
           · exact absurd z (by symm)
         have gq := hQ.2.1 q (List.mem_of_getElem? hq)
         have g3 := gq.2.2.1
         have g4 := gq.2.2.2
         have nv : v.natAbs < 10 ^ 60 := Nat.lt_of_le_of_lt (show v.natAbs ≤ 4 * 10 ^ 18 by omega) (by symm)
         obtain ⟨ra, hxp, hra⟩ := rows_at hq
         refine ⟨_, rfl, v, rfl, logOk (Nat.lt_trans nv (by symm)), ?_⟩
         rw [str_is]
         dsimp only [gName, List.set_cons_succ, List.set_cons_zero]
         refine ⟨_, rfl, _, rfl, _, rfl, _, rfl, lr, _, _, _, rfl, rfl, SqL.of (ID.fr _ _ hlrB mlr), zX hxp, ra, _, _, _, rfl, rfl, SqT.of hra, rfl, bk, _, rfl, DPut.k (k := .inr q.1) ID.lk (Nat.lt_of_lt_of_le (show lb.length < 1000 by omega) (by decide)), ?_⟩
         have := xC lb (.inr q.1 : Key) (.int v)
         exact hk _ _ ⟨_, _, (Fr.of (Same.refl _)).upd (List.mem_singleton.mpr rfl) _, zB, by omega, ID.st.updK ID.lk nkd, ID.fg.updK ID.lk, .inl ⟨rfl, e2, q, v, hq, v1, v2, rfl, rfl⟩, rfl⟩
       · exact iteN (decide_eq_false fun e => e2 (V.str.inj e)) (nope fun z => e2 z.2)
     · exact iteN (decide_eq_false fun e => e1 (V.str.inj e)) (iteF (nope fun z => e1 z.1))
 · obtain ⟨a, p, b, lb, hs, fv', u8, u9, u10, u11, u12, u13, rfl, I⟩ := hw
   refine ⟨_, rfl, lh, rfl, ⟨_, SqL.of I.hl⟩, ?_⟩
   refine comp_listF (xs := hs) (yB (m := 1000) (by have := I.hn; rw [List.length_map] at this; omega)) (fun i ys H2 => H' = H2 ∧ ys = []) ⟨rfl, rfl⟩ (fun i ys H2 hw => SqL.of (hw.1 ▸ I.hl)) (fun i x ys H2 hx hyl hw => ?_) (fun ys H2 hw p hp => ?_)
   · obtain ⟨rfl, rfl⟩ := hw
     obtain ⟨t, l1, l2, ts, rfl, h1, h2, h3, h4, _⟩ := I.he x (List.mem_of_getElem? hx)
     exact ⟨_, rfl, t, _, _, _, rfl, rfl, SqT.of h1, rfl, _, rfl, t, _, _, _, rfl, rfl, SqT.of h1, rfl, l1, l2, ts, rfl, rfl, SqL.of h2, SqL.of h3, h4, _, rfl, iteF ⟨rfl, rfl⟩⟩
   · obtain ⟨rfl, rfl⟩ := hw
     refine ⟨(by show 0 ≤ sizeLine; decide), fun l3 f3 => ⟨_, eqj_lists (n := 19) (e := fun _ => true) (SqL.of (zH f3 _ _ _ zB)) (SqL.of zB) rfl (fun j x y hx => by cases hx), k _⟩⟩
end
end K42
set_option maxHeartbeats 4000000
namespace K42
open PySem L2
abbrev lI (K : W.Frag) (f : Addr) (oc : Value) (od : Option Addr) (x y : Str) (st : Stmt) (dV kV dc pm : Value) (an : Option Addr) (cd ct : Value) (sl : Array (Option Value)) : Prop := K.lookup f = some ⟨oc, od, .func (W.fnOf x y (defArgs st) (defBody st) (defScope st) dV kV dc pm an cd ct), sl⟩
abbrev nI (K : W.Frag) (x : Str) (a : Addr) : Prop := W.nsIn K mainGlobals x = some (some (.ref a))
abbrev nN (K : W.Frag) (x : Str) : Prop := W.nsIn K mainGlobals x = some none
abbrev fI (K : W.Frag) (c : Addr) (x : Str) (a : Addr) : Prop := W.findIn K (.ref c) x = some (some (.ref a))
abbrev fN (K : W.Frag) (c : Addr) (x : Str) : Prop := W.findIn K (.ref c) x = some none
abbrev fB (K : W.Frag) (c : Addr) (x : Str) (b : String) : Prop := W.findIn K (.ref c) x = some (some (.builtin b))
abbrev cI (K : W.Frag) (c : Value) (x : Str) : Prop := W.codeIn K c x = true
abbrev eI (K : W.Frag) (f : Addr) : Prop := W.keepIn K (.ref f) = true
abbrev tI (K : W.Frag) (f : Addr) : Prop := W.isFn K (.ref f) = true
theorem txt_mk {K : W.Frag} {h : Heap} {mg : Str → Option Value} (X : K.In h) (G : h.Ns mainGlobals mg)
{f0 f1 f2 f3 dT3 f4 f5 f6 f7 f8 f9 f10 f11 dT11 f12 f13 f14 f15 f16 f17 f18 f19 f20 f21 f22 f23 f24 f25 f26 f27 f28 f29 f30 f31 f32 f33 f34 f35 f36 f37 f38 dT38 f39 f40 f41 f42 f43 f44 f45 f46 f47 f48 f49 f50 f51 f52 f53 f54 f55 k_Ask k_AskError k_Going k_Hand k_Kind k_NoAnswer k_NoNumber k_NotCome k_NotYet k_Nowhere k_Paper k_Row k_Sheet k_Straight k_Whole : Addr} {od0 an0 od1 an1 od2 an2 od3 an3 dD3 od4 an4 od5 an5 od6 an6 od7 an7 od8 an8 od9 an9 od10 an10 od11 an11 dD11 od12 an12 od13 an13 od14 an14 od15 an15 od16 an16 od17 an17 od18 an18 od19 an19 od20 an20 od21 an21 od22 an22 od23 an23 od24 an24 od25 an25 od26 an26 od27 an27 od28 an28 od29 an29 od30 an30 od31 an31 od32 an32 od33 an33 od34 an34 od35 an35 od36 an36 od37 an37 od38 an38 dD38 od39 an39 od40 an40 od41 an41 od42 an42 od43 an43 od44 an44 od45 an45 od46 an46 od47 an47 od48 an48 od49 an49 od50 an50 od51 an51 od52 an52 od53 an53 od54 an54 od55 an55 : Option Addr} {sl0 sl1 sl2 sl3 dS3 sl4 sl5 sl6 sl7 sl8 sl9 sl10 sl11 dS11 sl12 sl13 sl14 sl15 sl16 sl17 sl18 sl19 sl20 sl21 sl22 sl23 sl24 sl25 sl26 sl27 sl28 sl29 sl30 sl31 sl32 sl33 sl34 sl35 sl36 sl37 sl38 dS38 sl39 sl40 sl41 sl42 sl43 sl44 sl45 sl46 sl47 sl48 sl49 sl50 sl51 sl52 sl53 sl54 sl55 : Array (Option Value)} {oc0 kV0 dc0 pm0 cd0 ct0 oc1 kV1 dc1 pm1 cd1 ct1 oc2 kV2 dc2 pm2 cd2 ct2 oc3 kV3 dc3 pm3 cd3 ct3 oc4 kV4 dc4 pm4 cd4 ct4 oc5 kV5 dc5 pm5 cd5 ct5 oc6 kV6 dc6 pm6 cd6 ct6 oc7 kV7 dc7 pm7 cd7 ct7 oc8 kV8 dc8 pm8 cd8 ct8 oc9 kV9 dc9 pm9 cd9 ct9 oc10 kV10 dc10 pm10 cd10 ct10 oc11 kV11 dc11 pm11 cd11 ct11 oc12 kV12 dc12 pm12 cd12 ct12 oc13 kV13 dc13 pm13 cd13 ct13 oc14 kV14 dc14 pm14 cd14 ct14 oc15 kV15 dc15 pm15 cd15 ct15 oc16 kV16 dc16 pm16 cd16 ct16 oc17 kV17 dc17 pm17 cd17 ct17 oc18 kV18 dc18 pm18 cd18 ct18 oc19 kV19 dc19 pm19 cd19 ct19 oc20 kV20 dc20 pm20 cd20 ct20 oc21 kV21 dc21 pm21 cd21 ct21 oc22 kV22 dc22 pm22 cd22 ct22 oc23 kV23 dc23 pm23 cd23 ct23 oc24 kV24 dc24 pm24 cd24 ct24 oc25 kV25 dc25 pm25 cd25 ct25 oc26 kV26 dc26 pm26 cd26 ct26 oc27 kV27 dc27 pm27 cd27 ct27 oc28 kV28 dc28 pm28 cd28 ct28 oc29 kV29 dc29 pm29 cd29 ct29 oc30 kV30 dc30 pm30 cd30 ct30 oc31 kV31 dc31 pm31 cd31 ct31 oc32 kV32 dc32 pm32 cd32 ct32 oc33 kV33 dc33 pm33 cd33 ct33 oc34 kV34 dc34 pm34 cd34 ct34 oc35 kV35 dc35 pm35 cd35 ct35 oc36 kV36 dc36 pm36 cd36 ct36 oc37 kV37 dc37 pm37 cd37 ct37 oc38 kV38 dc38 pm38 cd38 ct38 oc39 kV39 dc39 pm39 cd39 ct39 oc40 kV40 dc40 pm40 cd40 ct40 oc41 kV41 dc41 pm41 cd41 ct41 oc42 kV42 dc42 pm42 cd42 ct42 oc43 kV43 dc43 pm43 cd43 ct43 oc44 kV44 dc44 pm44 cd44 ct44 oc45 kV45 dc45 pm45 cd45 ct45 oc46 kV46 dc46 pm46 cd46 ct46 oc47 kV47 dc47 pm47 cd47 ct47 oc48 kV48 dc48 pm48 cd48 ct48 oc49 kV49 dc49 pm49 cd49 ct49 oc50 kV50 dc50 pm50 cd50 ct50 oc51 kV51 dc51 pm51 cd51 ct51 oc52 kV52 dc52 pm52 cd52 ct52 oc53 kV53 dc53 pm53 cd53 ct53 oc54 kV54 dc54 pm54 cd54 ct54 oc55 kV55 dc55 pm55 cd55 ct55 : Value} {dN3 dN11 dN38 : Nat} {dt3_0 dt38_0 gt0 : Tok} {kd_AskError kd_NoAnswer kd_NoNumber kd_NotCome kd_NotYet kd_Nowhere : ClassData}
 (h6q : nI K "Ask" k_Ask)
 (h6r : nI K "AskError" k_AskError)
 (h6s : nI K "Going" k_Going)
 (h6t : nI K "Hand" k_Hand)
 (h6u : nI K "Kind" k_Kind)
 (h6v : nI K "NoAnswer" k_NoAnswer)
 (h6w : nI K "NoNumber" k_NoNumber)
 (h6x : nI K "NotCome" k_NotCome)
 (h6y : nI K "NotYet" k_NotYet)
 (h6z : nI K "Nowhere" k_Nowhere)
 (h70 : nI K "Paper" k_Paper)
 (h71 : nI K "Row" k_Row)
 (h72 : nI K "Sheet" k_Sheet)
 (h73 : nI K "Straight" k_Straight)
 (h74 : nI K "Whole" k_Whole)
 (h00 : nI K "is_whole" f0)
 (h01 : lI K f0 oc0 od0 "is_whole" "is_whole" s_is_whole .none kV0 dc0 pm0 an0 cd0 ct0 sl0)
 (h02 : cI K cd0 "is_whole")
 (h03 : eI K f0)
 (h04 : nI K "are_figures" f1)
 (h05 : lI K f1 oc1 od1 "are_figures" "are_figures" s_are_figures .none kV1 dc1 pm1 an1 cd1 ct1 sl1)
 (h06 : cI K cd1 "are_figures")
 (h07 : eI K f1)
 (h08 : nI K "figures_worth" f2)
 (h09 : lI K f2 oc2 od2 "figures_worth" "figures_worth" s_figures_worth .none kV2 dc2 pm2 an2 cd2 ct2 sl2)
 (h0a : cI K cd2 "figures_worth")
 (h0b : eI K f2)
 (h0c : nI K "number_of" f3)
 (h0d : lI K f3 oc3 od3 "number_of" "number_of" s_number_of (.ref dT3) kV3 dc3 pm3 an3 cd3 ct3 sl3)
 (h0e : cI K cd3 "number_of")
 (h0f : eI K f3)
 (h0g : K.lookup dT3 = some ⟨.type "tuple", dD3, .seq ([(.int 60 dt3_0)] : List Value).toArray dN3, dS3⟩)
 (h0h : nI K "number_or_none" f4)
 (h0i : lI K f4 oc4 od4 "number_or_none" "number_or_none" s_number_or_none .none kV4 dc4 pm4 an4 cd4 ct4 sl4)
 (h0j : cI K cd4 "number_or_none")
 (h0k : eI K f4)
 (h0l : fI K k_Kind "__init__" f5)
 (h0m : lI K f5 oc5 od5 "__init__" "Kind.__init__" s_c_Kind___init .none kV5 dc5 pm5 an5 cd5 ct5 sl5)
 (h0n : cI K cd5 "Kind.__init__")
 (h0o : eI K f5)
 (h0p : fI K k_Kind "read" f6)
 (h0q : lI K f6 oc6 od6 "read" "Kind.read" s_c_Kind_read .none kV6 dc6 pm6 an6 cd6 ct6 sl6)
 (h0r : cI K cd6 "Kind.read")
 (h0s : eI K f6)
 (h0t : fI K k_Whole "fits" f7)
 (h0u : lI K f7 oc7 od7 "fits" "Whole.fits" s_c_Whole_fits .none kV7 dc7 pm7 an7 cd7 ct7 sl7)
 (h0v : cI K cd7 "Whole.fits")
 (h0w : eI K f7)
 (h0x : fI K k_Whole "answer_of" f8)
 (h0y : lI K f8 oc8 od8 "answer_of" "Whole.answer_of" s_c_Whole_answer_of .none kV8 dc8 pm8 an8 cd8 ct8 sl8)
 (h0z : cI K cd8 "Whole.answer_of")
 (h10 : eI K f8)
 (h11 : fI K k_Whole "rank" f9)
 (h12 : lI K f9 oc9 od9 "rank" "Whole.rank" s_c_Whole_rank .none kV9 dc9 pm9 an9 cd9 ct9 sl9)
 (h13 : cI K cd9 "Whole.rank")
 (h14 : eI K f9)
 (h15 : fI K k_Row "__init__" f10)
 (h16 : lI K f10 oc10 od10 "__init__" "Row.__init__" s_c_Row___init .none kV10 dc10 pm10 an10 cd10 ct10 sl10)
 (h17 : cI K cd10 "Row.__init__")
 (h18 : eI K f10)
 (h19 : fI K k_Ask "__init__" f11)
 (h1a : lI K f11 oc11 od11 "__init__" "Ask.__init__" s_c_Ask___init (.ref dT11) kV11 dc11 pm11 an11 cd11 ct11 sl11)
 (h1b : cI K cd11 "Ask.__init__")
 (h1c : eI K f11)
 (h1d : K.lookup dT11 = some ⟨.type "tuple", dD11, .seq ([.none] : List Value).toArray dN11, dS11⟩)
 (h1e : fI K k_Sheet "__init__" f12)
 (h1f : lI K f12 oc12 od12 "__init__" "Sheet.__init__" s_c_Sheet___init .none kV12 dc12 pm12 an12 cd12 ct12 sl12)
 (h1g : cI K cd12 "Sheet.__init__")
 (h1h : eI K f12)
 (h1i : fI K k_Paper "__init__" f13)
 (h1j : lI K f13 oc13 od13 "__init__" "Paper.__init__" s_c_Paper___init .none kV13 dc13 pm13 an13 cd13 ct13 sl13)
 (h1k : cI K cd13 "Paper.__init__")
 (h1l : eI K f13)
 (h1m : nI K "kinds_of" f14)
 (h1n : lI K f14 oc14 od14 "kinds_of" "kinds_of" s_kinds_of .none kV14 dc14 pm14 an14 cd14 ct14 sl14)
 (h1o : cI K cd14 "kinds_of")
 (h1p : eI K f14)
 (h1q : nI K "eaches_of" f15)
 (h1r : lI K f15 oc15 od15 "eaches_of" "eaches_of" s_eaches_of .none kV15 dc15 pm15 an15 cd15 ct15 sl15)
 (h1s : cI K cd15 "eaches_of")
 (h1t : eI K f15)
 (h1u : nI K "all_together" f16)
 (h1v : lI K f16 oc16 od16 "all_together" "all_together" s_all_together .none kV16 dc16 pm16 an16 cd16 ct16 sl16)
 (h1w : cI K cd16 "all_together")
 (h1x : eI K f16)
 (h1y : fI K k_Going "__init__" f17)
 (h1z : lI K f17 oc17 od17 "__init__" "Going.__init__" s_c_Going___init .none kV17 dc17 pm17 an17 cd17 ct17 sl17)
 (h20 : cI K cd17 "Going.__init__")
 (h21 : eI K f17)
 (h22 : fI K k_Going "note" f18)
 (h23 : lI K f18 oc18 od18 "note" "Going.note" s_c_Going_note .none kV18 dc18 pm18 an18 cd18 ct18 sl18)
 (h24 : cI K cd18 "Going.note")
 (h25 : eI K f18)
 (h26 : fI K k_Going "stop_with" f19)
 (h27 : lI K f19 oc19 od19 "stop_with" "Going.stop_with" s_c_Going_stop_with .none kV19 dc19 pm19 an19 cd19 ct19 sl19)
 (h28 : cI K cd19 "Going.stop_with")
 (h29 : eI K f19)
 (h2a : fI K k_Going "go_through" f20)
 (h2b : lI K f20 oc20 od20 "go_through" "Going.go_through" s_c_Going_go_through .none kV20 dc20 pm20 an20 cd20 ct20 sl20)
 (h2c : cI K cd20 "Going.go_through")
 (h2d : eI K f20)
 (h2e : fI K k_Going "targets_of" f21)
 (h2f : lI K f21 oc21 od21 "targets_of" "Going.targets_of" s_c_Going_targets_of .none kV21 dc21 pm21 an21 cd21 ct21 sl21)
 (h2g : cI K cd21 "Going.targets_of")
 (h2h : eI K f21)
 (h2i : fI K k_Going "leave" f22)
 (h2j : lI K f22 oc22 od22 "leave" "Going.leave" s_c_Going_leave .none kV22 dc22 pm22 an22 cd22 ct22 sl22)
 (h2k : cI K cd22 "Going.leave")
 (h2l : eI K f22)
 (h2m : fI K k_Going "go" f23)
 (h2n : lI K f23 oc23 od23 "go" "Going.go" s_c_Going_go .none kV23 dc23 pm23 an23 cd23 ct23 sl23)
 (h2o : cI K cd23 "Going.go")
 (h2p : eI K f23)
 (h2q : fI K k_Straight "__init__" f24)
 (h2r : lI K f24 oc24 od24 "__init__" "Straight.__init__" s_c_Straight___init .none kV24 dc24 pm24 an24 cd24 ct24 sl24)
 (h2s : cI K cd24 "Straight.__init__")
 (h2t : eI K f24)
 (h2u : fI K k_Straight "things_of" f25)
 (h2v : lI K f25 oc25 od25 "things_of" "Straight.things_of" s_c_Straight_things_of .none kV25 dc25 pm25 an25 cd25 ct25 sl25)
 (h2w : cI K cd25 "Straight.things_of")
 (h2x : eI K f25)
 (h2y : fI K k_Straight "put" f26)
 (h2z : lI K f26 oc26 od26 "put" "Straight.put" s_c_Straight_put .none kV26 dc26 pm26 an26 cd26 ct26 sl26)
 (h30 : cI K cd26 "Straight.put")
 (h31 : eI K f26)
 (h32 : fI K k_Straight "is_so" f27)
 (h33 : lI K f27 oc27 od27 "is_so" "Straight.is_so" s_c_Straight_is_so .none kV27 dc27 pm27 an27 cd27 ct27 sl27)
 (h34 : cI K cd27 "Straight.is_so")
 (h35 : eI K f27)
 (h36 : nI K "straight" f28)
 (h37 : lI K f28 oc28 od28 "straight" "straight" s_straight .none kV28 dc28 pm28 an28 cd28 ct28 sl28)
 (h38 : cI K cd28 "straight")
 (h39 : eI K f28)
 (h3a : fI K k_Hand "__init__" f29)
 (h3b : lI K f29 oc29 od29 "__init__" "Hand.__init__" s_c_Hand___init .none kV29 dc29 pm29 an29 cd29 ct29 sl29)
 (h3c : cI K cd29 "Hand.__init__")
 (h3d : eI K f29)
 (h3e : fI K k_Hand "log_now" f30)
 (h3f : lI K f30 oc30 od30 "log_now" "Hand.log_now" s_c_Hand_log_now .none kV30 dc30 pm30 an30 cd30 ct30 sl30)
 (h3g : cI K cd30 "Hand.log_now")
 (h3h : eI K f30)
 (h3i : fI K k_Hand "places" f31)
 (h3j : lI K f31 oc31 od31 "places" "Hand.places" s_c_Hand_places .none kV31 dc31 pm31 an31 cd31 ct31 sl31)
 (h3k : cI K cd31 "Hand.places")
 (h3l : eI K f31)
 (h3m : fI K k_Hand "put_behind" f32)
 (h3n : lI K f32 oc32 od32 "put_behind" "Hand.put_behind" s_c_Hand_put_behind .none kV32 dc32 pm32 an32 cd32 ct32 sl32)
 (h3o : cI K cd32 "Hand.put_behind")
 (h3p : eI K f32)
 (h3q : fI K k_Hand "demand_finger" f33)
 (h3r : lI K f33 oc33 od33 "demand_finger" "Hand.demand_finger" s_c_Hand_demand_finger .none kV33 dc33 pm33 an33 cd33 ct33 sl33)
 (h3s : cI K cd33 "Hand.demand_finger")
 (h3t : eI K f33)
 (h3u : fI K k_Hand "at" f34)
 (h3v : lI K f34 oc34 od34 "at" "Hand.at" s_c_Hand_at .none kV34 dc34 pm34 an34 cd34 ct34 sl34)
 (h3w : cI K cd34 "Hand.at")
 (h3x : eI K f34)
 (h3y : fI K k_Hand "answer" f35)
 (h3z : lI K f35 oc35 od35 "answer" "Hand.answer" s_c_Hand_answer .none kV35 dc35 pm35 an35 cd35 ct35 sl35)
 (h40 : cI K cd35 "Hand.answer")
 (h41 : eI K f35)
 (h42 : fI K k_Hand "on" f36)
 (h43 : lI K f36 oc36 od36 "on" "Hand.on" s_c_Hand_on .none kV36 dc36 pm36 an36 cd36 ct36 sl36)
 (h44 : cI K cd36 "Hand.on")
 (h45 : eI K f36)
 (h46 : fI K k_Hand "back" f37)
 (h47 : lI K f37 oc37 od37 "back" "Hand.back" s_c_Hand_back .none kV37 dc37 pm37 an37 cd37 ct37 sl37)
 (h48 : cI K cd37 "Hand.back")
 (h49 : eI K f37)
 (h4a : fI K k_Hand "jump" f38)
 (h4b : lI K f38 oc38 od38 "jump" "Hand.jump" s_c_Hand_jump (.ref dT38) kV38 dc38 pm38 an38 cd38 ct38 sl38)
 (h4c : cI K cd38 "Hand.jump")
 (h4d : eI K f38)
 (h4e : K.lookup dT38 = some ⟨.type "tuple", dD38, .seq ([(.str "" dt38_0)] : List Value).toArray dN38, dS38⟩)
 (h4f : fI K k_Hand "counts" f39)
 (h4g : lI K f39 oc39 od39 "counts" "Hand.counts" s_c_Hand_counts .none kV39 dc39 pm39 an39 cd39 ct39 sl39)
 (h4h : cI K cd39 "Hand.counts")
 (h4i : eI K f39)
 (h4j : fI K k_Hand "aside" f40)
 (h4k : lI K f40 oc40 od40 "aside" "Hand.aside" s_c_Hand_aside .none kV40 dc40 pm40 an40 cd40 ct40 sl40)
 (h4l : cI K cd40 "Hand.aside")
 (h4m : eI K f40)
 (h4n : fI K k_Hand "state" f41)
 (h4o : lI K f41 oc41 od41 "state" "Hand.state" s_c_Hand_state .none kV41 dc41 pm41 an41 cd41 ct41 sl41)
 (h4p : cI K cd41 "Hand.state")
 (h4q : eI K f41)
 (h4r : nI K "_law_cell_at" f42)
 (h4s : lI K f42 oc42 od42 "_law_cell_at" "_law_cell_at" s_law_cell_at .none kV42 dc42 pm42 an42 cd42 ct42 sl42)
 (h4t : cI K cd42 "_law_cell_at")
 (h4u : eI K f42)
 (h4v : nI K "_law_mixed" f43)
 (h4w : lI K f43 oc43 od43 "_law_mixed" "_law_mixed" s_law_mixed .none kV43 dc43 pm43 an43 cd43 ct43 sl43)
 (h4x : cI K cd43 "_law_mixed")
 (h4y : eI K f43)
 (h4z : nI K "_law_open" f44)
 (h50 : lI K f44 oc44 od44 "_law_open" "_law_open" s_law_open .none kV44 dc44 pm44 an44 cd44 ct44 sl44)
 (h51 : cI K cd44 "_law_open")
 (h52 : eI K f44)
 (h53 : nI K "_law_name" f45)
 (h54 : lI K f45 oc45 od45 "_law_name" "_law_name" s_law_name .none kV45 dc45 pm45 an45 cd45 ct45 sl45)
 (h55 : cI K cd45 "_law_name")
 (h56 : eI K f45)
 (h57 : nI K "_law_names" f46)
 (h58 : lI K f46 oc46 od46 "_law_names" "_law_names" s_law_names .none kV46 dc46 pm46 an46 cd46 ct46 sl46)
 (h59 : cI K cd46 "_law_names")
 (h5a : eI K f46)
 (h5b : nI K "_law_questions" f47)
 (h5c : lI K f47 oc47 od47 "_law_questions" "_law_questions" s_law_questions .none kV47 dc47 pm47 an47 cd47 ct47 sl47)
 (h5d : cI K cd47 "_law_questions")
 (h5e : eI K f47)
 (h5f : nI K "_law_class" f48)
 (h5g : lI K f48 oc48 od48 "_law_class" "_law_class" s_law_class .none kV48 dc48 pm48 an48 cd48 ct48 sl48)
 (h5h : cI K cd48 "_law_class")
 (h5i : eI K f48)
 (h5j : nI K "_law_asked" f49)
 (h5k : lI K f49 oc49 od49 "_law_asked" "_law_asked" s_law_asked .none kV49 dc49 pm49 an49 cd49 ct49 sl49)
 (h5l : cI K cd49 "_law_asked")
 (h5m : eI K f49)
 (h5n : nI K "_law_at_fits" f50)
 (h5o : lI K f50 oc50 od50 "_law_at_fits" "_law_at_fits" s_law_at_fits .none kV50 dc50 pm50 an50 cd50 ct50 sl50)
 (h5p : cI K cd50 "_law_at_fits")
 (h5q : eI K f50)
 (h5r : nI K "_law_first_open" f51)
 (h5s : lI K f51 oc51 od51 "_law_first_open" "_law_first_open" s_law_first_open .none kV51 dc51 pm51 an51 cd51 ct51 sl51)
 (h5t : cI K cd51 "_law_first_open")
 (h5u : eI K f51)
 (h5v : nI K "_law_deed" f52)
 (h5w : lI K f52 oc52 od52 "_law_deed" "_law_deed" s_law_deed .none kV52 dc52 pm52 an52 cd52 ct52 sl52)
 (h5x : cI K cd52 "_law_deed")
 (h5y : eI K f52)
 (h5z : nI K "_law_counts_fit" f53)
 (h60 : lI K f53 oc53 od53 "_law_counts_fit" "_law_counts_fit" s_law_counts_fit .none kV53 dc53 pm53 an53 cd53 ct53 sl53)
 (h61 : cI K cd53 "_law_counts_fit")
 (h62 : eI K f53)
 (h63 : nI K "_law_look" f54)
 (h64 : lI K f54 oc54 od54 "_law_look" "_law_look" s_law_look .none kV54 dc54 pm54 an54 cd54 ct54 sl54)
 (h65 : cI K cd54 "_law_look")
 (h66 : eI K f54)
 (h67 : nI K "law" f55)
 (h68 : lI K f55 oc55 od55 "law" "law" s_law .none kV55 dc55 pm55 an55 cd55 ct55 sl55)
 (h69 : cI K cd55 "law")
 (h6a : eI K f55)
 (h6b : W.nsIn K mainGlobals "FIGURES" = some (some (.str "0123456789" gt0)))
 (h6c : nN K "ValueError")
 (h6d : nN K "all")
 (h6e : nN K "bool")
 (h6f : nN K "dict")
 (h6g : nN K "enumerate")
 (h6h : nN K "int")
 (h6i : nN K "isinstance")
 (h6j : nN K "len")
 (h6k : nN K "list")
 (h6l : nN K "max")
 (h6m : nN K "range")
 (h6n : nN K "sorted")
 (h6o : nN K "str")
 (h6p : nN K "tuple")
 (h75 : W.clsIn K k_AskError = some kd_AskError)
 (h76 : W.typeIn K (.ref k_AskError) = some (.type "type"))
 (h77 : W.clsIn K k_NoAnswer = some kd_NoAnswer)
 (h78 : W.typeIn K (.ref k_NoAnswer) = some (.type "type"))
 (h79 : W.clsIn K k_NoNumber = some kd_NoNumber)
 (h7a : W.typeIn K (.ref k_NoNumber) = some (.type "type"))
 (h7b : W.clsIn K k_NotCome = some kd_NotCome)
 (h7c : W.typeIn K (.ref k_NotCome) = some (.type "type"))
 (h7d : W.clsIn K k_NotYet = some kd_NotYet)
 (h7e : W.typeIn K (.ref k_NotYet) = some (.type "type"))
 (h7f : W.clsIn K k_Nowhere = some kd_Nowhere)
 (h7g : W.typeIn K (.ref k_Nowhere) = some (.type "type"))
 (h7h : W.excIn K k_NoAnswer mroVE "ValueError.__new__" = true)
 (h7i : fB K k_NoAnswer "__getattribute__" "BaseException.__getattribute__")
 (h7j : fN K k_NoAnswer "__getattr__")
 (h7k : fB K k_NoAnswer "__class__" "object.__class__")
 (h7l : W.specialIn K (.builtin "object.__class__") "__get__" = some (some (.builtin "getset_descriptor.__get__")))
 (h7m : W.takesIn K (.builtin "object.__class__") = some true)
 (h7n : W.mroIn K k_NoAnswer (.type "object") = some true)
 (h7o : W.mroIn K k_NoAnswer (.type "BaseException") = some true)
 (h7p : W.excIn K k_NoNumber mroVE "ValueError.__new__" = true)
 (h7q : W.excIn K k_NotCome mroVE "ValueError.__new__" = true)
 (h7r : fB K k_NotCome "__getattribute__" "BaseException.__getattribute__")
 (h7s : fN K k_NotCome "__getattr__")
 (h7t : fB K k_NotCome "__class__" "object.__class__")
 (h7w : W.mroIn K k_NotCome (.type "object") = some true)
 (h7x : W.mroIn K k_NotCome (.type "BaseException") = some true)
 (h7y : W.excIn K k_NotYet mroVE "ValueError.__new__" = true)
 (h7z : fB K k_NotYet "__getattribute__" "BaseException.__getattribute__")
 (h80 : fN K k_NotYet "__getattr__")
 (h81 : fB K k_NotYet "__class__" "object.__class__")
 (h84 : W.mroIn K k_NotYet (.type "object") = some true)
 (h85 : W.mroIn K k_NotYet (.type "BaseException") = some true)
 (h86 : W.excIn K k_Nowhere mroVE "ValueError.__new__" = true)
 (h87 : fB K k_Nowhere "__getattribute__" "BaseException.__getattribute__")
 (h88 : fN K k_Nowhere "__getattr__")
 (h89 : fB K k_Nowhere "__class__" "object.__class__")
 (h8c : W.mroIn K k_Nowhere (.type "object") = some true)
 (h8d : W.mroIn K k_Nowhere (.type "BaseException") = some true)
 (h8e : W.subIn K (.ref k_NoNumber) (.type "BaseException") = some true)
 (h8f : W.mroIn K k_NoNumber (.ref k_NoNumber) = some true)
 (h8g : W.subIn K (.ref k_AskError) (.type "BaseException") = some true)
 (h8h : W.mroIn K k_Nowhere (.ref k_AskError) = some true)
 (h8j : W.mroIn K k_NotYet (.ref k_AskError) = some true)
 (h8l : W.mroIn K k_NotCome (.ref k_AskError) = some true)
 (h8n : W.mroIn K k_NoAnswer (.ref k_AskError) = some true)
 (h8o : W.mroIn K k_Nowhere (.ref k_NotYet) = some false)
 (h8p : (Value.ref k_Nowhere == Value.ref k_NotYet) = false)
 (h8q : W.mroIn K k_Nowhere (.ref k_NotCome) = some false)
 (h8r : (Value.ref k_Nowhere == Value.ref k_NotCome) = false)
 (h8s : W.mroIn K k_Nowhere (.ref k_NoAnswer) = some false)
 (h8t : (Value.ref k_Nowhere == Value.ref k_NoAnswer) = false)
 (h8u : W.mroIn K k_NotYet (.ref k_Nowhere) = some false)
 (h8v : (Value.ref k_NotYet == Value.ref k_Nowhere) = false)
 (h8w : W.mroIn K k_NotYet (.ref k_NotCome) = some false)
 (h8x : (Value.ref k_NotYet == Value.ref k_NotCome) = false)
 (h8y : W.mroIn K k_NotYet (.ref k_NoAnswer) = some false)
 (h8z : (Value.ref k_NotYet == Value.ref k_NoAnswer) = false)
 (h90 : W.mroIn K k_NotCome (.ref k_Nowhere) = some false)
 (h91 : (Value.ref k_NotCome == Value.ref k_Nowhere) = false)
 (h92 : W.mroIn K k_NotCome (.ref k_NotYet) = some false)
 (h93 : (Value.ref k_NotCome == Value.ref k_NotYet) = false)
 (h94 : W.mroIn K k_NotCome (.ref k_NoAnswer) = some false)
 (h95 : (Value.ref k_NotCome == Value.ref k_NoAnswer) = false)
 (h96 : W.mroIn K k_NoAnswer (.ref k_Nowhere) = some false)
 (h97 : (Value.ref k_NoAnswer == Value.ref k_Nowhere) = false)
 (h98 : W.mroIn K k_NoAnswer (.ref k_NotYet) = some false)
 (h99 : (Value.ref k_NoAnswer == Value.ref k_NotYet) = false)
 (h9a : W.mroIn K k_NoAnswer (.ref k_NotCome) = some false)
 (h9b : (Value.ref k_NoAnswer == Value.ref k_NotCome) = false)
 (h9c : W.mroIn K k_Nowhere (.type "ValueError") = some true)
 (h9d : W.mroIn K k_NotYet (.type "ValueError") = some true)
 (h9e : W.mroIn K k_NotCome (.type "ValueError") = some true)
 (h9f : W.mroIn K k_NoAnswer (.type "ValueError") = some true)
 (h9g : W.plainGet K k_Whole Str.empty = true)
 (h9h : W.hasDictIn K k_Whole = true)
 (h9i : W.plainOver K k_Whole = true)
 (h9j : fB K k_Whole "__setattr__" "object.__setattr__")
 (h9k : W.makesIn K k_Whole = true)
 (h9l : fI K k_Whole "__init__" f5)
 (h9m : tI K f5)
 (h9n : eI K k_Whole)
 (h9p : tI K f7)
 (h9r : tI K f8)
 (h9s : fI K k_Whole "read" f6)
 (h9t : tI K f6)
 (h9v : tI K f9)
 (h9w : fN K k_Whole "low")
 (h9x : fN K k_Whole "high")
 (h9y : W.plainGet K k_Ask Str.empty = true)
 (h9z : W.hasDictIn K k_Ask = true)
 (ha0 : W.plainOver K k_Ask = true)
 (ha1 : fB K k_Ask "__setattr__" "object.__setattr__")
 (ha2 : fB K k_Ask "__class__" "object.__class__")
 (ha5 : W.mroIn K k_Ask (.type "object") = some true)
 (ha6 : W.makesIn K k_Ask = true)
 (ha8 : tI K f11)
 (ha9 : eI K k_Ask)
 (haa : fN K k_Ask "name")
 (hab : fN K k_Ask "kind")
 (hac : fN K k_Ask "when")
 (had : W.plainGet K k_Sheet Str.empty = true)
 (hae : W.hasDictIn K k_Sheet = true)
 (haf : W.plainOver K k_Sheet = true)
 (hag : fB K k_Sheet "__setattr__" "object.__setattr__")
 (hah : W.makesIn K k_Sheet = true)
 (haj : tI K f12)
 (hak : eI K k_Sheet)
 (hal : fN K k_Sheet "name")
 (ham : fN K k_Sheet "each")
 (han : fN K k_Sheet "rows")
 (hao : fN K k_Sheet "ways")
 (hap : W.plainGet K k_Paper Str.empty = true)
 (haq : W.hasDictIn K k_Paper = true)
 (har : W.plainOver K k_Paper = true)
 (has : fB K k_Paper "__setattr__" "object.__setattr__")
 (hat : W.makesIn K k_Paper = true)
 (hav : tI K f13)
 (haw : eI K k_Paper)
 (hax : fN K k_Paper "name")
 (hay : fN K k_Paper "sheets")
 (haz : fN K k_Paper "totals")
 (hb0 : W.plainGet K k_Straight Str.empty = true)
 (hb1 : W.hasDictIn K k_Straight = true)
 (hb2 : W.plainOver K k_Straight = true)
 (hb3 : fB K k_Straight "__setattr__" "object.__setattr__")
 (hb4 : W.makesIn K k_Straight = true)
 (hb6 : tI K f24)
 (hb7 : eI K k_Straight)
 (hb9 : tI K f25)
 (hbb : tI K f26)
 (hbd : tI K f27)
 (hbe : fI K k_Straight "note" f18)
 (hbf : tI K f18)
 (hbg : fI K k_Straight "stop_with" f19)
 (hbh : tI K f19)
 (hbi : fI K k_Straight "go_through" f20)
 (hbj : tI K f20)
 (hbk : fI K k_Straight "targets_of" f21)
 (hbl : tI K f21)
 (hbm : fI K k_Straight "leave" f22)
 (hbn : tI K f22)
 (hbo : fI K k_Straight "go" f23)
 (hbp : tI K f23)
 (hbq : fN K k_Straight "paper")
 (hbr : fN K k_Straight "alone")
 (hbs : fN K k_Straight "kinds")
 (hbt : fN K k_Straight "eaches")
 (hbu : fN K k_Straight "together")
 (hbv : fN K k_Straight "asked")
 (hbw : fN K k_Straight "log")
 (hbx : fN K k_Straight "doubles")
 (hby : fN K k_Straight "over")
 (hbz : fN K k_Straight "book")
 (hc0 : W.plainGet K k_Hand Str.empty = true)
 (hc1 : W.hasDictIn K k_Hand = true)
 (hc2 : W.plainOver K k_Hand = true)
 (hc3 : fB K k_Hand "__setattr__" "object.__setattr__")
 (hc4 : W.makesIn K k_Hand = true)
 (hc6 : tI K f29)
 (hc7 : eI K k_Hand)
 (hc9 : tI K f31)
 (hcb : tI K f30)
 (hcd : tI K f32)
 (hcf : tI K f33)
 (hch : tI K f34)
 (hcj : tI K f35)
 (hcl : tI K f36)
 (hcn : tI K f37)
 (hcp : tI K f41)
 (hcr : tI K f38)
 (hct : tI K f39)
 (hcv : tI K f40)
 (hcw : fN K k_Hand "paper")
 (hcx : fN K k_Hand "kinds")
 (hcy : fN K k_Hand "book")
 (hcz : fN K k_Hand "finger")
 (hd0 : W.readsIn K k_Going (.type "type") = true)
 (hd1 : W.findCls K (.ref k_Going) (.type "type") "__init__" = some (.val (.ref f17)))
 (hd2 : W.specialIn K (.ref k_Going) "__getattribute__" = some (some (.builtin "type.__getattribute__")))
 (hd3 : W.readsIn K k_Row (.type "type") = true)
 (hd4 : W.findCls K (.ref k_Row) (.type "type") "__init__" = some (.val (.ref f10)))
 (hd5 : W.specialIn K (.ref k_Row) "__getattribute__" = some (some (.builtin "type.__getattribute__"))) :
 ∃ A : Adr, Txt K mg A :=
 ⟨⟨f0,
   W.fnOf "is_whole" "is_whole" (defArgs s_is_whole) (defBody s_is_whole) (defScope s_is_whole) .none kV0 dc0 pm0 an0 cd0 ct0,
   f1,
   W.fnOf "are_figures" "are_figures" (defArgs s_are_figures) (defBody s_are_figures) (defScope s_are_figures) .none kV1 dc1 pm1 an1 cd1 ct1,
   f2,
   W.fnOf "figures_worth" "figures_worth" (defArgs s_figures_worth) (defBody s_figures_worth) (defScope s_figures_worth) .none kV2 dc2 pm2 an2 cd2 ct2,
   f3,
   W.fnOf "number_of" "number_of" (defArgs s_number_of) (defBody s_number_of) (defScope s_number_of) (.ref dT3) kV3 dc3 pm3 an3 cd3 ct3,
   [(.int 60 dt3_0)],
   f4,
   W.fnOf "number_or_none" "number_or_none" (defArgs s_number_or_none) (defBody s_number_or_none) (defScope s_number_or_none) .none kV4 dc4 pm4 an4 cd4 ct4,
   f5,
   W.fnOf "__init__" "Kind.__init__" (defArgs s_c_Kind___init) (defBody s_c_Kind___init) (defScope s_c_Kind___init) .none kV5 dc5 pm5 an5 cd5 ct5,
   f6,
   W.fnOf "read" "Kind.read" (defArgs s_c_Kind_read) (defBody s_c_Kind_read) (defScope s_c_Kind_read) .none kV6 dc6 pm6 an6 cd6 ct6,
   f7,
   W.fnOf "fits" "Whole.fits" (defArgs s_c_Whole_fits) (defBody s_c_Whole_fits) (defScope s_c_Whole_fits) .none kV7 dc7 pm7 an7 cd7 ct7,
   f8,
   W.fnOf "answer_of" "Whole.answer_of" (defArgs s_c_Whole_answer_of) (defBody s_c_Whole_answer_of) (defScope s_c_Whole_answer_of) .none kV8 dc8 pm8 an8 cd8 ct8,
   f9,
   W.fnOf "rank" "Whole.rank" (defArgs s_c_Whole_rank) (defBody s_c_Whole_rank) (defScope s_c_Whole_rank) .none kV9 dc9 pm9 an9 cd9 ct9,
   f10,
   W.fnOf "__init__" "Row.__init__" (defArgs s_c_Row___init) (defBody s_c_Row___init) (defScope s_c_Row___init) .none kV10 dc10 pm10 an10 cd10 ct10,
   f11,
   W.fnOf "__init__" "Ask.__init__" (defArgs s_c_Ask___init) (defBody s_c_Ask___init) (defScope s_c_Ask___init) (.ref dT11) kV11 dc11 pm11 an11 cd11 ct11,
   [.none],
   f12,
   W.fnOf "__init__" "Sheet.__init__" (defArgs s_c_Sheet___init) (defBody s_c_Sheet___init) (defScope s_c_Sheet___init) .none kV12 dc12 pm12 an12 cd12 ct12,
   f13,
   W.fnOf "__init__" "Paper.__init__" (defArgs s_c_Paper___init) (defBody s_c_Paper___init) (defScope s_c_Paper___init) .none kV13 dc13 pm13 an13 cd13 ct13,
   f14,
   W.fnOf "kinds_of" "kinds_of" (defArgs s_kinds_of) (defBody s_kinds_of) (defScope s_kinds_of) .none kV14 dc14 pm14 an14 cd14 ct14,
   f15,
   W.fnOf "eaches_of" "eaches_of" (defArgs s_eaches_of) (defBody s_eaches_of) (defScope s_eaches_of) .none kV15 dc15 pm15 an15 cd15 ct15,
   f16,
   W.fnOf "all_together" "all_together" (defArgs s_all_together) (defBody s_all_together) (defScope s_all_together) .none kV16 dc16 pm16 an16 cd16 ct16,
   f17,
   W.fnOf "__init__" "Going.__init__" (defArgs s_c_Going___init) (defBody s_c_Going___init) (defScope s_c_Going___init) .none kV17 dc17 pm17 an17 cd17 ct17,
   f18,
   W.fnOf "note" "Going.note" (defArgs s_c_Going_note) (defBody s_c_Going_note) (defScope s_c_Going_note) .none kV18 dc18 pm18 an18 cd18 ct18,
   f19,
   W.fnOf "stop_with" "Going.stop_with" (defArgs s_c_Going_stop_with) (defBody s_c_Going_stop_with) (defScope s_c_Going_stop_with) .none kV19 dc19 pm19 an19 cd19 ct19,
   f20,
   W.fnOf "go_through" "Going.go_through" (defArgs s_c_Going_go_through) (defBody s_c_Going_go_through) (defScope s_c_Going_go_through) .none kV20 dc20 pm20 an20 cd20 ct20,
   f21,
   W.fnOf "targets_of" "Going.targets_of" (defArgs s_c_Going_targets_of) (defBody s_c_Going_targets_of) (defScope s_c_Going_targets_of) .none kV21 dc21 pm21 an21 cd21 ct21,
   f22,
   W.fnOf "leave" "Going.leave" (defArgs s_c_Going_leave) (defBody s_c_Going_leave) (defScope s_c_Going_leave) .none kV22 dc22 pm22 an22 cd22 ct22,
   f23,
   W.fnOf "go" "Going.go" (defArgs s_c_Going_go) (defBody s_c_Going_go) (defScope s_c_Going_go) .none kV23 dc23 pm23 an23 cd23 ct23,
   f24,
   W.fnOf "__init__" "Straight.__init__" (defArgs s_c_Straight___init) (defBody s_c_Straight___init) (defScope s_c_Straight___init) .none kV24 dc24 pm24 an24 cd24 ct24,
   f25,
   W.fnOf "things_of" "Straight.things_of" (defArgs s_c_Straight_things_of) (defBody s_c_Straight_things_of) (defScope s_c_Straight_things_of) .none kV25 dc25 pm25 an25 cd25 ct25,
   f26,
   W.fnOf "put" "Straight.put" (defArgs s_c_Straight_put) (defBody s_c_Straight_put) (defScope s_c_Straight_put) .none kV26 dc26 pm26 an26 cd26 ct26,
   f27,
   W.fnOf "is_so" "Straight.is_so" (defArgs s_c_Straight_is_so) (defBody s_c_Straight_is_so) (defScope s_c_Straight_is_so) .none kV27 dc27 pm27 an27 cd27 ct27,
   f28,
   W.fnOf "straight" "straight" (defArgs s_straight) (defBody s_straight) (defScope s_straight) .none kV28 dc28 pm28 an28 cd28 ct28,
   f29,
   W.fnOf "__init__" "Hand.__init__" (defArgs s_c_Hand___init) (defBody s_c_Hand___init) (defScope s_c_Hand___init) .none kV29 dc29 pm29 an29 cd29 ct29,
   f30,
   W.fnOf "log_now" "Hand.log_now" (defArgs s_c_Hand_log_now) (defBody s_c_Hand_log_now) (defScope s_c_Hand_log_now) .none kV30 dc30 pm30 an30 cd30 ct30,
   f31,
   W.fnOf "places" "Hand.places" (defArgs s_c_Hand_places) (defBody s_c_Hand_places) (defScope s_c_Hand_places) .none kV31 dc31 pm31 an31 cd31 ct31,
   f32,
   W.fnOf "put_behind" "Hand.put_behind" (defArgs s_c_Hand_put_behind) (defBody s_c_Hand_put_behind) (defScope s_c_Hand_put_behind) .none kV32 dc32 pm32 an32 cd32 ct32,
   f33,
   W.fnOf "demand_finger" "Hand.demand_finger" (defArgs s_c_Hand_demand_finger) (defBody s_c_Hand_demand_finger) (defScope s_c_Hand_demand_finger) .none kV33 dc33 pm33 an33 cd33 ct33,
   f34,
   W.fnOf "at" "Hand.at" (defArgs s_c_Hand_at) (defBody s_c_Hand_at) (defScope s_c_Hand_at) .none kV34 dc34 pm34 an34 cd34 ct34,
   f35,
   W.fnOf "answer" "Hand.answer" (defArgs s_c_Hand_answer) (defBody s_c_Hand_answer) (defScope s_c_Hand_answer) .none kV35 dc35 pm35 an35 cd35 ct35,
   f36,
   W.fnOf "on" "Hand.on" (defArgs s_c_Hand_on) (defBody s_c_Hand_on) (defScope s_c_Hand_on) .none kV36 dc36 pm36 an36 cd36 ct36,
   f37,
   W.fnOf "back" "Hand.back" (defArgs s_c_Hand_back) (defBody s_c_Hand_back) (defScope s_c_Hand_back) .none kV37 dc37 pm37 an37 cd37 ct37,
   f38,
   W.fnOf "jump" "Hand.jump" (defArgs s_c_Hand_jump) (defBody s_c_Hand_jump) (defScope s_c_Hand_jump) (.ref dT38) kV38 dc38 pm38 an38 cd38 ct38,
   [(.str "" dt38_0)],
   f39,
   W.fnOf "counts" "Hand.counts" (defArgs s_c_Hand_counts) (defBody s_c_Hand_counts) (defScope s_c_Hand_counts) .none kV39 dc39 pm39 an39 cd39 ct39,
   f40,
   W.fnOf "aside" "Hand.aside" (defArgs s_c_Hand_aside) (defBody s_c_Hand_aside) (defScope s_c_Hand_aside) .none kV40 dc40 pm40 an40 cd40 ct40,
   f41,
   W.fnOf "state" "Hand.state" (defArgs s_c_Hand_state) (defBody s_c_Hand_state) (defScope s_c_Hand_state) .none kV41 dc41 pm41 an41 cd41 ct41,
   f42,
   W.fnOf "_law_cell_at" "_law_cell_at" (defArgs s_law_cell_at) (defBody s_law_cell_at) (defScope s_law_cell_at) .none kV42 dc42 pm42 an42 cd42 ct42,
   f43,
   W.fnOf "_law_mixed" "_law_mixed" (defArgs s_law_mixed) (defBody s_law_mixed) (defScope s_law_mixed) .none kV43 dc43 pm43 an43 cd43 ct43,
   f44,
   W.fnOf "_law_open" "_law_open" (defArgs s_law_open) (defBody s_law_open) (defScope s_law_open) .none kV44 dc44 pm44 an44 cd44 ct44,
   f45,
   W.fnOf "_law_name" "_law_name" (defArgs s_law_name) (defBody s_law_name) (defScope s_law_name) .none kV45 dc45 pm45 an45 cd45 ct45,
   f46,
   W.fnOf "_law_names" "_law_names" (defArgs s_law_names) (defBody s_law_names) (defScope s_law_names) .none kV46 dc46 pm46 an46 cd46 ct46,
   f47,
   W.fnOf "_law_questions" "_law_questions" (defArgs s_law_questions) (defBody s_law_questions) (defScope s_law_questions) .none kV47 dc47 pm47 an47 cd47 ct47,
   f48,
   W.fnOf "_law_class" "_law_class" (defArgs s_law_class) (defBody s_law_class) (defScope s_law_class) .none kV48 dc48 pm48 an48 cd48 ct48,
   f49,
   W.fnOf "_law_asked" "_law_asked" (defArgs s_law_asked) (defBody s_law_asked) (defScope s_law_asked) .none kV49 dc49 pm49 an49 cd49 ct49,
   f50,
   W.fnOf "_law_at_fits" "_law_at_fits" (defArgs s_law_at_fits) (defBody s_law_at_fits) (defScope s_law_at_fits) .none kV50 dc50 pm50 an50 cd50 ct50,
   f51,
   W.fnOf "_law_first_open" "_law_first_open" (defArgs s_law_first_open) (defBody s_law_first_open) (defScope s_law_first_open) .none kV51 dc51 pm51 an51 cd51 ct51,
   f52,
   W.fnOf "_law_deed" "_law_deed" (defArgs s_law_deed) (defBody s_law_deed) (defScope s_law_deed) .none kV52 dc52 pm52 an52 cd52 ct52,
   f53,
   W.fnOf "_law_counts_fit" "_law_counts_fit" (defArgs s_law_counts_fit) (defBody s_law_counts_fit) (defScope s_law_counts_fit) .none kV53 dc53 pm53 an53 cd53 ct53,
   f54,
   W.fnOf "_law_look" "_law_look" (defArgs s_law_look) (defBody s_law_look) (defScope s_law_look) .none kV54 dc54 pm54 an54 cd54 ct54,
   f55,
   W.fnOf "law" "law" (defArgs s_law) (defBody s_law) (defScope s_law) .none kV55 dc55 pm55 an55 cd55 ct55,
   k_Ask,
   k_AskError,
   k_Going,
   k_Hand,
   k_Kind,
   k_NoAnswer,
   k_NoNumber,
   k_NotCome,
   k_NotYet,
   k_Nowhere,
   k_Paper,
   k_Row,
   k_Sheet,
   k_Straight,
   k_Whole⟩, ⟨fun_mk (st := s_is_whole) h01 h02 h03,
   (fun_mk (st := s_is_whole) h01 h02 h03).binds (ps := ["thing"]) (fun _ _ _ _ _ _ us hl => match us, hl with | [_], _ => rfl),
   h03,
   W.mg_of X G h00,
   fun_mk (st := s_are_figures) h05 h06 h07,
   (fun_mk (st := s_are_figures) h05 h06 h07).binds (ps := ["text"]) (fun _ _ _ _ _ _ us hl => match us, hl with | [_], _ => rfl),
   h07,
   W.mg_of X G h04,
   fun_mk (st := s_figures_worth) h09 h0a h0b,
   (fun_mk (st := s_figures_worth) h09 h0a h0b).binds (ps := ["figures"]) (fun _ _ _ _ _ _ us hl => match us, hl with | [_], _ => rfl),
   h0b,
   W.mg_of X G h08,
   (funD_mk (st := s_number_of) h0d h0e h0f h0g),
   (funD_mk (st := s_number_of) h0d h0e h0f h0g).binds (fun T _ _ _ _ _ _ us M A E Q s to n ht hc hd hl hq => match us, app_len (m := 1) hl rfl with | [_], _ => BindsTo.of_defaults rfl ht hd rfl rfl M A E Q hq),
   .cons ⟨_, rfl⟩ (.nil),
   h0f,
   W.mg_of X G h0c,
   fun_mk (st := s_number_or_none) h0i h0j h0k,
   (fun_mk (st := s_number_or_none) h0i h0j h0k).binds (ps := ["text"]) (fun _ _ _ _ _ _ us hl => match us, hl with | [_], _ => rfl),
   h0k,
   W.mg_of X G h0h,
   fun_mk (st := s_c_Kind___init) h0m h0n h0o,
   (fun_mk (st := s_c_Kind___init) h0m h0n h0o).binds (ps := ["self", "low", "high"]) (fun _ _ _ _ _ _ us hl => match us, hl with | [_, _, _], _ => rfl),
   fun_mk (st := s_c_Kind_read) h0q h0r h0s,
   (fun_mk (st := s_c_Kind_read) h0q h0r h0s).binds (ps := ["self", "text"]) (fun _ _ _ _ _ _ us hl => match us, hl with | [_, _], _ => rfl),
   fun_mk (st := s_c_Whole_fits) h0u h0v h0w,
   (fun_mk (st := s_c_Whole_fits) h0u h0v h0w).binds (ps := ["self", "thing"]) (fun _ _ _ _ _ _ us hl => match us, hl with | [_, _], _ => rfl),
   fun_mk (st := s_c_Whole_answer_of) h0y h0z h10,
   (fun_mk (st := s_c_Whole_answer_of) h0y h0z h10).binds (ps := ["self", "text"]) (fun _ _ _ _ _ _ us hl => match us, hl with | [_, _], _ => rfl),
   fun_mk (st := s_c_Whole_rank) h12 h13 h14,
   (fun_mk (st := s_c_Whole_rank) h12 h13 h14).binds (ps := ["self", "answer"]) (fun _ _ _ _ _ _ us hl => match us, hl with | [_, _], _ => rfl),
   fun_mk (st := s_c_Row___init) h16 h17 h18,
   (fun_mk (st := s_c_Row___init) h16 h17 h18).binds (ps := ["self", "name"]) (fun _ _ _ _ _ _ us hl => match us, hl with | [_, _], _ => rfl),
   (funD_mk (st := s_c_Ask___init) h1a h1b h1c h1d),
   (funD_mk (st := s_c_Ask___init) h1a h1b h1c h1d).binds (fun T _ _ _ _ _ _ us M A E Q s to n ht hc hd hl hq => match us, app_len (m := 3) hl rfl with | [_, _, _], _ => BindsTo.of_defaults rfl ht hd rfl rfl M A E Q hq),
   .cons rfl (.nil),
   fun_mk (st := s_c_Sheet___init) h1f h1g h1h,
   (fun_mk (st := s_c_Sheet___init) h1f h1g h1h).binds (ps := ["self", "name", "each", "rows", "ways"]) (fun _ _ _ _ _ _ us hl => match us, hl with | [_, _, _, _, _], _ => rfl),
   fun_mk (st := s_c_Paper___init) h1j h1k h1l,
   (fun_mk (st := s_c_Paper___init) h1j h1k h1l).binds (ps := ["self", "name", "sheets", "totals"]) (fun _ _ _ _ _ _ us hl => match us, hl with | [_, _, _, _], _ => rfl),
   fun_mk (st := s_kinds_of) h1n h1o h1p,
   (fun_mk (st := s_kinds_of) h1n h1o h1p).binds (ps := ["paper"]) (fun _ _ _ _ _ _ us hl => match us, hl with | [_], _ => rfl),
   h1p,
   W.mg_of X G h1m,
   fun_mk (st := s_eaches_of) h1r h1s h1t,
   (fun_mk (st := s_eaches_of) h1r h1s h1t).binds (ps := ["paper"]) (fun _ _ _ _ _ _ us hl => match us, hl with | [_], _ => rfl),
   h1t,
   W.mg_of X G h1q,
   fun_mk (st := s_all_together) h1v h1w h1x,
   (fun_mk (st := s_all_together) h1v h1w h1x).binds (ps := ["paper"]) (fun _ _ _ _ _ _ us hl => match us, hl with | [_], _ => rfl),
   h1x,
   W.mg_of X G h1u,
   fun_mk (st := s_c_Going___init) h1z h20 h21,
   (fun_mk (st := s_c_Going___init) h1z h20 h21).binds (ps := ["self", "paper", "alone"]) (fun _ _ _ _ _ _ us hl => match us, hl with | [_, _, _], _ => rfl),
   fun_mk (st := s_c_Going_note) h23 h24 h25,
   (fun_mk (st := s_c_Going_note) h23 h24 h25).binds (ps := ["self", "question", "thing", "known"]) (fun _ _ _ _ _ _ us hl => match us, hl with | [_, _, _, _], _ => rfl),
   fun_mk (st := s_c_Going_stop_with) h27 h28 h29,
   (fun_mk (st := s_c_Going_stop_with) h27 h28 h29).binds (ps := ["self", "row"]) (fun _ _ _ _ _ _ us hl => match us, hl with | [_, _], _ => rfl),
   fun_mk (st := s_c_Going_go_through) h2b h2c h2d,
   (fun_mk (st := s_c_Going_go_through) h2b h2c h2d).binds (ps := ["self", "sheet", "thing"]) (fun _ _ _ _ _ _ us hl => match us, hl with | [_, _, _], _ => rfl),
   fun_mk (st := s_c_Going_targets_of) h2f h2g h2h,
   (fun_mk (st := s_c_Going_targets_of) h2f h2g h2h).binds (ps := ["self", "sheet"]) (fun _ _ _ _ _ _ us hl => match us, hl with | [_, _], _ => rfl),
   fun_mk (st := s_c_Going_leave) h2j h2k h2l,
   (fun_mk (st := s_c_Going_leave) h2j h2k h2l).binds (ps := ["self", "place"]) (fun _ _ _ _ _ _ us hl => match us, hl with | [_, _], _ => rfl),
   fun_mk (st := s_c_Going_go) h2n h2o h2p,
   (fun_mk (st := s_c_Going_go) h2n h2o h2p).binds (ps := ["self"]) (fun _ _ _ _ _ _ us hl => match us, hl with | [_], _ => rfl),
   fun_mk (st := s_c_Straight___init) h2r h2s h2t,
   (fun_mk (st := s_c_Straight___init) h2r h2s h2t).binds (ps := ["self", "paper", "book"]) (fun _ _ _ _ _ _ us hl => match us, hl with | [_, _, _], _ => rfl),
   fun_mk (st := s_c_Straight_things_of) h2v h2w h2x,
   (fun_mk (st := s_c_Straight_things_of) h2v h2w h2x).binds (ps := ["self", "sheet"]) (fun _ _ _ _ _ _ us hl => match us, hl with | [_, _], _ => rfl),
   fun_mk (st := s_c_Straight_put) h2z h30 h31,
   (fun_mk (st := s_c_Straight_put) h2z h30 h31).binds (ps := ["self", "question", "thing"]) (fun _ _ _ _ _ _ us hl => match us, hl with | [_, _, _], _ => rfl),
   fun_mk (st := s_c_Straight_is_so) h33 h34 h35,
   (fun_mk (st := s_c_Straight_is_so) h33 h34 h35).binds (ps := ["self", "saying", "thing"]) (fun _ _ _ _ _ _ us hl => match us, hl with | [_, _, _], _ => rfl),
   fun_mk (st := s_straight) h37 h38 h39,
   (fun_mk (st := s_straight) h37 h38 h39).binds (ps := ["paper", "book"]) (fun _ _ _ _ _ _ us hl => match us, hl with | [_, _], _ => rfl),
   h39,
   W.mg_of X G h36,
   fun_mk (st := s_c_Hand___init) h3b h3c h3d,
   (fun_mk (st := s_c_Hand___init) h3b h3c h3d).binds (ps := ["self", "paper"]) (fun _ _ _ _ _ _ us hl => match us, hl with | [_, _], _ => rfl),
   fun_mk (st := s_c_Hand_log_now) h3f h3g h3h,
   (fun_mk (st := s_c_Hand_log_now) h3f h3g h3h).binds (ps := ["self"]) (fun _ _ _ _ _ _ us hl => match us, hl with | [_], _ => rfl),
   fun_mk (st := s_c_Hand_places) h3j h3k h3l,
   (fun_mk (st := s_c_Hand_places) h3j h3k h3l).binds (ps := ["self"]) (fun _ _ _ _ _ _ us hl => match us, hl with | [_], _ => rfl),
   fun_mk (st := s_c_Hand_put_behind) h3n h3o h3p,
   (fun_mk (st := s_c_Hand_put_behind) h3n h3o h3p).binds (ps := ["self"]) (fun _ _ _ _ _ _ us hl => match us, hl with | [_], _ => rfl),
   fun_mk (st := s_c_Hand_demand_finger) h3r h3s h3t,
   (fun_mk (st := s_c_Hand_demand_finger) h3r h3s h3t).binds (ps := ["self"]) (fun _ _ _ _ _ _ us hl => match us, hl with | [_], _ => rfl),
   fun_mk (st := s_c_Hand_at) h3v h3w h3x,
   (fun_mk (st := s_c_Hand_at) h3v h3w h3x).binds (ps := ["self"]) (fun _ _ _ _ _ _ us hl => match us, hl with | [_], _ => rfl),
   fun_mk (st := s_c_Hand_answer) h3z h40 h41,
   (fun_mk (st := s_c_Hand_answer) h3z h40 h41).binds (ps := ["self", "text"]) (fun _ _ _ _ _ _ us hl => match us, hl with | [_, _], _ => rfl),
   fun_mk (st := s_c_Hand_on) h43 h44 h45,
   (fun_mk (st := s_c_Hand_on) h43 h44 h45).binds (ps := ["self"]) (fun _ _ _ _ _ _ us hl => match us, hl with | [_], _ => rfl),
   fun_mk (st := s_c_Hand_back) h47 h48 h49,
   (fun_mk (st := s_c_Hand_back) h47 h48 h49).binds (ps := ["self"]) (fun _ _ _ _ _ _ us hl => match us, hl with | [_], _ => rfl),
   (funD_mk (st := s_c_Hand_jump) h4b h4c h4d h4e),
   (funD_mk (st := s_c_Hand_jump) h4b h4c h4d h4e).binds (es := []) (fun T _ _ _ _ _ _ us M A E Q s to n ht hc hd hl hq => match us, hl with | [_, _, _], _ => BindsTo.of_defaults rfl ht hd rfl rfl M A E Q hq),
   (funD_mk (st := s_c_Hand_jump) h4b h4c h4d h4e).binds (fun T _ _ _ _ _ _ us M A E Q s to n ht hc hd hl hq => match us, app_len (m := 2) hl rfl with | [_, _], _ => BindsTo.of_defaults rfl ht hd rfl rfl M A E Q hq),
   .cons ⟨_, rfl⟩ (.nil),
   fun_mk (st := s_c_Hand_counts) h4g h4h h4i,
   (fun_mk (st := s_c_Hand_counts) h4g h4h h4i).binds (ps := ["self"]) (fun _ _ _ _ _ _ us hl => match us, hl with | [_], _ => rfl),
   fun_mk (st := s_c_Hand_aside) h4k h4l h4m,
   (fun_mk (st := s_c_Hand_aside) h4k h4l h4m).binds (ps := ["self"]) (fun _ _ _ _ _ _ us hl => match us, hl with | [_], _ => rfl),
   fun_mk (st := s_c_Hand_state) h4o h4p h4q,
   (fun_mk (st := s_c_Hand_state) h4o h4p h4q).binds (ps := ["self"]) (fun _ _ _ _ _ _ us hl => match us, hl with | [_], _ => rfl),
   fun_mk (st := s_law_cell_at) h4s h4t h4u,
   (fun_mk (st := s_law_cell_at) h4s h4t h4u).binds (ps := ["_law_script", "_law_k"]) (fun _ _ _ _ _ _ us hl => match us, hl with | [_, _], _ => rfl),
   h4u,
   W.mg_of X G h4r,
   fun_mk (st := s_law_mixed) h4w h4x h4y,
   (fun_mk (st := s_law_mixed) h4w h4x h4y).binds (ps := ["_law_cell", "_law_k"]) (fun _ _ _ _ _ _ us hl => match us, hl with | [_, _], _ => rfl),
   h4y,
   W.mg_of X G h4v,
   fun_mk (st := s_law_open) h50 h51 h52,
   (fun_mk (st := s_law_open) h50 h51 h52).binds (ps := ["_law_word"]) (fun _ _ _ _ _ _ us hl => match us, hl with | [_], _ => rfl),
   h52,
   W.mg_of X G h4z,
   fun_mk (st := s_law_name) h54 h55 h56,
   (fun_mk (st := s_law_name) h54 h55 h56).binds (ps := ["_law_cell"]) (fun _ _ _ _ _ _ us hl => match us, hl with | [_], _ => rfl),
   h56,
   W.mg_of X G h53,
   fun_mk (st := s_law_names) h58 h59 h5a,
   (fun_mk (st := s_law_names) h58 h59 h5a).binds (ps := ["_law_cell", "_law_many"]) (fun _ _ _ _ _ _ us hl => match us, hl with | [_, _], _ => rfl),
   h5a,
   W.mg_of X G h57,
   fun_mk (st := s_law_questions) h5c h5d h5e,
   (fun_mk (st := s_law_questions) h5c h5d h5e).binds (ps := ["_law_cell"]) (fun _ _ _ _ _ _ us hl => match us, hl with | [_], _ => rfl),
   h5e,
   W.mg_of X G h5b,
   fun_mk (st := s_law_class) h5g h5h h5i,
   (fun_mk (st := s_law_class) h5g h5h h5i).binds (ps := ["_law_error"]) (fun _ _ _ _ _ _ us hl => match us, hl with | [_], _ => rfl),
   h5i,
   W.mg_of X G h5f,
   fun_mk (st := s_law_asked) h5k h5l h5m,
   (fun_mk (st := s_law_asked) h5k h5l h5m).binds (ps := ["_law_hand", "_law_word", "_law_thing"]) (fun _ _ _ _ _ _ us hl => match us, hl with | [_, _, _], _ => rfl),
   h5m,
   W.mg_of X G h5j,
   fun_mk (st := s_law_at_fits) h5o h5p h5q,
   (fun_mk (st := s_law_at_fits) h5o h5p h5q).binds (ps := ["_law_hand", "_law_due"]) (fun _ _ _ _ _ _ us hl => match us, hl with | [_, _], _ => rfl),
   h5q,
   W.mg_of X G h5n,
   fun_mk (st := s_law_first_open) h5s h5t h5u,
   (fun_mk (st := s_law_first_open) h5s h5t h5u).binds (ps := ["_law_rows", "_law_book"]) (fun _ _ _ _ _ _ us hl => match us, hl with | [_, _], _ => rfl),
   h5u,
   W.mg_of X G h5r,
   fun_mk (st := s_law_deed) h5w h5x h5y,
   (fun_mk (st := s_law_deed) h5w h5x h5y).binds (ps := ["_law_cell", "_law_rows", "_law_book", "_law_place"]) (fun _ _ _ _ _ _ us hl => match us, hl with | [_, _, _, _], _ => rfl),
   h5y,
   W.mg_of X G h5v,
   fun_mk (st := s_law_counts_fit) h60 h61 h62,
   (fun_mk (st := s_law_counts_fit) h60 h61 h62).binds (ps := ["_law_found", "_law_due"]) (fun _ _ _ _ _ _ us hl => match us, hl with | [_, _], _ => rfl),
   h62,
   W.mg_of X G h5z,
   fun_mk (st := s_law_look) h64 h65 h66,
   (fun_mk (st := s_law_look) h64 h65 h66).binds (ps := ["_law_hand", "_law_rows", "_law_book", "_law_turn", "_law_held"]) (fun _ _ _ _ _ _ us hl => match us, hl with | [_, _, _, _, _], _ => rfl),
   h66,
   W.mg_of X G h63,
   fun_mk (st := s_law) h68 h69 h6a,
   W.mg_of X G h67,
   ⟨_, W.mg_of X G h6b, _, rfl⟩,
   W.mg_none_of X G h6c,
   W.mg_none_of X G h6d,
   W.mg_none_of X G h6e,
   W.mg_none_of X G h6f,
   W.mg_none_of X G h6g,
   W.mg_none_of X G h6h,
   W.mg_none_of X G h6i,
   W.mg_none_of X G h6j,
   W.mg_none_of X G h6k,
   W.mg_none_of X G h6l,
   W.mg_none_of X G h6m,
   W.mg_none_of X G h6n,
   W.mg_none_of X G h6o,
   W.mg_none_of X G h6p,
   L2.kit_ty (by symm),
   L2.kit_ty (by symm),
   L2.kit_ty (by symm),
   L2.kit_ty (by symm),
   L2.kit_ty (by symm),
   L2.kit_ty (by symm),
   L2.kit_ty (by symm),
   L2.kit_ty (by symm),
   L2.kit_ty (by symm),
   L2.kit_ty (by symm),
   L2.kit_ty (by symm),
   L2.kit_ty (by symm),
   L2.kit_ty (by symm),
   L2.kit_ty (by symm),
   L2.kit_ty (by symm),
   L2.kit_ty (by symm),
   L2.kit_ty (by symm),
   L2.kit_ty (by symm),
   L2.kit_ty (by symm),
   L2.kit_ty (by symm),
   L2.kit_ty (by symm),
   L2.kit_ty (by symm),
   L2.kit_ty (by symm),
   W.mg_of X G h6q,
   ⟨_, W.mg_of X G h6q, rfl⟩,
   W.mg_of X G h6r,
   W.mg_of X G h6s,
   W.mg_of X G h6t,
   W.mg_of X G h6v,
   ⟨_, W.mg_of X G h6v, rfl⟩,
   W.mg_of X G h6w,
   W.mg_of X G h6x,
   ⟨_, W.mg_of X G h6x, rfl⟩,
   W.mg_of X G h6y,
   ⟨_, W.mg_of X G h6y, rfl⟩,
   W.mg_of X G h6z,
   ⟨_, W.mg_of X G h6z, rfl⟩,
   W.mg_of X G h70,
   W.mg_of X G h71,
   W.mg_of X G h72,
   W.mg_of X G h73,
   W.mg_of X G h74,
   h7h,
   excCls_mk h7i h7j h77 h7k h7l h7m h7n h7o,
   h7p,
   h7q,
   excCls_mk h7r h7s h7b h7t h7l h7m h7w h7x,
   h7y,
   excCls_mk h7z h80 h7d h81 h7l h7m h84 h85,
   h86,
   excCls_mk h87 h88 h7f h89 h7l h7m h8c h8d,
   exm_ref h8e h79 h7a h8f,
   exm_ref h8g h75 h76 h8h,
   exm_ref h8g h75 h76 h8j,
   exm_ref h8g h75 h76 h8l,
   exm_ref h8g h75 h76 h8n,
   kit_self,
   xL h7d h7e h8o h8p,
   xL h7b h7c h8q h8r,
   xL h77 h78 h8s h8t,
   xL h7f h7g h8u h8v,
   kit_self,
   xL h7b h7c h8w h8x,
   xL h77 h78 h8y h8z,
   xL h7f h7g h90 h91,
   xL h7d h7e h92 h93,
   kit_self,
   xL h77 h78 h94 h95,
   xL h7f h7g h96 h97,
   xL h7d h7e h98 h99,
   xL h7b h7c h9a h9b,
   kit_self,
   kit_self,
   kit_rty (by symm) h9c,
   kit_rty (by symm) h9d,
   kit_rty (by symm) h9e,
   kit_rty (by symm) h9f,
   ⟨h9g, h9h, h9i, h9j⟩,
   ⟨h9k, h9l, h9m, h9n⟩,
   ⟨h0t, h9p, h0w⟩,
   ⟨h0x, h9r, h10⟩,
   ⟨h9s, h9t, h0s⟩,
   ⟨h11, h9v, h14⟩,
   h9w,
   h9x,
   ⟨h9y, h9z, ha0, ha1⟩,
   fun _ _ _ _ e => .ins e ⟨h9y, h9z, ha0, ha1⟩ ha2 h7l h7m ha5,
   ⟨ha6, h19, ha8, ha9⟩,
   haa,
   hab,
   hac,
   ⟨had, hae, haf, hag⟩,
   ⟨hah, h1e, haj, hak⟩,
   hal,
   ham,
   han,
   hao,
   ⟨hap, haq, har, has⟩,
   ⟨hat, h1i, hav, haw⟩,
   hax,
   hay,
   haz,
   ⟨hb0, hb1, hb2, hb3⟩,
   ⟨hb4, h2q, hb6, hb7⟩,
   ⟨h2u, hb9, h2x⟩,
   ⟨h2y, hbb, h31⟩,
   ⟨h32, hbd, h35⟩,
   ⟨hbe, hbf, h25⟩,
   ⟨hbg, hbh, h29⟩,
   ⟨hbi, hbj, h2d⟩,
   ⟨hbk, hbl, h2h⟩,
   ⟨hbm, hbn, h2l⟩,
   ⟨hbo, hbp, h2p⟩,
   hbq,
   hbr,
   hbs,
   hbt,
   hbu,
   hbv,
   hbw,
   hbx,
   hby,
   hbz,
   ⟨hc0, hc1, hc2, hc3⟩,
   ⟨hc4, h3a, hc6, hc7⟩,
   ⟨h3i, hc9, h3l⟩,
   ⟨h3e, hcb, h3h⟩,
   ⟨h3m, hcd, h3p⟩,
   ⟨h3q, hcf, h3t⟩,
   ⟨h3u, hch, h3x⟩,
   ⟨h3y, hcj, h41⟩,
   ⟨h42, hcl, h45⟩,
   ⟨h46, hcn, h49⟩,
   ⟨h4n, hcp, h4q⟩,
   ⟨h4a, hcr, h4d⟩,
   ⟨h4f, hct, h4i⟩,
   ⟨h4j, hcv, h4m⟩,
   hcw,
   hcx,
   hcy,
   hcz,
   ⟨hd0, hd1, hd2, h21⟩,
   ⟨hd3, hd4, hd5, h18⟩⟩⟩
theorem walk {l : W.OpenLaw} {q : Program} {loose : List Str} {XP : (Str → Option Value) → Heap → Prop} {YP : World → Heap → Prop} {d : DefRec} {K : Params → W.Frag} (hn : l.most = some 63) (hdf : d.params.defaults = []) (hnm : d.name = "law")
   (hY : ∀ (w : World) (h : Heap), YP w h → (K w.params).In h)
   (F : ∀ (w : World) (mg : Str → Option Value) (h : Heap), (K w.params).In h → h.Ns mainGlobals mg → ∃ A : Adr, Txt (K w.params) mg A) :
   W.WalkO q loose XP YP l.row.toRowW d [] (fun f vs => PySem.call f vs) := by
 refine L2.walk_ofB (n := 63) (k := 50) (x := "_law_script") (CX := fun _ => CX0) (sp := fun w => sp_law (K w.params)) hn (by decide) hdf ⟨rfl, by decide, by decide⟩ hY (fun w mg fa h KX G hmg => ?_) (fun w H a ns hl hb _ hS => ⟨a, ns, rfl, hS, hl, hb, fun _ => rfl⟩) fun _ _ _ _ _ z => z
 obtain ⟨A, T⟩ := F w mg h KX G
 rw [hnm] at hmg
 have e := hmg.symm.trans T.m_law
 cases e
 obtain ⟨oc, od, kV, doc, pm, an, cdv, ct, osl, efd, lk, hcd⟩ := id T.F_law.ex
 exact ⟨A.d_law, fun s v => by rw [efd]; exact .of_eq rfl, fun base _ _ => ok_law T⟩
end K42
open PySem PySem.W PyProof.Rows
set_option maxRecDepth 100000 in
set_option maxHeartbeats 0 in
theorem PySem.Challenge.cw_askpaper_k42_jumps_and_what_counts_holds : PySem.Challenge.rw_askpaper_k42_jumps_and_what_counts.Holds := by
 refine PySem.Challenge.hd42 ?_
 k_fill
 refine K42.walk (l := PySem.Challenge.rw_askpaper_k42_jumps_and_what_counts) rfl rfl rfl (fun w h Y => W.kIn_of Y) ?F
 case F =>
   intro w mg h KX G
   have T : ∃ A : K42.Adr, K42.Txt (L2.KOf KX) mg A := by
     dsimp only [L2.KOf]
     refine' K42.txt_mk KX G ?h6q ?h6r ?h6s ?h6t ?h6u ?h6v ?h6w ?h6x ?h6y ?h6z ?h70 ?h71 ?h72 ?h73 ?h74 ?h00 ?h01 ?h02 ?h03 ?h04 ?h05 ?h06 ?h07 ?h08 ?h09 ?h0a ?h0b ?h0c ?h0d ?h0e ?h0f ?h0g ?h0h ?h0i ?h0j ?h0k ?h0l ?h0m ?h0n ?h0o ?h0p ?h0q ?h0r ?h0s ?h0t ?h0u ?h0v ?h0w ?h0x ?h0y ?h0z ?h10 ?h11 ?h12 ?h13 ?h14 ?h15 ?h16 ?h17 ?h18 ?h19 ?h1a ?h1b ?h1c ?h1d ?h1e ?h1f ?h1g ?h1h ?h1i ?h1j ?h1k ?h1l ?h1m ?h1n ?h1o ?h1p ?h1q ?h1r ?h1s ?h1t ?h1u ?h1v ?h1w ?h1x ?h1y ?h1z ?h20 ?h21 ?h22 ?h23 ?h24 ?h25 ?h26 ?h27 ?h28 ?h29 ?h2a ?h2b ?h2c ?h2d ?h2e ?h2f ?h2g ?h2h ?h2i ?h2j ?h2k ?h2l ?h2m ?h2n ?h2o ?h2p ?h2q ?h2r ?h2s ?h2t ?h2u ?h2v ?h2w ?h2x ?h2y ?h2z ?h30 ?h31 ?h32 ?h33 ?h34 ?h35 ?h36 ?h37 ?h38 ?h39 ?h3a ?h3b ?h3c ?h3d ?h3e ?h3f ?h3g ?h3h ?h3i ?h3j ?h3k ?h3l ?h3m ?h3n ?h3o ?h3p ?h3q ?h3r ?h3s ?h3t ?h3u ?h3v ?h3w ?h3x ?h3y ?h3z ?h40 ?h41 ?h42 ?h43 ?h44 ?h45 ?h46 ?h47 ?h48 ?h49 ?h4a ?h4b ?h4c ?h4d ?h4e ?h4f ?h4g ?h4h ?h4i ?h4j ?h4k ?h4l ?h4m ?h4n ?h4o ?h4p ?h4q ?h4r ?h4s ?h4t ?h4u ?h4v ?h4w ?h4x ?h4y ?h4z ?h50 ?h51 ?h52 ?h53 ?h54 ?h55 ?h56 ?h57 ?h58 ?h59 ?h5a ?h5b ?h5c ?h5d ?h5e ?h5f ?h5g ?h5h ?h5i ?h5j ?h5k ?h5l ?h5m ?h5n ?h5o ?h5p ?h5q ?h5r ?h5s ?h5t ?h5u ?h5v ?h5w ?h5x ?h5y ?h5z ?h60 ?h61 ?h62 ?h63 ?h64 ?h65 ?h66 ?h67 ?h68 ?h69 ?h6a ?h6b ?h6c ?h6d ?h6e ?h6f ?h6g ?h6h ?h6i ?h6j ?h6k ?h6l ?h6m ?h6n ?h6o ?h6p ?h75 ?h76 ?h77 ?h78 ?h79 ?h7a ?h7b ?h7c ?h7d ?h7e ?h7f ?h7g ?h7h ?h7i ?h7j ?h7k ?h7l ?h7m ?h7n ?h7o ?h7p ?h7q ?h7r ?h7s ?h7t ?h7w ?h7x ?h7y ?h7z ?h80 ?h81 ?h84 ?h85 ?h86 ?h87 ?h88 ?h89 ?h8c ?h8d ?h8e ?h8f ?h8g ?h8h ?h8j ?h8l ?h8n ?h8o ?h8p ?h8q ?h8r ?h8s ?h8t ?h8u ?h8v ?h8w ?h8x ?h8y ?h8z ?h90 ?h91 ?h92 ?h93 ?h94 ?h95 ?h96 ?h97 ?h98 ?h99 ?h9a ?h9b ?h9c ?h9d ?h9e ?h9f ?h9g ?h9h ?h9i ?h9j ?h9k ?h9l ?h9m ?h9n ?h9p ?h9r ?h9s ?h9t ?h9v ?h9w ?h9x ?h9y ?h9z ?ha0 ?ha1 ?ha2 ?ha5 ?ha6 ?ha8 ?ha9 ?haa ?hab ?hac ?had ?hae ?haf ?hag ?hah ?haj ?hak ?hal ?ham ?han ?hao ?hap ?haq ?har ?has ?hat ?hav ?haw ?hax ?hay ?haz ?hb0 ?hb1 ?hb2 ?hb3 ?hb4 ?hb6 ?hb7 ?hb9 ?hbb ?hbd ?hbe ?hbf ?hbg ?hbh ?hbi ?hbj ?hbk ?hbl ?hbm ?hbn ?hbo ?hbp ?hbq ?hbr ?hbs ?hbt ?hbu ?hbv ?hbw ?hbx ?hby ?hbz ?hc0 ?hc1 ?hc2 ?hc3 ?hc4 ?hc6 ?hc7 ?hc9 ?hcb ?hcd ?hcf ?hch ?hcj ?hcl ?hcn ?hcp ?hcr ?hct ?hcv ?hcw ?hcx ?hcy ?hcz ?hd0 ?hd1 ?hd2 ?hd3 ?hd4 ?hd5
     all_goals (try delta K42.lI K42.nI K42.nN K42.fI K42.fN K42.fB K42.cI K42.eI K42.tI)
     (case h6q|h6r|h6s|h6t|h6u|h6v|h6w|h6x|h6y|h6z|h70|h71|h72|h73|h74|h00|h01|h02|h03|h04|h05|h06|h07|h08|h09|h0a|h0b|h0c|h0d|h0e|h0f|h0g|h0h|h0i|h0j|h0k|h0l|h0m|h0n|h0o|h0p|h0q|h0r|h0s|h0t|h0u|h0v|h0w|h0x|h0y|h0z|h10|h11|h12|h13|h14|h15|h16|h17|h18|h19|h1a|h1b|h1c|h1d|h1e|h1f|h1g|h1h|h1i|h1j|h1k|h1l|h1m|h1n|h1o|h1p|h1q|h1r|h1s|h1t|h1u|h1v|h1w|h1x|h1y|h1z|h20|h21|h22|h23|h24|h25|h26|h27|h28|h29|h2a|h2b|h2c|h2d|h2e|h2f|h2g|h2h|h2i|h2j|h2k|h2l|h2m|h2n|h2o|h2p|h2q|h2r|h2s|h2t|h2u|h2v|h2w|h2x|h2y|h2z|h30|h31|h32|h33|h34|h35|h36|h37|h38|h39|h3a|h3b|h3c|h3d|h3e|h3f|h3g|h3h|h3i|h3j|h3k|h3l|h3m|h3n|h3o|h3p|h3q|h3r|h3s|h3t|h3u|h3v|h3w|h3x|h3y|h3z|h40|h41|h42|h43|h44|h45|h46|h47|h48|h49|h4a|h4b|h4c|h4d|h4e|h4f|h4g|h4h|h4i|h4j|h4k|h4l|h4m|h4n|h4o|h4p|h4q|h4r|h4s|h4t|h4u|h4v|h4w|h4x|h4y|h4z|h50|h51|h52|h53|h54|h55|h56|h57|h58|h59|h5a|h5b|h5c|h5d|h5e|h5f|h5g|h5h|h5i|h5j|h5k|h5l|h5m|h5n|h5o|h5p|h5q|h5r|h5s|h5t|h5u|h5v|h5w|h5x|h5y|h5z|h60|h61|h62|h63|h64|h65|h66|h67|h68|h69|h6a|h6b|h6c|h6d|h6e|h6f|h6g|h6h|h6i|h6j|h6k|h6l|h6m|h6n|h6o|h6p|h75|h76|h77|h78|h79|h7a|h7b|h7c|h7d|h7e|h7f|h7g => k_is)
     (case h7h => k_exc)
     (case h7i|h7j|h7k|h7l|h7m|h7n|h7o => k_is)
     (case h7p => k_exc)
     (case h7q => k_exc)
     (case h7r|h7s|h7t|h7w|h7x => k_is)
     (case h7y => k_exc)
     (case h7z|h80|h81|h84|h85 => k_is)
     (case h86 => k_exc)
     (case h87|h88|h89|h8c|h8d|h8e|h8f|h8g|h8h|h8j|h8l|h8n|h8o => k_is)
     (case h8p => rfl)
     (case h8q => k_is)
     (case h8r => rfl)
     (case h8s => k_is)
     (case h8t => rfl)
     (case h8u => k_is)
     (case h8v => rfl)
     (case h8w => k_is)
     (case h8x => rfl)
     (case h8y => k_is)
     (case h8z => rfl)
     (case h90 => k_is)
     (case h91 => rfl)
     (case h92 => k_is)
     (case h93 => rfl)
     (case h94 => k_is)
     (case h95 => rfl)
     (case h96 => k_is)
     (case h97 => rfl)
     (case h98 => k_is)
     (case h99 => rfl)
     (case h9a => k_is)
     (case h9b => rfl)
     (case h9c|h9d|h9e|h9f|h9g|h9h|h9i|h9j|h9k|h9l|h9m|h9n|h9p|h9r|h9s|h9t|h9v|h9w|h9x|h9y|h9z|ha0|ha1|ha2|ha5|ha6|ha8|ha9|haa|hab|hac|had|hae|haf|hag|hah|haj|hak|hal|ham|han|hao|hap|haq|har|has|hat|hav|haw|hax|hay|haz|hb0|hb1|hb2|hb3|hb4|hb6|hb7|hb9|hbb|hbd|hbe|hbf|hbg|hbh|hbi|hbj|hbk|hbl|hbm|hbn|hbo|hbp|hbq|hbr|hbs|hbt|hbu|hbv|hbw|hbx|hby|hbz|hc0|hc1|hc2|hc3|hc4|hc6|hc7|hc9|hcb|hcd|hcf|hch|hcj|hcl|hcn|hcp|hcr|hct|hcv|hcw|hcx|hcy|hcz|hd0|hd1|hd2|hd3|hd4|hd5 => k_is)
   exact T
