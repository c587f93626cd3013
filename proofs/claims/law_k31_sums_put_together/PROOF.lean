import PyProof.Rows.All
import OpenK.KLine
import OpenK.KWalk
import OpenK.KRaise
import Open.Line
import Wide.Line
import KE.IntBitsLaws
import KE.KIsAll
import KE.KTryMore
import KE.KNest
import KE.KLam
import Wide.FinOn
import Lean
import PyProof.EqAt
import PyProof.EqKinds
import PyProof.TupleCall
import PyProof.ZipIter
import PyProof.Rows.ZipGen
import PyProof.EnumMake
import PyProof.EnumFor
import PyProof.EnumStmt
import KE.KDictOf
import PyProof.AttrMissHeap
import PyProof.NeKinds
import KE.KItem
import KE.KDictSum
import KE.KSortTup
import KE.KEqDict
import KE.KRevSl
import KE.KTabExpr
import KE.KPairComp
import PyProof.DictItems
import KE.KDictList
import PyProof.ListRange
import PySem.Challenge.RW_askpaper_k31_sums_put_together
local macro_rules | `(tactic| symm) => `(tactic| decide +kernel)
set_option Elab.async false
set_option linter.all false
set_option maxRecDepth 100000
namespace PySem.W.Fast
def tw10171271804216800590 := Nat
def tw10252430913399802331 := Nat
def tw10265028668781611552 := Nat
def tw10291558478427420149 := Nat
def tw10311463653851066854 := Nat
def tw10352440026771899288 := Nat
def tw10409900672552823478 := Nat
def tw10470560430172983127 := Nat
def tw10481289259981026688 := Nat
def tw10534383034575724277 := Nat
def tw1059355586075206447 := Nat
def tw10679650077762958845 := Nat
def tw10691242130255439986 := Nat
def tw10714423738435536930 := Nat
def tw10716390879476453083 := Nat
def tw10846409409077888679 := Nat
def tw10893541784535389587 := Nat
def tw10904817147023984299 := Nat
def tw10916698593934211179 := Nat
def tw1091953072692629950 := Nat
def tw11003877435169261828 := Nat
def tw1105542872667443761 := Nat
def tw11081269140969881382 := Nat
def tw11106103445270372649 := Nat
def tw11123292233002301074 := Nat
def tw11143474214610785595 := Nat
def tw11168357865333963748 := Nat
def tw11247568623101445154 := Nat
def tw1129544504840873780 := Nat
def tw11430793883565684615 := Nat
def tw11464577636436760212 := Nat
def tw11551971854488069501 := Nat
def tw11610339269309678006 := Nat
def tw11639981771150355869 := Nat
def tw11654807051023139319 := Nat
def tw11678908922536580301 := Nat
def tw11766268695806041900 := Nat
def tw11943594791744890003 := Nat
def tw12070507570388297425 := Nat
def tw12076203203434933060 := Nat
def tw1208459747028385767 := Nat
def tw12095176546084887628 := Nat
def tw12163122892323565749 := Nat
def tw12188528199647517955 := Nat
def tw12206749947456138938 := Nat
def tw12332821281594323534 := Nat
def tw12404041463731089641 := Nat
def tw12420554421275862844 := Nat
def tw12441419057885391883 := Nat
def tw12510124633294434858 := Nat
def tw12787311508719590610 := Nat
def tw12936909296478675375 := Nat
def tw13028791355980297980 := Nat
def tw13095393674395356401 := Nat
def tw1311889926477373766 := Nat
def tw13160141347086751851 := Nat
def tw13205018837980940969 := Nat
def tw13265427525513053188 := Nat
def tw13289498481476104363 := Nat
def tw13378496997935699068 := Nat
def tw13402859101326934822 := Nat
def tw13406708047005777763 := Nat
def tw13437249360950450509 := Nat
def tw13489277006426428626 := Nat
def tw1350088224772124462 := Nat
def tw13555419572155069287 := Nat
def tw13693227605435320479 := Nat
def tw1375544206039337456 := Nat
def tw13773040706102584002 := Nat
def tw13794552923502022882 := Nat
def tw13813669838006341930 := Nat
def tw13863366219362419629 := Nat
def tw13968600181784004844 := Nat
def tw14000010612686520859 := Nat
def tw14056212118477208277 := Nat
def tw14062906423336860827 := Nat
def tw14153720684475533949 := Nat
def tw1423993734598110372 := Nat
def tw14313121354813547436 := Nat
def tw14361221214026090960 := Nat
def tw14408870990272542267 := Nat
def tw14435225694288645564 := Nat
def tw14464293054100170941 := Nat
def tw14477920593886508286 := Nat
def tw14484308244207845568 := Nat
def tw14500787646263434707 := Nat
def tw14552726250784971473 := Nat
def tw14566266105903250224 := Nat
def tw14568052254129327142 := Nat
def tw14597711003757221052 := Nat
def tw14624943747769148865 := Nat
def tw14650382178301824595 := Nat
def tw14732343223663895084 := Nat
def tw14780255687176826685 := Nat
def tw14967515104804605031 := Nat
def tw15002083463992078677 := Nat
def tw1510534585764593673 := Nat
def tw15125779328909164415 := Nat
def tw15137587419772170170 := Nat
def tw15172751891197105205 := Nat
def tw15207258381128597524 := Nat
def tw15415811606573429331 := Nat
def tw15569492967624829086 := Nat
def tw15590087087964800709 := Nat
def tw15613546158186483247 := Nat
def tw15625304609394184705 := Nat
def tw15625851405068136910 := Nat
def tw15631388685017004634 := Nat
def tw15661331500890699761 := Nat
def tw15710278987096800160 := Nat
def tw15728922943871339113 := Nat
def tw15780481646138414380 := Nat
def tw15797761854462042085 := Nat
def tw15845232585235740025 := Nat
def tw15898023371407494220 := Nat
def tw1592050670935466081 := Nat
def tw1597898061684693029 := Nat
def tw16035874423199578723 := Nat
def tw1615513473659149051 := Nat
def tw16224662590188301712 := Nat
def tw16240326118087310563 := Nat
def tw16338601051182519715 := Nat
def tw16343304955925087246 := Nat
def tw16395950094187131527 := Nat
def tw16396347092964933302 := Nat
def tw16422611339485115936 := Nat
def tw16477591680876548713 := Nat
def tw16559361434790861807 := Nat
def tw16579633809102815393 := Nat
def tw16603273880762625694 := Nat
def tw16702258112049456013 := Nat
def tw16795386528174497347 := Nat
def tw1679791739520240647 := Nat
def tw16849508172169900981 := Nat
def tw16938977290212619115 := Nat
def tw17006822106488668485 := Nat
def tw17026004771005819443 := Nat
def tw17030685059422052851 := Nat
def tw17060322062601977443 := Nat
def tw17127124492250633447 := Nat
def tw17162758081282705245 := Nat
def tw1718323900220922076 := Nat
def tw17275418256351331552 := Nat
def tw17379634382428860153 := Nat
def tw17409909934887519766 := Nat
def tw17496820274992280256 := Nat
def tw1752427732231462205 := Nat
def tw17580671393416839316 := Nat
def tw176938249255530309 := Nat
def tw17727368454341036918 := Nat
def tw17727583244522931256 := Nat
def tw17839756146928452787 := Nat
def tw17850725526114397108 := Nat
def tw17909962640734847941 := Nat
def tw17990211312963562241 := Nat
def tw17999399868395491730 := Nat
def tw18109583862261105420 := Nat
def tw1812324312399407177 := Nat
def tw18152295059184330838 := Nat
def tw18300460923157958571 := Nat
def tw18307791841041031058 := Nat
def tw18310919664704735909 := Nat
def tw18338529374015466809 := Nat
def tw18388168105020047914 := Nat
def tw18392672564180728938 := Nat
def tw18397030688746882274 := Nat
def tw1877067053263185987 := Nat
def tw1920892698274924329 := Nat
def tw1983693244499675164 := Nat
def tw1991403950424172485 := Nat
def tw199574790485118335 := Nat
def tw2034409737973183692 := Nat
def tw2068726775104125917 := Nat
def tw2089356885352004561 := Nat
def tw2133727138778498986 := Nat
def tw2162436785652324649 := Nat
def tw2163423537134351490 := Nat
def tw2219178084755003962 := Nat
def tw2252881491769569315 := Nat
def tw2259290757524741594 := Nat
def tw2259375320396149056 := Nat
def tw2302006434626785588 := Nat
def tw231396080653179397 := Nat
def tw2323832225141542210 := Nat
def tw2336115838251047257 := Nat
def tw2393515531177112935 := Nat
def tw2444408347539483983 := Nat
def tw2502331171568472036 := Nat
def tw2516509744444800941 := Nat
def tw2612691363218546487 := Nat
def tw2715298814819579708 := Nat
def tw2740684996200340184 := Nat
def tw2742373059512696135 := Nat
def tw276051468371037790 := Nat
def tw2790504840802468604 := Nat
def tw2828376721844229329 := Nat
def tw2850432702718109300 := Nat
def tw2854698681884490485 := Nat
def tw2879160463502004329 := Nat
def tw2971250032772851413 := Nat
def tw2999984395148986641 := Nat
def tw3060702131069928738 := Nat
def tw3068578326125979738 := Nat
def tw32524276922381598 := Nat
def tw3256288045864565751 := Nat
def tw3260644873830369190 := Nat
def tw3288063291070432612 := Nat
def tw3365972160249618902 := Nat
def tw3401906292015448253 := Nat
def tw3533152771137033122 := Nat
def tw3536078478809148239 := Nat
def tw3570440066899461353 := Nat
def tw3715449499624575146 := Nat
def tw3724804525745183641 := Nat
def tw3737341597211985994 := Nat
def tw375264640927728864 := Nat
def tw3814128204263770419 := Nat
def tw387881391777604441 := Nat
def tw3883026202674540967 := Nat
def tw3892822598052260858 := Nat
def tw3899925644117729143 := Nat
def tw412664273879961720 := Nat
def tw4222807376643491432 := Nat
def tw4330716409852032231 := Nat
def tw4338148397347220420 := Nat
def tw4431371293178272644 := Nat
def tw4432498980839934857 := Nat
def tw4542744013042109789 := Nat
def tw4593131784105155322 := Nat
def tw4597230357523036930 := Nat
def tw4743481269315872494 := Nat
def tw4758008252535365241 := Nat
def tw4761059681422482728 := Nat
def tw4844576601977005056 := Nat
def tw4858654742474327156 := Nat
def tw4883172872131238576 := Nat
def tw5033796757342507335 := Nat
def tw5062226341589448851 := Nat
def tw507762983221263752 := Nat
def tw5095784364678906176 := Nat
def tw5104972940858073160 := Nat
def tw5130816847743100470 := Nat
def tw5139140252070568935 := Nat
def tw5173615307566974771 := Nat
def tw5178672083281872922 := Nat
def tw5190278359403343970 := Nat
def tw5203383610115617206 := Nat
def tw5229876673152252294 := Nat
def tw5276659465079431798 := Nat
def tw5280654576844981641 := Nat
def tw5384603029556390192 := Nat
def tw5512471317489794090 := Nat
def tw5522100697838503659 := Nat
def tw5697730599305634933 := Nat
def tw5697775059194080789 := Nat
def tw5792514153332265201 := Nat
def tw58243063970101409 := Nat
def tw5841325075375445022 := Nat
def tw5869921594918791884 := Nat
def tw5968158511734264988 := Nat
def tw5980409362401855844 := Nat
def tw6101977207170721676 := Nat
def tw618233644654461003 := Nat
def tw6203910641603956702 := Nat
def tw6232108811301245652 := Nat
def tw6233052874723645862 := Nat
def tw6262756067789853753 := Nat
def tw6266785882435633393 := Nat
def tw63426824773799360 := Nat
def tw6539396310919915936 := Nat
def tw6553075954826273021 := Nat
def tw6565898203932233040 := Nat
def tw658779617050646506 := Nat
def tw6636589264488544649 := Nat
def tw6798727789870824035 := Nat
def tw6802356535081097303 := Nat
def tw6810947011760298510 := Nat
def tw6815327198334713706 := Nat
def tw6854018513549195426 := Nat
def tw6911121309516649868 := Nat
def tw6978747810405358070 := Nat
def tw7070211443359266007 := Nat
def tw7177666017278521319 := Nat
def tw7193071617625494142 := Nat
def tw7293288399867577014 := Nat
def tw7330709853425082662 := Nat
def tw73413983517638870 := Nat
def tw7376940319014989751 := Nat
def tw7533709820517086615 := Nat
def tw7569780315851554962 := Nat
def tw7578362795218494687 := Nat
def tw7803412167417928203 := Nat
def tw790354302465852930 := Nat
def tw8024248618026402015 := Nat
def tw8086756880677184086 := Nat
def tw8105477099941579715 := Nat
def tw8123298830558557186 := Nat
def tw8178278206465030947 := Nat
def tw8238840612956554102 := Nat
def tw8545599314580249547 := Nat
def tw8567737853168349402 := Nat
def tw8581899027324759087 := Nat
def tw8589984698360913719 := Nat
def tw8616128810800485835 := Nat
def tw8661252619943677164 := Nat
def tw8664955814482299159 := Nat
def tw8678560027340368137 := Nat
def tw8712508370407377218 := Nat
def tw8773924378297107652 := Nat
def tw8852839345851799589 := Nat
def tw8981422611318180853 := Nat
def tw900025537029665078 := Nat
def tw9071963328971773773 := Nat
def tw918221651353568297 := Nat
def tw9196857316298780450 := Nat
def tw9295044017568376917 := Nat
def tw9343379377386343592 := Nat
def tw9381079337879934011 := Nat
def tw9410623107341304946 := Nat
def tw9454574227597828263 := Nat
def tw9456621609853625183 := Nat
def tw9467760557857941453 := Nat
def tw9547144194776654369 := Nat
def tw9604867544347879773 := Nat
def tw965040393802917447 := Nat
def tw9704764957474907852 := Nat
def tw9753008020014965823 := Nat
def tw9867988050303671502 := Nat
def tw9919107041438818879 := Nat
def tw9932437034346049061 := Nat
def tw9968916222439172490 := Nat
def tw9984642041770561632 := Nat
end PySem.W.Fast
section
namespace Hk
open PySem PySem.W
theorem chs {α β : Type} {f : β → α} {l : List β} {γ : Type} {g : γ → α} {l2 : List γ} {n m k : Nat} (h1 : ((l.drop n).take m).map f = ((l2.drop n).take m).map g) (hk : n + m = k) (h2 : (l.drop k).map f = (l2.drop k).map g) : (l.drop n).map f = (l2.drop n).map g := by
  subst hk
  rw [← List.take_append_drop m (l.drop n), ← List.take_append_drop m (l2.drop n), List.map_append, List.map_append, h1, List.drop_drop, List.drop_drop, h2]
theorem ch {K : Params → Frag} {as : List Addr} (e : ∀ P, as = (K P).map (·.1)) (w : World) (s : Shared) (x : ((((((as.drop 0).take 64).map s.heap.get?, ((as.drop 64).take 64).map s.heap.get?), (((as.drop 128).take 64).map s.heap.get?, ((as.drop 192).take 64).map s.heap.get?)), ((((as.drop 256).take 64).map s.heap.get?, ((as.drop 320).take 64).map s.heap.get?), (((as.drop 384).take 64).map s.heap.get?, ((as.drop 448).take 64).map s.heap.get?))), (((((as.drop 512).take 64).map s.heap.get?, ((as.drop 576).take 64).map s.heap.get?), (((as.drop 640).take 64).map s.heap.get?, ((as.drop 704).take 64).map s.heap.get?)), ((((as.drop 768).take 64).map s.heap.get?, ((as.drop 832).take 64).map s.heap.get?), (((as.drop 896).take 64).map s.heap.get?, (as.drop 960).map s.heap.get?)))) = (((((((K w.params).drop 0).take 64).map (fun p => some p.2), (((K w.params).drop 64).take 64).map (fun p => some p.2)), ((((K w.params).drop 128).take 64).map (fun p => some p.2), (((K w.params).drop 192).take 64).map (fun p => some p.2))), (((((K w.params).drop 256).take 64).map (fun p => some p.2), (((K w.params).drop 320).take 64).map (fun p => some p.2)), ((((K w.params).drop 384).take 64).map (fun p => some p.2), (((K w.params).drop 448).take 64).map (fun p => some p.2)))), ((((((K w.params).drop 512).take 64).map (fun p => some p.2), (((K w.params).drop 576).take 64).map (fun p => some p.2)), ((((K w.params).drop 640).take 64).map (fun p => some p.2), (((K w.params).drop 704).take 64).map (fun p => some p.2))), (((((K w.params).drop 768).take 64).map (fun p => some p.2), (((K w.params).drop 832).take 64).map (fun p => some p.2)), ((((K w.params).drop 896).take 64).map (fun p => some p.2), ((K w.params).drop 960).map (fun p => some p.2)))))) : InK K w s.heap := by
  simp only [Prod.mk.injEq] at x
  obtain ⟨⟨⟨⟨x0, x1⟩, ⟨x2, x3⟩⟩, ⟨⟨x4, x5⟩, ⟨x6, x7⟩⟩⟩, ⟨⟨⟨x8, x9⟩, ⟨x10, x11⟩⟩, ⟨⟨x12, x13⟩, ⟨x14, x15⟩⟩⟩⟩ := x
  have y15 := x15
  have y14 := chs x14 (by decide) y15
  have y13 := chs x13 (by decide) y14
  have y12 := chs x12 (by decide) y13
  have y11 := chs x11 (by decide) y12
  have y10 := chs x10 (by decide) y11
  have y9 := chs x9 (by decide) y10
  have y8 := chs x8 (by decide) y9
  have y7 := chs x7 (by decide) y8
  have y6 := chs x6 (by decide) y7
  have y5 := chs x5 (by decide) y6
  have y4 := chs x4 (by decide) y5
  have y3 := chs x3 (by decide) y4
  have y2 := chs x2 (by decide) y3
  have y1 := chs x1 (by decide) y2
  have y0 := chs x0 (by decide) y1
  exact InK.of e w s y0
end Hk
open Lean in
local macro_rules
  | `($f:ident $h:term) => do
    let n := f.getId.eraseMacroScopes
    unless n == `Hook.obs || n == `Hook.val || n == `Hook.of do Macro.throwUnsupported
    match h with
    | `(($g:ident $k $a $e)) =>
      unless g.getId.eraseMacroScopes == `kHook do Macro.throwUnsupported
      if n == `Hook.obs then `(fun (s : PySem.Shared) => ((((((($a).drop 0).take 64).map s.heap.get?, ((($a).drop 64).take 64).map s.heap.get?), (((($a).drop 128).take 64).map s.heap.get?, ((($a).drop 192).take 64).map s.heap.get?)), ((((($a).drop 256).take 64).map s.heap.get?, ((($a).drop 320).take 64).map s.heap.get?), (((($a).drop 384).take 64).map s.heap.get?, ((($a).drop 448).take 64).map s.heap.get?))), (((((($a).drop 512).take 64).map s.heap.get?, ((($a).drop 576).take 64).map s.heap.get?), (((($a).drop 640).take 64).map s.heap.get?, ((($a).drop 704).take 64).map s.heap.get?)), ((((($a).drop 768).take 64).map s.heap.get?, ((($a).drop 832).take 64).map s.heap.get?), (((($a).drop 896).take 64).map s.heap.get?, (($a).drop 960).map s.heap.get?)))))
      else if n == `Hook.val then `(fun (w : PySem.World) => (((((((($k) w.params).drop 0).take 64).map (fun p => some p.2), (((($k) w.params).drop 64).take 64).map (fun p => some p.2)), ((((($k) w.params).drop 128).take 64).map (fun p => some p.2), (((($k) w.params).drop 192).take 64).map (fun p => some p.2))), (((((($k) w.params).drop 256).take 64).map (fun p => some p.2), (((($k) w.params).drop 320).take 64).map (fun p => some p.2)), ((((($k) w.params).drop 384).take 64).map (fun p => some p.2), (((($k) w.params).drop 448).take 64).map (fun p => some p.2)))), ((((((($k) w.params).drop 512).take 64).map (fun p => some p.2), (((($k) w.params).drop 576).take 64).map (fun p => some p.2)), ((((($k) w.params).drop 640).take 64).map (fun p => some p.2), (((($k) w.params).drop 704).take 64).map (fun p => some p.2))), (((((($k) w.params).drop 768).take 64).map (fun p => some p.2), (((($k) w.params).drop 832).take 64).map (fun p => some p.2)), ((((($k) w.params).drop 896).take 64).map (fun p => some p.2), ((($k) w.params).drop 960).map (fun p => some p.2))))))
      else `(Hk.ch (K := $k) (as := $a) $e)
    | _ => Macro.throwUnsupported
open PySem PySem.W PyProof.Rows
set_option maxHeartbeats 0 in
open_top PySem.Challenge.hd31 for PySem.Challenge.rw_askpaper_k31_sums_put_together
end
namespace L2
open PySem PySem.Spec PyProof.Rows
abbrev Key := Sum Int Str
def keyIs : Key → Value → Bool
 | .inl k, v => Value.isInt k v
 | .inr x, v => Value.isStrOf x v
def keyH (w : World) : Key → Int
 | .inl k => hashInt k
 | .inr x => hashStr w x
theorem zQ : ∀ {k : Key} {v : Value}, keyIs k v = true → (∃ i t, k = Sum.inl i ∧ v = Value.int i t) ∨ (∃ x t, k = Sum.inr x ∧ v = Value.str x t)
 | .inl i, v, h => by
   obtain ⟨t, e⟩ := Value.isInt_shape (k := i) (v := v) h
   exact .inl ⟨i, t, rfl, e⟩
 | .inr x, v, h => by
   obtain ⟨t, e⟩ := Value.isStrOf_shape (x := x) (v := v) h
   exact .inr ⟨x, t, rfl, e⟩
theorem keyIs_int (i : Int) (t : Tok) : keyIs (.inl i) (.int i t) = true := by simp [keyIs, Value.isInt]
theorem keyIs_str (x : Str) (t : Tok) : keyIs (.inr x) (.str x t) = true := by simp [keyIs, Value.isStrOf]
theorem key_ll (a b : Int) : decide ((Sum.inl a : Key) = Sum.inl b) = (a == b) := by
 by_cases e : a = b
 · subst e; simp
 · have h : ¬ (Sum.inl a : Key) = Sum.inl b := fun q => e (Sum.inl.inj q)
   rw [decide_eq_false h]
   exact (beq_eq_false_iff_ne.mpr e).symm
theorem key_rr (a b : Str) : decide ((Sum.inr a : Key) = Sum.inr b) = decide (a = b) := by
 by_cases e : a = b
 · subst e; simp
 · have h : ¬ (Sum.inr a : Key) = Sum.inr b := fun q => e (Sum.inr.inj q)
   rw [decide_eq_false h, decide_eq_false e]
theorem key_lr (a : Int) (b : Str) : decide ((Sum.inl a : Key) = Sum.inr b) = false := decide_eq_false (fun q => nomatch q)
theorem key_rl (a : Str) (b : Int) : decide ((Sum.inr a : Key) = Sum.inl b) = false := decide_eq_false (fun q => nomatch q)
def mixKind (prog : Program) (w : World) : PySem.KeyKind prog w Key where
 is := keyIs
 hash := keyH w
 inj := fun v a b ha hb => by
   rcases zQ ha with ⟨i, t, rfl, rfl⟩ | ⟨x, t, rfl, rfl⟩
   · rcases zQ hb with ⟨j, u, rfl, e⟩ | ⟨y, u, rfl, e⟩
     · injection e with e1 _; rw [e1]
     · exact nomatch e
   · rcases zQ hb with ⟨j, u, rfl, e⟩ | ⟨y, u, rfl, e⟩
     · exact nomatch e
     · injection e with e1 _; rw [e1]
 byValue := fun k v h => by
   rcases zQ h with ⟨i, t, rfl, rfl⟩ | ⟨x, t, rfl, rfl⟩ <;> rfl
 pyHash := fun hv h => by
   rcases zQ hv with ⟨i, t, rfl, rfl⟩ | ⟨x, t, rfl, rfl⟩
   · exact wpAny_pyHash_int h
   · exact wpAny_pyHash_str h
 eqBool := fun hu hv h => by
   rcases zQ hu with ⟨i, t, rfl, rfl⟩ | ⟨x, t, rfl, rfl⟩
   · rcases zQ hv with ⟨j, u, rfl, rfl⟩ | ⟨y, u, rfl, rfl⟩
     · rw [key_ll] at h; exact wpAny_eqBool_int h
     · rw [key_lr] at h; exact SeqAt.EqAt.int_str i t y u _ _ _ _ h
   · rcases zQ hv with ⟨j, u, rfl, rfl⟩ | ⟨y, u, rfl, rfl⟩
     · rw [key_rl] at h; exact SeqAt.EqAt.str_int x t j u _ _ _ _ h
     · rw [key_rr] at h; exact wpAny_eqBool_str h
 «strs» := fun k x t v h => by
   rcases zQ h with ⟨i, u, rfl, e⟩ | ⟨y, u, rfl, e⟩
   · exact nomatch e
   · injection e with e1 _
     subst e1
     cases v <;> rfl
theorem mixKind_is (prog : Program) (w : World) (k : Key) (v : Value) : (mixKind prog w).is k v = keyIs k v := rfl
theorem mixKind_int (prog : Program) (w : World) (i : Int) (t : Tok) : (mixKind prog w).is (.inl i) (.int i t) = true := keyIs_int i t
theorem mixKind_str (prog : Program) (w : World) (x : Str) (t : Tok) : (mixKind prog w).is (.inr x) (.str x t) = true := keyIs_str x t
end L2
namespace L2
open PySem PySem.Spec PyProof.Rows
inductive V where
 | non | bl (b : Bool) | int (i : Int) | str (x : Str) | byt (b : Array UInt8) | flt (b : UInt64) | ref (a : Addr) | ty (n : String)
 deriving DecidableEq
def RelV : V → Value → Prop
 | .non, u => u = Value.none
 | .bl b, u => u = Value.bool b
 | .int i, u => ∃ t, u = Value.int i t
 | .str x, u => ∃ t, u = Value.str x t
 | .byt b, u => ∃ t, u = Value.bytes b t
 | .flt b, u => ∃ t, u = Value.float b t
 | .ref a, u => u = Value.ref a
 | .ty n, u => u = Value.type n
abbrev Vals : List V → List Value → Prop := Paired RelV
theorem Vals.length {xs : List V} {us : List Value} (r : Vals xs us) : xs.length = us.length := Paired.length r
theorem Vals.get : ∀ {xs : List V} {us : List Value} {i : Nat} {x : V}, Vals xs us → xs[i]? = some x → ∃ u, us[i]? = some u ∧ RelV x u
 | _, _, _, _, .nil, e => by simp at e
 | _, _, 0, _, .cons r _, e => by simp at e; subst e; exact ⟨_, rfl, r⟩
 | _, _, i + 1, x, .cons _ t, e => by
   obtain ⟨u, h1, h2⟩ := Vals.get (i := i) (x := x) t (by simpa using e)
   exact ⟨u, by simpa using h1, h2⟩
theorem Vals.set {x : V} {u : Value} (r : RelV x u) : ∀ {xs : List V} {us : List Value} (i : Nat), Vals xs us → Vals (xs.set i x) (us.set i u)
 | _, _, _, .nil => .nil
 | _, _, 0, .cons _ t => .cons r t
 | _, _, i + 1, .cons q t => .cons q (Vals.set r i t)
theorem Vals.append : ∀ {xs ys : List V} {us ws : List Value}, Vals xs us → Vals ys ws → Vals (xs ++ ys) (us ++ ws)
 | _, _, _, _, .nil, s => s
 | _, _, _, _, .cons r t, s => .cons r (Vals.append t s)
theorem Vals.take : ∀ {xs : List V} {us : List Value} (n : Nat), Vals xs us → Vals (xs.take n) (us.take n)
 | _, _, 0, _ => .nil
 | _, _, _ + 1, .nil => .nil
 | _, _, n + 1, .cons r t => .cons r (Vals.take n t)
theorem Vals.drop : ∀ {xs : List V} {us : List Value} (n : Nat), Vals xs us → Vals (xs.drop n) (us.drop n)
 | _, _, 0, r => r
 | _, _, _ + 1, .nil => .nil
 | _, _, n + 1, .cons _ t => Vals.drop n t
theorem Vals.none_of : ∀ {xs : List V} {us : List Value} {i : Nat}, Vals xs us → xs[i]? = none → us[i]? = none := fun {xs us i} r e => by
 have h1 := r.length
 have h2 : xs.length ≤ i := List.getElem?_eq_none_iff.mp e
 exact List.getElem?_eq_none_iff.mpr (by omega)
def RelO : Option V → Option Value → Prop
 | some v, some u => RelV v u
 | none, none => True
 | _, _ => False
def KV {κ : Type} : List (κ × V) → List (κ × Value) → Prop := Paired fun (p : κ × V) (q : κ × Value) => p.1 = q.1 ∧ RelV p.2 q.2
def kV : Key → V
 | .inl i => .int i
 | .inr x => .str x
inductive HO where
 | lst (xs : List V)
 | tup (xs : List V)
 | dK (kvs : List (Key × V)) | dT (kvs : List (List Key × V))
 | set (S : Int → Bool) (n : Nat)
 | ins (C dx : Addr) (fs : List (Str × V))
 | own (x : Addr)
 | xd (fs : List (Str × V))
 | met (f x : Addr)
 | rng (lo hi : Int)
 | frz (o : Obj) (u : HO)
 | tbl (ps : Array Value)
 | ext (φ : Heap → Prop)
abbrev Hp := Addr → Option HO
def upd (H : Hp) (a : Addr) (o : HO) : Hp := fun b => if b = a then some o else H b
theorem zB {H : Hp} {a : Addr} {o : HO} : upd H a o a = some o := by unfold upd; rw [if_pos rfl]
theorem zJ {H : Hp} {a b : Addr} {o : HO} (h : b ≠ a) : upd H a o b = H b := by unfold upd; rw [if_neg h]
theorem yY {H : Hp} {a : Addr} {o u : HO} : upd (upd H a o) a u = upd H a u := by
 funext b; unfold upd; split <;> rfl
theorem ne_of {H : Hp} {a b : Addr} {o u : HO} (h : H a = some o) (h' : H b = some u) (d : o ≠ u) : a ≠ b := by
 intro e; subst e; rw [h] at h'; exact d (Option.some.inj h')
theorem zG {H : Hp} {a b : Addr} {o : HO} (h : H a = some o) (h' : H b = none) : a ≠ b := by
 intro e; subst e; rw [h] at h'; cases h'
section
variable (P : Program) (w : World)
def ObjOk (H : Hp) (h : Heap) (a : Addr) : HO → Prop
 | .lst xs => xs.length ≤ sizeLine ∧ ∃ (its : List Value) (n : Nat), Vals xs its ∧ h.get? a = some { cls := .type "list", data := .seq its.toArray n }
 | .tup xs => xs.length ≤ sizeLine ∧ ∃ its : List Value, Vals xs its ∧ IsTup h a its.toArray
 | .dK kvs => kvs.length ≤ sizeLine ∧ (a == sysModules) = false ∧ ∃ vs, KV kvs vs ∧ h.DictOf (mixKind P w) a vs
 | .dT kvs => kvs.length ≤ sizeLine ∧ (a == sysModules) = false ∧ ∃ xs : List (List Key × Addr × Value),
     Paired (fun (p : List Key × V) (q : List Key × Addr × Value) => p.1 = q.1 ∧ H q.2.1 = some (.tup (p.1.map kV)) ∧ RelV p.2 q.2.2) kvs xs ∧
     ∃ o es ep, h.get? a = some o ∧ o.ExactDict ∧ o.data = .dict es ep ∧ es.toList = xs.map (entryOfKey (tupleKind (mixKind P w))) ∧ (xs.map (·.1)).Nodup
 | .set S n => h.SetOf (intKind P w) a S n
 | .ins C dx fs => H dx = some (.own a) ∧ fs.length ≤ 1000 ∧ dx ≠ a ∧ h.get? a = some (PySem.W.instObj C dx) ∧
     ∃ mA, h.Ns1 dx mA ∧ (∀ f, RelO (fs.lookup f) (mA f)) ∧ PySem.Within mA (fs.map (·.1))
 | .own _ => ∃ o, h.get? a = some o
 | .xd fs => ∃ mA, h.Ns1 a mA ∧ ∀ f, RelO (fs.lookup f) (mA f)
 | .rng lo hi => ∃ t u v, h.get? a = some { cls := .type "range", data := .fields #[.int lo t, .int hi u, .int 1 v] }
 | .frz o u => h.get? a = some o ∧ ObjOk H h a u
 | .tbl ps => h.get? a = some { cls := .none, data := .fields ps }
 | .met f x => h.get? a = some (PySem.W.methodObj (.ref f) (.ref x))
 | .ext φ => φ h ∧ (∃ o, h.get? a = some o) ∧ ∀ h1 h2 : Heap, φ h1 → (∀ o, h1.get? a = some o → h2.get? a = some o) → φ h2
def HOk (H : Hp) (h : Heap) : Prop := ∀ a o, H a = some o → ObjOk P w H h a o
end
section
variable {P : Program} {w : World} {H H' : Hp} {h h' : Heap} {a : Addr} {o : HO}
theorem ObjOk.lt (x : ObjOk P w H h a o) : a < h.objs.size := by
 cases o with
 | lst xs => obtain ⟨_, _, _, _, e⟩ := x; exact Heap.lt_size e
 | tup xs => obtain ⟨_, _, _, p⟩ := x; exact p.lt
 | dK kvs => obtain ⟨_, _, _, _, o, _, _, e, _⟩ := x; exact Heap.lt_size e
 | dT kvs => obtain ⟨_, _, _, _, o, _, _, e, _⟩ := x; exact Heap.lt_size e
 | set S n => obtain ⟨o, _, _, _, e, _⟩ := x; exact Heap.lt_size e
 | ins C dx fs => obtain ⟨_, _, _, e, _⟩ := x; exact Heap.lt_size e
 | own y => obtain ⟨_, e⟩ := x; exact Heap.lt_size e
 | xd fs => obtain ⟨_, ⟨_, _, _, e, _⟩, _⟩ := x; exact Heap.lt_size e
 | rng lo hi => obtain ⟨_, _, _, e⟩ := x; exact Heap.lt_size e
 | frz ob u => obtain ⟨e, _⟩ := x; exact Heap.lt_size e
 | tbl ps => exact Heap.lt_size (show h.get? a = some _ from x)
 | met f y => exact Heap.lt_size (show h.get? a = some _ from x)
 | ext φ => obtain ⟨_, ⟨_, e⟩, _⟩ := x; exact Heap.lt_size e
theorem Paired.mapP {α β : Type} {F G : α → β → Prop} : ∀ {l₁ : List α} {l₂ : List β}, Paired F l₁ l₂ → (∀ a b, F a b → G a b) → Paired G l₁ l₂
 | _, _, .nil, _ => .nil
 | _, _, .cons r t, f => .cons (f _ _ r) (Paired.mapP t f)
theorem ObjOk.stay (x : ObjOk P w H h a o) (k : ∀ b u, (b = a ∨ H b = some (.own a)) → h.get? b = some u → h'.get? b = some u)
   (ho : ∀ b, H b = some (.own a) → H' b = some (.own a)) (ht : ∀ b xs, H b = some (.tup xs) → H' b = some (.tup xs)) : ObjOk P w H' h' a o := by
 induction o with
 | lst xs => obtain ⟨z, its, n, r, e⟩ := x; exact ⟨z, its, n, r, k _ _ (.inl rfl) e⟩
 | tup xs => obtain ⟨z, its, r, ob, e, c⟩ := x; exact ⟨z, its, r, ob, k _ _ (.inl rfl) e, c⟩
 | dK kvs => obtain ⟨z, y, vs, r, ob, es, ep, e, c⟩ := x; exact ⟨z, y, vs, r, ob, es, ep, k _ _ (.inl rfl) e, c⟩
 | dT kvs =>
   obtain ⟨z, y, xs, r, ob, es, ep, e, c⟩ := x
   exact ⟨z, y, xs, Paired.mapP r fun p q z => ⟨z.1, ht _ _ z.2.1, z.2.2⟩, ob, es, ep, k _ _ (.inl rfl) e, c⟩
 | set S n => obtain ⟨ob, es, ep, t, e, c⟩ := x; exact ⟨ob, es, ep, t, k _ _ (.inl rfl) e, c⟩
 | ins C dx fs =>
   obtain ⟨d, z, ne, e, mA, ⟨od, es, ep, e2, c⟩, r⟩ := x
   exact ⟨ho _ d, z, ne, k _ _ (.inl rfl) e, mA, ⟨od, es, ep, k _ _ (.inr d) e2, c⟩, r⟩
 | own y => obtain ⟨ob, e⟩ := x; exact ⟨ob, k _ _ (.inl rfl) e⟩
 | xd fs => obtain ⟨mA, ⟨od, es, ep, e, c⟩, r⟩ := x; exact ⟨mA, ⟨od, es, ep, k _ _ (.inl rfl) e, c⟩, r⟩
 | rng lo hi => obtain ⟨t, u, v, e⟩ := x; exact ⟨t, u, v, k _ _ (.inl rfl) e⟩
 | frz ob u ih => obtain ⟨e, q⟩ := x; exact ⟨k _ _ (.inl rfl) e, ih q⟩
 | tbl ps =>
   have e : h.get? a = some { cls := .none, data := .fields ps } := x
   show h'.get? a = some { cls := .none, data := .fields ps }
   exact k a _ (.inl rfl) e
 | met f y =>
   have e : h.get? a = some (PySem.W.methodObj (.ref f) (.ref y)) := x
   show h'.get? a = some (PySem.W.methodObj (.ref f) (.ref y))
   exact k a _ (.inl rfl) e
 | ext φ => obtain ⟨p, ⟨o, e⟩, st⟩ := x; exact ⟨st _ _ p fun o q => k _ _ (.inl rfl) q, ⟨o, k _ _ (.inl rfl) e⟩, st⟩
theorem HOk.lt (x : HOk P w H h) (e : H a = some o) : a < h.objs.size := (x a o e).lt
theorem HOk.fresh (x : HOk P w H h) (e : h.objs.size ≤ a) : H a = none := by
 cases q : H a with
 | none => rfl
 | some u => exact absurd (Nat.lt_of_lt_of_le (x.lt q) e) (Nat.lt_irrefl _)
theorem HOk.kept (x : HOk P w H h) (k : ∀ b u, h.get? b = some u → h'.get? b = some u) : HOk P w H h' := fun a o e =>
 (x a o e).stay (fun b u _ q => k b u q) (fun _ q => q) fun _ _ q => q
theorem HOk.laid (x : HOk P w H h) (k : ∀ b u, h.get? b = some u → h'.get? b = some u) (hp : h.objs.size ≤ a) (new : ObjOk P w (upd H a o) h' a o) : HOk P w (upd H a o) h' := fun b u e => by
 have hn := x.fresh hp
 by_cases hb : b = a
 · subst hb; rw [zB] at e; cases e; exact new
 · rw [zJ hb] at e
   exact (x b u e).stay (fun c v _ q => k c v q) (fun c q => by rw [zJ (zG q hn)]; exact q) fun c xs q => by rw [zJ (zG q hn)]; exact q
end
def Rd (H : Hp) (a : Addr) (u : HO) : Prop := H a = some u ∨ ∃ o, H a = some (.frz o u)
theorem Rd.of {H : Hp} {a : Addr} {u : HO} (h : H a = some u) : Rd H a u := .inl h
theorem Rd.ok {P : Program} {w : World} {H : Hp} {h : Heap} {a : Addr} {u : HO} (r : Rd H a u) (x : HOk P w H h) : ObjOk P w H h a u := by
 rcases r with r | ⟨o, r⟩
 · exact x a u r
 · obtain ⟨_, q⟩ := x a _ r
   exact q
def Mut : Option HO → Prop
 | some (.lst _) => True
 | some (.dK _) => True
 | some (.dT _) => True
 | some (.set _ _) => True
 | some (.ins _ _ _) => True
 | some (.ext _) => True
 | _ => False
section
variable {P : Program} {w : World} {H : Hp} {h h' : Heap} {x e : Addr} {o' : HO}
theorem HOk.write (ok : HOk P w H h) (mu : Mut (H x)) (he : e = x ∨ H e = some (.own x)) (k : ∀ b u, b ≠ e → h.get? b = some u → h'.get? b = some u) (heo : ∃ u, h'.get? e = some u)
   (new : ObjOk P w (upd H x o') h' x o') : HOk P w (upd H x o') h' := fun b u q => by
 have nown : ∀ c y, H c = some (.own y) → c ≠ x := fun c y r z => by subst z; rw [r] at mu; exact mu
 have ntup : ∀ c xs, H c = some (.tup xs) → c ≠ x := fun c xs r z => by subst z; rw [r] at mu; exact mu
 by_cases hb : b = x
 · subst hb; rw [zB] at q; cases q; exact new
 · rw [zJ hb] at q
   by_cases hbe : b = e
   · have q' : H b = some (.own x) := by
       rcases he with z | z
       · exact absurd (hbe.trans z) hb
       · rw [hbe]; exact z
     rw [q] at q'; cases q'
     obtain ⟨v, hv⟩ := heo
     exact ⟨v, by rw [hbe]; exact hv⟩
   · refine (ok b u q).stay (fun c v hc r => k c v ?_ r) (fun c r => by rw [zJ (nown c b r)]; exact r) fun c xs r => by rw [zJ (ntup c xs r)]; exact r
     rcases hc with rfl | hc
     · exact hbe
     · rintro rfl
       rcases he with z | z
       · exact nown c b hc z
       · rw [hc] at z; cases z; exact hb rfl
end
structure Un (fs ex : List Addr) (H H' : Hp) (h h' : Heap) : Prop where
 keep : ∀ b o, h.get? b = some o → H b = none → b ∉ fs → b ∉ ex → h'.get? b = some o
 slot : ∀ b o, h.get? b = some o → H b = none → b ∈ fs → b ∉ ex → ∃ sl, h'.get? b = some { o with slots := sl }
 free : ∀ b o, h.get? b = some o → H b = none → b ∉ ex → H' b = none
 there : ∀ b o, h.get? b = some o → b ∉ ex → ∃ o', h'.get? b = some o'
 tups : ∀ b xs, H b = some (.tup xs) → H' b = some (.tup xs)
 frzs : ∀ b o u, H b = some (.frz o u) → H' b = some (.frz o u)
 tbls : ∀ b ps, H b = some (.tbl ps) → ∃ more, H' b = some (.tbl (ps ++ more))
section
variable {fs fs' ex ex' : List Addr} {H H1 H2 : Hp} {h h1 h2 h' : Heap} {a x e : Addr} {o : HO}
theorem Un.any (u : Un fs ex H H1 h h1) {b : Addr} {ob : Obj} (q : h.get? b = some ob) (n : H b = none) (hx : b ∉ ex) : ∃ sl, h1.get? b = some { ob with slots := sl } := by
 by_cases hb : b ∈ fs
 · exact u.slot b ob q n hb hx
 · exact ⟨ob.slots, u.keep b ob q n hb hx⟩
theorem Un.trans (a : Un fs ex H H1 h h1) (b : Un fs ex H1 H2 h1 h2) : Un fs ex H H2 h h2 where
 keep := fun c ob q n hc hx => b.keep c ob (a.keep c ob q n hc hx) (a.free c ob q n hx) hc hx
 slot := fun c ob q n hc hx => by
   obtain ⟨sl, e1⟩ := a.slot c ob q n hc hx
   obtain ⟨sl', e2⟩ := b.slot c _ e1 (a.free c ob q n hx) hc hx
   exact ⟨sl', e2⟩
 free := fun c ob q n hx => by
   obtain ⟨o', e1⟩ := a.there c ob q hx
   exact b.free c o' e1 (a.free c ob q n hx) hx
 there := fun c ob q hx => by
   obtain ⟨o', e1⟩ := a.there c ob q hx
   exact b.there c o' e1 hx
 tups := fun c xs q => b.tups c xs (a.tups c xs q)
 frzs := fun c ob xs q => b.frzs c ob xs (a.frzs c ob xs q)
 tbls := fun c ps q => by
   obtain ⟨m1, e1⟩ := a.tbls c ps q
   obtain ⟨m2, e2⟩ := b.tbls c _ e1
   exact ⟨m1 ++ m2, by rw [e2, Array.append_assoc]⟩
theorem Un.kept (k : ∀ b u, h.get? b = some u → h'.get? b = some u) : Un fs ex H H h h' :=
 ⟨fun b ob q _ _ _ => k b ob q, fun b ob q _ _ _ => ⟨ob.slots, k b ob q⟩, fun _ _ _ n _ => n, fun b ob q _ => ⟨ob, k b ob q⟩, fun _ _ q => q, fun _ _ _ q => q, fun _ ps q => ⟨#[], by rw [q]; simp⟩⟩
theorem Un.refl : Un fs ex H H h h := Un.kept fun _ _ q => q
theorem Un.laid (k : ∀ b u, h.get? b = some u → h'.get? b = some u) (hp : h.objs.size ≤ a) (hn : H a = none) : Un fs ex H (upd H a o) h h' where
 keep := fun b u q _ _ _ => k b u q
 slot := fun b u q _ _ _ => ⟨u.slots, k b u q⟩
 free := fun b u q n _ => by rw [zJ (Nat.ne_of_lt (Nat.lt_of_lt_of_le (Heap.lt_size q) hp))]; exact n
 there := fun b u q _ => ⟨u, k b u q⟩
 tups := fun b xs q => by rw [zJ (zG q hn)]; exact q
 frzs := fun b u xs q => by rw [zJ (zG q hn)]; exact q
 tbls := fun b ps q => ⟨#[], by rw [zJ (zG q hn), q]; simp⟩
theorem Un.write (mu : Mut (H x)) (he : e = x ∨ H e = some (.own x)) (k : ∀ b u, b ≠ e → h.get? b = some u → h'.get? b = some u) (heo : ∃ u, h'.get? e = some u) : Un fs ex H (upd H x o) h h' := by
 have hx : ∀ b, H b = none → b ≠ x := fun b n z => by subst z; rw [n] at mu; exact mu
 have hb : ∀ b, H b = none → b ≠ e := fun b n z => by
   subst z
   rcases he with r | r
   · exact hx b n r
   · rw [n] at r; cases r
 have hm : ∀ b u, H b = some u → ¬ Mut (some u) → b ≠ x := fun b u q nm z => by subst z; rw [q] at mu; exact nm mu
 refine ⟨fun b u q n _ _ => k b u (hb b n) q, fun b u q n _ _ => ⟨u.slots, k b u (hb b n) q⟩, fun b u q n _ => by rw [zJ (hx b n)]; exact n, fun b u q _ => ?_,
   fun b xs q => by rw [zJ (hm b _ q fun z => z)]; exact q, fun b u xs q => by rw [zJ (hm b _ q fun z => z)]; exact q, fun b ps q => ⟨#[], by rw [zJ (hm b _ q fun z => z), q]; simp⟩⟩
 by_cases hbe : b = e
 · subst hbe; exact heo
 · exact ⟨u, k b u hbe q⟩
theorem Un.mono (u : Un fs ex H H1 h h1) (hs : ∀ b ∈ fs, b ∈ fs') (hx : ∀ b ∈ ex, b ∈ ex') : Un fs' ex' H H1 h h1 :=
 ⟨fun b ob q n hb he => u.keep b ob q n (fun z => hb (hs b z)) fun z => he (hx b z), fun _ _ q n _ he => u.any q n fun z => he (hx _ z), fun b ob q n he => u.free b ob q n fun z => he (hx b z), fun b ob q he => u.there b ob q fun z => he (hx b z), u.tups, u.frzs, u.tbls⟩
end
def trk (h : Heap) (H : Hp) : List Addr := (List.range h.objs.size).filter fun a => (H a).isSome
def hidT (h : Heap) (H : Hp) : Heap := PySem.W.hideAll h (trk h H)
theorem hidT_size (h : Heap) (H : Hp) : (hidT h H).objs.size = h.objs.size := PySem.W.hideAll_size _ _
theorem hidT_get {h : Heap} {H : Hp} {b : Addr} {o : Obj} (e : h.get? b = some o) (n : H b = none) : (hidT h H).get? b = some o :=
 PySem.W.hideAll_get _ e fun hm => by
   have q : (H b).isSome = true := (List.mem_filter.mp hm).2
   rw [n] at q; simp at q
theorem of_hidT {h : Heap} {H : Hp} {b : Addr} {o : Obj} (e : (hidT h H).get? b = some o) : h.get? b = some o ∧ H b = none := by
 have e' : h.get? b = some o := PySem.W.of_hideAll (trk h H) e
 refine ⟨e', ?_⟩
 cases q : H b with
 | none => rfl
 | some x =>
   have hm : b ∈ trk h H := List.mem_filter.mpr ⟨List.mem_range.mpr (Heap.lt_size e'), by simp [q]⟩
   have z : (hidT h H).get? b = none := PySem.W.hideAll_none (trk h H) hm
   rw [z] at e; cases e
def allNews (g h : Heap) (L : Addr) : List (Addr × Obj) := (List.range h.objs.size).filterMap fun a => if a = L ∨ (g.get? a).isSome = true then none else (h.get? a).map fun o => (a, o)
def rest (g h : Heap) (L d : Addr) : List (Addr × Obj) := (allNews g h L).filter fun p => decide (p.1 ≠ d)
end L2
namespace L2
open PySem PySem.Spec PyProof.Rows
structure Mod (K : PySem.W.Frag) (mg : Str → Option Value) (base : Heap) : Prop where
 kin : K.In base
 glob : base.Ns mainGlobals mg
 blt : ∃ mb, base.Ns builtinsNs mb ∧ ∀ x : Str, x ≠ "__name__" → mb x = bootBuiltins x
 nolimit : base.NoLimit
structure Cx where
 prog : Program
 w : World
 K : PySem.W.Frag
 mg : Str → Option Value
 base : Heap
 A : Around
 N : List Str
 s₀ : Shared
 H₀ : Hp
 env : Env
 outer : List Env
 stack : List Env
 ex : List Addr
 fn : Str → Bool
 calm : Bool
 pn : List (Addr × Obj)
 xe : Value → Shared → Prop
def frs (l : List Env) : List Addr := l.filterMap (·.frame)
abbrev Cx.fs (X : Cx) : List Addr := frs X.outer
def Vis (sc : Scope) (x : Str) : Prop := sc.names.lookup x = some .local ∨ sc.names.lookup x = some .cell ∨ sc.names.lookup x = some .free
def Loc (sc : Scope) (x : Str) : Prop := sc.names.lookup x = some .local ∨ sc.names.lookup x = some .cell
def Look (env : Env) (h : Heap) (m : Str → Option Value) (x : Str) (u : Value) : Prop :=
 (env.kindOf x = some .local ∧ m x = some u) ∨ ((env.kindOf x = some .cell ∨ env.kindOf x = some .free) ∧ ∃ c, env.cells.lookup x = some c ∧ h.IsCell c (some u))
structure Cx.Ok (X : Cx) : Prop where
 mod : Mod X.K X.mg X.base
 kind : X.env.scope.kind = .function
 glob : X.env.globals = mainGlobals
 blt : X.env.builtins = builtinsNs
 above : X.s₀.heap.objs.size ≤ X.env.locals
 inj : ∀ x y c, X.env.cells.lookup x = some c → X.env.cells.lookup y = some c → x = y
 has : ∀ x, (X.env.kindOf x = some .cell ∨ X.env.kindOf x = some .free) → ∃ c, X.env.cells.lookup x = some c
 cab : ∀ x c, X.fn x = true → X.env.cells.lookup x = some c → X.s₀.heap.objs.size ≤ c
 hd : X.calm = true → X.A.handled = none
 frames : X.A.frames = some X.stack
 stk : X.stack = X.outer ∨ (X.stack = X.env :: X.outer ∧ X.env.frame = some X.env.locals)
 exf : ∀ b ∈ X.ex, b ≠ X.env.locals ∧ ∀ x c, X.env.cells.lookup x = some c → c ≠ b
 bs : ∀ b o, X.base.get? b = some o → X.s₀.heap.get? b = some o ∧ X.H₀ b = none
 bsz : X.base.objs.size ≤ X.s₀.heap.objs.size
 noex : ∀ b o, X.base.get? b = some o → b ∉ X.ex
 exfs : ∀ b ∈ X.ex, b ∉ X.fs
 funs : X.s₀.heap.FunFrames X.base X.outer
 frf : ∀ b ∈ X.fs, X.H₀ b = none
structure Inv (X : Cx) (pins : List (Addr × Obj)) (σ : List (Option V)) (H : Hp) (s : Shared) : Prop where
 ok : X.Ok
 os : s.os = X.s₀.os
 bare : AllBare s.gens
 base : Un X.fs X.ex X.H₀ H X.s₀.heap s.heap
 loc : ∃ m, s.heap.Ns X.env.locals m ∧ ∀ (i : Nat) (x : Str) (v : V), X.N[i]? = some x → σ[i]? = some (some v) → Vis X.env.scope x → ∃ u, RelV v u ∧ Look X.env s.heap m x u
 cell : ∀ x c, X.env.cells.lookup x = some c → ∃ v, s.heap.IsCell c v
 free : H X.env.locals = none
 freeC : ∀ x c, X.env.cells.lookup x = some c → H c = none
 pin : ∀ p ∈ X.pn ++ pins, s.heap.get? p.1 = some p.2 ∧ H p.1 = none ∧ p.1 ≠ X.env.locals ∧ p.1 ∉ X.fs ∧ ∀ v, p.2.data ≠ .cell v
 hok : HOk X.prog X.w H s.heap
 len : σ.length = X.N.length
section
variable {X : Cx} {pins : List (Addr × Obj)} {σ : List (Option V)} {H H' : Hp} {s : Shared} {h' : Heap}
theorem Cx.Ok.nofr (ok : X.Ok) {b : Addr} {o : Obj} (e : X.base.get? b = some o) : b ∉ X.fs := fun hb => by
 have := (ok.funs.mem hb).1
 rw [e] at this; cases this
theorem Inv.bs (I : Inv X pins σ H s) : ∀ b o, X.base.get? b = some o → s.heap.get? b = some o ∧ H b = none := fun b o e =>
 ⟨I.base.keep b o (I.ok.bs b o e).1 (I.ok.bs b o e).2 (I.ok.nofr e) (I.ok.noex b o e), I.base.free b o (I.ok.bs b o e).1 (I.ok.bs b o e).2 (I.ok.noex b o e)⟩
theorem Inv.bk (I : Inv X pins σ H s) : ∀ b o, X.base.get? b = some o → s.heap.get? b = some o := fun b o e => (I.bs b o e).1
theorem Inv.mod (I : Inv X pins σ H s) : Mod X.K X.mg X.base := I.ok.mod
theorem Inv.kIn (I : Inv X pins σ H s) : X.K.In s.heap := I.ok.mod.kin.keeps I.bk
theorem Inv.nolimit (I : Inv X pins σ H s) : s.heap.NoLimit := I.ok.mod.nolimit.keeps I.bk
theorem Inv.fr (I : Inv X pins σ H s) : ∃ m, Fr X.base X.env.locals s.heap m :=
 let ⟨m, hn, _⟩ := I.loc
 ⟨m, hn, I.bk, Nat.le_trans I.ok.bsz I.ok.above⟩
theorem Inv.lt (I : Inv X pins σ H s) : X.env.locals < s.heap.objs.size := let ⟨_, hn, _⟩ := I.loc; hn.lt
theorem Inv.sz (I : Inv X pins σ H s) : X.s₀.heap.objs.size ≤ s.heap.objs.size := Nat.le_trans I.ok.above (Nat.le_of_lt I.lt)
theorem Inv.nofs (I : Inv X pins σ H s) {a : Addr} (h : s.heap.objs.size ≤ a) : a ∉ X.fs := fun hb => by
 obtain ⟨_, o, ho, _⟩ := I.ok.funs.mem hb
 exact absurd (Nat.lt_of_lt_of_le (Heap.lt_size ho) (Nat.le_trans I.sz h)) (Nat.lt_irrefl _)
theorem Inv.cne (I : Inv X pins σ H s) : ∀ x c, X.env.cells.lookup x = some c → c ≠ X.env.locals := fun x c e z => by
 obtain ⟨v, o, ho, hd⟩ := I.cell x c e
 obtain ⟨m, ⟨o', es, ep, ho', hd', _⟩, _⟩ := I.loc
 rw [z, ho'] at ho; cases ho; rw [hd'] at hd; cases hd
theorem Inv.funs (I : Inv X pins σ H s) : s.heap.FunFrames X.base X.outer := by
 have all : ∀ (l : List Env), (∀ b ∈ frs l, b ∈ X.fs) → X.s₀.heap.FunFrames X.base l → s.heap.FunFrames X.base l := by
   intro l
   induction l with
   | nil => intro _ _; trivial
   | cons env r ih =>
     intro hs hl
     obtain ⟨hk, ⟨L, o, hf, hn, ho, hd⟩, hr⟩ := hl
     have hL : L ∈ X.fs := hs L (by unfold frs; rw [List.filterMap_cons, hf]; exact List.mem_cons_self)
     obtain ⟨sl, e⟩ := I.base.slot L o ho (I.ok.frf L hL) hL fun z => I.ok.exfs L z hL
     exact ⟨hk, ⟨L, _, hf, hn, e, hd⟩, ih (fun b hb => hs b (by unfold frs; rw [List.filterMap_cons, hf]; exact List.mem_cons_of_mem _ hb)) hr⟩
 exact all X.outer (fun _ hb => hb) I.ok.funs
theorem Inv.stack (I : Inv X pins σ H s) : s.heap.FunFrames X.base X.stack := by
 rcases I.ok.stk with e | ⟨e, hf⟩
 · rw [e]; exact I.funs
 · rw [e]
   obtain ⟨m, hn, _⟩ := I.loc
   refine .cons (by rw [I.ok.kind]; decide) hf hn ?_ I.funs
   exact Heap.get?_none_of_le (Nat.le_trans I.ok.bsz I.ok.above)
theorem Inv.stkSub (I : Inv X pins σ H s) : ∀ b ∈ frs X.stack, b ∈ X.env.locals :: X.fs := fun b hb => by
 rcases I.ok.stk with e | ⟨e, hf⟩
 · rw [e] at hb; exact List.mem_cons_of_mem _ hb
 · rw [e] at hb
   unfold frs at hb
   rw [List.filterMap_cons, hf] at hb
   exact hb
theorem Inv.stkFree (I : Inv X pins σ H s) : ∀ b ∈ frs X.stack, H b = none := fun b hb => by
 rcases List.mem_cons.mp (I.stkSub b hb) with e | hb
 · rw [e]; exact I.free
 · obtain ⟨_, o, ho, _⟩ := I.ok.funs.mem hb
   exact I.base.free b o ho (I.ok.frf b hb) fun z => I.ok.exfs b z hb
theorem Inv.step {g' : Array GenState} {t' : Nat} {d' : Drawn} {ch : List Addr} (I : Inv X pins σ H s)
   (hch : ∀ b ∈ ch, (b ∈ X.ex ∨ X.s₀.heap.objs.size ≤ b) ∧ b ≠ X.env.locals ∧ (∀ x c, X.env.cells.lookup x = some c → c ≠ b) ∧ ∀ p ∈ X.pn ++ pins, p.1 ≠ b)
   (keep : ∀ b o, b ≠ X.env.locals → b ∉ X.fs → b ∉ ch → s.heap.get? b = some o → H b = none → h'.get? b = some o)
   (slot : ∀ b o, b ≠ X.env.locals → b ∈ X.fs → b ∉ ch → s.heap.get? b = some o → H b = none → ∃ sl, h'.get? b = some { o with slots := sl }) (free : ∀ b o, b ∉ ch → s.heap.get? b = some o → H b = none → H' b = none)
   (there : ∀ b o, b ∉ ch → s.heap.get? b = some o → ∃ o', h'.get? b = some o')
   (tups : ∀ b xs, H b = some (.tup xs) → H' b = some (.tup xs)) (frzs : ∀ b o u, H b = some (.frz o u) → H' b = some (.frz o u)) (tbls : ∀ b ps, H b = some (.tbl ps) → ∃ more, H' b = some (.tbl (ps ++ more)))
   (ns : ∀ m, s.heap.Ns X.env.locals m → h'.Ns X.env.locals m) (hok : HOk X.prog X.w H' h') (hg : AllBare g') :
   Inv X pins σ H' { s with heap := h', gens := g', drawn := d', toks := t' } := by
 have neL : ∀ b o, X.s₀.heap.get? b = some o → b ≠ X.env.locals := fun b o e => Nat.ne_of_lt (Nat.lt_of_lt_of_le (Heap.lt_size e) I.ok.above)
 have neC : ∀ b o, X.s₀.heap.get? b = some o → b ∉ X.ex → b ∉ ch := fun b o e hx hb => by
   rcases (hch b hb).1 with z | z
   · exact hx z
   · exact absurd (Nat.lt_of_lt_of_le (Heap.lt_size e) z) (Nat.lt_irrefl _)
 have cellK : ∀ x c, X.env.cells.lookup x = some c → ∀ v, s.heap.IsCell c v → h'.IsCell c v := fun x c e v ⟨o, ho, hd⟩ => by
   have nch : c ∉ ch := fun z => (hch c z).2.2.1 x c e rfl
   by_cases hc : c ∈ X.fs
   · obtain ⟨sl, q⟩ := slot c o (I.cne x c e) hc nch ho (I.freeC x c e)
     exact ⟨_, q, hd⟩
   · exact ⟨o, keep c o (I.cne x c e) hc nch ho (I.freeC x c e), hd⟩
 refine ⟨I.ok, I.os, hg, ⟨fun b o e n hb hx => ?_, fun b o e n hb hx => ?_, fun b o e n hx => ?_, fun b o e hx => ?_, fun b xs e => tups b xs (I.base.tups b xs e), fun b o xs e => frzs b o xs (I.base.frzs b o xs e), fun b ps e => ?_⟩, ?_, fun x c e => ?_, ?_, fun x c e => ?_, fun p hp => ?_, hok, I.len⟩
 · exact keep b o (neL b o e) hb (neC b o e hx) (I.base.keep b o e n hb hx) (I.base.free b o e n hx)
 · obtain ⟨sl, e1⟩ := I.base.slot b o e n hb hx
   obtain ⟨sl', e2⟩ := slot b _ (neL b o e) hb (neC b o e hx) e1 (I.base.free b o e n hx)
   exact ⟨sl', e2⟩
 · obtain ⟨o', e1⟩ := I.base.there b o e hx
   exact free b o' (neC b o e hx) e1 (I.base.free b o e n hx)
 · obtain ⟨o', e1⟩ := I.base.there b o e hx
   exact there b o' (neC b o e hx) e1
 · obtain ⟨m1, e1⟩ := I.base.tbls b ps e
   obtain ⟨m2, e2⟩ := tbls b _ e1
   exact ⟨m1 ++ m2, by rw [e2, Array.append_assoc]⟩
 · obtain ⟨m, hn, hl⟩ := I.loc
   refine ⟨m, ns m hn, fun i x v e1 e2 e3 => ?_⟩
   obtain ⟨u, r, l⟩ := hl i x v e1 e2 e3
   refine ⟨u, r, ?_⟩
   rcases l with l | ⟨k, c, e, z⟩
   · exact .inl l
   · exact .inr ⟨k, c, e, cellK x c e _ z⟩
 · obtain ⟨v, z⟩ := I.cell x c e
   exact ⟨v, cellK x c e v z⟩
 · obtain ⟨m, ⟨o, _, _, ho, _⟩, _⟩ := I.loc
   exact free _ o (fun z => (hch _ z).2.1 rfl) ho I.free
 · obtain ⟨v, o, ho, hd⟩ := I.cell x c e
   exact free c o (fun z => (hch c z).2.2.1 x c e rfl) ho (I.freeC x c e)
 · obtain ⟨e, n, ne, nf, d⟩ := I.pin p hp
   have nch : p.1 ∉ ch := fun z => (hch p.1 z).2.2.2 p hp rfl
   exact ⟨keep p.1 p.2 ne nf nch e n, free p.1 p.2 nch e n, ne, nf, d⟩
theorem Inv.un {t' : Nat} (I : Inv X pins σ H s) (u : Un X.fs [] H H' s.heap h') (hok : HOk X.prog X.w H' h') : Inv X pins σ H' { s with heap := h', toks := t' } := by
 obtain ⟨m, ⟨o, es, ep, ho, r⟩, _⟩ := id I.loc
 obtain ⟨sl, hL⟩ := u.any ho I.free (by simp)
 exact I.step (g' := s.gens) (d' := s.drawn) (ch := []) (fun _ z => nomatch z) (fun b o _ hb _ e n => u.keep b o e n hb (by simp)) (fun b o _ hb _ e n => u.slot b o e n hb (by simp)) (fun b o _ e n => u.free b o e n (by simp)) (fun b o _ e => u.there b o e (by simp)) u.tups u.frzs u.tbls (fun m' hm => by
   obtain ⟨o', es', ep', ho', r'⟩ := hm
   rw [ho] at ho'; cases ho'
   exact ⟨_, es', ep', hL, r'⟩) hok I.bare
theorem Inv.call {g' : Array GenState} {t' : Nat} {d' : Drawn} {ch : List Addr} (I : Inv X pins σ H s) (u : Un (frs X.stack) ch H H' s.heap h') (hok : HOk X.prog X.w H' h') (hg : AllBare g')
   (hch : ∀ b ∈ ch, (b ∈ X.ex ∨ X.s₀.heap.objs.size ≤ b) ∧ b ≠ X.env.locals ∧ (∀ x c, X.env.cells.lookup x = some c → c ≠ b) ∧ ∀ p ∈ X.pn ++ pins, p.1 ≠ b) :
   Inv X pins σ H' { s with heap := h', gens := g', drawn := d', toks := t' } := by
 obtain ⟨m, ⟨o, es, ep, ho, r⟩, _⟩ := id I.loc
 obtain ⟨sl, hL⟩ := u.any ho I.free fun z => (hch _ z).2.1 rfl
 exact I.step (ch := ch) hch (fun b o hL hb hc e n => u.keep b o e n (fun z => (List.mem_cons.mp (I.stkSub b z)).elim hL hb) hc) (fun b o _ _ hc e n => u.any e n hc) (fun b o hc e n => u.free b o e n hc) (fun b o hc e => u.there b o e hc) u.tups u.frzs u.tbls (fun m' hm => by
   obtain ⟨o', es', ep', ho', r'⟩ := hm
   rw [ho] at ho'; cases ho'
   exact ⟨_, es', ep', hL, r'⟩) hok hg
theorem Inv.turned {t' : Nat} {it : Addr} (I : Inv X pins σ H s) (k : ∀ b o, b ≠ it → s.heap.get? b = some o → h'.get? b = some o) (hn : H it = none) (hL : it ≠ X.env.locals)
   (h1 : it ∈ X.ex ∨ X.s₀.heap.objs.size ≤ it) (h2 : ∀ x c, X.env.cells.lookup x = some c → c ≠ it) (h3 : ∀ p ∈ X.pn ++ pins, p.1 ≠ it) : Inv X pins σ H { s with heap := h', toks := t' } := by
 have nit : ∀ b u, H b = some u → b ≠ it := fun b u e z => by rw [z, hn] at e; cases e
 refine I.step (g' := s.gens) (d' := s.drawn) (ch := [it]) (fun b hb => ?_) (fun b o _ _ hc e _ => k b o (fun z => hc (by simp [z])) e) (fun b o _ _ hc e _ => ⟨o.slots, k b o (fun z => hc (by simp [z])) e⟩) (fun _ _ _ _ n => n)
   (fun b o hc e => ⟨o, k b o (fun z => hc (by simp [z])) e⟩) (fun _ _ e => e) (fun _ _ _ e => e) (fun b ps e => ⟨#[], by rw [e]; simp⟩) (fun m hm => ?_) (fun b u e => ?_) I.bare
 · have e : b = it := by simpa using hb
   subst e
   exact ⟨h1, hL, h2, h3⟩
 · obtain ⟨o, es, ep, ho, r⟩ := hm
   exact ⟨o, es, ep, k _ o (Ne.symm hL) ho, r⟩
 · refine (I.hok b u e).stay (fun c v hc q => k c v ?_ q) (fun _ q => q) fun _ _ q => q
   rcases hc with z | z
   · rw [z]; exact nit b u e
   · exact nit c _ z
theorem Inv.tok (I : Inv X pins σ H s) (t : Nat) : Inv X pins σ H { s with toks := t } := I.un (h' := s.heap) (t' := t) Un.refl I.hok
theorem Inv.kept {t' : Nat} (I : Inv X pins σ H s) (k : ∀ b u, s.heap.get? b = some u → h'.get? b = some u) : Inv X pins σ H { s with heap := h', toks := t' } := I.un (Un.kept k) (I.hok.kept k)
theorem Inv.laid {a : Addr} {o : HO} {t' : Nat} (I : Inv X pins σ H s) (k : ∀ b u, s.heap.get? b = some u → h'.get? b = some u) (hp : s.heap.objs.size ≤ a) (new : ObjOk X.prog X.w (upd H a o) h' a o) :
   Inv X pins σ (upd H a o) { s with heap := h', toks := t' } := I.un (Un.laid k hp (I.hok.fresh hp)) (I.hok.laid k hp new)
theorem Inv.write {x e : Addr} {o : HO} {t' : Nat} (I : Inv X pins σ H s) (mu : Mut (H x)) (he : e = x ∨ H e = some (.own x)) (k : ∀ b u, b ≠ e → s.heap.get? b = some u → h'.get? b = some u) (heo : ∃ u, h'.get? e = some u)
   (new : ObjOk X.prog X.w (upd H x o) h' x o) : Inv X pins σ (upd H x o) { s with heap := h', toks := t' } := I.un (Un.write mu he k heo) (I.hok.write mu he k heo new)
theorem Inv.weak {σ' : List (Option V)} (I : Inv X pins σ H s) (hl : σ'.length = σ.length) (w : ∀ (i : Nat) v, σ'[i]? = some (some v) → σ[i]? = some (some v)) : Inv X pins σ' H s :=
 ⟨I.ok, I.os, I.bare, I.base, let ⟨m, hn, hl'⟩ := I.loc; ⟨m, hn, fun i x v e1 e2 e3 => hl' i x v e1 (w i v e2) e3⟩, I.cell, I.free, I.freeC, I.pin, I.hok, hl.trans I.len⟩
theorem Inv.pins_of {pins' : List (Addr × Obj)} (I : Inv X pins σ H s) (h : ∀ p ∈ pins', s.heap.get? p.1 = some p.2 ∧ H p.1 = none ∧ p.1 ≠ X.env.locals ∧ p.1 ∉ X.fs ∧ ∀ v, p.2.data ≠ .cell v) : Inv X pins' σ H s :=
 ⟨I.ok, I.os, I.bare, I.base, I.loc, I.cell, I.free, I.freeC, fun p hp => (List.mem_append.mp hp).elim (fun z => I.pin p (List.mem_append_left _ z)) (h p), I.hok, I.len⟩
theorem nodup_ix {N : List Str} (hN : N.Nodup) {i j : Nat} {x : Str} (a : N[i]? = some x) (b : N[j]? = some x) : i = j := by
 obtain ⟨h1, e1⟩ := List.getElem?_eq_some_iff.mp a
 obtain ⟨h2, e2⟩ := List.getElem?_eq_some_iff.mp b
 exact (List.getElem_inj hN).mp (e1.trans e2.symm)
theorem store_ok2 {M : Model} {A : Around} {E : Value → Shared → Prop} {i : Nat} {x : Str} {v : V} {u : Value} {Q : Unit → Shared → Prop} (I : Inv X pins σ H s) (hN : X.N.Nodup) (hi : X.N[i]? = some x) (hx : Loc X.env.scope x) (r : RelV v u)
   (h : ∀ s', Inv X pins (σ.set i (some v)) H s' → (∃ a, Heap.SameBut a s.heap s'.heap ∧ (a = X.env.locals ∨ X.env.cells.lookup x = some a)) → Q () s') (hf : X.fn x = true ∨ X.env.scope.names.lookup x = some .local := by first | exact .inl rfl | exact .inr rfl | assumption) : wpAny M A (storeName X.env x u) Q E s := by
 obtain ⟨m, hn, hl⟩ := id I.loc
 have hcls : (X.env.scope.kind == .class || (X.env.scope.kind == .module && X.env.locals != X.env.globals)) = false := by rw [I.ok.kind]; rfl
 have hiσ : i < σ.length := by rw [I.len]; exact (List.getElem?_eq_some_iff.mp hi).1
 have cne := I.cne
 have tracked : ∀ {a : Addr} {h' : Heap}, (∃ o, s.heap.get? a = some o ∧ H a = none) → Heap.SameBut a s.heap h' → HOk X.prog X.w H h' := fun {a h'} ha hs b ob e => by
   obtain ⟨_, _, hfree⟩ := ha
   refine (I.hok b ob e).stay (fun c w' hc q => (hs.2 c ?_).trans q) (fun _ q => q) fun _ _ q => q
   rintro rfl
   rcases hc with rfl | hc
   · rw [hfree] at e; cases e
   · rw [hfree] at hc; cases hc
 rcases hx with hk | hk
 · refine wpAny_storeName_local hk hn (fun h' hn' hs => ?_) hcls
   obtain ⟨oL, _, _, hoL, _⟩ := id hn
   refine h _ ⟨I.ok, I.os, I.bare, ⟨fun b o e n hb hx => ?_, fun b o e n hb hx => ?_, I.base.free, fun b o e hx => ?_, I.base.tups, I.base.frzs, I.base.tbls⟩, ⟨_, hn', fun j y v' e1 e2 e3 => ?_⟩, fun y c e => ?_, I.free, I.freeC, fun p hp => ?_, tracked ⟨oL, hoL, I.free⟩ hs, by simpa using I.len⟩ ⟨_, hs, .inl rfl⟩
   · exact (hs.2 b (Nat.ne_of_lt (Nat.lt_of_lt_of_le (Heap.lt_size e) I.ok.above))).trans (I.base.keep b o e n hb hx)
   · obtain ⟨sl, e1⟩ := I.base.slot b o e n hb hx
     exact ⟨sl, (hs.2 b (Nat.ne_of_lt (Nat.lt_of_lt_of_le (Heap.lt_size e) I.ok.above))).trans e1⟩
   · obtain ⟨o', e1⟩ := I.base.there b o e hx
     exact ⟨o', (hs.2 b (Nat.ne_of_lt (Nat.lt_of_lt_of_le (Heap.lt_size e) I.ok.above))).trans e1⟩
   · by_cases hj : j = i
     · subst hj
       rw [hi] at e1; cases e1
       rw [List.getElem?_set_self hiσ] at e2
       cases e2
       exact ⟨u, r, .inl ⟨hk, by simp⟩⟩
     · rw [List.getElem?_set_ne (Ne.symm hj)] at e2
       obtain ⟨u', r', q⟩ := hl j y v' e1 e2 e3
       refine ⟨u', r', ?_⟩
       rcases q with ⟨k, e⟩ | ⟨k, c, e, z⟩
       · refine .inl ⟨k, ?_⟩
         have : y ≠ x := fun e => hj (nodup_ix hN e1 (e ▸ hi))
         simp [this, e]
       · exact .inr ⟨k, c, e, z.sameBut hs (cne y c e)⟩
   · obtain ⟨w', z⟩ := I.cell y c e
     exact ⟨w', z.sameBut hs (cne y c e)⟩
   · obtain ⟨e, n, ne, nf, d⟩ := I.pin p hp
     exact ⟨(hs.2 p.1 ne).trans e, n, ne, nf, d⟩
 · have hfn : X.fn x = true := by
     rcases hf with z | z
     · exact z
     · rw [z] at hk; cases hk
   obtain ⟨c, hc⟩ := I.ok.has x (.inl hk)
   obtain ⟨w', z⟩ := I.cell x c hc
   refine wpAny_storeName_cell I.ok.kind hk hc z (fun h' hc' hs => ?_)
   obtain ⟨oc, hoc, hocd⟩ := id z
   refine h { s with heap := h' } ⟨I.ok, I.os, I.bare, ⟨fun b o e n hb hx => ?_, fun b o e n hb hx => ?_, I.base.free, fun b o e hx => ?_, I.base.tups, I.base.frzs, I.base.tbls⟩, ⟨m, hn.sameBut hs (Ne.symm (cne x c hc)), fun j y v' e1 e2 e3 => ?_⟩, fun y c' e => ?_, I.free, I.freeC, fun p hp => ?_, tracked ⟨oc, hoc, I.freeC x c hc⟩ hs, by simpa using I.len⟩ ⟨c, hs, .inr hc⟩
   · exact (hs.2 b (Nat.ne_of_lt (Nat.lt_of_lt_of_le (Heap.lt_size e) (I.ok.cab x c hfn hc)))).trans (I.base.keep b o e n hb hx)
   · obtain ⟨sl, e1⟩ := I.base.slot b o e n hb hx
     exact ⟨sl, (hs.2 b (Nat.ne_of_lt (Nat.lt_of_lt_of_le (Heap.lt_size e) (I.ok.cab x c hfn hc)))).trans e1⟩
   · obtain ⟨o', e1⟩ := I.base.there b o e hx
     exact ⟨o', (hs.2 b (Nat.ne_of_lt (Nat.lt_of_lt_of_le (Heap.lt_size e) (I.ok.cab x c hfn hc)))).trans e1⟩
   · by_cases hj : j = i
     · subst hj
       rw [hi] at e1; cases e1
       rw [List.getElem?_set_self hiσ] at e2
       cases e2
       exact ⟨u, r, .inr ⟨.inl hk, c, hc, hc'⟩⟩
     · rw [List.getElem?_set_ne (Ne.symm hj)] at e2
       obtain ⟨u', r', q⟩ := hl j y v' e1 e2 e3
       refine ⟨u', r', ?_⟩
       rcases q with q | ⟨k, c', e, z'⟩
       · exact .inl q
       · refine .inr ⟨k, c', e, z'.sameBut hs ?_⟩
         rintro rfl
         exact hj (nodup_ix hN e1 (I.ok.inj _ _ _ e hc ▸ hi))
   · by_cases hcc : c' = c
     · subst hcc; exact ⟨_, hc'⟩
     · obtain ⟨w2, z2⟩ := I.cell y c' e
       exact ⟨w2, z2.sameBut hs hcc⟩
   · obtain ⟨e, n, ne, nf, d⟩ := I.pin p hp
     refine ⟨(hs.2 p.1 ?_).trans e, n, ne, nf, d⟩
     intro q
     rw [q, hoc] at e
     have q' : oc = p.2 := Option.some.inj e
     exact d w' (by rw [← q']; exact hocd)
theorem store_ok {M : Model} {A : Around} {E : Value → Shared → Prop} {i : Nat} {x : Str} {v : V} {u : Value} {Q : Unit → Shared → Prop} (I : Inv X pins σ H s) (hN : X.N.Nodup) (hi : X.N[i]? = some x) (hx : Loc X.env.scope x) (r : RelV v u)
   (h : ∀ s', Inv X pins (σ.set i (some v)) H s' → Q () s') (hf : X.fn x = true ∨ X.env.scope.names.lookup x = some .local := by first | exact .inl rfl | exact .inr rfl | assumption) : wpAny M A (storeName X.env x u) Q E s :=
 store_ok2 I hN hi hx r (fun s' I' _ => h s' I') hf
theorem Inv.call' {s' : Shared} {ch : List Addr} (I : Inv X pins σ H s) (ho : s'.os = s.os) (u : Un (frs X.stack) ch H H' s.heap s'.heap) (hok : HOk X.prog X.w H' s'.heap) (hg : AllBare s'.gens)
   (hch : ∀ b ∈ ch, (b ∈ X.ex ∨ X.s₀.heap.objs.size ≤ b) ∧ b ≠ X.env.locals ∧ (∀ x c, X.env.cells.lookup x = some c → c ≠ b) ∧ ∀ p ∈ X.pn ++ pins, p.1 ≠ b) : Inv X pins σ H' s' := by
 obtain ⟨h', g', d', t', o'⟩ := s'
 have e : o' = s.os := ho
 subst e
 exact I.call (g' := g') (t' := t') (d' := d') u hok hg hch
end
abbrev XK := Value → Option Addr → Hp → Prop
abbrev St := List (Option V)
abbrev VK := V → Hp → Prop
abbrev TE := St → Hp → VK → Prop
abbrev TT := St → Hp → (Bool → Hp → Prop) → Prop
abbrev TA := St → Hp → (List V → Hp → Prop) → Prop
structure Ends where
 nx : St → Hp → Prop
 rt : VK
 bk : St → Hp → Prop := fun _ _ => False
 ct : St → Hp → Prop := fun _ _ => False
abbrev TS := Ends → St → Hp → Prop
def EP (X : Cx) (pins : List (Addr × Obj)) (σ : St) (Q : VK) (u : Value) (s' : Shared) : Prop := ∃ v H', Inv X pins σ H' s' ∧ RelV v u ∧ Q v H'
def TP (X : Cx) (pins : List (Addr × Obj)) (σ : St) (Q : Bool → Hp → Prop) (b : Bool) (s' : Shared) : Prop := ∃ H', Inv X pins σ H' s' ∧ Q b H'
def AP (X : Cx) (pins : List (Addr × Obj)) (σ : St) (Q : List V → Hp → Prop) (us : List Value) (s' : Shared) : Prop := ∃ vs H', Inv X pins σ H' s' ∧ Vals vs us ∧ Q vs H'
def SP (X : Cx) (pins : List (Addr × Obj)) (D : Ends) (f : Flow) (s' : Shared) : Prop :=
 match f with
 | .next => ∃ σ' H', Inv X pins σ' H' s' ∧ D.nx σ' H'
 | .brk => ∃ σ' H', Inv X pins σ' H' s' ∧ D.bk σ' H'
 | .cont => ∃ σ' H', Inv X pins σ' H' s' ∧ D.ct σ' H'
 | .ret u => ∃ v σ' H', Inv X pins σ' H' s' ∧ RelV v u ∧ D.rt v H'
def PE (X : Cx) (e : Expr) (t : TE) : Prop :=
 ∀ (pins : List (Addr × Obj)) (s : Shared) (σ : St) (H : Hp) (Q : VK), Inv X pins σ H s → t σ H Q → wpAny (model X.prog X.w) X.A (eval e X.env) (EP X pins σ Q) X.xe s
def PT (X : Cx) (e : Expr) (t : TT) : Prop :=
 ∀ (pins : List (Addr × Obj)) (s : Shared) (σ : St) (H : Hp) (Q : Bool → Hp → Prop), Inv X pins σ H s → t σ H Q → wpAny (model X.prog X.w) X.A (isTrue e X.env (eval e X.env)) (TP X pins σ Q) X.xe s
def PW (X : Cx) (e : Expr) (t : TT) : Prop :=
 ∀ (whole : Sem Value) (pins : List (Addr × Obj)) (s : Shared) (σ : St) (H : Hp) (Q : Bool → Hp → Prop), Inv X pins σ H s → t σ H Q → wpAny (model X.prog X.w) X.A (isTrue e X.env whole) (TP X pins σ Q) X.xe s
theorem PW.pt {X : Cx} {e : Expr} {t : TT} (h : PW X e t) : PT X e t := h _
def PA (X : Cx) (es : List Expr) (t : TA) : Prop :=
 ∀ (pos : Pos) (pins : List (Addr × Obj)) (s : Shared) (σ : St) (H : Hp) (Q : List V → Hp → Prop), Inv X pins σ H s → t σ H Q → wpAny (model X.prog X.w) X.A (spliced (backTo pos (starEach es X.env))) (AP X pins σ Q) X.xe s
def PS (X : Cx) (st : Stmt) (t : TS) : Prop :=
 ∀ (pins : List (Addr × Obj)) (s : Shared) (σ : St) (H : Hp) (D : Ends), Inv X pins σ H s → t D σ H → wpAny (model X.prog X.w) X.A (exec st X.env) (SP X pins D) X.xe s
def PSs (X : Cx) (st : List Stmt) (t : TS) : Prop :=
 ∀ (pins : List (Addr × Obj)) (s : Shared) (σ : St) (H : Hp) (D : Ends), Inv X pins σ H s → t D σ H → wpAny (model X.prog X.w) X.A (execs st X.env) (SP X pins D) X.xe s
theorem thn {α : Type} {t : Sem α} {Q Q' : α → Shared → Prop} {M : Model} {A : Around} {E : Value → Shared → Prop} {s : Shared} (h : wpAny M A t Q E s) (hQ : ∀ a s, Q a s → Q' a s) : wpAny M A t Q' E s := wpAny_mono h hQ fun _ _ x => x
end L2
namespace L2
open PySem PySem.Spec PyProof.Rows
section
variable {X : Cx}
def tVar (i : Nat) : TE := fun σ H Q => ∃ v, σ[i]? = some (some v) ∧ Q v H
def tC (v : V) : TE := fun _ H Q => Q v H
theorem pe_var {i : Nat} {x : Str} {pos : Pos} (hN : X.N[i]? = some x) (hv : Vis X.env.scope x) (hd : (x == ("__debug__" : Str)) = false := by decide) (hcd : (x == ("__classdict__" : Str)) = false := by decide) : PE X (.Name x pos) (tVar i) := by
 intro pins s σ H Q I h
 obtain ⟨v, e, h⟩ := h
 obtain ⟨m, hn, hl⟩ := I.loc
 obtain ⟨u, r, l⟩ := hl i x v hN e hv
 have fin : EP X pins σ Q u s := ⟨v, H, I, r, h⟩
 rcases l with ⟨hk, hm⟩ | ⟨hk, c, hc, hcell⟩
 · exact wpAny_Name (wpAny_loadName_local I.ok.kind hk hn hm fin) hd
 · rcases hk with hk | hk
   · exact wpAny_Name (wpAny_loadName_cell I.ok.kind hk hc hcell fin) hd
   · exact wpAny_Name (wpAny_loadName_free I.ok.kind hk hc hcell fin hcd) hd
theorem zE {i j pos} : PE X (.Constant (.int i) j pos) (tC (.int i)) := fun _ _ _ H _ I h => wpAny_Constant_int ⟨.int i, H, I.tok _, ⟨_, rfl⟩, h⟩
theorem pe_bl {b j pos} : PE X (.Constant (.bool b) j pos) (tC (.bl b)) := fun _ _ _ H _ I h => Constant_bool ⟨.bl b, H, I, rfl, h⟩
theorem yV {j pos} : PE X (.Constant .none j pos) (tC .non) := fun _ _ _ H _ I h => Constant_none ⟨.non, H, I, rfl, h⟩
theorem yK {x j pos} : PE X (.Constant (.str x) j pos) (tC (.str x)) := fun _ _ _ H _ I h => Calls.Constant_str ⟨.str x, H, I.tok _, ⟨_, rfl⟩, h⟩
def Gl (X : Cx) (x : Str) : Prop := X.env.kindOf x = some .globalImplicit
theorem ld_glob {E : Value → Shared → Prop} {pins : List (Addr × Obj)} {s : Shared} {σ : St} {H : Hp} {x : Str} {u : Value} {pos : Pos} {Q : Value → Shared → Prop} (I : Inv X pins σ H s) (hg : Gl X x) (hm : X.mg x = some u) (h : Q u s)
   (hd : (x == ("__debug__" : Str)) = false := by decide) : wpAny (model X.prog X.w) X.A (eval (.Name x pos) X.env) Q E s :=
 Calls.Name_function_global I.ok.kind hg (Calls.loadGlobal_global (by rw [I.ok.glob]; exact I.mod.glob.keeps I.bk) hm h) hd
theorem ld_blt {E : Value → Shared → Prop} {pins : List (Addr × Obj)} {s : Shared} {σ : St} {H : Hp} {x : Str} {u : Value} {pos : Pos} {Q : Value → Shared → Prop} (I : Inv X pins σ H s) (hg : Gl X x) (hm : X.mg x = none) (hv : bootBuiltins x = some u) (h : Q u s)
   (hn : x ≠ "__name__" := by decide) (hd : (x == ("__debug__" : Str)) = false := by decide) : wpAny (model X.prog X.w) X.A (eval (.Name x pos) X.env) Q E s := by
 obtain ⟨mb, h1, h2⟩ := I.mod.blt
 exact Calls.Name_function_global I.ok.kind hg (Calls.loadGlobal_builtin (by rw [I.ok.glob]; exact I.mod.glob.keeps I.bk) hm (by rw [I.ok.blt]; exact h1.keeps I.bk) ((h2 x hn).trans hv) h) hd
theorem pe_glob {x : Str} {v : V} {u : Value} {pos : Pos} (hg : Gl X x) (hm : X.mg x = some u) (r : RelV v u) (hd : (x == ("__debug__" : Str)) = false := by decide) : PE X (.Name x pos) (tC v) :=
 fun _ _ _ H _ I h => ld_glob I hg hm ⟨v, H, I, r, h⟩ hd
theorem pe_bltn {x : Str} {v : V} {u : Value} {pos : Pos} (hg : Gl X x) (hm : X.mg x = none) (hv : bootBuiltins x = some u) (r : RelV v u) (hn : x ≠ "__name__" := by decide) (hd : (x == ("__debug__" : Str)) = false := by decide) : PE X (.Name x pos) (tC v) :=
 fun _ _ _ H _ I h => ld_blt I hg hm hv ⟨v, H, I, r, h⟩ hn hd
variable {a b : Expr} {ta tb : TE} {pos : Pos}
def PC (X : Cx) (op : CmpOp) (a b : Expr) (t : TE) : Prop :=
 ∀ (pins : List (Addr × Obj)) (s : Shared) (σ : St) (H : Hp) (Q : VK), Inv X pins σ H s → t σ H Q →
   wpAny (model X.prog X.w) X.A (eval a X.env) (fun v s₁ => wpAny (model X.prog X.w) X.A (eval b X.env) (fun u s₂ => wpAny (model X.prog X.w) X.A (compareOp op v u) (EP X pins σ Q) X.xe s₂) X.xe s₁) X.xe s
def tB (t : TE) : TT := fun σ H Q => t σ H fun x H1 => ∃ c, x = .bl c ∧ Q c H1
theorem pt_val {e : Expr} {t : TE} (h : PE X e t) (he : ∀ whole, isTrue e X.env whole = (do let v ← whole; standAt e.pos; holding [v] (truthy v)) := by intro _; rfl) : PT X e (tB t) := by
 intro pins s σ H Q I hw
 refine isTrue_plain (thn (h pins s σ H _ I hw) fun v s1 ⟨x, H1, I1, r1, q1⟩ => ?_) (he _)
 obtain ⟨d, rfl, q⟩ := q1
 cases r1
 exact wpAny_truthy_bool ⟨H1, I1, q⟩
variable {tA tB' : TT} {rest : List Expr}
def tAnd (t u : TT) : TT := fun σ H Q => t σ H fun c H1 => if c = true then u σ H1 Q else Q false H1
def tOr (t u : TT) : TT := fun σ H Q => t σ H fun c H1 => if c = true then Q true H1 else u σ H1 Q
def tNot (t : TT) : TT := fun σ H Q => t σ H fun c H1 => Q (!c) H1
theorem pw_and1 (ha : PT X a tA) : PW X (.BoolOp .And [a] pos) tA := by
 intro wh pins s σ H Q I h
 refine isTrue_and (thn (ha pins s σ H Q I h) fun c s1 e => ?_)
 cases c with
 | true => exact isTrue_and_nil e
 | false => exact e
theorem pw_or1 (ha : PT X a tA) : PW X (.BoolOp .Or [a] pos) tA := by
 intro wh pins s σ H Q I h
 refine isTrue_or (thn (ha pins s σ H Q I h) fun c s1 e => ?_)
 cases c with
 | false => exact isTrue_or_nil e
 | true => exact e
theorem pw_and (ha : PT X a tA) (hb : PW X (.BoolOp .And (b :: rest) pos) tB') : PW X (.BoolOp .And (a :: b :: rest) pos) (tAnd tA tB') := by
 intro wh pins s σ H Q I h
 refine isTrue_and (thn (ha pins s σ H _ I h) fun c s1 ⟨H1, I1, q1⟩ => ?_)
 cases c with
 | true => exact hb wh pins s1 σ H1 Q I1 q1
 | false => exact ⟨H1, I1, q1⟩
theorem pw_or (ha : PT X a tA) (hb : PW X (.BoolOp .Or (b :: rest) pos) tB') : PW X (.BoolOp .Or (a :: b :: rest) pos) (tOr tA tB') := by
 intro wh pins s σ H Q I h
 refine isTrue_or (thn (ha pins s σ H _ I h) fun c s1 ⟨H1, I1, q1⟩ => ?_)
 cases c with
 | true => exact ⟨H1, I1, q1⟩
 | false => exact hb wh pins s1 σ H1 Q I1 q1
theorem pt_not (ha : PT X a tA) : PT X (.UnaryOp .Not a pos) (tNot tA) := by
 intro pins s σ H Q I h
 exact isTrue_not (ha pins s σ H (fun c H1 => Q (!c) H1) I h)
def tAndV (ta tb : TE) : TE := fun σ H Q => ta σ H fun x H1 => ∃ c, x = .bl c ∧ if c = true then tb σ H1 Q else Q (.bl false) H1
def tNotV (ta : TE) : TE := fun σ H Q => ta σ H fun x H1 => ∃ c, x = .bl c ∧ Q (.bl (!c)) H1
theorem pe_one {op} {t : TE} (h : PE X a t) : PE X (.BoolOp op [a] pos) t := fun pins s σ H Q I hw => BoolOp_one (h pins s σ H Q I hw)
theorem pe_and (ha : PE X a ta) (hb : PE X (.BoolOp .And (b :: rest) pos) tb) : PE X (.BoolOp .And (a :: b :: rest) pos) (tAndV ta tb) := by
 intro pins s σ H Q I h
 refine BoolOp_and (thn (ha pins s σ H _ I h) fun v s1 ⟨x, H1, I1, r1, q1⟩ => ?_)
 obtain ⟨c, rfl, q1⟩ := q1
 cases r1
 refine wpAny_truthy_bool ?_
 cases c with
 | true => exact hb pins s1 σ H1 Q I1 q1
 | false => exact ⟨.bl false, H1, I1, rfl, q1⟩
theorem pe_not (ha : PE X a ta) : PE X (.UnaryOp .Not a pos) (tNotV ta) := by
 intro pins s σ H Q I h
 refine UnaryOp_ (thn (ha pins s σ H _ I h) fun v s1 ⟨x, H1, I1, r1, q1⟩ => ?_)
 obtain ⟨c, rfl, q1⟩ := q1
 cases r1
 exact not_of (wpAny_truthy_bool ⟨.bl (!c), H1, I1, rfl, q1⟩)
def tIf (t : TT) (ta tb : TE) : TE := fun σ H Q => t σ H fun c H1 => if c = true then ta σ H1 Q else tb σ H1 Q
theorem pe_ifExp {c : Expr} (hc : PT X c tA) (ha : PE X a ta) (hb : PE X b tb) : PE X (.IfExp c a b pos) (tIf tA ta tb) := by
 intro pins s σ H Q I h
 refine wpAny_IfExp (thn (hc pins s σ H _ I h) fun d s1 ⟨H1, I1, q1⟩ => ?_)
 cases d with
 | true => exact ha pins s1 σ H1 Q I1 q1
 | false => exact hb pins s1 σ H1 Q I1 q1
end
end L2
namespace L2
open PySem PySem.Spec PyProof.Rows
def SqL (K : PySem.W.Frag) (H : Hp) (a : Addr) (xs : List V) : Prop :=
 Rd H a (.lst xs) ∨
   ∃ (o : Obj) (its : Array Value) (n : Nat), K.lookup a = some o ∧ o.cls = .type "list" ∧ o.dict = none ∧ o.data = .seq its n ∧ its.size ≤ sizeLine ∧ Vals xs its.toList
def SqT (K : PySem.W.Frag) (H : Hp) (a : Addr) (xs : List V) : Prop :=
 Rd H a (.tup xs) ∨
   ∃ (o : Obj) (its : Array Value) (n : Nat), K.lookup a = some o ∧ o.cls = .type "tuple" ∧ o.data = .seq its n ∧ its.size ≤ sizeLine ∧ Vals xs its.toList
def absV : Value → Option V
 | .none => some .non
 | .bool b => some (.bl b)
 | .int i _ => some (.int i)
 | .str x _ => some (.str x)
 | .bytes b _ => some (.byt b)
 | .float b _ => some (.flt b)
 | .ref a => some (.ref a)
 | .type n => some (.ty n)
 | _ => none
theorem RelV.abs {x : V} {u : Value} (r : RelV x u) : absV u = some x := by
 cases x with
 | non => cases r; rfl
 | bl _ => cases r; rfl
 | int _ => obtain ⟨t, rfl⟩ := r; rfl
 | str _ => obtain ⟨t, rfl⟩ := r; rfl
 | byt _ => obtain ⟨t, rfl⟩ := r; rfl
 | flt _ => obtain ⟨t, rfl⟩ := r; rfl
 | ref _ => cases r; rfl
 | ty _ => cases r; rfl
theorem RelV.inj {x y : V} {u : Value} (r : RelV x u) (q : RelV y u) : x = y := Option.some.inj (r.abs.symm.trans q.abs)
theorem Vals.inj : ∀ {xs ys : List V} {us : List Value}, Vals xs us → Vals ys us → xs = ys
 | _, _, _, .nil, .nil => rfl
 | _, _, _, .cons r t, .cons r' t' => by rw [r.inj r', Vals.inj t t']
section
variable {X : Cx} {pins : List (Addr × Obj)} {σ : St} {H : Hp} {s : Shared} {a : Addr} {xs ys : List V}
theorem SqL.of {K : PySem.W.Frag} (h : H a = some (.lst xs)) : SqL K H a xs := .inl (.inl h)
theorem SqT.of {K : PySem.W.Frag} (h : H a = some (.tup xs)) : SqT K H a xs := .inl (.inl h)
theorem Inv.list (I : Inv X pins σ H s) (h : SqL X.K H a xs) : ∃ its : List Value, Vals xs its ∧ PlainL s.heap a its.toArray ∧ xs.length ≤ sizeLine := by
 rcases h with h | ⟨o, its, n, hk, hc, hd, hs, hz, r⟩
 · obtain ⟨z, its, n, r, e⟩ := h.ok I.hok
   exact ⟨its, r, ⟨_, n, e, rfl, rfl, rfl⟩, z⟩
 · refine ⟨its.toList, r, ⟨o, n, I.kIn a o hk, hc, hd, by simpa using hs⟩, ?_⟩
   have e := r.length
   simp only [Array.length_toList] at e
   omega
theorem Inv.tuple (I : Inv X pins σ H s) (h : SqT X.K H a xs) : ∃ its : List Value, Vals xs its ∧ IsTup s.heap a its.toArray ∧ xs.length ≤ sizeLine := by
 rcases h with h | ⟨o, its, n, hk, hc, hs, hz, r⟩
 · obtain ⟨z, its, r, p⟩ := h.ok I.hok
   exact ⟨its, r, p, z⟩
 · refine ⟨its.toList, r, ⟨o, I.kIn a o hk, hc, n, by simpa using hs⟩, ?_⟩
   have e := r.length
   simp only [Array.length_toList] at e
   omega
theorem Inv.list_inj (I : Inv X pins σ H s) (h : SqL X.K H a xs) (h' : SqL X.K H a ys) : xs = ys := by
 obtain ⟨its, r, ⟨o, n, e, _, _, d⟩, _⟩ := I.list h
 obtain ⟨its', r', ⟨o', n', e', _, _, d'⟩, _⟩ := I.list h'
 rw [e] at e'; cases e'
 rw [d] at d'
 injection d' with d1 _
 have : its = its' := by simpa using congrArg Array.toList d1
 subst this
 exact r.inj r'
theorem Inv.tuple_inj (I : Inv X pins σ H s) (h : SqT X.K H a xs) (h' : SqT X.K H a ys) : xs = ys := by
 obtain ⟨its, r, ⟨o, e, _, n, d⟩, _⟩ := I.tuple h
 obtain ⟨its', r', ⟨o', e', _, n', d'⟩, _⟩ := I.tuple h'
 rw [e] at e'; cases e'
 rw [d] at d'
 injection d' with d1 _
 have : its = its' := by simpa using congrArg Array.toList d1
 subst this
 exact r.inj r'
end
abbrev Cx.wish (X : Cx) (E : Value → Shared → Prop) : Cx := { X with xe := E }
abbrev Cx.nox (X : Cx) : Cx := X.wish fun _ _ => False
theorem Cx.Ok.wish {X : Cx} (ok : X.Ok) (E : Value → Shared → Prop) : (X.wish E).Ok :=
 ⟨ok.mod, ok.kind, ok.glob, ok.blt, ok.above, ok.inj, ok.has, ok.cab, ok.hd, ok.frames, ok.stk, ok.exf, ok.bs, ok.bsz, ok.noex, ok.exfs, ok.funs, ok.frf⟩
theorem Cx.Ok.unwish {X : Cx} {E : Value → Shared → Prop} (ok : (X.wish E).Ok) : X.Ok :=
 ⟨ok.mod, ok.kind, ok.glob, ok.blt, ok.above, ok.inj, ok.has, ok.cab, ok.hd, ok.frames, ok.stk, ok.exf, ok.bs, ok.bsz, ok.noex, ok.exfs, ok.funs, ok.frf⟩
section
variable {X : Cx} {pins : List (Addr × Obj)} {σ : St} {H : Hp} {s : Shared} {E : Value → Shared → Prop}
theorem Inv.wish (I : Inv X pins σ H s) (E : Value → Shared → Prop) : Inv (X.wish E) pins σ H s := ⟨I.ok.wish E, I.os, I.bare, I.base, I.loc, I.cell, I.free, I.freeC, I.pin, I.hok, I.len⟩
theorem Inv.unwish (I : Inv (X.wish E) pins σ H s) : Inv X pins σ H s := ⟨I.ok.unwish, I.os, I.bare, I.base, I.loc, I.cell, I.free, I.freeC, I.pin, I.hok, I.len⟩
theorem SP.unwish {D : Ends} {f : Flow} {s' : Shared} (h : SP (X.wish E) pins D f s') : SP X pins D f s' := by
 cases f with
 | next => obtain ⟨σ', H', I, q⟩ := h; exact ⟨σ', H', I.unwish, q⟩
 | brk => obtain ⟨σ', H', I, q⟩ := h; exact ⟨σ', H', I.unwish, q⟩
 | cont => obtain ⟨σ', H', I, q⟩ := h; exact ⟨σ', H', I.unwish, q⟩
 | ret u => obtain ⟨v, σ', H', I, r, q⟩ := h; exact ⟨v, σ', H', I.unwish, r, q⟩
theorem PE.nox {e : Expr} {t : TE} (h : PE X.nox e t) : PE X e t := fun pins s σ H Q I hw =>
 wpAny_mono (h pins s σ H Q (I.wish _) hw) (fun _ _ ⟨v, H', I', r, q⟩ => ⟨v, H', I'.unwish, r, q⟩) fun _ _ z => False.elim z
theorem PT.nox {e : Expr} {t : TT} (h : PT X.nox e t) : PT X e t := fun pins s σ H Q I hw =>
 wpAny_mono (h pins s σ H Q (I.wish _) hw) (fun _ _ ⟨H', I', q⟩ => ⟨H', I'.unwish, q⟩) fun _ _ z => False.elim z
theorem PSs.nox {st : List Stmt} {t : TS} (h : PSs X.nox st t) : PSs X st t := fun pins s σ H D I hw =>
 wpAny_mono (h pins s σ H D (I.wish _) hw) (fun _ _ q => q.unwish) fun _ _ z => False.elim z
end
section
variable {X : Cx} {st : Stmt} {rest : List Stmt} {t u : TS} {e : Expr} {te : TE} {pos : Pos}
def tNext : TS := fun D σ H => D.nx σ H
def tSeq (t u : TS) : TS := fun D σ H => t { D with nx := u D } σ H
theorem yI : PSs X [] tNext := fun _ _ σ H _ I h => wpAny_execs_nil ⟨σ, H, I, h⟩
theorem zF (h1 : PS X st t) (h2 : PSs X rest u) : PSs X (st :: rest) (tSeq t u) := by
 intro pins s σ H D I h
 refine wpAny_execs_cons (thn (h1 pins s σ H { D with nx := u D } I h) fun f s1 q => ?_)
 cases f with
 | next =>
   obtain ⟨σ', H', I', q⟩ := q
   exact h2 pins s1 σ' H' D I' q
 | ret v => exact q
 | brk => exact q
 | cont => exact q
theorem zH (h1 : PS X st t) : PSs X [st] t := by
 intro pins s σ H D I h
 refine wpAny_execs_cons (thn (h1 pins s σ H D I h) fun f s1 q => ?_)
 cases f with
 | next => exact wpAny_execs_nil q
 | ret v => exact q
 | brk => exact q
 | cont => exact q
theorem Inv.quiet {pins : List (Addr × Obj)} {σ : St} {H : Hp} {s : Shared} (I : Inv X pins σ H s) : interactive X.env = false := by simp [interactive, I.ok.kind]
def tDrop (te : TE) : TS := fun D σ H => te σ H fun _ H1 => D.nx σ H1
theorem yT (he : PE X e te) (hs : swapsWith e none pos.line X.env = pure false := by rfl) : PS X (.Expr e pos) (tDrop te) := by
 intro pins s σ H D I h
 exact wpAny_Expr_any (thn (he pins s σ H _ I h) fun v s1 ⟨x, H1, I1, r1, q1⟩ => ⟨σ, H1, I1, q1⟩) I.quiet hs
def tRet (te : TE) : TS := fun D σ H => te σ H D.rt
theorem zR (he : PE X e te) : PS X (.Return (some e) pos) (tRet te) := by
 intro pins s σ H D I h
 exact wpAny_Return_some (thn (he pins s σ H _ I h) fun v s1 ⟨x, H1, I1, r1, q1⟩ => ⟨x, σ, H1, I1, r1, q1⟩)
def tIfS (c : TT) (t u : TS) : TS := fun D σ H => c σ H fun b H1 => if b = true then t D σ H1 else u D σ H1
theorem xB {c : Expr} {a b : List Stmt} {tc : TT} (hc : PT X c tc) (ha : PSs X a t) (hb : PSs X b u) : PS X (.If c a b pos) (tIfS tc t u) := by
 intro pins s σ H D I h
 refine wpAny_If (thn (hc pins s σ H _ I h) fun d s1 ⟨H1, I1, q1⟩ => ?_)
 cases d with
 | true => exact ha pins s1 σ H1 D I1 q1
 | false => exact hb pins s1 σ H1 D I1 q1
end
abbrev TG := V → St → Hp → (St → Hp → Prop) → Prop
abbrev TGs := List V → St → Hp → (St → Hp → Prop) → Prop
def PG (X : Cx) (target : Expr) (t : TG) : Prop :=
 ∀ (pins : List (Addr × Obj)) (s : Shared) (σ : St) (H : Hp) (v : V) (u : Value) (Q : St → Hp → Prop), Inv X pins σ H s → RelV v u → t v σ H Q →
   wpAny (model X.prog X.w) X.A (assign target X.env u) (fun _ s' => ∃ σ' H', Inv X pins σ' H' s' ∧ Q σ' H') X.xe s
def PGs (X : Cx) (ts : List Expr) (t : TGs) : Prop :=
 ∀ (pins : List (Addr × Obj)) (s : Shared) (σ : St) (H : Hp) (vs : List V) (us : List Value) (Q : St → Hp → Prop), Inv X pins σ H s → Vals vs us → t vs σ H Q →
   wpAny (model X.prog X.w) X.A (assignInOrder ((assignEach ts X.env).map (·.2)) us) (fun _ s' => ∃ σ' H', Inv X pins σ' H' s' ∧ Q σ' H') X.xe s
abbrev TSet := V → V → V → Hp → (Hp → Prop) → Prop
def PSet (X : Cx) (t : TSet) : Prop :=
 ∀ (pins : List (Addr × Obj)) (s : Shared) (σ : St) (H : Hp) (o i v : V) (ov iv u : Value) (Q : Hp → Prop), Inv X pins σ H s → RelV o ov → RelV i iv → RelV v u → t o i v H Q →
   wpAny (model X.prog X.w) X.A (setItem ov iv u) (fun _ s' => ∃ H', Inv X pins σ H' s' ∧ Q H') X.xe s
section
variable {X : Cx} {pos : Pos}
def gName (i : Nat) : TG := fun v σ H Q => Q (σ.set i (some v)) H
theorem zV {i : Nat} {x : Str} (hN : X.N.Nodup) (hi : X.N[i]? = some x) (hx : Loc X.env.scope x) (hf : X.fn x = true ∨ X.env.scope.names.lookup x = some .local := by first | exact .inl rfl | exact .inr rfl | assumption) : PG X (.Name x pos) (gName i) := by
 intro pins s σ H v u Q I r h
 exact wpAny_assign_Name (store_ok I hN hi hx r (fun s' I' => ⟨_, H, I', h⟩) hf)
def gNil : TGs := fun vs σ H Q => vs = [] ∧ Q σ H
def gCons (t : TG) (u : TGs) : TGs := fun vs σ H Q => ∃ v r, vs = v :: r ∧ t v σ H fun σ' H' => u r σ' H' Q
theorem pgs_nil : PGs X [] gNil := by
 intro pins s σ H vs us Q I r h
 obtain ⟨e, h⟩ := h
 subst e
 cases r
 exact assignInOrder_nil ⟨σ, H, I, h⟩
theorem yC {e : Expr} {es : List Expr} {t : TG} {u : TGs} (h1 : PG X e t) (h2 : PGs X es u)
   (hs : (assignEach (e :: es) X.env).map (·.2) = assign e X.env :: (assignEach es X.env).map (·.2) := by rfl) : PGs X (e :: es) (gCons t u) := by
 intro pins s σ H vs us Q I r h
 obtain ⟨v, vr, e1, h⟩ := h
 subst e1
 cases r with
 | cons r rr =>
   rw [hs]
   refine assignInOrder_cons (thn (h1 pins s σ H _ _ _ I r h) fun _ s1 ⟨σ1, H1, I1, q1⟩ => ?_)
   exact h2 pins s1 σ1 H1 _ _ Q I1 rr q1
def gTup (K : PySem.W.Frag) (n : Nat) (t : TGs) : TG := fun v σ H Q => ∃ a xs, v = .ref a ∧ SqT K H a xs ∧ xs.length = n ∧ t xs σ H Q
theorem pg_tup {es : List Expr} {k : Nat} {t : TGs} {n : Nat} (hc : X.calm = true) (h : PGs X es t)
   (hn : (assignEach es X.env).length = n := by rfl) (hst : (assignEach es X.env).findIdx? (·.1) = none := by rfl) : PG X (.Tuple es k pos) (gTup X.K n t) := by
 intro pins s σ H v u Q I r hw
 obtain ⟨a, xs, e1, hq, hl, hw⟩ := hw
 subst e1
 cases r
 obtain ⟨its, rv, ht, hz⟩ := I.tuple hq
 refine assign_Tuple_tuple (I.ok.hd hc) ht (by simp [hn, ← hl, rv.length]) hst fun h' hx => ?_
 have I1 : Inv X pins σ H { s with heap := h' } := I.kept (t' := s.toks) fun b o e => hx b o (Nat.ne_of_lt (Heap.lt_size e)) e
 exact h pins _ σ H xs _ Q I1 (by simpa using rv) hw
def tAsg (te : TE) (g : TG) : TS := fun D σ H => te σ H fun x H1 => g x σ H1 D.nx
theorem ps_asg {tg e : Expr} {te : TE} {g : TG} (he : PE X e te) (hg : PG X tg g) (hs : swapsWithSole [tg] e pos.line X.env = pure false := by rfl) (hw : swappedStores [tg] e X.env = pure none := by rfl)
   (h1 : (assignEach [tg] X.env).map (·.2) = [assign tg X.env] := by rfl) : PS X (.Assign [tg] e pos) (tAsg te g) := by
 intro pins s σ H D I h
 refine wpAny_Assign_stores (thn (he pins s σ H _ I h) fun v s1 ⟨x, H1, I1, r1, q1⟩ => ?_) hs hw
 rw [h1]
 exact thn (hg pins s1 σ H1 x v _ I1 r1 q1) fun _ s2 q => q
theorem zW {i : Nat} {x : Str} {e : Expr} {te : TE} {pos' : Pos} (hN : X.N.Nodup) (hi : X.N[i]? = some x) (hx : Loc X.env.scope x) (he : PE X e te) (hs : swapsWith e (some (.Name x pos')) pos.line X.env = pure false := by rfl) (hf : X.fn x = true ∨ X.env.scope.names.lookup x = some .local := by first | exact .inl rfl | exact .inr rfl | assumption) :
   PS X (.Assign [.Name x pos'] e pos) (tAsg te (gName i)) := by
 intro pins s σ H D I h
 refine wpAny_Assign_Name (thn (he pins s σ H _ I h) fun v s1 ⟨y, H1, I1, r1, q1⟩ => ?_) hs
 exact store_ok I1 hN hi hx r1 (fun s2 I2 => ⟨_, H1, I2, q1⟩) hf
end
section
variable {X : Cx} {pos : Pos}
def tWhile (c : TT) (tb : TS) : TS := fun D σ H => ∃ W : Nat → St → Hp → Prop, (∃ m, W m σ H) ∧ ∀ m σ H, W m σ H →
 c σ H fun b H1 => if b = true then ∃ N : St → Hp → Prop, (∀ σ' H', N σ' H' → ∃ m', m' < m ∧ W m' σ' H') ∧ tb { D with nx := N, ct := N, bk := D.nx } σ H1 else D.nx σ H1
end
structure It where
 go : Nat → Hp → Prop
 yld : Nat → Hp → V → Hp → Prop
 stop : Nat → Hp → Prop
def FpOk (X : Cx) (pins : List (Addr × Obj)) (H : Hp) (b : Addr) : Prop :=
 H b = none ∧ b ≠ X.env.locals ∧ b ∉ X.fs ∧ (b ∈ X.ex ∨ X.s₀.heap.objs.size ≤ b) ∧ (∀ x c, X.env.cells.lookup x = some c → c ≠ b) ∧ ∀ p ∈ X.pn ++ pins, p.1 ≠ b
theorem Inv.fpOk {X : Cx} {pins : List (Addr × Obj)} {σ : St} {H H' : Hp} {s : Shared} {b : Addr} (I : Inv X pins σ H s) (hb : s.heap.objs.size ≤ b) (hn : H' b = none) : FpOk X pins H' b := by
 refine ⟨hn, Nat.ne_of_gt (Nat.lt_of_lt_of_le I.lt hb), I.nofs hb, .inr (Nat.le_trans I.sz hb), fun x c e z => ?_, fun p hp z => ?_⟩
 · obtain ⟨v, q⟩ := I.cell x c e
   exact absurd (Nat.lt_of_lt_of_le q.lt (by rw [z]; exact hb)) (Nat.lt_irrefl _)
 · exact absurd (Nat.lt_of_lt_of_le (Heap.lt_size (I.pin p hp).1) (by rw [z]; exact hb)) (Nat.lt_irrefl _)
structure Turn (P : Program) (w : World) (K : PySem.W.Frag) (tg : Expr) (J : It) (fp : List Addr) (it : Addr) (tn : Nat → Heap → Prop) : Prop where
 mem : it ∈ fp
 obj : ∀ i h, tn i h → ∀ b ∈ fp, ∃ o, h.get? b = some o ∧ ∀ v, o.data ≠ .cell v
 keep : ∀ i h h', tn i h → (∀ b ∈ fp, ∀ o, h.get? b = some o → h'.get? b = some o) → tn i h'
 item : ∀ (X : Cx), X.prog = P → X.w = w → X.K = K → X.calm = true → ∀ (i : Nat) (pins : List (Addr × Obj)) (s : Shared) (σ : St) (H : Hp) (E : Value → Shared → Prop), Inv X pins σ H s → (∀ b ∈ fp, FpOk X pins H b) → tn i s.heap → J.go i H →
   wpAny (model P w) X.A (pyNext (.ref it)) (fun r s1 => ∃ u, r = some u ∧
     wpAny (model P w) X.A (letOwnedTupleGo tg (.ref it) u) (fun _ s2 => ∃ x H', Inv X pins σ H' s2 ∧ RelV x u ∧ J.yld i H x H' ∧ tn (i + 1) s2.heap ∧ ∀ b ∈ fp, H' b = none) E s1) E s
 done : ∀ (X : Cx), X.prog = P → X.w = w → X.K = K → X.calm = true → ∀ (i : Nat) (pins : List (Addr × Obj)) (s : Shared) (σ : St) (H : Hp) (E : Value → Shared → Prop), Inv X pins σ H s → (∀ b ∈ fp, FpOk X pins H b) → tn i s.heap → J.stop i H →
   wpAny (model P w) X.A (pyNext (.ref it)) (fun r s1 => r = none ∧ Inv X pins σ H s1) E s
 self : ∀ (A : Around) (i : Nat) (s : Shared) (Q : Value → Shared → Prop) (E : Value → Shared → Prop), tn i s.heap → Q (.ref it) s → wpAny (model P w) A (pyIter (.ref it)) Q E s
abbrev TI := St → Hp → (It → Hp → Prop) → Prop
def PIE (X : Cx) (pins : List (Addr × Obj)) (σ : St) (tg : Expr) (R : It → Hp → Prop) (itv : Value) (s2 : Shared) : Prop :=
 ∃ (it : Addr) (fp : List Addr) (tn : Nat → Heap → Prop) (J : It) (H' : Hp), itv = .ref it ∧ Inv X pins σ H' s2 ∧ Turn X.prog X.w X.K tg J fp it tn ∧ tn 0 s2.heap ∧ (∀ b ∈ fp, FpOk X pins H' b) ∧ R J H'
def PI (X : Cx) (tg iter : Expr) (wi : TI) : Prop :=
 ∀ (pins : List (Addr × Obj)) (s : Shared) (σ : St) (H : Hp) (R : It → Hp → Prop), Inv X pins σ H s → wi σ H R →
   wpAny (model X.prog X.w) X.A (eval iter X.env) (fun v s1 => wpAny (model X.prog X.w) X.A (pyIter v) (PIE X pins σ tg R) X.xe s1) X.xe s
theorem go_of {M : Model} {A : Around} {E : Value → Shared → Prop} {s : Shared} {tg : Expr} {it : Addr} {u : Value} {o : Obj} {n : String} {vs : Array Value} {Q : Unit → Shared → Prop} (ho : s.heap.get? it = some o) (hc : o.cls = .type n) (hd : o.data = .fields vs)
   (hn : ["enumerate", "zip", "dict_itemiterator", "dict_reverseitemiterator", "odict_iterator", "itertools.zip_longest", "itertools.pairwise"].contains n = false) (hQ : Q () s) : wpAny M A (letOwnedTupleGo tg (.ref it) u) Q E s := by
 unfold letOwnedTupleGo
 cases tg <;> first
   | exact wpAny_pure hQ
   | (cases u <;> first
       | exact wpAny_pure hQ
       | (refine wpAny_bind (wpAny_load ho ?_)
          rw [hc, hd]
          show wpAny M A (if (["enumerate", "zip", "dict_itemiterator", "dict_reverseitemiterator", "odict_iterator", "itertools.zip_longest", "itertools.pairwise"].contains n && vs[0]? == some (rawInt _)) = true then _ else _) Q E s
          rw [if_neg (by intro h; rw [hn, Bool.false_and] at h; cases h)]
          exact wpAny_pure hQ))
def Itl (K : PySem.W.Frag) (a : Addr) : It :=
 ⟨fun i H => ∃ xs x, SqL K H a xs ∧ xs[i]? = some x, fun i H x H' => H' = H ∧ ∀ xs, SqL K H a xs → xs[i]? = some x, fun i H => ∃ xs, SqL K H a xs ∧ xs.length ≤ i⟩
def Itr (lo : Int) (n : Nat) : It := ⟨fun i _ => i < n, fun i H x H' => H' = H ∧ x = .int (lo + i), fun i _ => n ≤ i⟩
theorem turn_list {P : Program} {w : World} {K : PySem.W.Frag} {tg : Expr} (a it : Addr) : Turn P w K tg (Itl K a) [it] it (fun i h => h.IsListIter it a i) where
 mem := by simp
 obj := fun i h st b hb => by
   have e : b = it := by simpa using hb
   subst e
   obtain ⟨o, e, c, d⟩ := st
   exact ⟨o, e, fun v z => by rw [d] at z; cases z⟩
 keep := fun i h h' st k => st.at fun o e => k it (by simp) o e
 item := by
   intro X hP hw hK hc i pins s σ H E I hf st hg
   subst hP hw hK
   obtain ⟨xs, x, hq, hx⟩ := hg
   obtain ⟨its, rv, p, hz⟩ := I.list hq
   obtain ⟨u, hu, ru⟩ := rv.get hx
   obtain ⟨f0, f1, f2, f3, f4, f5⟩ := hf it (by simp)
   refine wpAny_pyNext_list_item st p.isList (x := u) (by simpa using hu) fun h' st' sb => ?_
   have I1 : Inv X pins σ H { s with heap := h' } := I.turned (t' := s.toks) (fun b o hb e => (sb.2 b hb).trans e) f0 f1 f3 f4 f5
   obtain ⟨o, e, c, d⟩ := id st'
   exact ⟨u, rfl, go_of (s := { s with heap := h' }) e c d (by decide) ⟨x, H, I1, ru, ⟨rfl, fun ys hy => by rw [I.list_inj hy hq]; exact hx⟩, st', fun b hb => (hf b hb).1⟩⟩
 done := by
   intro X hP hw hK hc i pins s σ H E I hf st hg
   subst hP hw hK
   obtain ⟨xs, hq, hx⟩ := hg
   obtain ⟨its, rv, p, hz⟩ := I.list hq
   obtain ⟨f0, f1, f2, f3, f4, f5⟩ := hf it (by simp)
   have hl := rv.length
   exact wpAny_pyNext_list_end (I.ok.hd hc) st p.isList (by simp; omega) fun h' eb => ⟨rfl, I.turned (t' := s.toks) (fun b o hb e => eb b o hb e) f0 f1 f3 f4 f5⟩
 self := fun _ _ _ _ _ st h => wpAny_pyIter_listiter st h
theorem turn_range {P : Program} {w : World} {K : PySem.W.Frag} {tg : Expr} (it : Addr) (lo : Int) (n : Nat) : Turn P w K tg (Itr lo n) [it] it (fun i h => IsRangeIter h it (lo + (i : Nat) * 1) ((n : Int) - (i : Nat)) 1) where
 mem := by simp
 obj := fun i h st b hb => by
   have e : b = it := by simpa using hb
   subst e
   exact ⟨_, st, fun v z => by
     have z' : Data.fields _ = Data.cell v := z
     cases z'⟩
 keep := fun i h h' st k => k it (by simp) _ st
 item := by
   intro X hP hw hK hc i pins s σ H E I hf st hg
   subst hP hw hK
   obtain ⟨f0, f1, f2, f3, f4, f5⟩ := hf it (by simp)
   have W := Walks.range (prog := X.prog) (w := X.w) (I.ok.hd hc) it lo 1 n
   refine W.item i s _ _ hg st fun v h' tk hv st' kk => ?_
   obtain ⟨t, rfl⟩ := hv
   have I1 : Inv X pins σ H { s with heap := h', toks := tk } := I.turned (fun b o hb e => kk b o (by simpa using hb) e) f0 f1 f3 f4 f5
   refine ⟨_, rfl, go_of (s := { s with heap := h', toks := tk }) (n := "range_iterator") st' rfl rfl (by decide) ⟨.int (lo + i), H, I1, ⟨t, ?_⟩, ⟨rfl, rfl⟩, st', fun b hb => (hf b hb).1⟩⟩
   rw [Int.mul_one]
 done := by
   intro X hP hw hK hc i pins s σ H E I hf st hg
   subst hP hw hK
   obtain ⟨f0, f1, f2, f3, f4, f5⟩ := hf it (by simp)
   exact wpAny_pyNext_range_end (I.ok.hd hc) st (by have : n ≤ i := hg; omega) fun h' eb => ⟨rfl, I.turned (t' := s.toks) (fun b o hb e => eb b o hb e) f0 f1 f3 f4 f5⟩
 self := fun _ _ _ _ _ st h => wpAny_pyIter_rangeiter st h
end L2
namespace L2
open PySem PySem.Spec PyProof.Rows
section
variable {X : Cx} {tg : Expr}
def iList (K : PySem.W.Frag) (tl : TE) : TI := fun σ H R => tl σ H fun x H1 => ∃ a, x = .ref a ∧ (∃ xs, SqL K H1 a xs) ∧ R (Itl K a) H1
theorem yJ {l : Expr} {tl : TE} (hl : PE X l tl) : PI X tg l (iList X.K tl) := by
 intro pins s σ H R I h
 refine thn (hl pins s σ H _ I h) fun v s1 ⟨x, H1, I1, r1, q1⟩ => ?_
 obtain ⟨a, e, ⟨xs, hq⟩, q⟩ := q1
 subst e
 cases r1
 obtain ⟨its, rv, p, hz⟩ := I1.list hq
 refine wpAny_pyIter_list p.isList ?_
 refine ⟨s1.heap.objs.size, [s1.heap.objs.size], _, _, H1, rfl, I1.kept (t' := s1.toks) fun b o e => Heap.get?_push_of_some _ e, turn_list a _, ⟨_, Heap.get?_push_size _ rfl, rfl, rfl⟩, fun b hb => ?_, q⟩
 have e : b = s1.heap.objs.size := by simpa using hb
 subst e
 exact I1.fpOk (Nat.le_refl _) (I1.hok.fresh (Nat.le_refl _))
theorem range_it {pins : List (Addr × Obj)} {σ : St} {H : Hp} {s : Shared} {R : It → Hp → Prop} {E : Value → Shared → Prop} {lo hi : Int} {t u v : Tok} {tk : Nat} (I : Inv X pins σ H s) (h1 : -(2 ^ 62) ≤ lo) (h2 : lo < 2 ^ 62) (h3 : -(2 ^ 62) ≤ hi) (h4 : hi < 2 ^ 62)
   (q : R (Itr lo (hi - lo).toNat) H) : wpAny (model X.prog X.w) X.A (pyIter (.ref s.heap.objs.size)) (PIE X pins σ tg R) E { s with heap := s.heap.push { cls := .type "range", data := .fields #[.int lo t, .int hi u, .int 1 v] }, toks := tk } := by
 refine wpAny_pyIter_range (IsRange.new ..) (small_one h1 h2 h3 h4) ?_
 have I1 : Inv X pins σ H { s with heap := s.heap.push { cls := .type "range", data := .fields #[.int lo t, .int hi u, .int 1 v] }, toks := tk } := I.kept fun b o e => Heap.get?_push_of_some _ e
 refine ⟨(s.heap.push { cls := .type "range", data := .fields #[.int lo t, .int hi u, .int 1 v] }).objs.size, [(s.heap.push { cls := .type "range", data := .fields #[.int lo t, .int hi u, .int 1 v] }).objs.size], _, _, H, rfl,
   I1.kept (t' := tk) fun b o e => Heap.get?_push_of_some _ e, turn_range _ lo (hi - lo).toNat, ?_, fun b hb => ?_, q⟩
 · have e1 : lo + ((0 : Nat) : Int) * 1 = lo := by simp
   have e2 : (((hi - lo).toNat : Nat) : Int) - ((0 : Nat) : Int) = Builtin.Range.rangeSize lo hi 1 := by rw [rangeSize_one]; split <;> omega
   show IsRangeIter _ _ (lo + ((0 : Nat) : Int) * 1) ((((hi - lo).toNat : Nat) : Int) - ((0 : Nat) : Int)) 1
   rw [e1, e2]
   exact Heap.get?_push_size _ rfl
 · have e : b = (s.heap.push { cls := .type "range", data := .fields #[.int lo t, .int hi u, .int 1 v] }).objs.size := by simpa using hb
   subst e
   exact I1.fpOk (Nat.le_refl _) (I1.hok.fresh (Nat.le_refl _))
def iRng1 (ta : TA) : TI := fun σ H R => ta σ H fun vs H1 => ∃ j : Int, vs = [.int j] ∧ -(2 ^ 62) ≤ j ∧ j < 2 ^ 62 ∧ R (Itr 0 j.toNat) H1
theorem pi_range1 {a : Expr} {ta : TA} {p pos : Pos} (hg : Gl X "range") (hm : X.mg "range" = none) (ha : PA X [a] ta) (hs : starEach [a] X.env = [(false, eval a X.env)] := by rfl) : PI X tg (.Call (.Name "range" p) [a] [] pos) (iRng1 ta) := by
 intro pins s σ H R I h
 refine Call_ (ld_blt I hg hm boot_range (PyProof.Rows.callWith_type1 (thn (ha pos pins s σ H _ I h) fun us s1 ⟨vs, H1, I1, r1, q1⟩ => ?_) hs rfl))
 obtain ⟨j, e, q1, q2, q⟩ := q1
 subst e
 cases r1 with
 | cons r rr =>
   cases rr
   obtain ⟨t, rfl⟩ := r
   exact call_range_1 (range_it I1 (by omega) (by omega) q1 q2 (by simpa using q))
def tFor (wi : TI) (g : TG) (tb : TS) : TS := fun D σ H => wi σ H fun J H1 => ∃ W : Nat → Nat → St → Hp → Prop, (∃ m, W 0 m σ H1) ∧ ∀ i m σ H, W i m σ H →
 (J.stop i H ∧ D.nx σ H) ∨ (J.go i H ∧ ∃ N : St → Hp → Prop, (∀ σ' H', N σ' H' → ∃ m', m' < m ∧ W (i + 1) m' σ' H') ∧ ∀ x H', J.yld i H x H' → g x σ H' fun σ2 H2 => tb { D with nx := N, ct := N, bk := D.nx } σ2 H2)
def pinsAt (fp : List Addr) (h : Heap) : List (Addr × Obj) := fp.filterMap fun b => (h.get? b).map fun o => (b, o)
theorem yB {fp : List Addr} {h : Heap} {b : Addr} {o : Obj} (hb : b ∈ fp) (e : h.get? b = some o) : (b, o) ∈ pinsAt fp h := List.mem_filterMap.mpr ⟨b, hb, by rw [e]; rfl⟩
theorem of_pinsAt {fp : List Addr} {h : Heap} {p : Addr × Obj} (hp : p ∈ pinsAt fp h) : p.1 ∈ fp ∧ h.get? p.1 = some p.2 := by
 obtain ⟨b, hb, e⟩ := List.mem_filterMap.mp hp
 cases q : h.get? b with
 | none => rw [q] at e; cases e
 | some o =>
   rw [q] at e
   have e' : (b, o) = p := Option.some.inj e
   subst e'
   exact ⟨hb, q⟩
theorem Inv.pinned {pins : List (Addr × Obj)} {σ : St} {H : Hp} {s : Shared} {fp : List Addr} (I : Inv X pins σ H s) (hf : ∀ b ∈ fp, FpOk X pins H b) (ho : ∀ b ∈ fp, ∃ o, s.heap.get? b = some o ∧ ∀ v, o.data ≠ .cell v) : Inv X (pins ++ pinsAt fp s.heap) σ H s :=
 I.pins_of fun p hp => (List.mem_append.mp hp).elim (fun z => I.pin p (List.mem_append_right _ z)) fun z => by
   obtain ⟨hb, e⟩ := of_pinsAt z
   obtain ⟨f0, f1, f2, _⟩ := hf p.1 hb
   obtain ⟨o, e', d⟩ := ho p.1 hb
   rw [e] at e'; cases e'
   exact ⟨e, f0, f1, f2, d⟩
theorem Inv.unpinned {pins pl : List (Addr × Obj)} {σ : St} {H : Hp} {s : Shared} (I : Inv X (pins ++ pl) σ H s) : Inv X pins σ H s := I.pins_of fun p hp => I.pin p (List.mem_append_right _ (List.mem_append_left _ hp))
theorem ps_for {iter : Expr} {body : List Stmt} {wi : TI} {g : TG} {tb : TS} {pos : Pos} (hp : PassesOwn (model X.prog X.w) X.A X.env X.xe) (hc : X.calm = true) (hi : PI X tg iter wi) (hg : PG X tg g) (hb : PSs X body tb)
   (hs : ∀ x, foldedSetIterable iter X.env x = pure x := by intro _; rfl) : PS X (.For tg iter body [] pos) (tFor wi g tb) := by
 intro pins s σ H D I h
 refine wpAny_For (thn (hi pins s σ H _ I h) fun v s1 h1 => thn h1 fun itv s2 h2 => ?_) hs
 obtain ⟨it, fp, tn, J, H2, e, I2, T, st2, f2, W, ⟨m0, w0⟩, turn⟩ := h2
 subst e
 have stat : ∀ {H' : Hp}, (∀ b ∈ fp, H' b = none) → ∀ b ∈ fp, FpOk X pins H' b := fun hn b hb => ⟨hn b hb, (f2 b hb).2⟩
 refine codeAny_forLoop_any (fun n s' => ∃ i σ' H', Inv X pins σ' H' s' ∧ tn i s'.heap ∧ (∀ b ∈ fp, H' b = none) ∧ W i n σ' H') ?_ m0 ⟨0, σ, H2, I2, st2, fun b hb => (f2 b hb).1, w0⟩
 rintro n s3 ⟨i, σ3, H3, I3, st3, fr3, w3⟩
 rcases turn i n σ3 H3 w3 with ⟨stop, qn⟩ | ⟨go, N, hN, step⟩
 · refine wpAny_passesOwn hp (thn (T.done X rfl rfl rfl hc i pins s3 σ3 H3 X.xe I3 (stat fr3) st3 stop) fun r s4 ⟨hr, I4⟩ => ?_)
   subst hr
   exact wpAny_execs_nil ⟨σ3, H3, I4, qn⟩
 · refine wpAny_passesOwn hp (thn (T.item X rfl rfl rfl hc i pins s3 σ3 H3 X.xe I3 (stat fr3) st3 go) fun r s4 ⟨u, hr, h4⟩ => ?_)
   subst hr
   refine wpAny_passesOwn hp (thn h4 fun _ s5 ⟨x, H5, I5, r5, y5, st5, fr5⟩ => ?_)
   have I5' := I5.pinned (stat fr5) (T.obj _ _ st5)
   refine wpAny_passesOwn hp (thn (hg _ s5 σ3 H5 x u _ I5' r5 (step x H5 y5)) fun _ s6 ⟨σ6, H6, I6, q6⟩ => ?_)
   refine wpAny_passesOwn hp (thn (hb _ s6 σ6 H6 _ I6 q6) fun f s7 q7 => ?_)
   have again : ∀ {σ7 : St} {H7 : Hp}, Inv X (pins ++ pinsAt fp s5.heap) σ7 H7 s7 → N σ7 H7 → ∃ m, m < n ∧ ∃ i σ' H', Inv X pins σ' H' s7 ∧ tn i s7.heap ∧ (∀ b ∈ fp, H' b = none) ∧ W i m σ' H' := fun {σ7 H7} I7 n7 => by
     obtain ⟨m', hm, w7⟩ := hN σ7 H7 n7
     refine ⟨m', hm, i + 1, σ7, H7, I7.unpinned, T.keep _ _ _ st5 fun b hb o e => (I7.pin (b, o) (List.mem_append_right _ (List.mem_append_right _ (yB hb e)))).1, fun b hb => ?_, w7⟩
     obtain ⟨o, e, d⟩ := T.obj _ _ st5 b hb
     exact (I7.pin (b, o) (List.mem_append_right _ (List.mem_append_right _ (yB hb e)))).2.1
   cases f with
   | next => obtain ⟨σ7, H7, I7, n7⟩ := q7; exact again I7 n7
   | cont => obtain ⟨σ7, H7, I7, n7⟩ := q7; exact again I7 n7
   | brk => obtain ⟨σ7, H7, I7, q7⟩ := q7; exact ⟨σ7, H7, I7.unpinned, q7⟩
   | ret v => obtain ⟨x7, σ7, H7, I7, r7, q7⟩ := q7; exact ⟨x7, σ7, H7, I7.unpinned, r7, q7⟩
end
theorem for_list {K : PySem.W.Frag} {a : Addr} {xs : List V} {g : TG} {tb : TS} {D : Ends} {σ : St} {H : Hp} (Pv : Nat → St → Hp → Prop) (h0 : Pv 0 σ H) (hl : ∀ i σ H, i ≤ xs.length → Pv i σ H → SqL K H a xs)
   (hs : ∀ i x σ H, xs[i]? = some x → Pv i σ H → g x σ H fun σ2 H2 => tb { D with nx := Pv (i + 1), ct := Pv (i + 1), bk := D.nx } σ2 H2) (hd : ∀ σ H, Pv xs.length σ H → D.nx σ H) :
   ∃ W : Nat → Nat → St → Hp → Prop, (∃ m, W 0 m σ H) ∧ ∀ i m σ H, W i m σ H →
     ((Itl K a).stop i H ∧ D.nx σ H) ∨ ((Itl K a).go i H ∧ ∃ N : St → Hp → Prop, (∀ σ' H', N σ' H' → ∃ m', m' < m ∧ W (i + 1) m' σ' H') ∧ ∀ x H', (Itl K a).yld i H x H' → g x σ H' fun σ2 H2 => tb { D with nx := N, ct := N, bk := D.nx } σ2 H2) := by
 refine ⟨fun i m σ H => m = xs.length - i ∧ i ≤ xs.length ∧ Pv i σ H, ⟨xs.length, by simp, Nat.zero_le _, h0⟩, ?_⟩
 rintro i m σ H ⟨rfl, hi, p⟩
 have q := hl i σ H hi p
 by_cases hlt : i < xs.length
 · refine .inr ⟨⟨xs, xs[i], q, by simp [hlt]⟩, Pv (i + 1), fun σ' H' p' => ⟨xs.length - (i + 1), by omega, rfl, hlt, p'⟩, fun x H' y => ?_⟩
   obtain ⟨e, y⟩ := y
   subst e
   exact hs i x σ _ (y xs q) p
 · have e : i = xs.length := by omega
   subst e
   exact .inl ⟨⟨xs, q, Nat.le_refl _⟩, hd σ H p⟩
theorem for_range {lo : Int} {n : Nat} {g : TG} {tb : TS} {D : Ends} {σ : St} {H : Hp} (Pv : Nat → St → Hp → Prop) (h0 : Pv 0 σ H)
   (hs : ∀ i σ H, i < n → Pv i σ H → g (.int (lo + i)) σ H fun σ2 H2 => tb { D with nx := Pv (i + 1), ct := Pv (i + 1), bk := D.nx } σ2 H2) (hd : ∀ σ H, Pv n σ H → D.nx σ H) :
   ∃ W : Nat → Nat → St → Hp → Prop, (∃ m, W 0 m σ H) ∧ ∀ i m σ H, W i m σ H →
     ((Itr lo n).stop i H ∧ D.nx σ H) ∨ ((Itr lo n).go i H ∧ ∃ N : St → Hp → Prop, (∀ σ' H', N σ' H' → ∃ m', m' < m ∧ W (i + 1) m' σ' H') ∧ ∀ x H', (Itr lo n).yld i H x H' → g x σ H' fun σ2 H2 => tb { D with nx := N, ct := N, bk := D.nx } σ2 H2) := by
 refine ⟨fun i m σ H => m = n - i ∧ i ≤ n ∧ Pv i σ H, ⟨n, by simp, Nat.zero_le _, h0⟩, ?_⟩
 rintro i m σ H ⟨rfl, hi, p⟩
 by_cases hlt : i < n
 · refine .inr ⟨hlt, Pv (i + 1), fun σ' H' p' => ⟨n - (i + 1), by omega, rfl, hlt, p'⟩, fun x H' y => ?_⟩
   obtain ⟨e, y⟩ := y
   subst e y
   exact hs i σ _ hlt p
 · have e : i = n := by omega
   subst e
   exact .inl ⟨Nat.le_refl _, hd σ H p⟩
end L2
namespace L2
open PySem PySem.Spec PyProof.Rows
abbrev R2 := V → V → Hp → VK → Prop
def OpR (X : Cx) (f : Value → Value → Sem Value) (r : R2) : Prop :=
 ∀ (pins : List (Addr × Obj)) (s : Shared) (σ : St) (H : Hp) (x y : V) (v u : Value) (Q : VK), Inv X pins σ H s → RelV x v → RelV y u → r x y H Q →
   wpAny (model X.prog X.w) X.A (f v u) (EP X pins σ Q) X.xe s
def UnR (X : Cx) (f : Value → Sem Value) (r : V → Hp → VK → Prop) : Prop :=
 ∀ (pins : List (Addr × Obj)) (s : Shared) (σ : St) (H : Hp) (x : V) (v : Value) (Q : VK), Inv X pins σ H s → RelV x v → r x H Q →
   wpAny (model X.prog X.w) X.A (f v) (EP X pins σ Q) X.xe s
def CallR (X : Cx) (f : Value) (r : List V → Hp → VK → Prop) : Prop :=
 ∀ (pins : List (Addr × Obj)) (s : Shared) (σ : St) (H : Hp) (xs : List V) (us : List Value) (Q : VK), Inv X pins σ H s → Vals xs us → r xs H Q →
   wpAny (model X.prog X.w) X.A (call f us) (EP X pins σ Q) X.xe s
def TruR (X : Cx) (r : V → Hp → (Bool → Hp → Prop) → Prop) : Prop :=
 ∀ (pins : List (Addr × Obj)) (s : Shared) (σ : St) (H : Hp) (x : V) (v : Value) (Q : Bool → Hp → Prop), Inv X pins σ H s → RelV x v → r x H Q →
   wpAny (model X.prog X.w) X.A (truthy v) (TP X pins σ Q) X.xe s
def tOp (r : R2) (ta tb : TE) : TE := fun σ H Q => ta σ H fun x H1 => tb σ H1 fun y H2 => r x y H2 Q
def tUn (r : V → Hp → VK → Prop) (ta : TE) : TE := fun σ H Q => ta σ H fun x H1 => r x H1 Q
def rI (C : Int → Int → Prop) (g : Int → Int → V) : R2 := fun x y H Q => ∃ i j, x = .int i ∧ y = .int j ∧ C i j ∧ Q (g i j) H
def rI0 (g : Int → Int → V) : R2 := fun x y H Q => ∃ i j, x = .int i ∧ y = .int j ∧ Q (g i j) H
def rU (g : Int → V) : V → Hp → VK → Prop := fun x H Q => ∃ i, x = .int i ∧ Q (g i) H
section
variable {X : Cx} {a b c : Expr} {ta tb tc : TE} {pos : Pos}
theorem binT (ha : PE X a ta) (hb : PE X b tb) {pins : List (Addr × Obj)} {s : Shared} {σ : St} {H : Hp} {R : V → V → Hp → Prop} (I : Inv X pins σ H s)
   (h : ta σ H fun x H1 => tb σ H1 fun y H2 => R x y H2) {Q : Value → Shared → Prop} {f : Value → Value → Sem Value}
   (hf : ∀ v u s2 x y H2, Inv X pins σ H2 s2 → RelV x v → RelV y u → R x y H2 → wpAny (model X.prog X.w) X.A (f v u) Q X.xe s2) :
   wpAny (model X.prog X.w) X.A (eval a X.env) (fun v s₁ => wpAny (model X.prog X.w) X.A (eval b X.env) (fun u s₂ => wpAny (model X.prog X.w) X.A (f v u) Q X.xe s₂) X.xe s₁) X.xe s := by
 refine thn (ha pins s σ H _ I h) fun v s1 ⟨x, H1, I1, r1, q1⟩ => ?_
 refine thn (hb pins s1 σ H1 _ I1 q1) fun u s2 ⟨y, H2, I2, r2, q2⟩ => ?_
 exact hf v u s2 x y H2 I2 r1 r2 q2
theorem zK {op : Operator} {r : R2} (ho : OpR X (binaryOp op) r) (ha : PE X a ta) (hb : PE X b tb) : PE X (.BinOp a op b pos) (tOp r ta tb) := by
 intro pins s σ H Q I h
 exact wpAny_BinOp (binT ha hb I h fun v u s2 x y H2 I2 rx ry q => ho pins s2 σ H2 x y v u Q I2 rx ry q)
theorem pe_un {op : UnaryOp} {r : V → Hp → VK → Prop} (ho : UnR X (unaryOp op) r) (ha : PE X a ta) : PE X (.UnaryOp op a pos) (tUn r ta) := by
 intro pins s σ H Q I h
 exact UnaryOp_ (thn (ha pins s σ H _ I h) fun v s1 ⟨x, H1, I1, r1, q1⟩ => ho pins s1 σ H1 x v Q I1 r1 q1)
theorem opI {f : Value → Value → Sem Value} {C : Int → Int → Prop} {g : Int → Int → Int}
   (rule : ∀ (i j : Int) (t u : Tok) (s : Shared) (Q : Value → Shared → Prop) (E : Value → Shared → Prop), C i j → Q (.int (g i j) s.toks) { s with toks := s.toks + 1 } → wpAny (model X.prog X.w) X.A (f (.int i t) (.int j u)) Q E s) :
   OpR X f (rI C fun i j => .int (g i j)) := by
 intro pins s σ H x y v u Q I rx ry h
 obtain ⟨i, j, rfl, rfl, hc, q⟩ := h
 obtain ⟨t, rfl⟩ := rx
 obtain ⟨t', rfl⟩ := ry
 exact rule i j t t' s _ _ hc ⟨.int (g i j), H, I.tok _, ⟨_, rfl⟩, q⟩
theorem opI0 {f : Value → Value → Sem Value} {g : Int → Int → Int}
   (rule : ∀ (i j : Int) (t u : Tok) (s : Shared) (Q : Value → Shared → Prop) (E : Value → Shared → Prop), Q (.int (g i j) s.toks) { s with toks := s.toks + 1 } → wpAny (model X.prog X.w) X.A (f (.int i t) (.int j u)) Q E s) :
   OpR X f (rI0 fun i j => .int (g i j)) := by
 intro pins s σ H x y v u Q I rx ry h
 obtain ⟨i, j, rfl, rfl, q⟩ := h
 obtain ⟨t, rfl⟩ := rx
 obtain ⟨t', rfl⟩ := ry
 exact rule i j t t' s _ _ ⟨.int (g i j), H, I.tok _, ⟨_, rfl⟩, q⟩
theorem opB0 {f : Value → Value → Sem Value} {g : Int → Int → Bool}
   (rule : ∀ (i j : Int) (t u : Tok) (s : Shared) (Q : Value → Shared → Prop) (E : Value → Shared → Prop), Q (.bool (g i j)) s → wpAny (model X.prog X.w) X.A (f (.int i t) (.int j u)) Q E s) :
   OpR X f (rI0 fun i j => .bl (g i j)) := by
 intro pins s σ H x y v u Q I rx ry h
 obtain ⟨i, j, rfl, rfl, q⟩ := h
 obtain ⟨t, rfl⟩ := rx
 obtain ⟨t', rfl⟩ := ry
 exact rule i j t t' s _ _ ⟨.bl (g i j), H, I, rfl, q⟩
def CDiv (i j : Int) : Prop := 0 < j ∧ j < 1073741824
def CPow (i j : Int) : Prop := 0 ≤ j ∧ j ≤ 1000000 ∧ i.natAbs < 2 ^ 64
def CMul (i j : Int) : Prop := (-(2 ^ 64) < i ∧ i < 2 ^ 64) ∨ (-(2 ^ 64) < j ∧ j < 2 ^ 64)
theorem CMul.ok {i j : Int} (h : CMul i j) : IntMulOk i j := by
 rcases h with ⟨h1, h2⟩ | ⟨h1, h2⟩
 · exact .of_left (intBits_le_64 h1 h2)
 · exact .of_right (intBits_le_64 h1 h2)
theorem yH : OpR X (binaryOp .Add) (rI0 fun i j => .int (i + j)) := opI0 fun _ _ _ _ _ _ _ q => add_int q
theorem op_sub : OpR X (binaryOp .Sub) (rI0 fun i j => .int (i - j)) := opI0 fun _ _ _ _ _ _ _ q => sub_int q
theorem op_fdiv : OpR X (binaryOp .FloorDiv) (rI CDiv fun i j => .int (i / j)) := opI fun i j _ _ _ _ _ hc q => by
 have h1 : (0 : Int) < j := hc.1
 have h2 : j < 1073741824 := hc.2
 exact floordiv_int (by omega) (by rw [Int.fdiv_eq_ediv_of_nonneg i (by omega)]; exact q) (.inl (PyProof.noPylong_small (by omega)))
theorem yD : OpR X (binaryOp .Mod) (rI (fun _ j => 0 < j) fun i j => .int (i % j)) := opI fun i j _ _ _ _ _ hc q => by
 have h1 : (0 : Int) < j := hc
 exact mod_int' (by omega) (by rw [Int.fmod_eq_emod_of_nonneg i (by omega)]; exact q)
theorem op_pow : OpR X (binaryOp .Pow) (rI CPow fun i j => .int (i ^ j.toNat)) := opI fun _ _ _ _ _ _ _ hc q => pow_int_small hc.1 hc.2.1 hc.2.2 q
theorem unI {f : Value → Sem Value} {g : Int → Int}
   (rule : ∀ (i : Int) (t : Tok) (s : Shared) (Q : Value → Shared → Prop) (E : Value → Shared → Prop), Q (.int (g i) s.toks) { s with toks := s.toks + 1 } → wpAny (model X.prog X.w) X.A (f (.int i t)) Q E s) :
   UnR X f (rU fun i => .int (g i)) := by
 intro pins s σ H x v Q I rx h
 obtain ⟨i, rfl, q⟩ := h
 obtain ⟨t, rfl⟩ := rx
 exact rule i t s _ _ ⟨.int (g i), H, I.tok _, ⟨_, rfl⟩, q⟩
theorem un_neg : UnR X (unaryOp .USub) (rU fun i => .int (-i)) := unI fun _ _ _ _ _ q => neg_int q
end
def scal : V → V → Bool
 | .non, .non => true | .non, .int _ => true | .int _, .non => true | .non, .bl _ => true | .bl _, .non => true | .non, .str _ => true | .str _, .non => true
 | .int _, .int _ => true | .bl _, .bl _ => true | .str _, .str _ => true | .byt _, .byt _ => true
 | .int _, .str _ => true | .str _, .int _ => true | .bl _, .str _ => true | .str _, .bl _ => true
 | _, _ => false
def rEq : R2 := fun x y H Q => scal x y = true ∧ Q (.bl (decide (x = y))) H
def rNe : R2 := fun x y H Q => scal x y = true ∧ Q (.bl (!decide (x = y))) H
theorem dec_int {i j : Int} : decide (V.int i = V.int j) = (i == j) := by
 rw [Bool.eq_iff_iff]
 simp
theorem dec_bl {i j : Bool} : decide (V.bl i = V.bl j) = (i == j) := by
 rw [Bool.eq_iff_iff]
 simp
theorem dec_str {i j : Str} : decide (V.str i = V.str j) = (i == j) := by
 rw [Bool.eq_iff_iff]
 simp
theorem dec_byt {i j : Array UInt8} : decide (V.byt i = V.byt j) = (i.toList == j.toList) := by
 rw [Bool.eq_iff_iff]
 cases i
 cases j
 simp
section
variable {X : Cx} {a b c : Expr} {ta tb tc : TE} {pos : Pos}
theorem zU {pins : List (Addr × Obj)} {σ : St} {H : Hp} {s : Shared} {Q : VK} {k k' : Bool} (I : Inv X pins σ H s) (q : Q (.bl k) H) (e : k = k') : EP X pins σ Q (.bool k') s := by
 subst e
 exact ⟨.bl k, H, I, rfl, q⟩
theorem op_eq : OpR X (compareOp .Eq) rEq := by
 intro pins s σ H x y v u Q I rx ry h
 obtain ⟨hs, q⟩ := h
 cases x with
 | non =>
   cases rx
   cases y with
   | non => cases ry; exact PySem.EqNone.eq_none_none (zU I q (by simp))
   | bl j => cases ry; exact PySem.EqNone.eq_none_bool (zU I q (by simp))
   | int j => obtain ⟨t', rfl⟩ := ry; exact PySem.EqNone.eq_none_int (zU I q (by simp))
   | str j => obtain ⟨t', rfl⟩ := ry; exact PySem.EqNone.eq_none_str (zU I q (by simp))
   | _ => exact absurd (show false = true from hs) Bool.false_ne_true
 | bl i =>
   cases rx
   cases y with
   | non => cases ry; exact PySem.EqNone.eq_bool_none (zU I q (by simp))
   | bl j => cases ry; exact eq_bool (zU I q dec_bl)
   | str j => obtain ⟨t', rfl⟩ := ry; exact PySem.EqMixed.eq_bool_str (zU I q (by simp))
   | _ => exact absurd (show false = true from hs) Bool.false_ne_true
 | int i =>
   obtain ⟨t, rfl⟩ := rx
   cases y with
   | non => cases ry; exact PySem.EqNone.eq_int_none (zU I q (by simp))
   | int j => obtain ⟨t', rfl⟩ := ry; exact eq_int (zU I q dec_int)
   | str j => obtain ⟨t', rfl⟩ := ry; exact PySem.EqMixed.eq_int_str (zU I q (by simp))
   | _ => exact absurd (show false = true from hs) Bool.false_ne_true
 | str i =>
   obtain ⟨t, rfl⟩ := rx
   cases y with
   | non => cases ry; exact PySem.EqNone.eq_str_none (zU I q (by simp))
   | bl j => cases ry; exact PySem.EqMixed.eq_str_bool (zU I q (by simp))
   | int j => obtain ⟨t', rfl⟩ := ry; exact PySem.EqMixed.eq_str_int (zU I q (by simp))
   | str j => obtain ⟨t', rfl⟩ := ry; exact eq_str (zU I q dec_str)
   | _ => exact absurd (show false = true from hs) Bool.false_ne_true
 | byt i =>
   obtain ⟨t, rfl⟩ := rx
   cases y with
   | byt j => obtain ⟨t', rfl⟩ := ry; exact PySem.W.eq_bytes (zU I q dec_byt)
   | _ => exact absurd (show false = true from hs) Bool.false_ne_true
 | _ => cases y <;> exact absurd (show false = true from hs) Bool.false_ne_true
theorem op_ne : OpR X (compareOp .NotEq) rNe := by
 intro pins s σ H x y v u Q I rx ry h
 obtain ⟨hs, q⟩ := h
 cases x with
 | non =>
   cases rx
   cases y with
   | non => cases ry; exact PySem.EqNone.ne_none_none (zU I q (by simp))
   | bl j => cases ry; exact PySem.EqNone.ne_none_bool (zU I q (by simp))
   | int j => obtain ⟨t', rfl⟩ := ry; exact PySem.EqNone.ne_none_int (zU I q (by simp))
   | str j => obtain ⟨t', rfl⟩ := ry; exact PySem.EqNone.ne_none_str (zU I q (by simp))
   | _ => exact absurd (show false = true from hs) Bool.false_ne_true
 | bl i =>
   cases rx
   cases y with
   | non => cases ry; exact PySem.EqNone.ne_bool_none (zU I q (by simp))
   | bl j => cases ry; exact ne_bool (zU I q (congrArg not dec_bl))
   | str j => obtain ⟨t', rfl⟩ := ry; exact PySem.EqMixed.ne_bool_str (zU I q (by simp))
   | _ => exact absurd (show false = true from hs) Bool.false_ne_true
 | int i =>
   obtain ⟨t, rfl⟩ := rx
   cases y with
   | non => cases ry; exact PySem.EqNone.ne_int_none (zU I q (by simp))
   | int j => obtain ⟨t', rfl⟩ := ry; exact ne_int (zU I q (congrArg not dec_int))
   | str j => obtain ⟨t', rfl⟩ := ry; exact PySem.EqMixed.ne_int_str (zU I q (by simp))
   | _ => exact absurd (show false = true from hs) Bool.false_ne_true
 | str i =>
   obtain ⟨t, rfl⟩ := rx
   cases y with
   | non => cases ry; exact PySem.EqNone.ne_str_none (zU I q (by simp))
   | bl j => cases ry; exact PySem.EqMixed.ne_str_bool (zU I q (by simp))
   | int j => obtain ⟨t', rfl⟩ := ry; exact PySem.EqMixed.ne_str_int (zU I q (by simp))
   | str j => obtain ⟨t', rfl⟩ := ry; exact ne_str (zU I q (congrArg not dec_str))
   | _ => exact absurd (show false = true from hs) Bool.false_ne_true
 | byt i =>
   obtain ⟨t, rfl⟩ := rx
   cases y with
   | byt j => obtain ⟨t', rfl⟩ := ry; exact PySem.W.ne_bytes (zU I q (congrArg not dec_byt))
   | _ => exact absurd (show false = true from hs) Bool.false_ne_true
 | _ => cases y <;> exact absurd (show false = true from hs) Bool.false_ne_true
theorem op_lt : OpR X (compareOp .Lt) (rI0 fun i j => .bl (decide (i < j))) := opB0 fun _ _ _ _ _ _ _ q => lt_int q
theorem op_gt : OpR X (compareOp .Gt) (rI0 fun i j => .bl (decide (j < i))) := opB0 fun _ _ _ _ _ _ _ q => gt_int q
theorem op_ge : OpR X (compareOp .GtE) (rI0 fun i j => .bl (decide (j ≤ i))) := opB0 fun _ _ _ _ _ _ _ q => ge_int q
theorem op_isN : OpR X (compareOp .Is) (fun x y H Q => y = .non ∧ Q (.bl (decide (x = .non))) H) := by
 intro pins s σ H x y v u Q I rx ry h
 obtain ⟨rfl, q⟩ := h
 cases ry
 refine is_none_gen (zU I q ?_)
 cases x <;> first
   | (cases rx; rfl)
   | (obtain ⟨t, rfl⟩ := rx; rfl)
theorem op_notN : OpR X (compareOp .IsNot) (fun x y H Q => y = .non ∧ Q (.bl (!decide (x = .non))) H) := by
 intro pins s σ H x y v u Q I rx ry h
 obtain ⟨rfl, q⟩ := h
 cases ry
 refine isnot_none_gen (zU I q ?_)
 cases x <;> first
   | (cases rx; rfl)
   | (obtain ⟨t, rfl⟩ := rx; rfl)
theorem zY (b : Expr) {op : CmpOp} (h : op ≠ .In := by decide) (h2 : op ≠ .NotIn := by decide) : behindInMarks op b = false := by
 have e1 : (op == CmpOp.In) = false := by cases op <;> first | rfl | exact absurd rfl h
 have e2 : (op == CmpOp.NotIn) = false := by cases op <;> first | rfl | exact absurd rfl h2
 cases b <;> simp [behindInMarks, e1, e2]
def tTest (t : TE) : TT := fun σ H Q => t σ H fun x H' => ∃ k, x = .bl k ∧ Q k H'
theorem zO {op : CmpOp} {r : R2} (ho : OpR X (compareOp op) r) (ha : PE X a ta) (hb : PE X b tb) (hm : behindInMarks op b = false) : PT X (.Compare a [op] [b] pos) (tTest (tOp r ta tb)) := by
 intro pins s σ H Q I h
 refine wpAny_isTrue_Compare1 (thn (ha pins s σ H _ I h) fun v s1 ⟨x, H1, I1, r1, q1⟩ => thn (hb pins s1 σ H1 _ I1 q1) fun u s2 ⟨y, H2, I2, r2, q2⟩ =>
   thn (ho pins s2 σ H2 x y v u _ I2 r1 r2 q2) fun c s3 ⟨z, H3, I3, r3, k, e, q3⟩ => ?_) hm
 subst e
 cases r3
 exact wpAny_truthy_bool ⟨H3, I3, q3⟩
theorem line63 : (sizeLine : Nat) < 2 ^ 63 := by rw [sizeLine_eq]; decide
theorem yA : OpR X (binaryOp .Add) (fun x y H Q => ∃ i j, x = .str i ∧ y = .str j ∧ i.length + j.length ≤ sizeLine ∧ Q (.str (i ++ j)) H) := by
 intro pins s σ H x y v u Q I rx ry h
 obtain ⟨i, j, rfl, rfl, hz, q⟩ := h
 obtain ⟨t, rfl⟩ := rx
 obtain ⟨t', rfl⟩ := ry
 exact add_str (fun t' tk => ⟨.str (i ++ j), H, I.tok _, ⟨_, rfl⟩, q⟩) hz
theorem vals1 {x : V} {us : List Value} (r : Vals [x] us) : ∃ u, us = [u] ∧ RelV x u := by
 cases r with
 | cons r1 r2 => cases r2; exact ⟨_, rfl, r1⟩
theorem vals2 {x y : V} {us : List Value} (r : Vals [x, y] us) : ∃ u w', us = [u, w'] ∧ RelV x u ∧ RelV y w' := by
 cases r with
 | cons r1 r2 =>
   cases r2 with
   | cons r3 r4 => cases r4; exact ⟨_, _, rfl, r1, r3⟩
theorem call_abs : CallR X (.builtin "abs") (fun xs H Q => ∃ i, xs = [.int i] ∧ Q (.int (if i < 0 then -i else i)) H) := by
 intro pins s σ H xs us Q I r h
 obtain ⟨i, rfl, q⟩ := h
 obtain ⟨u, rfl, t, rfl⟩ := vals1 r
 exact call_abs_int fun u tk => ⟨.int (if i < 0 then -i else i), H, I.tok _, ⟨_, rfl⟩, q⟩
theorem call_str_int : CallR X (.type "str") (fun xs H Q => ∃ i, xs = [.int i] ∧ i.natAbs.log2 < 1920 ∧ Q (.str (toString i)) H) := by
 intro pins s σ H xs us Q I r h
 obtain ⟨i, rfl, hz, q⟩ := h
 obtain ⟨u, rfl, t, rfl⟩ := vals1 r
 exact PySem.P.str_of_int hz ⟨.str _, H, I.tok _, ⟨_, rfl⟩, q⟩
end
end L2
namespace L2
open PySem PySem.Spec PyProof.Rows
structure ObjM (h : Heap) (x dx C : Addr) (mA : Str → Option Value) : Prop where
 obj : h.get? x = some (PySem.W.instObj C dx)
 ns : h.Ns1 dx mA
 ne : dx ≠ x
theorem lookIn_ns {h : Heap} {dx : Addr} {mA : Str → Option Value} (n : h.Ns1 dx mA) : ∃ od, h.get? dx = some od ∧ ∀ name, PySem.W.lookIn name od = some (mA name) := by
 obtain ⟨o, es, ep, ho, hd, hk, _, hm⟩ := n
 refine ⟨o, ho, fun name => ?_⟩
 have e := hm name
 unfold nsFind findBy at e
 rw [← Array.find?_toList] at e
 unfold PySem.W.lookIn
 rw [hd]
 dsimp only
 split
 · rename_i y q
   rw [q] at e
   exact congrArg some e
 · rename_i q
   rw [q] at e
   have a : es.toList.any (·.refKey) = false := by
     rw [List.any_eq_false]
     intro y hy
     obtain ⟨z, t, hkey⟩ := hk y (Array.mem_toList_iff.mp hy)
     simp [DictEntry.refKey, hkey]
   have a' : ¬ es.toList.any (·.refKey) = true := by rw [a]; exact Bool.false_ne_true
   rw [if_neg a']
   exact congrArg some e
theorem ObjM.look {h : Heap} {x dx C : Addr} {mA : Str → Option Value} (I : ObjM h x dx C mA) : ∃ od, PySem.W.InstAt h x (PySem.W.instObj C dx) C (some od) ∧ ∀ name, PySem.W.lookIn name od = some (mA name) :=
 let ⟨od, ho, hl⟩ := lookIn_ns I.ns
 ⟨od, ⟨I.obj, rfl, rfl, ho⟩, hl⟩
section
variable {prog : Program} {w : World} {A : Around} {E : Value → Shared → Prop} {s : Shared} {K : PySem.W.Frag} {x dx C f : Addr} {mA : Str → Option Value} {name : Str} {v : Value}
theorem get_map {expr : Bool} {Q : Value → Shared → Prop} (X : K.In s.heap) (I : ObjM s.heap x dx C mA) (hg : PySem.W.plainGet K C name = true) (hh : PySem.W.hasDictIn K C = true)
   (ha : PySem.W.findIn K (.ref C) name = some none) (hv : mA name = some v) (hv' : PySem.W.handedIn v = true) (h : Q v { s with toks := s.toks + 1 }) :
   wpAny (model prog w) A (getAttr (.ref x) name expr) Q E s := by
 obtain ⟨od, J, hl⟩ := I.look
 exact PySem.W.get_value X J (PySem.W.plainGet_of hg).1 (PySem.W.findObj_own hh ha rfl (by rw [hl, hv])) hv' h
theorem get_meth {pl : Sem Bool} {Q : Value × List Value → Shared → Prop} (X : K.In s.heap) (I : ObjM s.heap x dx C mA) (hg : PySem.W.plainGet K C name = true)
   (hf : PySem.W.findIn K (.ref C) name = some (some (.ref f))) (ht : PySem.W.isFn K (.ref f) = true) (hv : mA name = none) (h : Q (.ref f, [.ref x]) s) :
   wpAny (model prog w) A (getMethod (.ref x) name pl) Q E s := by
 obtain ⟨od, J, hl⟩ := I.look
 exact PySem.W.method_fn X J (PySem.W.plainGet_of hg).1 (PySem.W.plainGet_of hg).2 hf (beq_iff_eq.mp ht) (by show (PySem.W.lookIn name od).map (·.isSome) = some false; rw [hl, hv]; rfl) h
theorem set_map {ns : List Str} {Q : Unit → Shared → Prop} (X : K.In s.heap) (I : ObjM s.heap x dx C mA)
   (hs : PySem.W.findIn K (.ref C) "__setattr__" = some (some (.builtin "object.__setattr__"))) (hp : PySem.W.plainOver K C = true) (ht : PySem.W.takerIn K C name = some none) (hh : PySem.W.hasDictIn K C = true)
   (hw : PySem.Within mA ns) (hsz : ns.length ≤ sizeLine)
   (h : ∀ h', ObjM h' x dx C (fun y => if y = name then some v else mA y) → Heap.SameBut dx s.heap h' → Q () { s with heap := h', toks := s.toks + 2 }) :
   wpAny (model prog w) A (setAttr (.ref x) name v) Q E s := by
 obtain ⟨od, J, hl⟩ := I.look
 refine PySem.W.set_plain X J hs (PySem.W.osa_open (s := { s with toks := s.toks + 1 }) (r := none) X J hp ht fun b => ?_)
 obtain ⟨cd, hc, hd'⟩ := PySem.W.any_some hh
 have hx : s.heap.get? x = some ⟨.ref C, some dx, .plain, #[]⟩ := I.obj
 refine wpAny_bind (wpAny_pure (wpAny_bind (wpAny_bind (wpAny_loadPart hx (wpAny_bind (PySem.W.Looks.here (s := { s with toks := s.toks + 1 }) (PySem.W.looks_clsIn X hc) ?_))))))
 rw [hd']
 refine wpAny_pure (a := some dx) (wpAny_bind (wpAny_pure (wpAny_bind ?_)))
 refine wpAny_nsSet1 (s := { s with toks := s.toks + 1 }) I.ns fun h' hn2 hs2 => ?_
 obtain ⟨oD, esD, epD, hoD, hdD, hcD⟩ := hn2.count (PySem.Within.cons name v hw)
 refine wpAny_bind (wpAny_lookBehind hoD (by rw [hdD]; exact pastItsLine_dict (Nat.le_trans hcD (by rw [List.length_cons]; omega))) ?_)
 exact wpAny_pure (h _ ⟨(hs2.2 _ (Ne.symm I.ne)).trans I.obj, hn2, I.ne⟩ hs2)
theorem make_map {R : Result → Shared → Prop} {vs : List Value} {kw : List (Str × Value)} (X : K.In s.heap) (hm : PySem.W.makesIn K C = true)
   (hi : PySem.W.findIn K (.ref C) "__init__" = some (some (.ref f))) (hf : PySem.W.typeIn K (.ref f) = some (.type "function"))
   (h : codeAny (model prog w) (A.under (.builtin "type.__call__" ⟨.ref C :: vs, kw⟩)) (.call (.ref f) ⟨.ref (s.heap.objs.size + 1) :: vs, kw⟩) (PySem.W.InitBack (s.heap.objs.size + 1) R)
     { s with heap := (s.heap.push PySem.W.emptyDict).push (PySem.W.instObj C s.heap.objs.size) }) :
   codeAny (model prog w) A (.call (.ref C) ⟨vs, kw⟩) R s := by
 obtain ⟨hh, g, d, t, os⟩ := s
 exact PySem.W.make_core (PySem.W.makes_of X hm) (PySem.W.looks_findIn X hi) (fun self => PySem.W.bind_fn X self hf) (.inl rfl) h
end
def putF (f : Str) (v : V) : List (Str × V) → List (Str × V)
 | [] => [(f, v)]
 | (g, x) :: r => if g = f then (g, v) :: r else (g, x) :: putF f v r
theorem lookup_putF (f g : Str) (v : V) : ∀ fs : List (Str × V), (putF f v fs).lookup g = if g = f then some v else fs.lookup g
 | [] => by
   show List.lookup g [(f, v)] = _
   by_cases h : g = f
   · have hb : (g == f) = true := beq_iff_eq.mpr h
     simp only [List.lookup, hb, if_pos h]
   · have hb : (g == f) = false := beq_eq_false_iff_ne.mpr h
     simp only [List.lookup, hb, if_neg h]
 | (k, x) :: r => by
   have ih := lookup_putF f g v r
   rw [show putF f v ((k, x) :: r) = (if k = f then (k, v) :: r else (k, x) :: putF f v r) from rfl]
   by_cases hk : k = f
   · rw [if_pos hk]
     by_cases h : g = k
     · have hb : (g == k) = true := beq_iff_eq.mpr h
       simp only [List.lookup, hb, if_pos (h.trans hk)]
     · have hb : (g == k) = false := beq_eq_false_iff_ne.mpr h
       simp only [List.lookup, hb, if_neg (fun e : g = f => h (e.trans hk.symm))]
   · rw [if_neg hk]
     by_cases h : g = k
     · have hb : (g == k) = true := beq_iff_eq.mpr h
       simp only [List.lookup, hb, if_neg (fun e : g = f => hk (h.symm.trans e))]
     · have hb : (g == k) = false := beq_eq_false_iff_ne.mpr h
       simp only [List.lookup, hb]
       exact ih
theorem keys_putF (f : Str) (v : V) : ∀ fs : List (Str × V), f ∈ (putF f v fs).map (·.1) ∧ ∀ g, g ∈ fs.map (·.1) → g ∈ (putF f v fs).map (·.1)
 | [] => ⟨by simp [putF], fun g h => by simp at h⟩
 | (k, x) :: r => by
   obtain ⟨i1, i2⟩ := keys_putF f v r
   rw [show putF f v ((k, x) :: r) = (if k = f then (k, v) :: r else (k, x) :: putF f v r) from rfl]
   by_cases hk : k = f
   · rw [if_pos hk]
     subst hk
     exact ⟨by simp, fun g h => by simpa using h⟩
   · rw [if_neg hk]
     refine ⟨?_, fun g h => ?_⟩
     · rw [List.map_cons]
       exact List.mem_cons_of_mem _ i1
     · rw [List.map_cons] at h ⊢
       rcases List.mem_cons.mp h with e | e
       · exact List.mem_cons.mpr (.inl e)
       · exact List.mem_cons_of_mem _ (i2 g e)
theorem length_putF (f : Str) (v : V) : ∀ fs : List (Str × V), (putF f v fs).length ≤ fs.length + 1
 | [] => by simp [putF]
 | (k, x) :: r => by
   have ih := length_putF f v r
   rw [show putF f v ((k, x) :: r) = (if k = f then (k, v) :: r else (k, x) :: putF f v r) from rfl]
   by_cases hk : k = f
   · rw [if_pos hk, List.length_cons, List.length_cons]; omega
   · rw [if_neg hk, List.length_cons, List.length_cons]; omega
theorem RelO.some_of {v : V} {o : Option Value} (r : RelO (some v) o) : ∃ u, o = some u ∧ RelV v u := by
 cases o with
 | none => exact (show False from r).elim
 | some u => exact ⟨u, rfl, r⟩
theorem RelO.none_of {o : Option Value} (r : RelO none o) : o = none := by
 cases o with
 | none => rfl
 | some u => exact (show False from r).elim
theorem handed_of {v : V} {u : Value} (r : RelV v u) : PySem.W.handedIn u = true := by
 cases v with
 | non => cases (show u = Value.none from r); rfl
 | bl b => cases (show u = Value.bool b from r); rfl
 | int i => obtain ⟨t, e⟩ := (show ∃ t, u = Value.int i t from r); cases e; rfl
 | str x => obtain ⟨t, e⟩ := (show ∃ t, u = Value.str x t from r); cases e; rfl
 | byt b => obtain ⟨t, e⟩ := (show ∃ t, u = Value.bytes b t from r); cases e; rfl
 | flt b => obtain ⟨t, e⟩ := (show ∃ t, u = Value.float b t from r); cases e; rfl
 | ref a => cases (show u = Value.ref a from r); rfl
 | ty n => cases (show u = Value.type n from r); rfl
section
variable {P : Program} {w : World} {H H' : Hp} {h h' : Heap} {a C dx : Addr} {fs fs' : List (Str × V)}
theorem ins_get (hok : HOk P w H h) (e : H a = some (.ins C dx fs)) : ∃ mA, ObjM h a dx C mA ∧ (∀ f, RelO (fs.lookup f) (mA f)) ∧ PySem.Within mA (fs.map (·.1)) ∧ fs.length ≤ 1000 ∧ H dx = some (.own a) := by
 obtain ⟨d, z, ne, ob, mA, n, r, q⟩ := (show ObjOk P w H h a (.ins C dx fs) from hok a _ e)
 exact ⟨mA, ⟨ob, n, ne⟩, r, q, z, d⟩
end
structure Cls (K : PySem.W.Frag) (C : Addr) : Prop where
 pg : PySem.W.plainGet K C Str.empty = true
 hd : PySem.W.hasDictIn K C = true
 po : PySem.W.plainOver K C = true
 sa : PySem.W.findIn K (.ref C) "__setattr__" = some (some (.builtin "object.__setattr__"))
theorem Cls.get {K : PySem.W.Frag} {C : Addr} (c : Cls K C) (f : Str) : PySem.W.plainGet K C f = true := c.pg
def NoAttr (K : PySem.W.Frag) (C : Addr) (f : Str) : Prop := PySem.W.findIn K (.ref C) f = some none
theorem NoAttr.taker {K : PySem.W.Frag} {C : Addr} {f : Str} (n : NoAttr K C f) : PySem.W.takerIn K C f = some none := by
 unfold PySem.W.takerIn
 rw [show PySem.W.findIn K (.ref C) f = some none from n]
 rfl
structure Con (K : PySem.W.Frag) (C : Addr) (f : Str) (v : V) (u : Value) : Prop where
 at_ : PySem.W.findIn K (.ref C) f = some (some u)
 rel : RelV v u
 get : PySem.W.specialIn K u "__get__" = some none
 cp : PySem.W.copiedNames.contains f = false
structure Meth (K : PySem.W.Frag) (C : Addr) (m : Str) (f : Addr) : Prop where
 at_ : PySem.W.findIn K (.ref C) m = some (some (.ref f))
 fn : PySem.W.isFn K (.ref f) = true
 kp : PySem.W.keepIn K (.ref f) = true
section
variable {X : Cx} {pins : List (Addr × Obj)} {σ : St} {H : Hp} {s : Shared} {a C dx : Addr} {fs : List (Str × V)} {f : Str} {v : V} {A : Around} {E : Value → Shared → Prop}
theorem getattr_ok {b : Bool} {Q : Value → Shared → Prop} (I : Inv X pins σ H s) (e : H a = some (.ins C dx fs)) (c : Cls X.K C) (n : NoAttr X.K C f) (l : fs.lookup f = some v)
   (h : ∀ u s', Inv X pins σ H s' → RelV v u → Q u s') : wpAny (model X.prog X.w) A (getAttr (.ref a) f b) Q E s := by
 obtain ⟨mA, O, r, _, _, _⟩ := ins_get I.hok e
 obtain ⟨u, hu, ru⟩ := RelO.some_of (v := v) (o := mA f) (by rw [← l]; exact r f)
 exact get_map I.kIn O (c.get f) c.hd n hu (handed_of ru) (h u _ (I.tok _) ru)
theorem getmeth_ok {m : Str} {g : Addr} {pl : Sem Bool} {Q : Value × List Value → Shared → Prop} (I : Inv X pins σ H s) (e : H a = some (.ins C dx fs)) (c : Cls X.K C) (k : Meth X.K C m g) (l : fs.lookup m = none)
   (h : Q (.ref g, [.ref a]) s) : wpAny (model X.prog X.w) A (getMethod (.ref a) m pl) Q E s := by
 obtain ⟨mA, O, r, _, _, _⟩ := ins_get I.hok e
 have hn : mA m = none := RelO.none_of (by rw [← l]; exact r m)
 exact get_meth I.kIn O (c.get m) k.at_ k.fn hn h
theorem setattr_ok {y : V} {u : Value} {Q : Unit → Shared → Prop} (I : Inv X pins σ H s) (e : H a = some (.ins C dx fs)) (c : Cls X.K C) (n : NoAttr X.K C f) (hl : fs.length < 1000) (ry : RelV y u)
   (h : ∀ s', Inv X pins σ (upd H a (.ins C dx (putF f y fs))) s' → Q () s') : wpAny (model X.prog X.w) A (setAttr (.ref a) f u) Q E s := by
 obtain ⟨mA, O, r, wi, _, ho⟩ := ins_get I.hok e
 have hz : (fs.map (·.1)).length ≤ sizeLine := by rw [List.length_map, sizeLine_eq]; omega
 refine set_map I.kIn O c.sa c.po n.taker c.hd wi hz fun h' O' sb => h _ ?_
 have hd : ∃ o, h'.get? dx = some o := let ⟨o, _, _, e', _⟩ := O'.ns; ⟨o, e'⟩
 refine I.write (x := a) (e := dx) (by rw [e]; exact True.intro) (.inr ho) (fun b q hb z => (sb.2 b hb).trans z) hd ?_
 refine ⟨by rw [zJ O.ne]; exact ho, ?_, O.ne, O'.obj, _, O'.ns, fun g => ?_, fun g hg => ?_⟩
 · have := length_putF f y fs; omega
 · show RelO ((putF f y fs).lookup g) (if g = f then some u else mA g)
   rw [lookup_putF]
   by_cases q : g = f
   · rw [if_pos q, if_pos q]; exact ry
   · rw [if_neg q, if_neg q]; exact r g
 · by_cases q : g = f
   · rw [q]; exact (keys_putF f y fs).1
   · refine (keys_putF f y fs).2 g (wi g fun z => hg ?_)
     show (if g = f then some u else mA g) = none
     rw [if_neg q]; exact z
theorem Inv.made (I : Inv X pins σ H s) : Inv X pins σ (upd (upd H s.heap.objs.size (.own (s.heap.objs.size + 1))) (s.heap.objs.size + 1) (.ins C s.heap.objs.size []))
   { s with heap := (s.heap.push PySem.W.emptyDict).push (PySem.W.instObj C s.heap.objs.size) } := by
 have e1 : (s.heap.push PySem.W.emptyDict).get? s.heap.objs.size = some PySem.W.emptyDict := Heap.get?_push_size s.heap rfl
 have e2 : ((s.heap.push PySem.W.emptyDict).push (PySem.W.instObj C s.heap.objs.size)).get? (s.heap.objs.size + 1) = some (PySem.W.instObj C s.heap.objs.size) := by
   have := Heap.get?_push_size (s.heap.push PySem.W.emptyDict) (o := PySem.W.instObj C s.heap.objs.size) rfl
   rwa [Heap.size_push] at this
 have e3 : (s.heap.push PySem.W.emptyDict).Ns s.heap.objs.size (fun _ => none) := ⟨PySem.W.emptyDict, #[], _, e1, rfl, (fun e he => absurd he (by simp)), fun _ => rfl⟩
 have I1 := I.laid (a := s.heap.objs.size) (o := .own (s.heap.objs.size + 1)) (h' := s.heap.push PySem.W.emptyDict) (t' := s.toks) (fun b u q => Heap.get?_push_of_some _ q) (Nat.le_refl _) ⟨_, e1⟩
 refine I1.laid (a := s.heap.objs.size + 1) (o := .ins C s.heap.objs.size []) (t' := s.toks) (fun b u q => Heap.get?_push_of_some _ q) (Nat.le_of_eq (Heap.size_push _ _)) ?_
 have ne : s.heap.objs.size ≠ s.heap.objs.size + 1 := Nat.ne_of_lt (Nat.lt_succ_self _)
 refine ⟨by rw [zJ ne, zB], Nat.zero_le _, ne, e2, fun _ => none, (Heap.Ns1.of_empty e3).at fun o q => Heap.get?_push_of_some _ q, fun _ => True.intro, fun y hy => absurd rfl hy⟩
theorem attr_of {prog : Program} {w : World} {env : Env} {e : Expr} {f : Str} {pos : Pos} {s : Shared} {Q : Value → Shared → Prop} (hb : attributeBase e f env (eval e env) = eval e env)
   (h : wpAny (model prog w) A (eval e env) (fun o s₁ => wpAny (model prog w) A (getAttr o f true) Q E s₁) E s) : wpAny (model prog w) A (eval (.Attribute e f pos) env) Q E s :=
 Attribute_any_ h (by rw [arm_eval_Attribute, hb])
end
def tFld (K : PySem.W.Frag) (ta : TE) (f : Str) : TE := fun σ H Q => ta σ H fun x H1 => ∃ a C dx fs v, x = .ref a ∧ H1 a = some (.ins C dx fs) ∧ Cls K C ∧ NoAttr K C f ∧ fs.lookup f = some v ∧ Q v H1
def sFld (K : PySem.W.Frag) (ta tv : TE) (f : Str) : TS := fun D σ H => tv σ H fun y H1 => ta σ H1 fun x H2 => ∃ a C dx fs, x = .ref a ∧ H2 a = some (.ins C dx fs) ∧ Cls K C ∧ NoAttr K C f ∧ fs.length < 1000 ∧
 D.nx σ (upd H2 a (.ins C dx (putF f y fs)))
section
variable {X : Cx} {o e value : Expr} {f : Str} {pos pos' tpos : Pos} {ta tv : TE}
theorem pe_fld (he : PE X e ta) (hb : attributeBase e f X.env (eval e X.env) = eval e X.env) : PE X (.Attribute e f pos) (tFld X.K ta f) := by
 intro pins s σ H Q I h
 refine attr_of hb (thn (he pins s σ H _ I h) fun u s1 ⟨x, H1, I1, rx, a, C, dx, fs, v, ex, ea, c, n, l, q⟩ => ?_)
 subst ex
 obtain rfl : u = Value.ref a := rx
 exact getattr_ok I1 ea c n l fun u' s2 I2 ru => ⟨v, H1, I2, ru, q⟩
theorem ps_fld (ha : PE X o ta) (hv : PE X value tv) (hs : swapsWith value (some (.Attribute o f pos')) pos.line X.env = pure false) : PS X (.Assign [.Attribute o f pos'] value pos) (sFld X.K ta tv f) := by
 intro pins s σ H D I h
 refine plainObj_wpAny_Assign_Attribute (thn (hv pins s σ H _ I h) fun u s1 ⟨y, H1, I1, ry, q⟩ => thn (ha pins s1 σ H1 _ I1 q) fun ov s2 ⟨x, H2, I2, rx, a, C, dx, fs, ex, ea, c, n, l, q2⟩ => ?_) hs
 subst ex
 obtain rfl : ov = Value.ref a := rx
 exact setattr_ok I2 ea c n l ry fun s3 I3 => ⟨σ, _, I3, q2⟩
end
section
variable {X : Cx} {pins : List (Addr × Obj)} {σ : St} {H : Hp} {s : Shared} {A : Around} {E : Value → Shared → Prop} {Q : Value → Shared → Prop} {c : Value} {b : Bool}
inductive TyOf (K : PySem.W.Frag) (H : Hp) : V → Value → Prop where
 | non : TyOf K H .non (.type "NoneType")
 | bl (x : Bool) : TyOf K H (.bl x) (.type "bool")
 | int (i : Int) : TyOf K H (.int i) (.type "int")
 | str (x : Str) : TyOf K H (.str x) (.type "str")
 | flt (x : UInt64) : TyOf K H (.flt x) (.type "float")
 | lst {a : Addr} {xs : List V} (e : H a = some (.lst xs)) : TyOf K H (.ref a) (.type "list")
 | frz {a : Addr} {o : Obj} {xs : List V} (e : H a = some (.frz o (.lst xs))) : TyOf K H (.ref a) (.type "list")
 | tup {a : Addr} {xs : List V} (e : H a = some (.tup xs)) : TyOf K H (.ref a) (.type "tuple")
 | dK {a : Addr} {kvs : List (Key × V)} (e : H a = some (.dK kvs)) : TyOf K H (.ref a) (.type "dict")
 | dT {a : Addr} {kvs : List (List Key × V)} (e : H a = some (.dT kvs)) : TyOf K H (.ref a) (.type "dict")
 | ins {a C dx : Addr} {fs : List (Str × V)} (e : H a = some (.ins C dx fs)) (cl : Cls K C) (ha : PySem.W.findIn K (.ref C) "__class__" = some (some (.builtin "object.__class__")))
     (hn : PySem.W.specialIn K (.builtin "object.__class__") "__get__" = some (some (.builtin "getset_descriptor.__get__"))) (htk : PySem.W.takesIn K (.builtin "object.__class__") = some true)
     (hm : PySem.W.mroIn K C (.type "object") = some true) : TyOf K H (.ref a) (.ref C)
end
end L2
namespace L2
open PySem PySem.Spec PyProof.Rows
structure Room (k : Nat) (A : Around) : Prop where
 hd : A.handled = none
 dp : A.depth + 3 * k + 5 < recursionLimit
 un : A.units + 16 * k + 200 < cLine
theorem Room.mono {j k : Nat} {A : Around} (r : Room k A) (h : j ≤ k) : Room j A := ⟨r.hd, by have := r.dp; omega, by have := r.un; omega⟩
theorem Room.deeper {k : Nat} {A : Around} (r : Room (k + 1) A) (env : Env) : Room k (A.deeper env) :=
 ⟨r.hd, by have := r.dp; show A.depth + 1 + 3 * k + 5 < _; omega, by have := r.un; show A.units + 3 + 16 * k + 200 < _; omega⟩
theorem Room.in1 {k : Nat} {A : Around} (r : Room (k + 1) A) : Room k A.in1 :=
 ⟨r.hd, by have := r.dp; show A.depth + 3 * k + 5 < _; omega, by have := r.un; show A.units + 1 + 16 * k + 200 < _; omega⟩
theorem make_depth {A : Around} {C : Addr} {us : List Value} {kw : List (Str × Value)} : (A.under (.builtin "type.__call__" ⟨.ref C :: us, kw⟩)).depth = A.depth + 1 := by
 first | rfl | simp [Around.under, Code.weight, Code.isCreation, Code.isGuard, Code.isCaller, Code.frames, Code.isFrame, guardIds]
theorem make_units {A : Around} {C : Addr} {us : List Value} {kw : List (Str × Value)} : (A.under (.builtin "type.__call__" ⟨.ref C :: us, kw⟩)).units = A.units + 1 := by
 first | rfl | simp [Around.under, Code.cUnits, Code.frames, Code.isFrame]
theorem Room.make {k : Nat} {A : Around} (r : Room (k + 1) A) (C : Addr) (us : List Value) (kw : List (Str × Value)) : Room k (A.under (.builtin "type.__call__" ⟨.ref C :: us, kw⟩)) :=
 ⟨r.hd, by have := r.dp; rw [make_depth]; omega, by have := r.un; rw [make_units]; omega⟩
theorem Room.depth {k : Nat} {A : Around} (r : Room k A) : A.depth < recursionLimit := by have := r.dp; omega
theorem Room.units {k : Nat} {A : Around} (r : Room k A) : A.units + 64 < cLine := by have := r.un; omega
def tNil : TA := fun _ H Q => Q [] H
def tCons (ta : TE) (tr : TA) : TA := fun σ H Q => ta σ H fun x H1 => tr σ H1 fun xs H2 => Q (x :: xs) H2
section
variable {X : Cx} {e : Expr} {es : List Expr} {te : TE} {t : TA} {pos : Pos}
theorem zC : PA X [] tNil := fun _ _ _ _ H Q I h => Calls.spliced_nil ⟨[], H, I, .nil, h⟩
theorem zA (ha : PE X e te) (hr : PA X es t) (hs : starEach (e :: es) X.env = (false, eval e X.env) :: starEach es X.env := by rfl) : PA X (e :: es) (tCons te t) := by
 intro pos pins s σ H Q I h
 rw [hs]
 show wpAny _ _ (spliced ((false, eval e X.env) :: backTo pos (starEach es X.env))) _ _ s
 refine Calls.spliced_cons (thn (ha pins s σ H _ I h) fun u s1 ⟨x, H1, I1, r1, q1⟩ => ?_)
 exact thn (hr pos pins s1 σ H1 _ I1 q1) fun us s2 ⟨xs, H2, I2, r2, q2⟩ => ⟨x :: xs, H2, I2, .cons r1 r2, q2⟩
def tTup (t : TA) : TE := fun σ H Q => t σ H fun xs H1 => xs.length ≤ sizeLine ∧ ∀ p, H1 p = none → Q (.ref p) (upd H1 p (.tup xs))
def tLst (t : TA) : TE := fun σ H Q => t σ H fun xs H1 => xs.length ≤ sizeLine ∧ ∀ p, H1 p = none → Q (.ref p) (upd H1 p (.lst xs))
theorem pe_tup {x1} (h : PA X es t) : PE X (.Tuple es x1 pos) (tTup t) := by
 intro pins s σ H Q I hq
 refine wpAny_Tuple_spliced (thn (h pos pins s σ H _ I hq) fun us s1 ⟨xs, H1, I1, r, z, q⟩ => ⟨by rw [← r.length]; exact z, ?_⟩)
 have hf : H1 s1.heap.objs.size = none := I1.hok.fresh (Nat.le_refl _)
 refine ⟨.ref s1.heap.objs.size, upd H1 s1.heap.objs.size (.tup xs), I1.laid (t' := s1.toks) (fun b u e => Heap.get?_push_of_some _ e) (Nat.le_refl _) ?_, rfl, q _ hf⟩
 exact ⟨z, us, r, ⟨_, Heap.get?_push_size _ rfl, rfl, _, rfl⟩⟩
theorem pe_lst (h : PA X es t) : PE X (.List es pos) (tLst t) := by
 intro pins s σ H Q I hq
 refine wpAny_List_spliced (thn (h pos pins s σ H _ I hq) fun us s1 ⟨xs, H1, I1, r, z, q⟩ => ⟨by rw [← r.length]; exact z, ?_⟩)
 have hf : H1 s1.heap.objs.size = none := I1.hok.fresh (Nat.le_refl _)
 refine ⟨.ref s1.heap.objs.size, upd H1 s1.heap.objs.size (.lst xs), I1.laid (t' := s1.toks) (fun b u e => Heap.get?_push_of_some _ e) (Nat.le_refl _) ?_, rfl, q _ hf⟩
 exact ⟨z, us, 0, r, Heap.get?_push_size _ rfl⟩
end
abbrev Sp := List V → Hp → VK → XK → Prop
abbrev CXT := List Env → Hp → Shared → XK → Value → Shared → Prop
structure Env0 (P : Program) (w : World) (K : PySem.W.Frag) (mg : Str → Option Value) (base : Heap) (A : Around) (outer : List Env) (s : Shared) (H : Hp) : Prop where
 frames : A.frames = some outer
 mod : Mod K mg base
 bs : ∀ b o, base.get? b = some o → s.heap.get? b = some o ∧ H b = none
 bsz : base.objs.size ≤ s.heap.objs.size
 funs : s.heap.FunFrames base outer
 frf : ∀ b ∈ frs outer, H b = none
 hok : HOk P w H s.heap
 bare : AllBare s.gens
def CE (outer : List Env) (P : Program) (w : World) (H : Hp) (s : Shared) (Q : VK) (u : Value) (s' : Shared) : Prop :=
 ∃ v H', s'.os = s.os ∧ AllBare s'.gens ∧ Un (frs outer) [] H H' s.heap s'.heap ∧ HOk P w H' s'.heap ∧ RelV v u ∧ Q v H'
def CR (CX : CXT) (outer : List Env) (P : Program) (w : World) (H : Hp) (s : Shared) (Q : VK) (E : XK) (r : Result) (s' : Shared) : Prop :=
 match r with
 | .ok (.ret u) => CE outer P w H s Q u s'
 | .ok _ => False
 | .error e => CX outer H s E e s'
structure FnOk (P : Program) (w : World) (K : PySem.W.Frag) (mg : Str → Option Value) (base : Heap) (CX : CXT) (k : Nat) (f : Addr) (fd : FuncData) (ps : List Str) (sp : Sp) : Prop where
 len : ∀ vs H Q E, sp vs H Q E → vs.length = ps.length
 run : ∀ (A : Around) (outer : List Env) (s : Shared) (H : Hp) (args : Args) (us : List Value) (vs : List V) (Q : VK) (E : XK), Room k A → Env0 P w K mg base A outer s H → BindsTo s fd args (ps.zip us) → Vals vs us → sp vs H Q E →
   codeAny (model P w) A (.call (.ref f) args) (CR CX outer P w H s Q E) s
theorem FnOk.mono {P : Program} {w : World} {K : PySem.W.Frag} {mg : Str → Option Value} {base : Heap} {CX : CXT} {j k : Nat} {f : Addr} {fd : FuncData} {ps : List Str} {sp : Sp} (F : FnOk P w K mg base CX j f fd ps sp) (h : j ≤ k) :
   FnOk P w K mg base CX k f fd ps sp := ⟨F.len, fun A outer s H args us vs Q E hr => F.run A outer s H args us vs Q E (hr.mono h)⟩
theorem FnOk.imp {P : Program} {w : World} {K : PySem.W.Frag} {mg : Str → Option Value} {base : Heap} {CX : CXT} {k : Nat} {f : Addr} {fd : FuncData} {ps : List Str} {sp sp' : Sp} (F : FnOk P w K mg base CX k f fd ps sp)
   (h : ∀ vs H Q E, sp' vs H Q E → sp vs H Q E) : FnOk P w K mg base CX k f fd ps sp' :=
 ⟨fun vs H Q E q => F.len vs H Q E (h _ _ _ _ q), fun A outer s H args us vs Q E hr he hb hv hs => F.run A outer s H args us vs Q E hr he hb hv (h _ _ _ _ hs)⟩
theorem Env0.make {P : Program} {w : World} {K : PySem.W.Frag} {mg : Str → Option Value} {base : Heap} {A : Around} {outer : List Env} {s : Shared} {H : Hp} (e : Env0 P w K mg base A outer s H) (C : Addr) (us : List Value) (kw : List (Str × Value)) :
   Env0 P w K mg base (A.under (.builtin "type.__call__" ⟨.ref C :: us, kw⟩)) outer s H := ⟨by first | exact e.frames | (simpa [Around.under, Code.envs, Code.isFrame, pushEnvs] using e.frames), e.mod, e.bs, e.bsz, e.funs, e.frf, e.hok, e.bare⟩
theorem Env0.in1 {P : Program} {w : World} {K : PySem.W.Frag} {mg : Str → Option Value} {base : Heap} {A : Around} {outer : List Env} {s : Shared} {H : Hp} (e : Env0 P w K mg base A outer s H) :
   Env0 P w K mg base A.in1 outer s H := ⟨e.frames, e.mod, e.bs, e.bsz, e.funs, e.frf, e.hok, e.bare⟩
section
variable {X : Cx} {pins : List (Addr × Obj)} {σ : St} {H : Hp} {s s' : Shared}
theorem Inv.env0 (I : Inv X pins σ H s) : Env0 X.prog X.w X.K X.mg X.base X.A X.stack s H :=
 ⟨I.ok.frames, I.ok.mod, I.bs, Nat.le_trans I.ok.bsz I.sz, I.stack, I.stkFree, I.hok, I.bare⟩
theorem Inv.after {Q : VK} {u : Value} (I : Inv X pins σ H s) (h : CE X.stack X.prog X.w H s Q u s') : EP X pins σ Q u s' := by
 obtain ⟨v, H', os, bare, un, hok, r, q⟩ := h
 obtain ⟨hh, g, d, t, os'⟩ := s'
 obtain rfl : os' = s.os := os
 exact ⟨v, H', I.call (h' := hh) (g' := g) (d' := d) (t' := t) (ch := []) un hok bare (fun b z => absurd z (by simp)), r, q⟩
end
def tCall (sp : Sp) (dvs : List V) (E : XK) (t : TA) : TE := fun σ H Q => t σ H fun vs H1 => sp (vs ++ dvs) H1 Q E
def tMake (C : Addr) (sp : Sp) (dvs : List V) (E : XK) (t : TA) : TE := fun σ H Q => t σ H fun vs H1 => ∀ x dx, H1 x = none → H1 dx = none → dx ≠ x →
 sp (.ref x :: (vs ++ dvs)) (upd (upd H1 dx (.own x)) x (.ins C dx [])) (fun v H2 => v = .non ∧ Q (.ref x) H2) E
def Binds (K : PySem.W.Frag) (fd : FuncData) (ps : List Str) (ds : List Value) : Prop :=
 ∀ (s : Shared) (us : List Value), K.In s.heap → (us ++ ds).length = ps.length → BindsTo s fd ⟨us, []⟩ (ps.zip (us ++ ds))
theorem Binds.all {K : PySem.W.Frag} {fd : FuncData} {ps : List Str} (h : ∀ us : List Value, us.length = ps.length → bindArgs fd ⟨us, []⟩ = pure (ps.zip us)) : Binds K fd ps [] := fun s us _ hl => by
 rw [List.append_nil] at hl ⊢
 exact .of_eq (h us hl)
def Passes (CX : CXT) (X : Cx) (E : XK) : Prop := ∀ (pins : List (Addr × Obj)) (σ : St) (H : Hp) (s : Shared) (e : Value) (s' : Shared), Inv X pins σ H s → CX X.stack H s E e s' → X.xe e s'
section
variable {X : Cx} {CX : CXT} {k : Nat} {f C : Addr} {fd : FuncData} {ps : List Str} {sp : Sp} {dvs : List V} {ds : List Value} {E : XK} {x m : Str} {p pos apos : Pos} {e o : Expr} {es : List Expr} {ta : TE} {t : TA}
theorem run_fn {pins : List (Addr × Obj)} {σ : St} {H : Hp} {s : Shared} {Q : VK} {us : List Value} {vs : List V} (F : FnOk X.prog X.w X.K X.mg X.base CX k f fd ps sp) (hr : Room k X.A) (hb : Binds X.K fd ps ds) (hd : Vals dvs ds) (hx : Passes CX X E)
   (I : Inv X pins σ H s) (r : Vals vs us) (h : sp (vs ++ dvs) H Q E) : wpAny (model X.prog X.w) X.A (call (.ref f) us) (EP X pins σ Q) X.xe s := by
 have r2 : Vals (vs ++ dvs) (us ++ ds) := r.append hd
 have hl : (us ++ ds).length = ps.length := by rw [← r2.length]; exact F.len _ _ _ _ h
 refine wpAny_call (codeAny_mono (F.run X.A X.stack s H ⟨us, []⟩ (us ++ ds) (vs ++ dvs) Q E hr I.env0 (hb s us I.kIn hl) r2 h) fun r s' hq => ?_)
 cases r with
 | error e => exact hx pins σ H s e s' I hq
 | ok fl =>
   cases fl with
   | ret u => exact I.after hq
   | next => exact False.elim hq
   | brk => exact False.elim hq
   | cont => exact False.elim hq
theorem zM (F : FnOk X.prog X.w X.K X.mg X.base CX k f fd ps sp) (hr : Room k X.A) (hg : Gl X x) (hm : X.mg x = some (.ref f)) (hk : PySem.W.keepIn X.K (.ref f) = true) (hb : Binds X.K fd ps ds) (hd : Vals dvs ds) (hx : Passes CX X E)
   (ha : PA X (e :: es) t) (hdb : (x == ("__debug__" : Str)) = false := by decide) (he : starEach (e :: es) X.env = (false, eval e X.env) :: starEach es X.env := by rfl) (hpl : (backTo pos (starEach es X.env)).any (·.1) = false := by rfl) :
   PE X (.Call (.Name x p) (e :: es) [] pos) (tCall sp dvs E t) := by
 intro pins s σ H Q I h
 refine wpAny_Call_Name_kw (ld_glob I hg hm ?_ hdb)
 refine PySem.W.callWith_K (h₀ := X.base) I.ok.mod.kin hk (thn (ha pos pins s σ H _ I h) fun us s1 ⟨vs, H1, I1, r, q⟩ => ⟨I1.kIn, ?_⟩) he hpl
 exact run_fn F hr hb hd hx I1 r q
structure Mk (K : PySem.W.Frag) (C f : Addr) : Prop where
 makes : PySem.W.makesIn K C = true
 init : PySem.W.findIn K (.ref C) "__init__" = some (some (.ref f))
 fn : PySem.W.isFn K (.ref f) = true
 kp : PySem.W.keepIn K (.ref C) = true
theorem run_make {pins : List (Addr × Obj)} {σ : St} {H : Hp} {s : Shared} {Q : VK} {us : List Value} {vs : List V} (M : Mk X.K C f) (F : FnOk X.prog X.w X.K X.mg X.base CX k f fd ps sp) (hr : Room (k + 1) X.A) (hb : Binds X.K fd ps ds) (hd : Vals dvs ds)
   (hx : Passes CX X E) (I : Inv X pins σ H s) (r : Vals vs us)
   (h : ∀ x dx, H x = none → H dx = none → dx ≠ x → sp (.ref x :: (vs ++ dvs)) (upd (upd H dx (.own x)) x (.ins C dx [])) (fun v H2 => v = .non ∧ Q (.ref x) H2) E) :
   wpAny (model X.prog X.w) X.A (call (.ref C) us) (EP X pins σ Q) X.xe s := by
 have hq := h (s.heap.objs.size + 1) s.heap.objs.size (I.hok.fresh (Nat.le_succ _)) (I.hok.fresh (Nat.le_refl _)) (Nat.ne_of_lt (Nat.lt_succ_self _))
 have I2 := Inv.made (C := C) I
 have r2 : Vals (V.ref (s.heap.objs.size + 1) :: (vs ++ dvs)) (Value.ref (s.heap.objs.size + 1) :: (us ++ ds)) := .cons rfl (r.append hd)
 have hl : (Value.ref (s.heap.objs.size + 1) :: us ++ ds).length = ps.length := by
   have e := r2.length
   rw [F.len _ _ _ _ hq] at e
   exact e.symm
 refine wpAny_call (make_map (f := f) I.kIn M.makes M.init (beq_iff_eq.mp M.fn) (codeAny_mono (F.run _ X.stack _ _ ⟨Value.ref (s.heap.objs.size + 1) :: us, []⟩ (Value.ref (s.heap.objs.size + 1) :: (us ++ ds)) _ _ E (hr.make C us [])
   (I2.env0.make C us []) (hb _ (Value.ref (s.heap.objs.size + 1) :: us) I2.kIn hl) r2 hq) fun r s' hq' => ?_))
 cases r with
 | error e => exact hx pins σ _ _ e s' I2 hq'
 | ok fl =>
   cases fl with
   | ret u =>
     obtain ⟨v, H', I3, rv, ev, q3⟩ := I2.after hq'
     subst ev
     exact ⟨rv, ⟨V.ref (s.heap.objs.size + 1), H', I3, rfl, q3⟩⟩
   | next => exact False.elim hq'
   | brk => exact False.elim hq'
   | cont => exact False.elim hq'
theorem pe_make (M : Mk X.K C f) (F : FnOk X.prog X.w X.K X.mg X.base CX k f fd ps sp) (hr : Room (k + 1) X.A) (hg : Gl X x) (hm : X.mg x = some (.ref C)) (hb : Binds X.K fd ps ds) (hd : Vals dvs ds) (hx : Passes CX X E)
   (ha : PA X (e :: es) t) (hdb : (x == ("__debug__" : Str)) = false := by decide) (he : starEach (e :: es) X.env = (false, eval e X.env) :: starEach es X.env := by rfl) (hpl : (backTo pos (starEach es X.env)).any (·.1) = false := by rfl) :
   PE X (.Call (.Name x p) (e :: es) [] pos) (tMake C sp dvs E t) := by
 intro pins s σ H Q I h
 refine wpAny_Call_Name_kw (ld_glob I hg hm ?_ hdb)
 refine PySem.W.callWith_K (h₀ := X.base) I.ok.mod.kin M.kp (thn (ha pos pins s σ H _ I h) fun us s1 ⟨vs, H1, I1, r, q⟩ => ⟨I1.kIn, ?_⟩) he hpl
 exact run_make M F hr hb hd hx I1 r q
theorem pe_make0 (M : Mk X.K C f) (F : FnOk X.prog X.w X.K X.mg X.base CX k f fd ps sp) (hr : Room (k + 1) X.A) (hg : Gl X x) (hm : X.mg x = some (.ref C)) (hb : Binds X.K fd ps ds) (hd : Vals dvs ds) (hx : Passes CX X E)
   (hdb : (x == ("__debug__" : Str)) = false := by decide) : PE X (.Call (.Name x p) [] [] pos) (tMake C sp dvs E tNil) := by
 intro pins s σ H Q I h
 refine wpAny_Call_Name_kw (ld_glob I hg hm ?_ hdb)
 exact PySem.W.callWith_K0 I.kIn M.kp (run_make (us := []) M F hr hb hd hx I .nil h)
end
section
variable {X : Cx} {CX : CXT} {k : Nat} {f C : Addr} {fd : FuncData} {ps ks : List Str} {sp : Sp} {E : XK} {x m : Str} {p pos apos kpos : Pos} {e o : Expr} {es : List Expr} {kws : List Keyword} {te ta : TE} {t tk : TA} {nm : Option Str}
structure KBinds (K : PySem.W.Frag) (fd : FuncData) (ps ks : List Str) (g : List Value → List Value → List Value) (gV : List V → List V → List V) : Prop where
 to : ∀ (s : Shared) (us ws : List Value), K.In s.heap → (g us ws).length = ps.length → BindsTo s fd ⟨us, ks.zip ws⟩ (ps.zip (g us ws))
 rel : ∀ {vs : List V} {us : List Value} {zs : List V} {ws : List Value}, Vals vs us → Vals zs ws → Vals (gV vs zs) (g us ws)
variable {g : List Value → List Value → List Value} {gV : List V → List V → List V}
end
structure FnScope (N P : List Str) (sc : Scope) : Prop where
 kind : sc.kind = .function
 co : sc.isCoroutine = false
 gen : sc.isGenerator = false
 nd : N.Nodup
 pre : N.take P.length = P
 par : ∀ x ∈ P, sc.names.lookup x = some .local ∨ sc.names.lookup x = some .cell
 nofree : ∀ y ∈ sc.names, y.2 ≠ .free
theorem bindL_out {kindOf : Str → Option NameKind} {x : Str} : ∀ {binds : List (Str × Value)} {m : Str → Option Value}, (∀ v, (x, v) ∉ binds) → bindL kindOf binds m x = m x
 | [], _, _ => rfl
 | (n, v) :: r, m, h => by
   unfold bindL
   rw [bindL_out fun w hw => h w (List.mem_cons_of_mem _ hw)]
   split
   · have : x ≠ n := by rintro rfl; exact h v List.mem_cons_self
     simp [this]
   · rfl
theorem bindC_out {kindOf : Str → Option NameKind} {x : Str} : ∀ {binds : List (Str × Value)} {m : Str → Option Value}, (∀ v, (x, v) ∉ binds) → bindC kindOf binds m x = m x
 | [], _, _ => rfl
 | (n, v) :: r, m, h => by
   unfold bindC
   rw [bindC_out fun w hw => h w (List.mem_cons_of_mem _ hw)]
   split
   · rfl
   · have : x ≠ n := by rintro rfl; exact h v List.mem_cons_self
     simp [this]
theorem bindL_get {kindOf : Str → Option NameKind} {x : Str} {v : Value} : ∀ {P : List Str} {vs : List Value} {i : Nat} {m : Str → Option Value}, P.Nodup → P[i]? = some x → vs[i]? = some v → kindOf x = some .local →
   bindL kindOf (P.zip vs) m x = some v
 | [], _, _, _, _, h, _, _ => by simp at h
 | _ :: _, [], _, _, _, _, h, _ => by simp at h
 | p :: P, w :: vs, 0, m, nd, h1, h2, hk => by
   simp at h1 h2; subst h1; subst h2
   show bindL kindOf ((p, w) :: P.zip vs) m p = _
   unfold bindL
   rw [bindL_out fun v hv => (List.nodup_cons.mp nd).1 (List.of_mem_zip hv).1, if_pos hk]
   simp
 | p :: P, w :: vs, i + 1, m, nd, h1, h2, hk => by
   show bindL kindOf ((p, w) :: P.zip vs) m x = _
   unfold bindL
   exact bindL_get (i := i) (List.nodup_cons.mp nd).2 (by simpa using h1) (by simpa using h2) hk
theorem bindC_get {kindOf : Str → Option NameKind} {x : Str} {v : Value} : ∀ {P : List Str} {vs : List Value} {i : Nat} {m : Str → Option Value}, P.Nodup → P[i]? = some x → vs[i]? = some v → kindOf x ≠ some .local →
   bindC kindOf (P.zip vs) m x = some v
 | [], _, _, _, _, h, _, _ => by simp at h
 | _ :: _, [], _, _, _, _, h, _ => by simp at h
 | p :: P, w :: vs, 0, m, nd, h1, h2, hk => by
   simp at h1 h2; subst h1; subst h2
   show bindC kindOf ((p, w) :: P.zip vs) m p = _
   unfold bindC
   rw [bindC_out fun v hv => (List.nodup_cons.mp nd).1 (List.of_mem_zip hv).1, if_neg hk]
   simp
 | p :: P, w :: vs, i + 1, m, nd, h1, h2, hk => by
   show bindC kindOf ((p, w) :: P.zip vs) m x = _
   unfold bindC
   exact bindC_get (i := i) (List.nodup_cons.mp nd).2 (by simpa using h1) (by simpa using h2) hk
def start (N : List Str) (vs : List V) : St := vs.map some ++ List.replicate (N.length - vs.length) none
def cxOf (CX : CXT) (P : Program) (w : World) (K : PySem.W.Frag) (mg : Str → Option Value) (base : Heap) (N : List Str) (qual : Str) (scope : Scope) (f : Addr) (cd : Value) (A : Around) (outer : List Env) (s : Shared) (H : Hp) (E : XK) : Cx where
 prog := P
 w := w
 K := K
 mg := mg
 base := base
 A := A.deeper (envOfC qual scope s.heap.objs.size f cd)
 N := N
 s₀ := s
 H₀ := H
 env := envOfC qual scope s.heap.objs.size f cd
 outer := outer
 stack := envOfC qual scope s.heap.objs.size f cd :: outer
 ex := []
 calm := true
 fn := fun _ => true
 pn := []
 xe := fun e s' => wpAny (model P w) (A.deeper (envOfC qual scope s.heap.objs.size f cd)) (leaving (envOfC qual scope s.heap.objs.size f cd) e) (fun _ s'' => CX outer H s E e s'') (fun e' s'' => CX outer H s E e' s'') s'
theorem cell_has {sc : Scope} {n : Nat} {x : Str} (h : sc.names.lookup x = some .cell) : ∃ c, (cellsFrom n sc.names []).lookup x = some c := by
 have q := PySem.W.cellsFrom_some sc.names n [] (.inl h)
 exact Option.isSome_iff_exists.mp q
theorem inv_start {CX : CXT} {P : Program} {w : World} {K : PySem.W.Frag} {mg : Str → Option Value} {base : Heap} {N ps : List Str} {qual : Str} {scope : Scope} {f : Addr} {cd : Value} {A : Around} {outer : List Env} {s s1 : Shared} {H : Hp} {E : XK} {us : List Value} {vs : List V}
   (S : FnScope N ps scope) (hd : A.handled = none) (e0 : Env0 P w K mg base A outer s H) (hl : vs.length = ps.length) (r : Vals vs us)
   (x : InCallC s s.heap.objs.size (bindL (envOfC qual scope s.heap.objs.size f cd).kindOf (ps.zip us) fun _ => none) (cellsFrom (s.heap.objs.size + 1) scope.names []) (bindC (envOfC qual scope s.heap.objs.size f cd).kindOf (ps.zip us) fun _ => none) s1) :
   Inv (cxOf CX P w K mg base N qual scope f cd A outer s H E) [] (start N vs) H s1 := by
 have hpl : ps.length ≤ N.length := by have := congrArg List.length S.pre; rw [List.length_take] at this; omega
 obtain ⟨h1, tk, rfl, hk⟩ := x.done
 have noA : ∀ b : Addr, b ∉ (cxOf CX P w K mg base N qual scope f cd A outer s H E).ex := fun b z => absurd (show b ∈ ([] : List Addr) from z) (by simp)
 refine ⟨⟨e0.mod, S.kind, rfl, rfl, Nat.le_refl _, fun y z c h1 h2 => ?_, fun y hy => ?_, fun y c _ h => ?_, fun _ => hd, Around.frames_deeper e0.frames, .inr ⟨rfl, rfl⟩, fun b z => absurd z (noA b), e0.bs, e0.bsz, fun b _ _ => noA b, fun b z => absurd z (noA b), e0.funs, e0.frf⟩,
   rfl, e0.bare, Un.kept hk, ⟨_, x.toInCall.ns, fun i y v h1 h2 h3 => ?_⟩, fun y c h => ⟨_, x.cell y c h⟩, e0.hok.fresh (Nat.le_refl _), fun y c h => ?_, fun p hp => absurd (show p ∈ ([] : List (Addr × Obj)) from hp) (by simp), e0.hok.kept hk, ?_⟩
 · exact name_of_addr x.apart (PySem.mem_of_lookup h1) (PySem.mem_of_lookup h2)
 · have hy : scope.names.lookup y = some .cell ∨ scope.names.lookup y = some .free := hy
   rcases hy with hy | hy
   · exact cell_has hy
   · exact absurd rfl (S.nofree _ (PySem.mem_of_lookup hy))
 · exact Nat.le_of_lt (x.above y c (PySem.mem_of_lookup h))
 · have hi : i < vs.length := by
     unfold start at h2
     by_cases hi : i < vs.length
     · exact hi
     · rw [List.getElem?_append_right (by simpa using hi)] at h2
       rw [List.getElem?_replicate] at h2
       split at h2 <;> cases h2
   have ha : vs[i]? = some v := by
     unfold start at h2
     rw [List.getElem?_append_left (by simpa using hi), List.getElem?_map] at h2
     cases e : vs[i]? with
     | none => rw [e] at h2; cases h2
     | some a => rw [e] at h2; cases h2; rfl
   obtain ⟨u, hu, rv⟩ := r.get ha
   have hp : ps[i]? = some y := by
     rw [← S.pre, List.getElem?_take_of_lt (by omega)]; exact h1
   have ndP : ps.Nodup := by rw [← S.pre]; exact S.nd.sublist (List.take_sublist _ _)
   refine ⟨u, rv, ?_⟩
   rcases S.par y (List.mem_of_getElem? hp) with k | k
   · exact .inl ⟨k, bindL_get ndP hp hu k⟩
   · obtain ⟨c, e⟩ := cell_has (n := s.heap.objs.size + 1) k
     refine .inr ⟨.inl k, c, e, ?_⟩
     have q := x.cell y c e
     rw [bindC_get ndP hp hu (by show scope.names.lookup y ≠ _; rw [k]; decide)] at q
     exact q
 · exact e0.hok.fresh (Nat.le_of_lt (x.above y c (PySem.mem_of_lookup h)))
 · unfold start
   show _ = N.length
   rw [List.length_append, List.length_map, List.length_replicate]
   omega
theorem fn_of {CX : CXT} {P : Program} {w : World} {K : PySem.W.Frag} {mg : Str → Option Value} {base : Heap} {k : Nat} {f : Addr} {name qual : Str} {params : Arguments} {body : List Stmt} {scope : Scope} {dV kV doc pm cdv ct oc : Value} {an od : Option Addr}
   {osl : Array (Option Value)} {N ps : List Str} {sp : Sp} (lk : K.lookup f = some ⟨oc, od, .func (PySem.W.fnOf name qual params body scope dV kV doc pm an cdv ct), osl⟩) (hcd : PySem.W.codeIn K cdv qual = true) (S : FnScope N ps scope)
   (len : ∀ vs H Q E, sp vs H Q E → vs.length = ps.length)
   (hbody : ∀ (A : Around) (outer : List Env) (s : Shared) (H : Hp) (vs : List V) (Q : VK) (E : XK), Room k (A.deeper (envOfC qual scope s.heap.objs.size f cdv)) → sp vs H Q E →
     ∃ t, PSs (cxOf CX P w K mg base N qual scope f cdv A outer s H E) body t ∧ t { nx := fun _ H' => Q .non H', rt := Q } (start N vs) H) :
   FnOk P w K mg base CX (k + 1) f (PySem.W.fnOf name qual params body scope dV kV doc pm an cdv ct) ps sp := by
 refine ⟨len, fun A outer s H args us vs Q E hr e0 hb r hsp => ?_⟩
 have hl := len _ _ _ _ hsp
 have KX : K.In s.heap := e0.mod.kin.keeps fun b o e => (e0.bs b o e).1
 have lim : s.heap.NoLimit := e0.mod.nolimit.keeps fun b o e => (e0.bs b o e).1
 have hkind : ∀ y ∈ ps.zip us, scope.names.lookup y.1 = some .local ∨ (scope.names.lookup y.1 = some .cell ∧ ((cellsFrom (s.heap.objs.size + 1) scope.names []).lookup y.1).isSome = true) := fun ⟨n, v⟩ hy => by
   rcases S.par n (List.of_mem_zip hy).1 with q | q
   · exact .inl q
   · exact .inr ⟨q, PySem.W.cellsFrom_some _ _ _ (.inl q)⟩
 refine codeAny_call_function hr.depth (KX _ _ lk) rfl S.co S.gen rfl (PySem.W.codeRec_of KX hcd) (hb _ _ _ _ ?_)
 refine wpAny_newFunctionEnv_cells S.kind hkind fun env he s1 x => ?_
 subst he
 refine ⟨lim.keeps x.toInCall.keep, codeAny_func ?_⟩
 obtain ⟨t, ht, hq⟩ := hbody A outer s H vs Q E (hr.deeper _) hsp
 have I : Inv (cxOf CX P w K mg base N qual scope f cdv A outer s H E) [] (start N vs) H s1 := inv_start S hr.hd e0 hl r x
 refine wpAny_mono (ht [] s1 (start N vs) H _ I hq) (fun fl s' hs => ?_) fun e s' hs => hs
 have fin : ∀ {σ' : St} {H' : Hp} {v : V} {u : Value}, Inv (cxOf CX P w K mg base N qual scope f cdv A outer s H E) [] σ' H' s' → RelV v u → Q v H' → CE outer P w H s Q u s' :=
   fun {σ' H' v u} J rv q => ⟨v, H', J.os, J.bare, J.base, J.hok, rv, q⟩
 cases fl with
 | ret u =>
   obtain ⟨v, σ', H', J, rv, q⟩ := hs
   exact fin J rv q
 | next =>
   obtain ⟨σ', H', J, q⟩ := hs
   exact fin (v := V.non) (u := Value.none) J rfl q
 | brk =>
   obtain ⟨_, _, _, q⟩ := hs
   exact False.elim q
 | cont =>
   obtain ⟨_, _, _, q⟩ := hs
   exact False.elim q
end L2
namespace L2
open PySem PySem.Spec PyProof.Rows
section
variable {X : Cx} {x : Str} {p pos : Pos} {e : Expr} {es : List Expr} {t : TA} {id T : String} {r : List V → Hp → VK → Prop}
def tCB (r : List V → Hp → VK → Prop) (t : TA) : TE := fun σ H Q => t σ H fun vs H1 => r vs H1 Q
theorem zZ (hc : CallR X (.builtin id) r) (hg : Gl X x) (hm : X.mg x = none) (hv : bootBuiltins x = some (.builtin id)) (ha : PA X (e :: es) t) (hn : x ≠ "__name__" := by decide) (hdb : (x == ("__debug__" : Str)) = false := by decide)
   (he : starEach (e :: es) X.env = (false, eval e X.env) :: starEach es X.env := by rfl) (hpl : (backTo pos (starEach es X.env)).any (·.1) = false := by rfl) : PE X (.Call (.Name x p) (e :: es) [] pos) (tCB r t) := by
 intro pins s σ H Q I h
 refine wpAny_Call_Name_kw (ld_blt I hg hm hv ?_ hn hdb)
 exact PyProof.Rows.callWith_builtin1 (thn (ha pos pins s σ H _ I h) fun us s1 ⟨vs, H1, I1, r1, q1⟩ => hc pins s1 σ H1 vs us Q I1 r1 q1) he hpl
theorem yO (hc : CallR X (.type T) r) (hg : Gl X x) (hm : X.mg x = none) (hv : bootBuiltins x = some (.type T)) (ha : PA X (e :: es) t) (hn : x ≠ "__name__" := by decide) (hdb : (x == ("__debug__" : Str)) = false := by decide)
   (he : starEach (e :: es) X.env = (false, eval e X.env) :: starEach es X.env := by rfl) (hpl : (backTo pos (starEach es X.env)).any (·.1) = false := by rfl) : PE X (.Call (.Name x p) (e :: es) [] pos) (tCB r t) := by
 intro pins s σ H Q I h
 refine wpAny_Call_Name_kw (ld_blt I hg hm hv ?_ hn hdb)
 exact PyProof.Rows.callWith_type1 (thn (ha pos pins s σ H _ I h) fun us s1 ⟨vs, H1, I1, r1, q1⟩ => hc pins s1 σ H1 vs us Q I1 r1 q1) he hpl
end
end L2
namespace HT
open PySem PyProof.Rows
section
open PySem.SeqAt
open PySem.AutoSeq1 (wpAny_loadPart')
open PySem.MeetsSeq PySem.MeetsSeq2 PySem.MeetsSeq3
end
section
variable {prog : Program} {w : World} {A : Around} {E : Value → Shared → Prop} {s : Shared}
def sIx (n d : Nat) : Option Int → Nat
 | none => d
 | some v => if v < 0 then (v + (n : Int)).toNat else min v.toNat n
theorem sIx_le (n d : Nat) (hd : d ≤ n) (o : Option Int) : sIx n d o ≤ n := by
 cases o with
 | none => exact hd
 | some v =>
   show (if v < 0 then (v + (n : Int)).toNat else min v.toNat n) ≤ n
   by_cases hv : v < 0
   · rw [if_pos hv]; omega
   · rw [if_neg hv]; exact Nat.min_le_right _ _
end
end HT
namespace L2
open PySem PySem.Spec PyProof.Rows
abbrev TO := St → Hp → (Option Int → Hp → Prop) → Prop
def PO (X : Cx) (e : Option Expr) (t : TO) : Prop :=
 ∀ (pins : List (Addr × Obj)) (s : Shared) (σ : St) (H : Hp) (Q : Option Int → Hp → Prop), Inv X pins σ H s → t σ H Q →
   wpAny (model X.prog X.w) X.A (evalPart e X.env) (fun u s' => ∃ o H', Inv X pins σ H' s' ∧ IsPart u o ∧ Q o H') X.xe s
def tNoPart : TO := fun _ H Q => Q none H
def tPart (t : TE) : TO := fun σ H Q => t σ H fun x H1 => ∃ i, x = .int i ∧ Q (some i) H1
section
variable {X : Cx} {e : Expr} {te : TE} {lo hi : Option Expr} {tl th : TO} {pos p2 : Pos}
theorem po_none : PO X none tNoPart := by
 intro pins s σ H Q I h
 rw [evalPart_none]
 exact wpAny_pure ⟨none, H, I, .none, h⟩
theorem po_some (h : PE X e te) : PO X (some e) (tPart te) := by
 intro pins s σ H Q I hw
 rw [evalPart_some]
 refine thn (h pins s σ H _ I hw) fun u s1 ⟨x, H1, I1, r1, q1⟩ => ?_
 obtain ⟨i, rfl, q⟩ := q1
 obtain ⟨t, rfl⟩ := r1
 exact ⟨some i, H1, I1, .int i t, q⟩
def SlR (X : Cx) (r : V → Option Int → Option Int → Hp → VK → Prop) : Prop :=
 ∀ (pins : List (Addr × Obj)) (s : Shared) (σ : St) (H : Hp) (x : V) (v vl vu : Value) (lo hi : Option Int) (sl : Addr) (Q : VK), Inv X pins σ H s → RelV x v → s.heap.IsSliceOf sl vl vu .none → IsPart vl lo → IsPart vu hi → r x lo hi H Q →
   ∃ T id, typeLookup (.type T) "__getitem__" = pure (some (.builtin id)) ∧ s.TypeIs v T ∧ wpAny (model X.prog X.w) X.A (getItem v (.ref sl)) (EP X pins σ Q) X.xe s
def tSl (r : V → Option Int → Option Int → Hp → VK → Prop) (te : TE) (tl th : TO) : TE := fun σ H Q => te σ H fun x H1 => tl σ H1 fun l H2 => th σ H2 fun u H3 => r x l u H3 Q
theorem pe_slice {r : V → Option Int → Option Int → Hp → VK → Prop} (hr : SlR X r) (he : PE X e te) (hl : PO X lo tl) (hu : PO X hi th) : PE X (.Subscript e (.Slice lo hi none p2) pos) (tSl r te tl th) := by
 intro pins s σ H Q I h
 refine Subscript_ (thn (he pins s σ H _ I h) fun v s1 ⟨x, H1, I1, r1, q1⟩ => ?_)
 refine wpAny_Slice (thn (hl pins s1 σ H1 _ I1 q1) fun vl s2 ⟨l, H2, I2, pl, q2⟩ => thn (hu pins s2 σ H2 _ I2 q2) fun vu s3 ⟨u, H3, I3, pu, q3⟩ => ?_)
 rw [evalPart_none]
 refine wpAny_pure ?_
 have I4 : Inv X pins σ H3 { s3 with heap := s3.heap.push { cls := .type "slice", data := .fields #[vl, vu, .none] } } := I3.kept (t' := s3.toks) fun b ob q => Heap.get?_push_of_some _ q
 obtain ⟨T, id, hT, ht, hg⟩ := hr pins { s3 with heap := s3.heap.push { cls := .type "slice", data := .fields #[vl, vu, .none] } } σ H3 x v vl vu l u s3.heap.objs.size Q I4 r1 (Heap.IsSliceOf.new ..) pl pu q3
 show wpAny (model X.prog X.w) X.A (subscriptTail e (.Slice lo hi none p2) v (.ref s3.heap.objs.size)) (EP X pins σ Q) X.xe { s3 with heap := s3.heap.push { cls := .type "slice", data := .fields #[vl, vu, .none] } }
 exact tail_any (ops := [.ref s3.heap.objs.size, v]) ht hT hg (by with_unfolding_all rfl)
end
end L2
namespace L2
open PySem PySem.Spec PyProof.Rows
def ixN (n : Nat) (i : Int) : Option Nat := if 0 ≤ i then (if i < n then some i.toNat else none) else if -(n : Int) ≤ i then some (i + n).toNat else none
def atI {α : Type} (xs : List α) (i : Int) : Option α := (ixN xs.length i).bind fun j => xs[j]?
theorem ixN_seq {n : Nat} {i : Int} {j : Nat} (h : ixN n i = some j) : seqIndex? i n = some j ∧ j < n ∧ -(n : Int) ≤ i ∧ i < n := by
 unfold ixN at h
 by_cases h0 : 0 ≤ i
 · rw [if_pos h0] at h
   by_cases h1 : i < n
   · rw [if_pos h1] at h
     have e : i.toNat = j := Option.some.inj h
     exact ⟨by rw [seqIndex_of h0 h1, e], by omega, by omega, h1⟩
   · rw [if_neg h1] at h; cases h
 · rw [if_neg h0] at h
   by_cases h1 : -(n : Int) ≤ i
   · rw [if_pos h1] at h
     have e : (i + n).toNat = j := Option.some.inj h
     exact ⟨by rw [seqIndex_neg (by omega) h1, e], by omega, h1, by omega⟩
   · rw [if_neg h1] at h; cases h
theorem atI_get {α : Type} {xs : List α} {i : Int} {v : α} (h : atI xs i = some v) : ∃ j, seqIndex? i xs.length = some j ∧ xs[j]? = some v ∧ j < xs.length ∧ -(xs.length : Int) ≤ i ∧ i < xs.length := by
 unfold atI at h
 cases e : ixN xs.length i with
 | none => rw [e] at h; cases h
 | some j =>
   rw [e] at h
   obtain ⟨h1, h2, h3, h4⟩ := ixN_seq e
   exact ⟨j, h1, h, h2, h3, h4⟩
theorem atI_nat {α : Type} {xs : List α} {j : Nat} {v : α} (h : xs[j]? = some v) : atI xs (j : Int) = some v := by
 have hj : j < xs.length := (List.getElem?_eq_some_iff.mp h).1
 have e : ixN xs.length (j : Int) = some j := by
   unfold ixN
   rw [if_pos (by omega), if_pos (by omega)]; simp
 unfold atI; rw [e]; exact h
def PlainIx (b : Expr) : Prop := ∀ o i, subscripted b false o i = operate [o, i] (getItem o i)
def IxR (X : Cx) (r : R2) : Prop :=
 ∀ (value slice : Expr) (pins : List (Addr × Obj)) (s : Shared) (σ : St) (H : Hp) (x y : V) (v u : Value) (Q : VK), Inv X pins σ H s → RelV x v → RelV y u → r x y H Q →
   subscripted slice false v u = operate [v, u] (getItem v u) → wpAny (model X.prog X.w) X.A (subscriptTail value slice v u) (EP X pins σ Q) X.xe s
def MtR (X : Cx) (id : String) (r : V → List V → Hp → VK → Prop) : Prop :=
 ∀ (pins : List (Addr × Obj)) (s : Shared) (σ : St) (H : Hp) (x : V) (xs : List V) (v : Value) (us : List Value) (Q : VK), Inv X pins σ H s → RelV x v → Vals xs us → r x xs H Q →
   wpAny (model X.prog X.w) X.A (call (.builtin id) (v :: us)) (EP X pins σ Q) X.xe s
section
variable {X : Cx} {a b : Expr} {ta tb : TE} {pos : Pos}
theorem pe_ix {r : R2} (hr : IxR X r) (ha : PE X a ta) (hb : PE X b tb) (hs : PlainIx b) : PE X (.Subscript a b pos) (tOp r ta tb) := by
 intro pins s σ H Q I h
 exact Subscript_ (binT ha hb I h fun v u s2 x y H2 I2 rx ry q => hr a b pins s2 σ H2 x y v u Q I2 rx ry q (hs _ _))
def rIxL (K : PySem.W.Frag) : R2 := fun x y H Q => ∃ p xs i v, x = .ref p ∧ y = .int i ∧ SqL K H p xs ∧ atI xs i = some v ∧ Q v H
def rIxT (K : PySem.W.Frag) : R2 := fun x y H Q => ∃ p xs i v, x = .ref p ∧ y = .int i ∧ SqT K H p xs ∧ atI xs i = some v ∧ Q v H
def rIxS : R2 := fun x y H Q => ∃ z i c, x = .str z ∧ y = .int i ∧ z.length ≤ sizeLine ∧ atI z.cps.toList i = some c ∧ Q (.str ⟨#[c]⟩) H
theorem ix_list : IxR X (rIxL X.K) := by
 intro value slice pins s σ H x y v u Q I rx ry h hs
 obtain ⟨p, xs, i, z, rfl, rfl, hq, he, q⟩ := h
 cases rx
 obtain ⟨t, rfl⟩ := ry
 obtain ⟨its, r, pl, hz⟩ := I.list hq
 obtain ⟨j, h1, h2, h3, h4, h5⟩ := atI_get he
 obtain ⟨w, ew, rw'⟩ := r.get h2
 have hl := r.length
 have hn := line63
 have fin : EP X pins σ Q w s := ⟨z, H, I, rw', q⟩
 by_cases h0 : 0 ≤ i
 · have hj : i.toNat = j := by
     rw [seqIndex_of h0 h5] at h1
     exact Option.some.inj h1
   exact item_listR pl.isList h0 (by omega) (by rw [hj]; simpa using ew) fin hs
 · have hj : (i + (its.toArray.size : Int)).toNat = j := by
     rw [seqIndex_neg (by omega) h4] at h1
     rw [List.size_toArray, ← hl]
     exact Option.some.inj h1
   exact subscriptTail_builtinR (x := w) pl.isList.typeIs slot_list_getitem.lookup
     (wpAny_getItem_list_neg (Q := fun r s' => r = w ∧ EP X pins σ Q r s') pl.isList (by omega) (by rw [List.size_toArray] <;> omega) (by omega) (by rw [hj]; simpa using ew) ⟨rfl, fin⟩) hs
theorem ix_tup : IxR X (rIxT X.K) := by
 intro value slice pins s σ H x y v u Q I rx ry h hs
 obtain ⟨p, xs, i, z, rfl, rfl, hq, he, q⟩ := h
 cases rx
 obtain ⟨t, rfl⟩ := ry
 obtain ⟨its, r, pl, hz⟩ := I.tuple hq
 obtain ⟨j, h1, h2, h3, h4, h5⟩ := atI_get he
 obtain ⟨w, ew, rw'⟩ := r.get h2
 have hl := r.length
 have hn := line63
 have fin : EP X pins σ Q w s := ⟨z, H, I, rw', q⟩
 exact subscriptTail_builtinR (x := w) pl.typeIs slot_tuple_getitem.lookup
   (getItem_tuple (j := j) (Q := fun r s' => r = w ∧ EP X pins σ Q r s') pl (by omega) (by omega) (by rw [List.size_toArray, ← hl]; exact h1) (by simpa using ew) ⟨rfl, fin⟩) hs
theorem ix_str : IxR X rIxS := by
 intro value slice pins s σ H x y v u Q I rx ry h hs
 obtain ⟨z, i, c, rfl, rfl, hz, he, q⟩ := h
 obtain ⟨t, rfl⟩ := rx
 obtain ⟨t', rfl⟩ := ry
 obtain ⟨j, h1, h2, h3, h4, h5⟩ := atI_get he
 have hl : z.cps.toList.length = z.length := by simp [Str.length]
 rw [hl] at h1 h4 h5
 have hn := line63
 exact tail_any (typeIs_str s z t) slot_str_getitem.lookup (getItem_str (c := c) (by
   have e1 : decide (i < -(2 ^ 63 : Int)) = false := decide_eq_false (by omega)
   have e2 : decide (i ≥ 2 ^ 63) = false := decide_eq_false (by omega)
   rw [e1, e2, Bool.or_false]) (by rw [h1]; simpa using h2) ⟨.str ⟨#[c]⟩, H, I.tok _, ⟨_, rfl⟩, q⟩) hs
theorem Inv.lst {pins : List (Addr × Obj)} {σ : St} {H : Hp} {s : Shared} {p : Addr} {xs : List V} (I : Inv X pins σ H s) (h : H p = some (.lst xs)) :
   ∃ (its : List Value) (n : Nat), Vals xs its ∧ s.heap.get? p = some { cls := .type "list", data := .seq its.toArray n } ∧ xs.length ≤ sizeLine := by
 obtain ⟨z, its, n, r, e⟩ := I.hok p _ h
 exact ⟨its, n, r, e, z⟩
def flatV : V → Bool
 | .non => true
 | .bl _ => true
 | .int _ => true
 | .str _ => true
 | _ => false
def eqV : V → V → Bool
 | .non, .non => true
 | .bl a, .bl b => a == b
 | .bl a, .int b => (if a then 1 else 0) == b
 | .int a, .bl b => a == (if b then 1 else 0)
 | .int a, .int b => a == b
 | .str a, .str b => a == b
 | _, _ => false
theorem eqAt_V {A : Around} {s : Shared} {y x : V} {u v : Value} (ry : RelV y u) (rx : RelV x v) (fy : flatV y = true) (fx : flatV x = true) : SeqAt.EqAt A s u v (eqV y x) := by
 cases y with
 | non =>
   cases ry
   cases x with
   | non => cases rx; exact SeqAt.EqAt.same _
   | bl b => cases rx; exact SeqAt.EqAt.none_bool b
   | int b => obtain ⟨t, rfl⟩ := rx; exact SeqAt.EqAt.none_int b t
   | str b => obtain ⟨t, rfl⟩ := rx; exact SeqAt.EqAt.none_str b t
   | _ => exact absurd (show false = true from fx) Bool.false_ne_true
 | bl a =>
   cases ry
   cases x with
   | non => cases rx; exact SeqAt.EqAt.bool_none a
   | bl b => cases rx; exact SeqAt.EqAt.bool_bool a b
   | int b => obtain ⟨t, rfl⟩ := rx; exact SeqAt.EqAt.bool_int a b t
   | str b => obtain ⟨t, rfl⟩ := rx; exact SeqAt.EqAt.bool_str a b t
   | _ => exact absurd (show false = true from fx) Bool.false_ne_true
 | int a =>
   obtain ⟨t', rfl⟩ := ry
   cases x with
   | non => cases rx; exact SeqAt.EqAt.int_none a t'
   | bl b => cases rx; exact SeqAt.EqAt.int_bool a t' b
   | int b => obtain ⟨t, rfl⟩ := rx; exact SeqAt.EqAt.int_int a t' b t
   | str b => obtain ⟨t, rfl⟩ := rx; exact SeqAt.EqAt.int_str a t' b t
   | _ => exact absurd (show false = true from fx) Bool.false_ne_true
 | str a =>
   obtain ⟨t', rfl⟩ := ry
   cases x with
   | non => cases rx; exact SeqAt.EqAt.str_none a t'
   | bl b => cases rx; exact SeqAt.EqAt.str_bool a t' b
   | int b => obtain ⟨t, rfl⟩ := rx; exact SeqAt.EqAt.str_int a t' b t
   | str b => obtain ⟨t, rfl⟩ := rx; exact SeqAt.EqAt.str_str a t' b t
   | _ => exact absurd (show false = true from fx) Bool.false_ne_true
 | _ => exact absurd (show false = true from fy) Bool.false_ne_true
def eqU (x : V) (u : Value) : Bool := match u with
 | .none => eqV .non x
 | .bool b => eqV (.bl b) x
 | .int i _ => eqV (.int i) x
 | .str z _ => eqV (.str z) x
 | _ => false
theorem eqU_of {x y : V} {u : Value} (r : RelV y u) (f : flatV y = true) : eqU x u = eqV y x := by
 cases y with
 | non => cases r; rfl
 | bl b => cases r; rfl
 | int i => obtain ⟨t, rfl⟩ := r; rfl
 | str z => obtain ⟨t, rfl⟩ := r; rfl
 | _ => exact absurd (show false = true from f) Bool.false_ne_true
theorem any_eqU {x : V} : ∀ {xs : List V} {us : List Value}, Vals xs us → xs.all flatV = true → us.any (eqU x) = xs.any fun y => eqV y x
 | _, _, .nil, _ => rfl
 | y :: xs, u :: us, .cons r t, f => by
   rw [List.all_cons, Bool.and_eq_true] at f
   rw [List.any_cons, List.any_cons, eqU_of r f.1, any_eqU t f.2]
theorem mem_eqAt {A : Around} {s : Shared} {x : V} {v : Value} (rx : RelV x v) (fx : flatV x = true) : ∀ {xs : List V} {us : List Value}, Vals xs us → xs.all flatV = true → ∀ u ∈ us, SeqAt.EqAt A s u v (eqU x u)
 | _, _, .nil, _ => fun u hu => by cases hu
 | y :: xs, u :: us, .cons r t, f => fun u' hu => by
   rw [List.all_cons, Bool.and_eq_true] at f
   rcases List.mem_cons.mp hu with rfl | hu
   · rw [eqU_of r f.1]; exact eqAt_V r rx f.1 fx
   · exact mem_eqAt rx fx t f.2 u' hu
def inV (x : V) (xs : List V) : Bool := xs.any fun y => eqV y x
def rIn (K : PySem.W.Frag) (neg : Bool) : R2 := fun x y H Q => ∃ p xs, y = .ref p ∧ (SqL K H p xs ∨ SqT K H p xs) ∧ flatV x = true ∧ xs.all flatV = true ∧ Q (.bl (if neg then !inV x xs else inV x xs)) H
theorem op_notIn_seq : OpR X (compareOp .NotIn) (rIn X.K true) := by
 intro pins s σ H x y v u Q I rx ry h
 obtain ⟨p, xs, rfl, hq, fx, fs, q⟩ := h
 cases ry
 rcases hq with hq | hq
 · obtain ⟨its, r, pl, hz⟩ := I.list hq
   refine SeqAt.notIn_listAt (eqU x) pl.isList (fun w hw => mem_eqAt rx fx r fs w (by simpa using hw)) ⟨.bl _, H, I, rfl, ?_⟩
   rw [show its.toArray.any (eqU x) = its.any (eqU x) by simp, any_eqU r fs]
   exact q
 · obtain ⟨its, r, pl, hz⟩ := I.tuple hq
   refine SeqAt.notIn_tupleAt (eqU x) pl (fun w hw => mem_eqAt rx fx r fs w (by simpa using hw)) ⟨.bl _, H, I, rfl, ?_⟩
   rw [show its.toArray.any (eqU x) = its.any (eqU x) by simp, any_eqU r fs]
   exact q
theorem yL : CallR X (.builtin "len") (fun xs H Q => ∃ p ys, xs = [.ref p] ∧ (SqL X.K H p ys ∨ SqT X.K H p ys) ∧ Q (.int ys.length) H) := by
 intro pins s σ H xs us Q I r h
 obtain ⟨p, ys, rfl, hq, q⟩ := h
 obtain ⟨u, rfl, rx⟩ := vals1 r
 cases rx
 have hn := line63
 rcases hq with hq | hq
 · obtain ⟨its, r', pl, hz⟩ := I.list hq
   have hlen := r'.length
   exact Calls.call_len_list pl.isList (by simp only [List.size_toArray] <;> omega) ⟨.int ys.length, H, I.tok _, ⟨s.toks + 1, by rw [List.size_toArray, hlen]⟩, q⟩
 · obtain ⟨its, r', pl, hz⟩ := I.tuple hq
   have hlen := r'.length
   exact len_tuple pl (by simp only [List.size_toArray] <;> omega) ⟨.int ys.length, H, I.tok _, ⟨s.toks + 1, by rw [List.size_toArray, hlen]⟩, q⟩
theorem yW : CallR X (.type "list") (fun xs H Q => ∃ p ys, xs = [.ref p] ∧ (SqL X.K H p ys ∨ SqT X.K H p ys) ∧ ∀ l, H l = none → Q (.ref l) (upd H l (.lst ys))) := by
 intro pins s σ H xs us Q I r h
 obtain ⟨p, ys, rfl, hq, q⟩ := h
 obtain ⟨u, rfl, rx⟩ := vals1 r
 cases rx
 have fin : ∀ (its : List Value), Vals ys its → ys.length ≤ sizeLine → ∀ (h' : Heap) (c' : Nat), (∀ b o', s.heap.get? b = some o' → h'.get? b = some o') →
     h'.get? s.heap.objs.size = some { cls := .type "list", dict := none, data := .seq its.toArray c', slots := #[] } → EP X pins σ Q (.ref s.heap.objs.size) { s with heap := h' } := fun its r' hz h' c' kp e =>
   ⟨.ref s.heap.objs.size, _, I.laid (t' := s.toks) kp (Nat.le_refl _) (show ObjOk X.prog X.w _ h' _ (.lst ys) from ⟨hz, its, c', r', e⟩), rfl, q _ (I.hok.fresh (Nat.le_refl _))⟩
 rcases hq with hq | hq
 · obtain ⟨its, r', pl, hz⟩ := I.list hq
   have hlen := r'.length
   obtain ⟨o, ho, hc, n, hd⟩ := pl.isList
   exact call_list_seq p (.inl rfl) ho hc hd (fun h' c' kp e => fin its r' hz h' c' kp e) (by simp only [List.size_toArray] <;> omega)
 · obtain ⟨its, r', pl, hz⟩ := I.tuple hq
   have hlen := r'.length
   obtain ⟨o, ho, hc, n, hd⟩ := pl
   exact call_list_seq p (.inr rfl) ho hc hd (fun h' c' kp e => fin its r' hz h' c' kp e) (by simp only [List.size_toArray] <;> omega)
def tyV (K : PySem.W.Frag) (T : String) (x : V) (H : Hp) : Prop := match x with
 | .str _ => T = "str"
 | .int _ => T = "int"
 | .ref p => (T = "list" ∧ ∃ xs, SqL K H p xs) ∨ (T = "tuple" ∧ ∃ o, K.lookup p = some o ∧ o.cls = .type "tuple" ∧ o.dict = none) ∨
     (T = "dict" ∧ ((∃ kvs, H p = some (.dK kvs)) ∨ ∃ kvs, H p = some (.dT kvs))) ∨ (T = "set" ∧ ∃ S n, H p = some (.set S n))
 | _ => False
theorem tyV_is {pins : List (Addr × Obj)} {σ : St} {H : Hp} {s : Shared} {T : String} {x : V} {v : Value} (I : Inv X pins σ H s) (r : RelV x v) (ty : tyV X.K T x H) :
   s.TypeIs v T ∧ ∀ a, v = .ref a → ∃ ob, s.heap.get? a = some ob ∧ ob.dict = none := by
 cases x with
 | str z =>
   obtain ⟨t, rfl⟩ := r
   cases (show T = "str" from ty)
   exact ⟨typeIs_str s z t, fun _ e => nomatch e⟩
 | int i =>
   obtain ⟨t, rfl⟩ := r
   cases (show T = "int" from ty)
   exact ⟨typeIs_int s i t, fun _ e => nomatch e⟩
 | ref p =>
   cases r
   rcases ty with ⟨rfl, xs, hq⟩ | ⟨rfl, o, hk, hc, hd⟩ | ⟨rfl, hk⟩ | ⟨rfl, S, n, hk⟩
   · obtain ⟨its, _, pl, _⟩ := I.list hq
     refine ⟨pl.isList.typeIs, fun a e => ?_⟩
     cases e
     obtain ⟨o, n, e, c, hd, _⟩ := pl
     exact ⟨o, e, hd⟩
   · refine ⟨⟨o, I.kIn p o hk, hc⟩, fun a e => ?_⟩
     cases e
     exact ⟨o, I.kIn _ o hk, hd⟩
   · have z : ∃ o, s.heap.get? p = some o ∧ o.ExactDict := by
       rcases hk with ⟨kvs, hk⟩ | ⟨kvs, hk⟩
       · obtain ⟨_, _, _, _, o, _, _, e, ex, _⟩ := I.hok p _ hk
         exact ⟨o, e, ex⟩
       · obtain ⟨_, _, _, _, o, _, _, e, ex, _⟩ := I.hok p _ hk
         exact ⟨o, e, ex⟩
     obtain ⟨o, e, ex⟩ := z
     refine ⟨⟨o, e, ex.1⟩, fun a e2 => ?_⟩
     cases e2
     exact ⟨o, e, ex.2.1⟩
   · obtain ⟨o, _, _, _, e, ex, _⟩ := I.hok p _ hk
     refine ⟨⟨o, e, ex.1⟩, fun a e2 => ?_⟩
     cases e2
     exact ⟨o, e, ex.2.1⟩
 | _ => exact False.elim ty
def tBM (K : PySem.W.Frag) (T : String) (r : V → List V → Hp → VK → Prop) (to : TE) (t : TA) : TE := fun σ H Q => to σ H fun x H1 => tyV K T x H1 ∧ t σ H1 fun xs H2 => r x xs H2 Q
variable {o e : Expr} {es : List Expr} {to : TE} {t : TA} {name : Str} {apos cpos : Pos} {T id : String} {r : V → List V → Hp → VK → Prop}
theorem pe_bm (pa : PlainAttrs T) (slot : Slot T name id) (hty : typeOf (.builtin id) = pure (.type "method_descriptor")) (hm : MtR X id r) (ho : PE X o to) (ha : PA X (e :: es) t)
   (hbase : attributeBase o name X.env (eval o X.env) = eval o X.env := by rfl)
   (hfew : ((backTo cpos (starEach (e :: es) X.env)).all (fun x => !x.1) && (backToKw cpos (keywordEach [] X.env)).all (fun x => x.1.isSome)
     && decide ((e :: es).length + ([] : List Keyword).length + (if ([] : List Keyword).isEmpty then 0 else 1) < 30)) = true := by rfl)
   (hline : (apos.endLine == cpos.line) = true := by rfl) (hs : starEach (e :: es) X.env = (false, eval e X.env) :: starEach es X.env := by rfl) (hplain : (backTo cpos (starEach es X.env)).any (·.1) = false := by rfl) :
   PE X (.Call (.Attribute o name apos) (e :: es) [] cpos) (tBM X.K T r to t) := by
 intro pins s σ H Q I h
 refine wpAny_Call_method_late hbase hfew hline rfl (thn (ho pins s σ H _ I h) fun v s1 ⟨x, H1, I1, r1, ty, q1⟩ => ?_)
 obtain ⟨h1, h2⟩ := tyV_is I1 r1 ty
 refine ⟨T, id, pa, slot, hty, h1, h2, ?_⟩
 have hA := ha cpos pins s1 σ H1 _ I1 q1
 rw [hs] at hA ⊢
 refine Calls.callWith_builtin (by show (false || (backTo cpos (starEach es X.env)).any (·.1)) = false; rw [hplain] <;> rfl) (Calls.evalArgs_plain ?_)
 exact thn hA fun us s2 ⟨vs, H2, I2, r2, q2⟩ => hm pins s2 σ H2 x vs v us Q I2 r1 r2 q2
end
end L2
namespace L2
open PySem PySem.Spec PyProof.Rows
def MtM (X : Cx) (id : String) (r : V → List V → Hp → VK → Prop) : Prop :=
 ∀ (pins : List (Addr × Obj)) (s : Shared) (σ : St) (H : Hp) (x : V) (xs : List V) (v : Value) (us : List Value) (Q : VK), Inv X pins σ H s → RelV x v → Vals xs us → r x xs H Q →
   wpAny (model X.prog X.w) X.A (call (.builtin id) (v :: us)) (EP X pins σ Q) X.xe s
theorem Vals.one : ∀ {x : V} {us : List Value}, Vals [x] us → ∃ u, us = [u] ∧ RelV x u
 | _, _, .cons r .nil => ⟨_, rfl, r⟩
theorem Vals.zero : ∀ {us : List Value}, Vals [] us → us = []
 | _, .nil => rfl
section
variable {X : Cx} {pins : List (Addr × Obj)} {σ : St} {H : Hp} {s : Shared} {l b : Addr} {xs ys zs : List V}
theorem Inv.lset {its its' : List Value} {n : Nat} {f : Array Value → Array Value} {t' : Nat} (I : Inv X pins σ H s) (hH : H l = some (.lst xs))
   (e : s.heap.get? l = some { cls := .type "list", data := .seq its.toArray n }) (hf : f its.toArray = its'.toArray) (hv : Vals ys its') (hz : ys.length ≤ sizeLine) :
   Inv X pins σ (upd H l (.lst ys)) { s with heap := s.heap.update l (Obj.mapSeq f), toks := t' } := by
 have q := PySem.IsL.update e f
 rw [hf] at q
 refine I.write (x := l) (e := l) (by rw [hH]; exact trivial) (.inl rfl) (fun b' u hb hu => (Heap.get?_update_other s.heap (Obj.mapSeq f) (Ne.symm hb)).trans hu) ⟨_, q⟩ ?_
 exact ⟨hz, its', _, hv, q⟩
theorem Inv.lnew {its : List Value} {t' : Nat} (I : Inv X pins σ H s) (hv : Vals ys its) (hz : ys.length ≤ sizeLine) :
   Inv X pins σ (upd H s.heap.objs.size (.lst ys)) { s with heap := s.heap.push { cls := .type "list", data := .seq its.toArray }, toks := t' } :=
 I.laid (fun _ _ q => Heap.get?_push_of_some _ q) (Nat.le_refl _) ⟨hz, its, 0, hv, Heap.get?_push_size _ rfl⟩
theorem Inv.fresh (I : Inv X pins σ H s) : H s.heap.objs.size = none := I.hok.fresh (Nat.le_refl _)
theorem Inv.lstM (I : Inv X pins σ H s) (hH : H l = some (.lst xs)) : xs.length ≤ sizeLine ∧ ∃ (its : List Value) (n : Nat), Vals xs its ∧ xs.length = its.length ∧ s.heap.get? l = some { cls := .type "list", data := .seq its.toArray n } := by
 obtain ⟨z, its, n, r, e⟩ := I.hok l _ hH
 exact ⟨z, its, n, r, r.length, e⟩
end
section
variable {X : Cx}
def rAppend : V → List V → Hp → VK → Prop := fun x vs H Q => ∃ l xs y, x = .ref l ∧ vs = [y] ∧ H l = some (.lst xs) ∧ xs.length < sizeLine ∧ Q .non (upd H l (.lst (xs ++ [y])))
theorem mt_append : MtM X "list.append" rAppend := by
 intro pins s σ H x vs v us Q I rx rv h
 obtain ⟨l, xs, y, rfl, rfl, hH, hz, q⟩ := h
 cases rx
 obtain ⟨u, rfl, ru⟩ := rv.one
 obtain ⟨z, its, n, r, hl, e⟩ := I.lstM hH
 refine call_meets F.slot_list_append ⟨_, e, rfl⟩ F.entry_list_append (F.args_list_append_2 _ _) (PySem.list_append l its.toArray n u (by rw [List.size_toArray]; omega)) ⟨e, ?_⟩
 refine ⟨.non, _, I.lset (its' := its ++ [u]) hH e (by simp) (r.append (.cons ru .nil)) ?_, rfl, q⟩
 rw [List.length_append, List.length_singleton]
 omega
def rCat : R2 := fun x y H Q => ∃ l b xs zs, x = .ref l ∧ y = .ref b ∧ H l = some (.lst xs) ∧ H b = some (.lst zs) ∧ xs.length + zs.length ≤ sizeLine ∧ ∀ p, H p = none → Q (.ref p) (upd H p (.lst (xs ++ zs)))
theorem op_cat : OpR X (binaryOp .Add) rCat := by
 intro pins s σ H x y v u Q I rx ry h
 obtain ⟨l, b, xs, zs, rfl, rfl, hH, hB, hz, q⟩ := h
 cases rx
 cases ry
 obtain ⟨z, its, n, r, hl, e⟩ := I.lstM hH
 obtain ⟨z2, its2, n2, r2, hl2, e2⟩ := I.lstM hB
 refine PySem.P.add_list e e2 ?_ (by rw [List.size_toArray, List.size_toArray]; omega)
 have ea : its.toArray ++ its2.toArray = (its ++ its2).toArray := by simp
 rw [ea]
 exact ⟨.ref _, _, I.lnew (t' := s.toks) (r.append r2) (by rw [List.length_append]; omega), rfl, q _ I.fresh⟩
end
section
variable {prog : Program} {w : World} {A : Around} {E : Value → Shared → Prop} {s : Shared}
end
section
variable {X : Cx}
end
end L2
namespace Att
open PySem PySem.W PySem.Calls PyProof.Rows
theorem ints_of_wellAll {P : Params} {h : Heap} : ∀ (ns : List Int) (vs : List Value), WellAll P h vs (ns.map WData.int) → IntsAre vs ns := by
 intro ns
 induction ns with
 | nil =>
   intro vs w
   rw [List.map_nil] at w
   cases w
   exact .nil
 | cons n ns ih =>
   intro vs w
   rw [List.map_cons] at w
   cases w with
   | cons a b =>
     cases a
     exact .cons _ _ (ih _ b)
theorem script_of {l : OpenLaw} {n : Nat} (hn : l.most = some n) {P : Params} {h : Heap} {args : List WData} {vals : List Value}
   (hpre : l.row.toRowW.claim.pre args = true) (hwl : WellAll P h vals args) :
   ∃ a vs ns, vals = [Value.ref a] ∧ args = [WData.list (ns.map WData.int)] ∧ h.get? a = some { cls := .type "list", data := .seq vs.toArray } ∧ IntsAre vs ns ∧ ns.length ≤ n := by
 have hsh : WShape.hasAll [] args [.list .int] = true := (pre_splitW hpre).1
 have hc : l.pre.holds [] { args := args } = true := (pre_splitW hpre).2
 obtain ⟨d, r, rfl, h1, h2⟩ := hasAllW_cons hsh
 obtain rfl := hasAllW_nil h2
 obtain ⟨xs, rfl, h3⟩ := hasW_list h1
 obtain ⟨ns, rfl⟩ := items_int h3
 have hlen : ns.length ≤ n := by
   unfold OpenLaw.pre at hc
   have h4 : (WTm.not (.lt (.lit (.int (n : Int))) (.len (.arg 0)))).holds [] { args := [.list (ns.map .int)] } = true := by
     have h4 := (holds_andW hc).1
     rw [hn] at h4
     exact h4
   have h5 := condW_of h4 (w_not (w_lt w_lit (w_len_list (w_arg rfl))))
   rw [List.length_map] at h5
   refine Nat.le_of_not_lt fun q => ?_
   have q' : (n : Int) < ((ns.length : Nat) : Int) := by omega
   first
     | (rw [decide_eq_true q'] at h5; exact absurd h5 (by decide))
     | (simp at h5; omega)
 cases hwl with
 | cons w1 w2 =>
   cases w2
   cases w1 with
   | list ho hall => exact ⟨_, _, ns, rfl, rfl, ho, ints_of_wellAll ns _ hall, hlen⟩
theorem post_true (l : OpenLaw) (args : List WData) : l.row.toRowW.claim.post args (.bool true) args = true :=
 postW_of (r := l.row.toRowW) (X := (true == true))
   (show WShape.has [] (.bool true) .bool = true by first | rfl | decide | simp [WShape.has, WShape.arms, WShape.armsAll])
   (show (WTm.eq .res (.lit (.bool true))).value [] { args := args, res := some (.bool true), after := args } = some (.bool (true == true)) from w_eq_bool (w_res rfl) w_lit) rfl
section
variable {prog : Program} {w : World} {A : Around} {E : Value → Shared → Prop} {s : Shared} {K : Frag}
end
end Att
namespace L2
open PySem PySem.Spec PyProof.Rows
theorem vals_ints : ∀ {vs : List Value} {ns : List Int}, IntsAre vs ns → Vals (ns.map V.int) vs
 | _, _, .nil => .nil
 | _, _, .cons n t h => .cons ⟨t, rfl⟩ (vals_ints h)
def Only (H : Hp) : Prop := ∀ b, H b = none ∨ ∃ o xs, H b = some (.frz o (.lst xs))
theorem law_call {P : Program} {w : World} {K : PySem.W.Frag} {mg mb : Str → Option Value} {CX : CXT} {k : Nat} {fa a : Addr} {fd : FuncData} {x : Str} {sp : Sp} {s₁ : Shared} {vs : List Value} {ns : List Int}
   (KX : K.In s₁.heap) (hns : s₁.heap.Ns mainGlobals mg) (hb : s₁.heap.Ns builtinsNs mb) (hbb : ∀ x : Str, x ≠ "__name__" → mb x = bootBuiltins x) (hlim : s₁.heap.NoLimit) (hg : s₁.gens = #[])
   (ha : s₁.heap.get? a = some { cls := .type "list", data := .seq vs.toArray }) (hi : IntsAre vs ns) (hl : ns.length ≤ sizeLine) (hr : Room k callerA)
   (F : ∀ base : Heap, K.In base → base.Ns mainGlobals mg → FnOk P w K mg base CX k fa fd [x] sp) (hbind : ∀ (s : Shared) (u : Value), BindsTo s fd ⟨[u], []⟩ [(x, u)])
   (hsp : ∀ H : Hp, Only H → SqL K H a (ns.map V.int) → sp [.ref a] H (fun v _ => v = .bl true) fun _ _ _ => False)
   (hCX : ∀ H e s', CX [] H s₁ (fun _ _ _ => False) e s' → False) :
   codeAny (model P w) callerA (.call (.ref fa) ⟨[.ref a], []⟩) (fun r s' => r = .ok (.ret (.bool true)) ∧ OldK s₁.heap s'.heap ∧ s'.os = s₁.os ∧ AllBare s'.gens) s₁ := by
 have rv := vals_ints hi
 have lenV := hi.length
 have core : ∀ H : Hp, Only H → SqL K H a (ns.map V.int) → HOk P w H s₁.heap → (∀ b, H b ≠ none → b = a) → (H a ≠ none → K.lookup a = none) →
     codeAny (model P w) callerA (.call (.ref fa) ⟨[.ref a], []⟩) (fun r s' => r = .ok (.ret (.bool true)) ∧ OldK s₁.heap s'.heap ∧ s'.os = s₁.os ∧ AllBare s'.gens) s₁ := by
   intro H hO hS hok hA hK
   have base_of : ∀ {b : Addr} {o : Obj}, s₁.heap.get? b = some o → H b = none → (hidT s₁.heap H).get? b = some o := fun e n => hidT_get e n
   have noA : ∀ {b : Addr} {o : Obj} {es : Array DictEntry} {ep : Nat}, s₁.heap.get? b = some o → o.data = .dict es ep → H b = none := fun {b o es ep} e d => by
     cases q : H b with
     | none => rfl
     | some u =>
       have e' : b = a := hA b (by rw [q]; simp)
       subst e'
       rw [ha] at e; cases e
       have d' : Data.seq vs.toArray _ = Data.dict es ep := d
       cases d'
   have nsK : ∀ {b : Addr} {m : Str → Option Value}, s₁.heap.Ns b m → (hidT s₁.heap H).Ns b m := fun {b m} ⟨o, es, ep, e, d, r⟩ => ⟨o, es, ep, base_of e (noA e d), d, r⟩
   have hKb : K.In (hidT s₁.heap H) := fun b o e => base_of (KX b o e) (by
     cases q : H b with
     | none => rfl
     | some u =>
       have e' : b = a := hA b (by rw [q]; simp)
       subst e'
       rw [hK (by rw [q]; simp)] at e; cases e)
   have hM : Mod K mg (hidT s₁.heap H) := ⟨hKb, nsK hns, ⟨mb, nsK hb, hbb⟩, let ⟨mc, h1, h2⟩ := hlim; ⟨mc, nsK h1, h2⟩⟩
   have e0 : Env0 P w K mg (hidT s₁.heap H) callerA [] s₁ H := ⟨rfl, hM, fun b o e => of_hidT e, Nat.le_of_eq (hidT_size _ _), trivial, fun b hb => absurd (show b ∈ ([] : List Addr) from hb) (by simp), hok, .of_eq hg⟩
   refine codeAny_mono ((F _ hKb (nsK hns)).run callerA [] s₁ H ⟨[.ref a], []⟩ [.ref a] [.ref a] _ _ hr e0 (hbind s₁ (.ref a)) (.cons rfl .nil) (hsp H hO hS)) fun r s' h => ?_
   cases r with
   | error e => exact (hCX H e s' h).elim
   | ok fl =>
     cases fl with
     | next => exact False.elim h
     | brk => exact False.elim h
     | cont => exact False.elim h
     | ret u =>
       obtain ⟨v, H', os, bare, un, hok', r', q⟩ := h
       have q' : v = .bl true := q
       subst q'
       obtain rfl : u = Value.bool true := r'
       refine ⟨rfl, OldK.of_keep fun b o e => ?_, os, bare⟩
       cases q : H b with
       | none => exact un.keep b o e q (by intro z; exact absurd (show b ∈ ([] : List Addr) from z) (by simp)) (by simp)
       | some u =>
         rcases hO b with z | ⟨ob, xs, z⟩
         · rw [q] at z; cases z
         · have z2 := un.frzs b ob _ z
           obtain ⟨e1, _⟩ := hok b _ z
           obtain ⟨e2, _⟩ := hok' b _ z2
           rw [e] at e1; cases e1
           exact e2
 cases hk : K.lookup a with
 | some o =>
   have e := KX a o hk
   rw [ha] at e
   cases e
   refine core (fun _ => none) (fun _ => .inl rfl) (.inr ⟨_, vs.toArray, _, hk, rfl, rfl, rfl, by rw [List.size_toArray, lenV]; exact hl, by simpa using rv⟩) (fun b u z => by have z' : (none : Option HO) = some u := z; cases z') (fun b z => absurd rfl z) fun z => absurd rfl z
 | none =>
   refine core (fun b => if b = a then some (.frz { cls := .type "list", data := .seq vs.toArray } (.lst (ns.map V.int))) else none) (fun b => ?_) (.inl (.inr ⟨{ cls := .type "list", data := .seq vs.toArray }, if_pos rfl⟩)) (fun b u z => ?_) (fun b z => ?_) fun _ => hk
   · by_cases hb : b = a
     · exact .inr ⟨_, _, if_pos hb⟩
     · exact .inl (if_neg hb)
   · by_cases hb : b = a
     · have z' := (if_pos hb).symm.trans z
       cases z'
       subst hb
       exact ⟨ha, by rw [List.length_map]; exact hl, vs, _, rv, ha⟩
     · have z' := (if_neg hb).symm.trans z
       cases z'
   · by_cases hb : b = a
     · exact hb
     · exact absurd (if_neg hb) z
end L2
namespace L2
open PySem PySem.Spec PyProof.Rows
abbrev KOf {K : PySem.W.Frag} {h : Heap} (_ : K.In h) : PySem.W.Frag := K
end L2
namespace L2
open PySem PySem.Spec PyProof.Rows
def inClass (s : Stmt) (j : Nat) : Stmt := match s with
 | .ClassDef _ _ _ body _ _ _ _ _ _ _ => body.getD j (.Pass ⟨0, 0, 0, 0⟩)
 | _ => .Pass ⟨0, 0, 0, 0⟩
def defArgs (s : Stmt) : Arguments := match s with
 | .FunctionDef _ a _ _ _ _ _ _ _ _ => a
 | _ => { posonlyargs := [], args := [], vararg := none, kwonlyargs := [], kw_defaults := [], kwarg := none, defaults := [] }
def defBody (s : Stmt) : List Stmt := match s with
 | .FunctionDef _ _ b _ _ _ _ _ _ _ => b
 | _ => []
def defScope (s : Stmt) : Scope := match s with
 | .FunctionDef _ _ _ _ _ _ sc _ _ _ => sc
 | _ => { kind := .function, names := [], isGenerator := false, isCoroutine := false }
abbrev CX0 : CXT := fun _ _ _ _ _ _ => False
abbrev E0 : XK := fun _ _ _ => False
theorem zP {X : Cx} : Passes CX0 X E0 := fun _ _ _ _ _ _ _ h => h.elim
structure Fun (K : PySem.W.Frag) (x qual : Str) (st : Stmt) (f : Addr) (fd : FuncData) : Prop where
 ex : ∃ (oc : Value) (od : Option Addr) (kV doc pm : Value) (an : Option Addr) (cdv ct : Value) (osl : Array (Option Value)),
   fd = PySem.W.fnOf x qual (defArgs st) (defBody st) (defScope st) .none kV doc pm an cdv ct ∧ K.lookup f = some ⟨oc, od, .func fd, osl⟩ ∧ PySem.W.codeIn K cdv qual = true
 kp : PySem.W.keepIn K (.ref f) = true
section
variable {P : Program} {w : World} {K : PySem.W.Frag} {mg : Str → Option Value} {base : Heap}
theorem Fun.ok {x qual : Str} {st : Stmt} {f : Addr} {fd : FuncData} {N ps : List Str} {k : Nat} {sp : Sp} (F : Fun K x qual st f fd) (S : FnScope N ps (defScope st)) (len : ∀ vs H Q E, sp vs H Q E → vs.length = ps.length)
   (hbody : ∀ (cdv : Value) (A : Around) (outer : List Env) (s : Shared) (H : Hp) (vs : List V) (Q : VK) (E : XK), Room k (A.deeper (envOfC qual (defScope st) s.heap.objs.size f cdv)) → sp vs H Q E →
     ∃ t, PSs (cxOf CX0 P w K mg base N qual (defScope st) f cdv A outer s H E).nox (defBody st) t ∧ t { nx := fun _ H' => Q .non H', rt := Q } (start N vs) H) : FnOk P w K mg base CX0 (k + 1) f fd ps sp := by
 obtain ⟨oc, od, kV, doc, pm, an, cdv, ct, osl, rfl, lk, hcd⟩ := F.ex
 refine fn_of lk hcd S len fun A outer s H vs Q E hr hsp => ?_
 obtain ⟨t, h, q⟩ := hbody cdv A outer s H vs Q E hr hsp
 exact ⟨t, h.nox, q⟩
theorem Fun.binds {x qual : Str} {st : Stmt} {f : Addr} {fd : FuncData} {ps : List Str} (F : Fun K x qual st f fd)
   (h : ∀ (kV doc pm : Value) (an : Option Addr) (cdv ct : Value) (us : List Value), us.length = ps.length → bindArgs (PySem.W.fnOf x qual (defArgs st) (defBody st) (defScope st) .none kV doc pm an cdv ct) ⟨us, []⟩ = pure (ps.zip us)) : Binds K fd ps [] := by
 obtain ⟨oc, od, kV, doc, pm, an, cdv, ct, osl, rfl, lk, hcd⟩ := F.ex
 exact .all (h kV doc pm an cdv ct)
theorem fun_mk {x qual : Str} {st : Stmt} {f : Addr} {oc : Value} {od an : Option Addr} {osl : Array (Option Value)} {kV doc pm cdv ct : Value} (l : K.lookup f = some ⟨oc, od, .func (PySem.W.fnOf x qual (defArgs st) (defBody st) (defScope st) .none kV doc pm an cdv ct), osl⟩)
   (c : PySem.W.codeIn K cdv qual = true) (k : PySem.W.keepIn K (.ref f) = true) : Fun K x qual st f (PySem.W.fnOf x qual (defArgs st) (defBody st) (defScope st) .none kV doc pm an cdv ct) := ⟨⟨oc, od, kV, doc, pm, an, cdv, ct, osl, rfl, l, c⟩, k⟩
end
theorem hu_of {A : Around} {k : Nat} (hr : Room k A) : A.units + 1 < cLine := Nat.lt_of_le_of_lt (Nat.add_le_add_left (by decide : 1 ≤ 64) _) hr.units
section
variable {X : Cx}
theorem pv (i : Nat) {x : Str} {pos : Pos} (hN : X.N[i]? = some x := by rfl) (hv : Vis X.env.scope x := by first | exact Or.inl rfl | exact Or.inr (Or.inl rfl) | exact Or.inr (Or.inr rfl)) (hd : (x == ("__debug__" : Str)) = false := by decide)
   (hcd : (x == ("__classdict__" : Str)) = false := by decide) : PE X (.Name x pos) (tVar i) := pe_var hN hv hd hcd
end
theorem iteF {A B : Prop} (h : B) : if false = true then A else B := by
 rw [if_neg Bool.false_ne_true]
 exact h
theorem iteT {A B : Prop} (h : A) : if true = true then A else B := by
 rw [if_pos rfl]
 exact h
theorem ite2 {c A B : Prop} [Decidable c] (h1 : c → A) (h2 : ¬ c → B) : if c then A else B := by
 by_cases h : c
 · rw [if_pos h]
   exact h1 h
 · rw [if_neg h]
   exact h2 h
def Same (H H' : Hp) : Prop := ∀ b o, H b = some o → H' b = some o
theorem Same.refl (H : Hp) : Same H H := fun _ _ h => h
theorem Same.trans {H H1 H2 : Hp} (a : Same H H1) (b : Same H1 H2) : Same H H2 := fun c o h => b c o (a c o h)
theorem Same.free {H H' : Hp} (e : Same H H') {l : Addr} (h : H' l = Option.none) : H l = Option.none := by
 cases q : H l with
 | none => rfl
 | some o =>
   rw [e l o q] at h
   cases h
theorem Same.seq {K : PySem.W.Frag} {H H' : Hp} {a : Addr} {xs : List V} (e : Same H H') (h : SqL K H a xs) : SqL K H' a xs := by
 rcases h with (h | ⟨o, h⟩) | h
 · exact .inl (.inl (e _ _ h))
 · exact .inl (.inr ⟨o, e _ _ h⟩)
 · exact .inr h
end L2
namespace L2
open PySem PySem.Spec PyProof.Rows
section
variable {κ : Type} [DecidableEq κ]
def valV (kvs : List (κ × V)) (k : κ) : Option V := (kvs.find? fun kv => decide (kv.1 = k)).map (·.2)
def putK (kvs : List (κ × V)) (k : κ) (v : V) : List (κ × V) :=
 if (kvs.any fun kv => decide (kv.1 = k)) = true then kvs.map (fun kv => if kv.1 = k then (kv.1, v) else kv) else kvs ++ [(k, v)]
def dropK (kvs : List (κ × V)) (k : κ) : List (κ × V) := kvs.filter fun kv => decide (kv.1 ≠ k)
theorem yN {p : κ × V} {r : List (κ × V)} {k : κ} (e : p.1 = k) : valV (p :: r) k = some p.2 := by simp [valV, List.find?_cons, e]
theorem yM {p : κ × V} {r : List (κ × V)} {k : κ} (e : ¬ p.1 = k) : valV (p :: r) k = valV r k := by simp [valV, List.find?_cons, e]
theorem valV_any (k : κ) : ∀ kvs : List (κ × V), (kvs.any fun kv => decide (kv.1 = k)) = (valV kvs k).isSome
 | [] => rfl
 | p :: r => by
   rw [List.any_cons]
   by_cases e : p.1 = k
   · simp only [yN e, decide_eq_true e, Bool.true_or, Option.isSome_some]
   · rw [yM e, decide_eq_false e, Bool.false_or]; exact valV_any k r
theorem valV_map (k j : κ) (y : V) : ∀ kvs : List (κ × V), valV (kvs.map fun kv => if kv.1 = k then (kv.1, y) else kv) j = (valV kvs j).map fun x => if j = k then y else x
 | [] => rfl
 | p :: r => by
   have ih := valV_map k j y r
   rw [List.map_cons]
   by_cases h : p.1 = k
   · rw [if_pos h]
     by_cases e : p.1 = j
     · rw [yN (p := (p.1, y)) e, yN e, Option.map_some, if_pos (e.symm.trans h)]
     · rw [yM (p := (p.1, y)) e, yM e, ih]
   · rw [if_neg h]
     by_cases e : p.1 = j
     · rw [yN (p := p) e, yN e, Option.map_some, if_neg (fun z => h (e.trans z))]
     · rw [yM (p := p) e, yM e, ih]
theorem valV_snoc (k j : κ) (y : V) : ∀ kvs : List (κ × V), valV kvs k = none → valV (kvs ++ [(k, y)]) j = if j = k then some y else valV kvs j
 | [], _ => by
   by_cases e : k = j
   · rw [if_pos e.symm]; exact yN (p := (k, y)) e
   · rw [if_neg (fun z => e z.symm)]; exact yM (p := (k, y)) e
 | p :: r, hn => by
   rw [List.cons_append]
   have hk : ¬ p.1 = k := fun z => by rw [yN z] at hn; cases hn
   rw [yM hk] at hn
   have ih := valV_snoc k j y r hn
   by_cases e : p.1 = j
   · rw [yN e, yN e, if_neg (fun z => hk (e.trans z))]
   · rw [yM e, yM e, ih]
theorem valV_put (kvs : List (κ × V)) (k j : κ) (y : V) : valV (putK kvs k y) j = if j = k then some y else valV kvs j := by
 unfold putK
 by_cases a : (kvs.any fun kv => decide (kv.1 = k)) = true
 · rw [if_pos a, valV_map]
   rw [valV_any] at a
   by_cases e : j = k
   · obtain ⟨x, hx⟩ := Option.isSome_iff_exists.mp a
     rw [if_pos e, e, hx, Option.map_some, if_pos rfl]
   · rw [if_neg e]
     cases valV kvs j with
     | none => rfl
     | some x => rw [Option.map_some, if_neg e]
 · rw [if_neg a]
   refine valV_snoc k j y kvs ?_
   rw [valV_any] at a
   cases q : valV kvs k with
   | none => rfl
   | some x => rw [q] at a; exact (a rfl).elim
theorem length_putK (kvs : List (κ × V)) (k : κ) (v : V) : (putK kvs k v).length ≤ kvs.length + 1 := by
 unfold putK
 split
 · rw [List.length_map]; omega
 · rw [List.length_append, List.length_cons, List.length_nil]; omega
theorem putK_new {kvs : List (κ × V)} {k : κ} (v : V) (h : valV kvs k = none) : putK kvs k v = kvs ++ [(k, v)] := by
 unfold putK
 rw [valV_any, h]
 exact if_neg (by decide)
theorem RelO.isSome_eq {o : Option V} {u : Option Value} (r : RelO o u) : o.isSome = u.isSome := by
 cases o with
 | none => cases u with
   | none => rfl
   | some _ => exact (show False from r).elim
 | some _ => cases u with
   | none => exact (show False from r).elim
   | some _ => rfl
theorem RelO.getD {o : Option V} {u : Option Value} {d : V} {d' : Value} (r : RelO o u) (rd : RelV d d') : RelV (o.getD d) (u.getD d') := by
 cases o with
 | none => cases u with
   | none => exact rd
   | some _ => exact (show False from r).elim
 | some _ => cases u with
   | none => exact (show False from r).elim
   | some _ => exact r
theorem KV.val {kvs : List (κ × V)} {vs : List (κ × Value)} (r : KV kvs vs) (k : κ) : RelO (valV kvs k) (valueAt vs k) := by
 unfold KV at r
 induction r with
 | nil => exact True.intro
 | @cons p q ps qs h t ih =>
   obtain ⟨h1, h2⟩ := h
   by_cases e : p.1 = k
   · have e' : q.1 = k := h1.symm.trans e
     have b : valueAt (q :: qs) k = some q.2 := by simp [valueAt, List.find?_cons, e']
     rw [yN e, b]; exact h2
   · have e' : ¬ q.1 = k := fun z => e (h1.trans z)
     have b : valueAt (q :: qs) k = valueAt qs k := by simp [valueAt, List.find?_cons, e']
     rw [yM e, b]; exact ih
theorem KV.any {kvs : List (κ × V)} {vs : List (κ × Value)} (r : KV kvs vs) (k : κ) : (kvs.any fun kv => decide (kv.1 = k)) = vs.any fun kv => decide (kv.1 = k) := by
 unfold KV at r
 induction r with
 | nil => rfl
 | cons h t ih => rw [List.any_cons, List.any_cons, ih, h.1]
theorem KV.repl {kvs : List (κ × V)} {vs : List (κ × Value)} (r : KV kvs vs) (k : κ) {y : V} {u : Value} (ry : RelV y u) :
   KV (kvs.map fun kv => if kv.1 = k then (kv.1, y) else kv) (vs.map fun kv => if kv.1 = k then (kv.1, u) else kv) := by
 unfold KV at r ⊢
 induction r with
 | nil => exact .nil
 | @cons p q ps qs h t ih =>
   rw [List.map_cons, List.map_cons]
   refine .cons ?_ ih
   obtain ⟨h1, h2⟩ := h
   by_cases e : p.1 = k
   · rw [if_pos e, if_pos (h1.symm.trans e)]; exact ⟨h1, ry⟩
   · rw [if_neg e, if_neg (fun z => e (h1.trans z))]; exact ⟨h1, h2⟩
theorem KV.put {kvs : List (κ × V)} {vs : List (κ × Value)} (r : KV kvs vs) (k : κ) {y : V} {u : Value} (ry : RelV y u) : KV (putK kvs k y) (stored vs k u) := by
 unfold putK stored
 rw [r.any k]
 by_cases e : (vs.any fun kv => decide (kv.1 = k)) = true
 · rw [if_pos e, if_pos e]; exact r.repl k ry
 · rw [if_neg e, if_neg e]; exact Paired.snoc r ⟨rfl, ry⟩
theorem KV.drop {kvs : List (κ × V)} {vs : List (κ × Value)} (r : KV kvs vs) (k : κ) : KV (dropK kvs k) (without vs k) := by
 unfold KV at r ⊢
 unfold dropK without
 induction r with
 | nil => exact .nil
 | @cons p q ps qs h t ih =>
   obtain ⟨h1, h2⟩ := h
   rw [List.filter_cons, List.filter_cons]
   by_cases e : p.1 = k
   · have a : ¬ decide (p.1 ≠ k) = true := by simp [e]
     have b : ¬ decide (q.1 ≠ k) = true := by simp [h1.symm.trans e]
     rw [if_neg a, if_neg b]; exact ih
   · have e' : ¬ q.1 = k := fun z => e (h1.trans z)
     have a : decide (p.1 ≠ k) = true := by simp [e]
     have b : decide (q.1 ≠ k) = true := by simp [e']
     rw [if_pos a, if_pos b]; exact .cons ⟨h1, h2⟩ ih
theorem KV.keys {kvs : List (κ × V)} {vs : List (κ × Value)} (r : KV kvs vs) : kvs.map (·.1) = vs.map (·.1) := by
 unfold KV at r
 induction r with
 | nil => rfl
 | cons h t ih => rw [List.map_cons, List.map_cons, ih, h.1]
theorem KV.length {kvs : List (κ × V)} {vs : List (κ × Value)} (r : KV kvs vs) : kvs.length = vs.length := Paired.length r
end
theorem kV_is {P : Program} {w : World} {k : Key} {u : Value} (r : RelV (kV k) u) : (mixKind P w).is k u = true := by
 cases k with
 | inl i => obtain ⟨t, e⟩ := (show ∃ t, u = Value.int i t from r); subst e; exact mixKind_int P w i t
 | inr x => obtain ⟨t, e⟩ := (show ∃ t, u = Value.str x t from r); subst e; exact mixKind_str P w x t
theorem items_are {P : Program} {w : World} : ∀ {ks : List Key} {us : List Value}, Vals (ks.map kV) us → ItemsAre (mixKind P w) ks us
 | [], _, r => by rw [List.map_nil] at r; cases r; exact .nil
 | k :: ks, _, r => by
   rw [List.map_cons] at r
   cases r with
   | cons h t => exact .cons (kV_is h) (items_are t)
abbrev KT (H : Hp) : List (List Key × V) → List (List Key × Addr × Value) → Prop := Paired fun p q => p.1 = q.1 ∧ H q.2.1 = some (.tup (p.1.map kV)) ∧ RelV p.2 q.2.2
theorem KT.val {H : Hp} {kvs : List (List Key × V)} {xs : List (List Key × Addr × Value)} (r : KT H kvs xs) (k : List Key) : RelO (valV kvs k) ((atKey xs k).map (·.2)) := by
 induction r with
 | nil => exact True.intro
 | @cons p q ps qs h t ih =>
   obtain ⟨h1, _, h2⟩ := h
   by_cases e : p.1 = k
   · have e' : q.1 = k := h1.symm.trans e
     have b : atKey (q :: qs) k = some q.2 := by simp [atKey, List.find?_cons, e']
     rw [yN e, b]; exact h2
   · have e' : ¬ q.1 = k := fun z => e (h1.trans z)
     have b : atKey (q :: qs) k = atKey qs k := by simp [atKey, List.find?_cons, e']
     rw [yM e, b]; exact ih
theorem KT.repl {H : Hp} {kvs : List (List Key × V)} {xs : List (List Key × Addr × Value)} (r : KT H kvs xs) (k : List Key) {y : V} {u : Value} (ry : RelV y u) :
   KT H (kvs.map fun kv => if kv.1 = k then (kv.1, y) else kv) (xs.map (putAt k u)) := by
 induction r with
 | nil => exact .nil
 | @cons p q ps qs h t ih =>
   rw [List.map_cons, List.map_cons]
   refine .cons ?_ ih
   obtain ⟨h1, h2, h3⟩ := h
   unfold putAt
   by_cases e : p.1 = k
   · rw [if_pos e, if_pos (h1.symm.trans e)]; exact ⟨h1, h2, ry⟩
   · rw [if_neg e, if_neg (fun z => e (h1.trans z))]; exact ⟨h1, h2, h3⟩
theorem KT.put {H : Hp} {kvs : List (List Key × V)} {xs : List (List Key × Addr × Value)} (r : KT H kvs xs) (k : List Key) {b : Addr} {y : V} {u : Value} (hb : H b = some (.tup (k.map kV))) (ry : RelV y u) :
   KT H (putK kvs k y) (storedH xs k b u) := by
 have e : (kvs.any fun kv => decide (kv.1 = k)) = (atKey xs k).isSome := by
   rw [valV_any, (r.val k).isSome_eq, Option.isSome_map]
 unfold putK storedH
 rw [e]
 by_cases q : (atKey xs k).isSome = true
 · rw [if_pos q, if_pos q]; exact r.repl k ry
 · rw [if_neg q, if_neg q]; exact Paired.snoc r ⟨rfl, hb, ry⟩
theorem KT.keeps {H H' : Hp} {kvs : List (List Key × V)} {xs : List (List Key × Addr × Value)} (r : KT H kvs xs) (ht : ∀ b ys, H b = some (.tup ys) → H' b = some (.tup ys)) : KT H' kvs xs :=
 Paired.mapP r fun _ _ z => ⟨z.1, ht _ _ z.2.1, z.2.2⟩
section
variable {P : Program} {w : World} {H : Hp} {h : Heap} {a : Addr}
theorem rd_of {u : HO} (ok : HOk P w H h) (e : Rd H a u) : ObjOk P w H h a u := e.ok ok
theorem dk_rd {kvs : List (Key × V)} (ok : HOk P w H h) (e : Rd H a (.dK kvs)) : kvs.length ≤ sizeLine ∧ (a == sysModules) = false ∧ ∃ vs, KV kvs vs ∧ h.DictOf (mixKind P w) a vs :=
 show ObjOk P w H h a (.dK kvs) from rd_of ok e
theorem dk_of {kvs : List (Key × V)} (ok : HOk P w H h) (e : H a = some (.dK kvs)) : kvs.length ≤ sizeLine ∧ (a == sysModules) = false ∧ ∃ vs, KV kvs vs ∧ h.DictOf (mixKind P w) a vs := dk_rd ok (.inl e)
theorem key_of {ks : List Key} (ok : HOk P w H h) (e : H a = some (.tup (ks.map kV))) : (tupleKind (mixKind P w)).is h ks a := by
 obtain ⟨_, its, r, o, h1, h2, n, h3⟩ := (show ObjOk P w H h a (.tup (ks.map kV)) from ok a _ e)
 exact ⟨o, its.toArray, n, h1, h2, h3, by simpa using items_are r⟩
theorem dt_rd {kvs : List (List Key × V)} (ok : HOk P w H h) (e : Rd H a (.dT kvs)) : kvs.length ≤ sizeLine ∧ (a == sysModules) = false ∧
   ∃ xs, KT H kvs xs ∧ h.DictOfH (tupleKind (mixKind P w)) a xs := by
 obtain ⟨z, y, xs, r, o, es, ep, h1, h2, h3, h4, h5⟩ := (show ObjOk P w H h a (.dT kvs) from rd_of ok e)
 refine ⟨z, y, xs, r, o, es, ep, h1, h2, h3, h4, fun x hx => ?_, h5⟩
 have all : ∀ {l : List (List Key × V)} {m : List (List Key × Addr × Value)}, KT H l m → ∀ x ∈ m, (tupleKind (mixKind P w)).is h x.1 x.2.1 := by
   intro l m q
   induction q with
   | nil => intro x hx; exact nomatch hx
   | @cons p q ps qs hq t ih =>
     intro x hx
     rcases List.mem_cons.mp hx with e | hx
     · subst e
       exact key_of ok (by rw [← hq.1]; exact hq.2.1)
     · exact ih x hx
 exact all r x hx
theorem dt_of {kvs : List (List Key × V)} (ok : HOk P w H h) (e : H a = some (.dT kvs)) : kvs.length ≤ sizeLine ∧ (a == sysModules) = false ∧
   ∃ xs, KT H kvs xs ∧ h.DictOfH (tupleKind (mixKind P w)) a xs := dt_rd ok (.inl e)
end
def DGet (H : Hp) (a : Addr) (y : V) (r : Option V) : Prop :=
 (∃ kvs k, Rd H a (.dK kvs) ∧ y = kV k ∧ r = valV kvs k) ∨ ∃ kvs k b, Rd H a (.dT kvs) ∧ y = .ref b ∧ H b = some (.tup (k.map kV)) ∧ r = valV kvs k
def DPut (H : Hp) (a : Addr) (y v : V) (H' : Hp) : Prop :=
 (∃ kvs k, H a = some (.dK kvs) ∧ y = kV k ∧ kvs.length < sizeLine ∧ H' = upd H a (.dK (putK kvs k v))) ∨
 ∃ kvs k b, H a = some (.dT kvs) ∧ y = .ref b ∧ H b = some (.tup (k.map kV)) ∧ kvs.length < sizeLine ∧ H' = upd H a (.dT (putK kvs k v))
theorem DGet.k {H : Hp} {a : Addr} {kvs : List (Key × V)} {k : Key} (e : H a = some (.dK kvs)) : DGet H a (kV k) (valV kvs k) := .inl ⟨kvs, k, .inl e, rfl, rfl⟩
theorem DGet.t {H : Hp} {a b : Addr} {kvs : List (List Key × V)} {k : List Key} (e : H a = some (.dT kvs)) (eb : H b = some (.tup (k.map kV))) : DGet H a (.ref b) (valV kvs k) := .inr ⟨kvs, k, b, .inl e, rfl, eb, rfl⟩
theorem DPut.k {H : Hp} {a : Addr} {kvs : List (Key × V)} {k : Key} {v : V} (e : H a = some (.dK kvs)) (hl : kvs.length < sizeLine) : DPut H a (kV k) v (upd H a (.dK (putK kvs k v))) := .inl ⟨kvs, k, e, rfl, hl, rfl⟩
theorem DPut.t {H : Hp} {a b : Addr} {kvs : List (List Key × V)} {k : List Key} {v : V} (e : H a = some (.dT kvs)) (eb : H b = some (.tup (k.map kV))) (hl : kvs.length < sizeLine) :
   DPut H a (.ref b) v (upd H a (.dT (putK kvs k v))) := .inr ⟨kvs, k, b, e, rfl, eb, hl, rfl⟩
section
variable {X : Cx} {pins : List (Addr × Obj)} {σ : St} {H : Hp} {s : Shared} {a : Addr} {y v : V} {u r : Value} {o : Option V} {A : Around} {E : Value → Shared → Prop}
theorem Inv.big (I : Inv X pins σ H s) : sysModules < s.heap.objs.size := by
 have h : mainGlobals < s.heap.objs.size := (I.mod.glob.keeps I.bk).lt
 exact Nat.lt_trans (by decide) h
theorem d_getItem {Q : Value → Shared → Prop} (hu : A.units + 1 < cLine) (I : Inv X pins σ H s) (g : DGet H a y (some v)) (ry : RelV y u) (h : ∀ w' s', Inv X pins σ H s' → RelV v w' → Q w' s') :
   wpAny (model X.prog X.w) A (getItem (.ref a) u) Q E s := by
 rcases g with ⟨kvs, k, e, ey, l⟩ | ⟨kvs, k, b, e, ey, eb, l⟩
 · subst ey
   obtain ⟨z, hd, vs, rel, dd⟩ := dk_rd I.hok e
   obtain ⟨w', hw, rw'⟩ := RelO.some_of (v := v) (o := valueAt vs k) (by rw [l]; exact rel.val k)
   exact wpAny_getItem_of (kV_is ry) dd.mapOf hw (h w' _ (I.tok _) rw')
 · subst ey
   cases (show u = Value.ref b from ry)
   obtain ⟨z, hd, xs, rel, dd⟩ := dt_rd I.hok e
   obtain ⟨w', hw, rw'⟩ := RelO.some_of (v := v) (o := (atKey xs k).map (·.2)) (by rw [l]; exact rel.val k)
   obtain ⟨p, hp, hp2⟩ := Option.map_eq_some_iff.mp hw
   refine wpAny_getItem_heap (tupleKind_room_in1 hu) (key_of I.hok eb) dd hp ?_
   rw [hp2]
   exact h w' _ (I.tok _) rw'
theorem d_in {Q : Value → Shared → Prop} (hu : A.units + 1 < cLine) (I : Inv X pins σ H s) (g : DGet H a y o) (ry : RelV y u) (h : ∀ s', Inv X pins σ H s' → Q (.bool o.isSome) s') :
   wpAny (model X.prog X.w) A (compareOp .In u (.ref a)) Q E s := by
 rcases g with ⟨kvs, k, e, ey, l⟩ | ⟨kvs, k, b, e, ey, eb, l⟩
 · subst ey
   obtain ⟨z, hd, vs, rel, dd⟩ := dk_rd I.hok e
   refine wpAny_in_of (kV_is ry) hd dd.mapOf ?_
   rw [← (rel.val k).isSome_eq, ← l]
   exact h _ (I.tok _)
 · subst ey
   cases (show u = Value.ref b from ry)
   obtain ⟨z, hd, xs, rel, dd⟩ := dt_rd I.hok e
   refine wpAny_in_heap (tupleKind_room_in1 hu) (key_of I.hok eb) hd dd ?_
   have q := (rel.val k).isSome_eq
   rw [Option.isSome_map] at q
   rw [← q, ← l]
   exact h _ (I.tok _)
theorem d_notIn {Q : Value → Shared → Prop} (hu : A.units + 1 < cLine) (I : Inv X pins σ H s) (g : DGet H a y o) (ry : RelV y u) (h : ∀ s', Inv X pins σ H s' → Q (.bool (!o.isSome)) s') :
   wpAny (model X.prog X.w) A (compareOp .NotIn u (.ref a)) Q E s := by
 rcases g with ⟨kvs, k, e, ey, l⟩ | ⟨kvs, k, b, e, ey, eb, l⟩
 · subst ey
   obtain ⟨z, hd, vs, rel, dd⟩ := dk_rd I.hok e
   refine wpAny_notIn_of (kV_is ry) hd dd.mapOf ?_
   rw [← (rel.val k).isSome_eq, ← l]
   exact h _ (I.tok _)
 · subst ey
   cases (show u = Value.ref b from ry)
   obtain ⟨z, hd, xs, rel, dd⟩ := dt_rd I.hok e
   refine wpAny_notIn_heap (tupleKind_room_in1 hu) (key_of I.hok eb) hd dd ?_
   have q := (rel.val k).isSome_eq
   rw [Option.isSome_map] at q
   rw [← q, ← l]
   exact h _ (I.tok _)
theorem d_write {h' : Heap} {t' : Nat} {ob : HO} (I : Inv X pins σ H s) (mu : Mut (H a)) (hs : Heap.SameBut a s.heap h') (he : ∃ q, h'.get? a = some q) (new : ObjOk X.prog X.w (upd H a ob) h' a ob) :
   Inv X pins σ (upd H a ob) { s with heap := h', toks := t' } :=
 I.write (x := a) (e := a) mu (.inl rfl) (fun b q hb z => (hs.2 b hb).trans z) he new
theorem dk_new {P : Program} {w : World} {H' : Hp} {h' : Heap} {kvs : List (Key × V)} {vs : List (Key × Value)} (z : kvs.length ≤ sizeLine) (hd : (a == sysModules) = false) (rel : KV kvs vs) (dd : h'.DictOf (mixKind P w) a vs) :
   ObjOk P w H' h' a (.dK kvs) := ⟨z, hd, vs, rel, dd⟩
theorem d_setItem {H' : Hp} {Q : Unit → Shared → Prop} (hu : A.units + 1 < cLine) (I : Inv X pins σ H s) (g : DPut H a y v H') (ry : RelV y u) (rv : RelV v r) (h : ∀ s', Inv X pins σ H' s' → Q () s') :
   wpAny (model X.prog X.w) A (setItem (.ref a) u r) Q E s := by
 rcases g with ⟨kvs, k, e, ey, l, eH⟩ | ⟨kvs, k, b, e, ey, eb, l, eH⟩
 · subst ey eH
   obtain ⟨z, hd, vs, rel, dd⟩ := dk_of I.hok e
   have hz : vs.length ≤ sizeLine := by rw [← rel.length]; exact z
   have hl : (putK kvs k v).length ≤ sizeLine := by have := length_putK kvs k v; omega
   refine wpAny_setItem_pairs (hsz := hz) (kV_is ry) dd fun h' dd' hs => h _ ?_
   have he : ∃ q, h'.get? a = some q := let ⟨q, _, _, hq, _⟩ := dd'; ⟨q, hq⟩
   exact d_write I (by rw [e]; exact True.intro) hs he (dk_new hl hd (rel.put k rv) dd')
 · subst ey eH
   cases (show u = Value.ref b from ry)
   obtain ⟨z, hd, xs, rel, dd⟩ := dt_of I.hok e
   have hz : xs.length ≤ sizeLine := by rw [← Paired.length rel]; exact z
   have hl : (putK kvs k v).length ≤ sizeLine := by have := length_putK kvs k v; omega
   refine wpAny_setItem_heap (hsz := hz) (tupleKind_room_in1 hu) (key_of I.hok eb) dd fun h' dd' hs => h _ ?_
   obtain ⟨q, es, ep, hq, h2, h3, h4, _, h5⟩ := dd'
   refine d_write I (by rw [e]; exact True.intro) hs ⟨q, hq⟩ ⟨hl, hd, _, (rel.put k eb rv).keeps fun c ys ec => ?_, q, es, ep, hq, h2, h3, h4, h5⟩
   rw [zJ (ne_of ec e (fun z => nomatch z))]
   exact ec
end
section
variable {X : Cx} {pins : List (Addr × Obj)} {σ : St} {H : Hp} {s : Shared} {a : Addr} {kvs : List (Key × V)} {k : Key} {u : Value} {A : Around} {E : Value → Shared → Prop}
end
def NoSl (i : Expr) : Prop := ∀ ov iv, subscripted i false ov iv = operate [ov, iv] (getItem ov iv)
theorem subD_of {prog : Program} {w : World} {A : Around} {E : Value → Shared → Prop} {s : Shared} {env : Env} {value slice : Expr} {pos : Pos} {T id : String} {Q : Value → Shared → Prop}
   (hl : typeLookup (.type T) "__getitem__" = pure (some (.builtin id))) (hs : NoSl slice)
   (h : wpAny (model prog w) A (eval value env) (fun o s₁ => wpAny (model prog w) A (eval slice env) (fun i s₂ => s₂.TypeIs o T ∧ wpAny (model prog w) A (getItem o i) Q E s₂) E s₁) E s) :
   wpAny (model prog w) A (eval (.Subscript value slice pos) env) Q E s := by
 refine Subscript_ (wpAny_mono h (fun o s₁ h₁ => wpAny_mono h₁ (fun i s₂ h₂ => ?_) fun _ _ x => x) fun _ _ x => x)
 obtain ⟨hT, h₂⟩ := h₂
 unfold subscriptTail
 refine wpAny_bind ?_
 rw [getitemInPython_of_ne hT.not_modules]
 refine wpAny_bind (wpAny_specialOf hT hl ?_)
 have fin : wpAny (model prog w) A (subscripted slice false o i) (fun r s₃ => wpAny (model prog w) A (letTemporaryGo value o r >>= fun _ => pure r) Q E s₃) E s₂ := by
   rw [hs o i]
   exact wpAny_operating (wpAny_mono h₂ (fun r s₃ h₃ => wpAny_bind (wpAny_letTemporaryGo (wpAny_pure h₃))) fun _ _ x => x)
 first
   | exact wpAny_pure (wpAny_bind fin)
   | exact wpAny_bind (wpAny_pure (wpAny_bind fin))
   | exact wpAny_bind fin
theorem dict_typeIs {X : Cx} {pins : List (Addr × Obj)} {σ : St} {H : Hp} {s : Shared} {a : Addr} {y : V} {o : Option V} (I : Inv X pins σ H s) (g : DGet H a y o) : s.TypeIs (.ref a) "dict" := by
 rcases g with ⟨kvs, k, e, _, _⟩ | ⟨kvs, k, b, e, _, _, _⟩
 · obtain ⟨_, _, vs, _, dd⟩ := dk_rd I.hok e
   exact dd.typeIs
 · obtain ⟨_, _, xs, _, dd⟩ := dt_rd I.hok e
   exact dd.typeIs
def tDGet (td ty : TE) : TE := fun σ H Q => td σ H fun x H1 => ty σ H1 fun y H2 => ∃ a v, x = .ref a ∧ DGet H2 a y (some v) ∧ Q v H2
def sDPut (td ty tv : TE) : TS := fun D σ H => tv σ H fun v H1 => td σ H1 fun x H2 => ty σ H2 fun y H3 => ∃ a H4, x = .ref a ∧ DPut H3 a y v H4 ∧ D.nx σ H4
section
variable {X : Cx} {o i e value : Expr} {pos pos' tpos : Pos} {td ty tv : TE}
theorem pe_dget (hu : X.A.units + 1 < cLine) (ho : PE X o td) (hi : PE X i ty) (hs : NoSl i) : PE X (.Subscript o i pos) (tDGet td ty) := by
 intro pins s σ H Q I h
 refine subD_of PySem.F.slot_dict_getitem.lookup hs (thn (ho pins s σ H _ I h) fun u s1 ⟨x, H1, I1, rx, q1⟩ => thn (hi pins s1 σ H1 _ I1 q1) fun iv s2 ⟨y, H2, I2, ry, a, v, ex, g, q2⟩ => ?_)
 subst ex
 obtain rfl : u = Value.ref a := rx
 exact ⟨dict_typeIs I2 g, d_getItem hu I2 g ry fun w' s3 I3 rw' => ⟨v, H2, I3, rw', q2⟩⟩
theorem ps_dput (hu : X.A.units + 1 < cLine) (ho : PE X o td) (hi : PE X i ty) (hv : PE X value tv) (hs : swapsWith value (some (.Subscript o i pos')) pos.line X.env = pure false) :
   PS X (.Assign [.Subscript o i pos'] value pos) (sDPut td ty tv) := by
 intro pins s σ H D I h
 refine wpAny_Assign_Subscript (thn (hv pins s σ H _ I h) fun r s1 ⟨v, H1, I1, rv, q1⟩ => thn (ho pins s1 σ H1 _ I1 q1) fun u s2 ⟨x, H2, I2, rx, q2⟩ => thn (hi pins s2 σ H2 _ I2 q2) fun iv s3 ⟨y, H3, I3, ry, a, H4, ex, g, q3⟩ => ?_) hs
 subst ex
 obtain rfl : u = Value.ref a := rx
 exact d_setItem hu I3 g ry rv fun s4 I4 => ⟨σ, H4, I4, q3⟩
end
theorem dk_empty {P : Program} {w : World} {H : Hp} (h : Heap) (hb : sysModules < h.objs.size) : ObjOk P w H (h.push { cls := .type "dict", data := .dict #[] }) h.objs.size (.dK []) :=
 ⟨Nat.zero_le _, beq_eq_false_iff_ne.mpr (Ne.symm (Nat.ne_of_lt hb)), [], .nil, Heap.DictOf.new h⟩
def tDNewK : TE := fun _ H Q => ∀ p, H p = none → Q (.ref p) (upd H p (.dK []))
section
variable {X : Cx} {pos : Pos}
theorem pe_dnewK : PE X (.Dict [] [] pos) tDNewK := fun pins s σ H Q I h =>
 wpAny_Dict_empty ⟨.ref s.heap.objs.size, _, I.laid (a := s.heap.objs.size) (o := .dK []) (t' := s.toks) (fun _ _ q => Heap.get?_push_of_some _ q) (Nat.le_refl _) (dk_empty s.heap I.big), rfl, h _ (I.hok.fresh (Nat.le_refl _))⟩
end
def tPairs : List (TE × TE) → St → Hp → (List (V × V) → Hp → Prop) → Prop
 | [], _, H, Q => Q [] H
 | (tk, tv) :: r, σ, H, Q => tk σ H fun x H1 => tv σ H1 fun y H2 => tPairs r σ H2 fun ps H3 => Q ((x, y) :: ps) H3
abbrev VV : List (V × V) → List (Value × Value) → Prop := Paired fun p q => RelV p.1 q.1 ∧ RelV p.2 q.2
def PPs (X : Cx) (pos : Pos) (keys : List (Option Expr)) (values : List Expr) (trs : List (TE × TE)) : Prop :=
 ∀ (pins : List (Addr × Obj)) (s : Shared) (σ : St) (H : Hp) (Q : List (V × V) → Hp → Prop), Inv X pins σ H s → tPairs trs σ H Q →
   wpAny (model X.prog X.w) X.A (evalPairs (pairTrees keys values X.env pos)) (fun vs s' => ∃ ps H', Inv X pins σ H' s' ∧ VV ps vs ∧ Q ps H') X.xe s
theorem pps_nil {X : Cx} {pos : Pos} : PPs X pos [] [] [] := fun pins s σ H Q I h => pairTrees_nil_walk ⟨[], H, I, .nil, h⟩
theorem pps_cons {X : Cx} {pos : Pos} {k v : Expr} {ks : List (Option Expr)} {vs : List Expr} {tk tv : TE} {trs : List (TE × TE)} (hk : PE X k tk) (hv : PE X v tv) (hr : PPs X pos ks vs trs) :
   PPs X pos (some k :: ks) (v :: vs) ((tk, tv) :: trs) := fun pins s σ H Q I h =>
 pairTrees_cons_walk (thn (hk pins s σ H _ I h) fun u s1 ⟨x, H1, I1, rx, q1⟩ => thn (hv pins s1 σ H1 _ I1 q1) fun w2 s2 ⟨y, H2, I2, ry, q2⟩ =>
   thn (hr pins s2 σ H2 _ I2 q2) fun ws s3 ⟨ps, H3, I3, rel, q3⟩ => ⟨(x, y) :: ps, H3, I3, .cons ⟨rx, ry⟩ rel, q3⟩)
def mergeK (kvs more : List (Key × V)) : List (Key × V) := more.foldl (fun acc kv => putK acc kv.1 kv.2) kvs
theorem KV.merge : ∀ {more : List (Key × V)} {rs : List (Key × Value)} {kvs : List (Key × V)} {vs : List (Key × Value)}, KV more rs → KV kvs vs → KV (mergeK kvs more) (merged vs rs) := by
 intro more rs kvs vs r
 unfold KV at r
 induction r generalizing kvs vs with
 | nil => intro q; exact q
 | @cons p q ps qs h t ih =>
   intro r0
   have e : KV (putK kvs p.1 p.2) (stored vs q.1 q.2) := by
     have := r0.put p.1 h.2
     rw [← h.1]; exact this
   exact ih e
theorem length_mergeK : ∀ (more kvs : List (Key × V)), (mergeK kvs more).length ≤ kvs.length + more.length
 | [], kvs => by show kvs.length ≤ kvs.length + 0; omega
 | p :: r, kvs => by
   have h1 := length_mergeK r (putK kvs p.1 p.2)
   have h2 := length_putK kvs p.1 p.2
   show (mergeK (putK kvs p.1 p.2) r).length ≤ _
   rw [List.length_cons]; omega
structure M1 (X : Cx) (o : Expr) (m : Str) (apos : Pos) (e : Expr) (cpos : Pos) : Prop where
 base : attributeBase o m X.env (eval o X.env) = eval o X.env
 few : ((backTo cpos (starEach [e] X.env)).all (fun x => !x.1) && (backToKw cpos (keywordEach [] X.env)).all (fun x => x.1.isSome)
   && decide (([e] : List Expr).length + ([] : List Keyword).length + (if ([] : List Keyword).isEmpty then 0 else 1) < 30)) = true
 line : (apos.endLine == cpos.line) = true
 trees : backTo cpos (starEach [e] X.env) = [(false, eval e X.env)]
structure M2 (X : Cx) (o : Expr) (m : Str) (apos : Pos) (e f : Expr) (cpos : Pos) : Prop where
 base : attributeBase o m X.env (eval o X.env) = eval o X.env
 few : ((backTo cpos (starEach [e, f] X.env)).all (fun x => !x.1) && (backToKw cpos (keywordEach [] X.env)).all (fun x => x.1.isSome)
   && decide (([e, f] : List Expr).length + ([] : List Keyword).length + (if ([] : List Keyword).isEmpty then 0 else 1) < 30)) = true
 line : (apos.endLine == cpos.line) = true
 trees : backTo cpos (starEach [e, f] X.env) = [(false, eval e X.env), (false, eval f X.env)]
section
variable {X : Cx} {pins : List (Addr × Obj)} {σ : St} {H : Hp} {s : Shared} {a : Addr} {y d : V} {u r : Value} {o : Option V} {A : Around} {E : Value → Shared → Prop}
end
section
variable {X : Cx} {o e f : Expr} {apos cpos : Pos} {td ty tx : TE}
end
section
variable {X : Cx} {pins : List (Addr × Obj)} {σ : St} {H : Hp} {s : Shared} {a : Addr} {kvs : List (Key × V)} {A : Around} {E : Value → Shared → Prop}
end
section
variable {X : Cx} {pins : List (Addr × Obj)} {σ : St} {H : Hp} {s : Shared} {a : Addr} {y : V} {u : Value} {A : Around} {E : Value → Shared → Prop}
end
end L2
namespace L2
open PySem PySem.Spec PyProof.Rows
section
variable {X : Cx}
end
section
variable {κ : Type} [DecidableEq κ]
theorem valV_not {kvs : List (κ × V)} {k : κ} (h : valV kvs k = none) : ¬ k ∈ kvs.map (·.1) := by
 intro m
 obtain ⟨p, hp, e⟩ := List.mem_map.mp m
 have q : (kvs.any fun kv => decide (kv.1 = k)) = true := List.any_eq_true.mpr ⟨p, hp, decide_eq_true e⟩
 rw [valV_any, h] at q
 exact absurd q (by simp)
theorem valV_in {kvs : List (κ × V)} {k : κ} {v : V} (h : valV kvs k = some v) : k ∈ kvs.map (·.1) := by
 have q : (kvs.any fun kv => decide (kv.1 = k)) = true := by
   rw [valV_any, h]
   all_goals rfl
 obtain ⟨p, hp, e⟩ := List.any_eq_true.mp q
 exact List.mem_map.mpr ⟨p, hp, of_decide_eq_true e⟩
end
end L2
namespace L2
open PySem PySem.Spec PyProof.Rows PySem.Calls
section
variable {prog : Program} {w : World} {A : Around} {R : Result → Shared → Prop} {s : Shared}
theorem compLoop_go {elt target iter : Expr} {scope : Scope} {pos : Pos} {it acc : Value} {env : Env} (I : Nat → Shared → Prop)
   (turn : ∀ n s, I n s → wpAny (model prog w) A (pyNext it) (fun r s₁ => match r with
     | none => R (.ok .next) s₁
     | some v => wpAny (model prog w) A (letOwnedTupleGo target it v) (fun _ s₂ => wpAny (model prog w) A (assign target env v) (fun _ s₃ =>
         wpAny (model prog w) A (eval elt env) (fun x s₄ =>
           wpAny (model prog w) A (call (.builtin "list.append") [acc, x]) (fun _ s₅ => ∃ m, m < n ∧ I m s₅) (notedBy (model prog w) A env fun e s' => R (.error e) s') s₄)
           (notedBy (model prog w) A env fun e s' => R (.error e) s') s₃) (notedBy (model prog w) A env fun e s' => R (.error e) s') s₂) (notedBy (model prog w) A env fun e s' => R (.error e) s') s₁)
     (notedBy (model prog w) A env fun e s' => R (.error e) s') s)
   (n : Nat) (h : I n s) : codeAny (model prog w) A (.compLoop (.ListComp elt [⟨target, iter, [], 0⟩] scope pos) 0 it acc env) R s := by
 refine codeAny_loop rfl I (fun n s hI => ?_) n h
 show wpAny _ A ((compTurn (.ListComp elt [⟨target, iter, [], 0⟩] scope pos) 0 it acc env).onRaise (fun x => do noteFrame x env; theTreesLotGoes x)) _ _ s
 refine wpAny_noted ?_
 rw [compTurn_list1]
 refine wpAny_bind (wpAny_standAt (wpAny_bind (wpAny_mono (turn n s hI) (fun r s₁ h₁ => ?_) fun _ _ h' => h')))
 cases r with
 | none => exact wpAny_pure h₁
 | some v =>
   refine wpAny_bind (wpAny_mono h₁ (fun _ s₂ h₂ => wpAny_bind (wpAny_mono h₂ (fun _ s₃ h₃ => ?_) fun _ _ h' => h')) fun _ _ h' => h')
   exact wpAny_bind (wpAny_bind (wpAny_mono h₃ (fun x s₄ h₄ => wpAny_bind (wpAny_mono h₄ (fun _ s₅ h₅ => wpAny_pure (wpAny_pure ⟨rfl, h₅⟩)) fun _ _ h' => h')) fun _ _ h' => h'))
end
def clOf (env : Env) : List (Str × NameKind) → List (Str × Addr) → List (Str × Addr)
 | [], cs => cs
 | (n, k) :: r, cs => clOf env r (if k == .free then match env.cells.lookup n with | some c => (n, c) :: cs | none => cs else cs)
theorem clOf_mem {env : Env} : ∀ {ns : List (Str × NameKind)} {cs : List (Str × Addr)} {y : Str} {c : Addr}, (y, c) ∈ clOf env ns cs → (y, c) ∈ cs ∨ env.cells.lookup y = some c
 | [], _, _, _, h => .inl h
 | (n, k) :: r, cs, y, c, h => by
   unfold clOf at h
   rcases clOf_mem h with q | q
   · split at q
     · cases e : env.cells.lookup n with
       | none => rw [e] at q; exact .inl q
       | some d =>
         rw [e] at q
         rcases List.mem_cons.mp q with z | z
         · cases z; exact .inr e
         · exact .inl z
     · exact .inl q
   · exact .inr q
theorem clOf_has {env : Env} : ∀ {ns : List (Str × NameKind)} {cs : List (Str × Addr)} {y : Str}, ((∃ c, (y, c) ∈ cs) ∨ ((y, NameKind.free) ∈ ns ∧ ∃ c, env.cells.lookup y = some c)) → ∃ c, (y, c) ∈ clOf env ns cs
 | [], _, _, h => by
   rcases h with h | ⟨h, _⟩
   · exact h
   · cases h
 | (n, k) :: r, cs, y, h => by
   unfold clOf
   apply clOf_has
   rcases h with ⟨c, h⟩ | ⟨h, c, e⟩
   · left
     split
     · cases e : env.cells.lookup n with
       | none => exact ⟨c, h⟩
       | some d => exact ⟨c, List.mem_cons_of_mem _ h⟩
     · exact ⟨c, h⟩
   · rcases List.mem_cons.mp h with z | z
     · cases z
       left
       rw [e]
       exact ⟨c, by simp⟩
     · exact .inr ⟨z, c, e⟩
theorem closure_cl {env : Env} : ∀ {ns : List (Str × NameKind)} {cs : List (Str × Addr)}, (∀ y, (y, NameKind.free) ∈ ns → ∃ c, env.cells.lookup y = some c) →
   (forIn ns cs fun (x : Str × NameKind) (r : List (Str × Addr)) => (if x.2 == NameKind.free then (do let c ← cellOf env x.1; pure (ForInStep.yield ((x.1, c) :: r))) else pure (ForInStep.yield r) : Sem (ForInStep (List (Str × Addr))))) = (pure (clOf env ns cs) : Sem (List (Str × Addr)))
 | [], _, _ => rfl
 | (n, k) :: r, cs, h => by
   have ih := @closure_cl env r
   rw [List.forIn_cons]
   unfold clOf
   cases hk : k == NameKind.free with
   | false =>
     simp only [Bool.false_eq_true, if_false]
     exact ih fun y hy => h y (List.mem_cons_of_mem _ hy)
   | true =>
     have ek : k = NameKind.free := by simpa using hk
     subst ek
     obtain ⟨c, e⟩ := h n (by simp)
     have ec : cellOf env n = pure c := by unfold cellOf; rw [e]
     simp only [if_true]
     rw [ec, e]
     exact ih fun y hy => h y (List.mem_cons_of_mem _ hy)
theorem closure_eq {scope : Scope} {env : Env} (h : ∀ y, (y, NameKind.free) ∈ scope.names → ∃ c, env.cells.lookup y = some c) : closureFor scope env = pure (clOf env scope.names []) := by
 have q := closure_cl (cs := []) h
 unfold closureFor
 exact congrArg (fun m => m >>= fun r => pure r) q
end L2
namespace L2
open PySem PySem.Spec PyProof.Rows PySem.Calls
theorem xA {env : Env} {y : Str} : ∀ {names : List (Str × NameKind)},
   (names.map fun (n, k) => if (k == NameKind.free && env.scope.kind == .function && env.kindOf n == some .cell) then (n, NameKind.cell) else (n, k)).lookup y
     = (names.lookup y).map fun k => if (k == NameKind.free && env.scope.kind == .function && env.kindOf y == some .cell) then NameKind.cell else k
 | [] => rfl
 | (n, k) :: r => by
   have ih := @xA env y r
   by_cases hx : y = n
   · subst hx
     simp only [List.map_cons]
     split <;> rename_i hc
     · rw [List.lookup_cons, List.lookup_cons]; simp only [beq_self_eq_true, Option.map_some]; rw [if_pos hc]
     · rw [List.lookup_cons, List.lookup_cons]; simp only [beq_self_eq_true, Option.map_some]; rw [if_neg hc]
   · have hb : (y == n) = false := beq_eq_false_iff_ne.mpr hx
     simp only [List.map_cons]
     split <;> simp only [List.lookup_cons, hb] <;> exact ih
section
variable {X : Cx} {pins : List (Addr × Obj)} {σ : St} {H : Hp} {s : Shared} {a : Addr} {o : HO}
theorem Inv.track (I : Inv X pins σ H s) (f : FpOk X pins H a) (hs : X.s₀.heap.objs.size ≤ a) (new : ObjOk X.prog X.w (upd H a o) s.heap a o) : Inv X pins σ (upd H a o) s := by
 obtain ⟨f0, f1, f2, f3, f4, f5⟩ := f
 have old : ∀ b ob, X.s₀.heap.get? b = some ob → b ≠ a := fun b ob e z => by subst z; exact absurd (Nat.lt_of_lt_of_le (Heap.lt_size e) hs) (Nat.lt_irrefl _)
 refine ⟨I.ok, I.os, I.bare, ⟨I.base.keep, I.base.slot, fun b ob e n hx => ?_, I.base.there, fun b xs e => ?_, fun b ob u e => ?_, fun b ps e => ?_⟩, I.loc, I.cell, ?_, fun x c e => ?_, fun p hp => ?_, fun b u e => ?_, I.len⟩
 · rw [zJ (old b ob e)]; exact I.base.free b ob e n hx
 · have q := I.base.tups b xs e; rw [zJ (zG q f0)]; exact q
 · have q := I.base.frzs b ob u e; rw [zJ (zG q f0)]; exact q
 · obtain ⟨more, q⟩ := I.base.tbls b ps e; exact ⟨more, by rw [zJ (zG q f0)]; exact q⟩
 · rw [zJ (Ne.symm f1)]; exact I.free
 · rw [zJ (f4 x c e)]; exact I.freeC x c e
 · obtain ⟨e, n, ne, nf, d⟩ := I.pin p hp
   exact ⟨e, by rw [zJ (f5 p hp)]; exact n, ne, nf, d⟩
 · by_cases hb : b = a
   · subst hb; rw [zB] at e; cases e; exact new
   · rw [zJ hb] at e
     exact (I.hok b u e).stay (fun c v _ q => q) (fun c q => by rw [zJ (zG q f0)]; exact q) fun c xs q => by rw [zJ (zG q f0)]; exact q
end
def compCx (X : Cx) (scope : Scope) (C : Addr) (x : Str) (M : List Str) (s₂ : Shared) (H₂ : Hp) (fp : List Addr) : Cx :=
 { X with N := x :: M, s₀ := s₂, H₀ := H₂, env := compEnvC scope (clOf X.env scope.names []) C X.env, outer := X.stack, ex := fp, fn := fun _ => false, pn := [], xe := fun _ _ => False }
structure CompOk (X : Cx) (scope : Scope) (x : Str) (M : List Str) : Prop where
 kind : scope.kind = .function
 cell : ∀ y ∈ scope.names, y.2 ≠ .cell
 names : ∀ y ∈ scope.names, y.2 = .local → scope.names.lookup y.1 = some .local
 loc : scope.names.lookup x = some .local
 nd : (x :: M).Nodup
 free : ∀ y, (y, NameKind.free) ∈ scope.names → X.env.scope.names.lookup y = some .cell ∨ X.env.scope.names.lookup y = some .free
 len : M.length = X.N.length
 sub : ∀ (j : Nat) y, M[j]? = some y → scope.names.lookup y = some .local ∨ scope.names.lookup y = some .free → X.N[j]? = some y ∧ scope.names.lookup y = some .free
def compOkB (names outer : List (Str × NameKind)) (N M : List Str) (x : Str) : Bool :=
 names.all (fun y => decide (y.2 ≠ .cell)) && names.all (fun y => decide (y.2 = .local → names.lookup y.1 = some .local)) && decide (names.lookup x = some .local) && decide (x :: M).Nodup &&
 names.all (fun y => decide (y.2 = .free → (outer.lookup y.1 = some .cell ∨ outer.lookup y.1 = some .free))) && decide (M.length = N.length) &&
 (M.zip N).all (fun p => decide (names.lookup p.1 = some .local ∨ names.lookup p.1 = some .free → p.1 = p.2 ∧ names.lookup p.1 = some .free))
theorem yF {X : Cx} {scope : Scope} {x : Str} {M : List Str} (hk : scope.kind = .function) (h : compOkB scope.names X.env.scope.names X.N M x = true) : CompOk X scope x M := by
 unfold compOkB at h
 simp only [Bool.and_eq_true, List.all_eq_true, decide_eq_true_eq] at h
 obtain ⟨⟨⟨⟨⟨⟨h1, h2⟩, h3⟩, h4⟩, h5⟩, h6⟩, h7⟩ := h
 refine ⟨hk, h1, h2, h3, h4, fun y hy => h5 _ hy rfl, h6, fun j y e q => ?_⟩
 have hj : j < M.length := (List.getElem?_eq_some_iff.mp e).1
 have hj2 : j < X.N.length := by omega
 have z : (M.zip X.N)[j]? = some (y, X.N[j]) := by rw [List.getElem?_zip_eq_some]; exact ⟨e, by simp [hj2]⟩
 have r := h7 _ (List.mem_of_getElem? z) q
 exact ⟨by rw [List.getElem?_eq_getElem hj2]; exact congrArg some r.1.symm, r.2⟩
section
variable {X : Cx} {scope : Scope} {x : Str} {M : List Str} {pins : List (Addr × Obj)} {σ : St} {H₂ : Hp} {s₂ : Shared}
theorem CompOk.cl_of {y : Str} {c : Addr} (h : (clOf X.env scope.names []).lookup y = some c) : X.env.cells.lookup y = some c := by
 rcases clOf_mem (PySem.mem_of_lookup h) with q | q
 · cases q
 · exact q
theorem CompOk.cl_has (K : CompOk X scope x M) (ok : X.Ok) {y : Str} (h : (y, NameKind.free) ∈ scope.names) : ∃ c, (clOf X.env scope.names []).lookup y = some c ∧ X.env.cells.lookup y = some c := by
 have e1 : ∃ c, X.env.cells.lookup y = some c := ok.has y (K.free y h)
 obtain ⟨c, hc⟩ := clOf_has (env := X.env) (ns := scope.names) (cs := []) (y := y) (.inr ⟨h, e1⟩)
 have q : ∃ c, (clOf X.env scope.names []).lookup y = some c := by
   cases e : (clOf X.env scope.names []).lookup y with
   | some c => exact ⟨c, rfl⟩
   | none =>
     rw [List.lookup_eq_none_iff] at e
     have := e _ hc
     simp at this
 obtain ⟨c', hc'⟩ := q
 exact ⟨c', hc', CompOk.cl_of hc'⟩
theorem CompOk.closure (K : CompOk X scope x M) (ok : X.Ok) : closureFor scope X.env = pure (clOf X.env scope.names []) :=
 closure_eq fun y hy => by obtain ⟨c, _, q⟩ := K.cl_has ok hy; exact ⟨c, q⟩
theorem inv_comp (K : CompOk X scope x M) (I : Inv X pins σ H₂ s₂) {fp : List Addr} (hf : ∀ b ∈ fp, FpOk X pins H₂ b) (hfl : ∀ b ∈ fp, b < s₂.heap.objs.size) {C : Addr} (hC : s₂.heap.objs.size ≤ C) {h₁ : Heap} {t : Nat} {m : Str → Option Value} (hn : h₁.Ns C m)
   (hk : ∀ b o, s₂.heap.get? b = some o → h₁.get? b = some o) : Inv (compCx X scope C x M s₂ H₂ fp) [] (none :: σ) H₂ { s₂ with heap := h₁, toks := t } := by
 have lt : ∀ {b : Addr} {o : Obj}, s₂.heap.get? b = some o → b ≠ C := fun {b o} e z => by subst z; exact absurd (Nat.lt_of_lt_of_le (Heap.lt_size e) hC) (Nat.lt_irrefl _)
 have cC : ∀ y c, (clOf X.env scope.names []).lookup y = some c → c ≠ C := fun y c e => by
   obtain ⟨v, o, ho, _⟩ := I.cell y c (CompOk.cl_of e)
   exact lt ho
 have sub : ∀ b ∈ frs X.stack, b = X.env.locals ∨ b ∈ X.fs := fun b hb => List.mem_cons.mp (I.stkSub b hb)
 have ok : (compCx X scope C x M s₂ H₂ fp).Ok := by
   refine ⟨I.ok.mod, K.kind, I.ok.glob, I.ok.blt, hC, fun y z c h1 h2 => ?_, fun y hy => ?_, fun y c z => ?_, I.ok.hd, I.ok.frames, .inl rfl, fun b hb => ⟨?_, fun y c e => ?_⟩, I.bs, Nat.le_trans I.ok.bsz I.sz, fun b o e hb => ?_, fun b hb hb2 => ?_, I.stack, I.stkFree⟩
   · exact I.ok.inj y z c (CompOk.cl_of h1) (CompOk.cl_of h2)
   · have hy' : (relabel scope X.env).names.lookup y = some .cell ∨ (relabel scope X.env).names.lookup y = some .free := hy
     have q : (y, NameKind.free) ∈ scope.names := by
       unfold relabel at hy'
       rw [xA] at hy'
       cases e : scope.names.lookup y with
       | none => rw [e] at hy'; simp at hy'
       | some k =>
         have hm := PySem.mem_of_lookup e
         cases k with
         | free => exact hm
         | cell => exact absurd rfl (K.cell _ hm)
         | _ => rw [e] at hy'; simp at hy'
     obtain ⟨c, q, _⟩ := K.cl_has I.ok q
     exact ⟨c, q⟩
   · exact Bool.noConfusion (show false = true from z)
   · intro z
     have z' : b = C := z
     subst z'
     exact absurd (Nat.lt_of_lt_of_le (hfl b hb) hC) (Nat.lt_irrefl _)
   · exact (hf b hb).2.2.2.2.1 y c (CompOk.cl_of e)
   · have q := (hf b hb).2.2.2.1
     rcases q with q | q
     · exact I.ok.noex b o e q
     · exact absurd (Nat.lt_of_lt_of_le (Heap.lt_size (I.ok.bs b o e).1) q) (Nat.lt_irrefl _)
   · rcases sub b hb2 with z | z
     · exact (hf b hb).2.1 z
     · exact (hf b hb).2.2.1 z
 refine ⟨ok, rfl, I.bare, Un.kept hk, ⟨m, hn, fun i y v e1 e2 e3 => ?_⟩, fun y c e => ?_, ?_, fun y c e => ?_, fun p hp => absurd (show p ∈ ([] : List (Addr × Obj)) from hp) (by simp), I.hok.kept hk, ?_⟩
 · cases i with
   | zero =>
     have e2' : some (none : Option V) = some (some v) := e2
     cases e2'
   | succ j =>
     have e1' : M[j]? = some y := e1
     have e2' : σ[j]? = some (some v) := e2
     have e3' : (relabel scope X.env).names.lookup y = some .local ∨ (relabel scope X.env).names.lookup y = some .cell ∨ (relabel scope X.env).names.lookup y = some .free := e3
     have q : scope.names.lookup y = some .local ∨ scope.names.lookup y = some .free := by
       unfold relabel at e3'
       rw [xA] at e3'
       cases e : scope.names.lookup y with
       | none => rw [e] at e3'; simp at e3'
       | some k =>
         have hm := PySem.mem_of_lookup e
         cases k with
         | free => exact .inr rfl
         | «local» => exact .inl rfl
         | cell => exact absurd rfl (K.cell _ hm)
         | _ => rw [e] at e3'; simp at e3'
     obtain ⟨nj, fr⟩ := K.sub j y e1' q
     have hm := PySem.mem_of_lookup fr
     have kd := K.free y hm
     have vs : Vis X.env.scope y := .inr kd
     obtain ⟨mo, _, lo⟩ := I.loc
     obtain ⟨u, r, l⟩ := lo j y v nj e2' vs
     refine ⟨u, r, .inr ⟨?_, ?_⟩⟩
     · show (relabel scope X.env).names.lookup y = some .cell ∨ (relabel scope X.env).names.lookup y = some .free
       unfold relabel
       rw [xA, fr]
       simp only [Option.map_some]
       split
       · exact .inl rfl
       · exact .inr rfl
     · obtain ⟨c, q1, q2⟩ := K.cl_has I.ok hm
       rcases l with ⟨k, _⟩ | ⟨_, c', q3, z⟩
       · have k' : X.env.scope.names.lookup y = some .local := k
         rcases kd with kd | kd <;> · rw [k'] at kd; cases kd
       · rw [q2] at q3
         cases q3
         obtain ⟨oc, ho, hd⟩ := z
         exact ⟨c, q1, oc, hk _ _ ho, hd⟩
 · obtain ⟨v, oc, ho, hd⟩ := I.cell y c (CompOk.cl_of e)
   exact ⟨v, oc, hk _ _ ho, hd⟩
 · exact I.hok.fresh hC
 · exact I.freeC y c (CompOk.cl_of e)
 · show (none :: σ).length = (x :: M).length
   rw [List.length_cons, List.length_cons, K.len, I.len]
end
end L2
namespace L2
open PySem PySem.Spec PyProof.Rows PySem.Calls
def tComp (wi : TI) (te : TE) : TE := fun σ H Q => wi σ H fun J H1 => ∃ (n : Nat) (W : Nat → List V → Hp → Prop), n ≤ sizeLine ∧ W 0 [] H1 ∧ ∀ i ys H, i ≤ n → ys.length = i → W i ys H →
 (J.stop i H ∧ ∀ p, H p = none → Q (.ref p) (upd H p (.lst ys))) ∨ (J.go i H ∧ i < n ∧ ∀ x H', J.yld i H x H' → te (some x :: σ) H' fun v H'' => W (i + 1) (ys ++ [v]) H'')
section
variable {X : Cx} {scope : Scope} {x : Str} {M : List Str} {pins : List (Addr × Obj)} {σ : St} {H₂ : Hp} {s₂ : Shared} {elt iter : Expr} {px pos : Pos} {te : TE} {wi : TI}
theorem comp_block (K : CompOk X scope x M) (hc : X.calm = true) (I : Inv X pins σ H₂ s₂) (he : ∀ (C : Addr) (s₂ : Shared) (H₂ : Hp) (fp : List Addr), PE (compCx X scope C x M s₂ H₂ fp) elt te)
   {it : Addr} {fp : List Addr} {tn : Nat → Heap → Prop} {J : It} (T : Turn X.prog X.w X.K (.Name x px) J fp it tn) (st : tn 0 s₂.heap) (hf : ∀ b ∈ fp, FpOk X pins H₂ b) {n : Nat} (hsz : n ≤ sizeLine) {W : Nat → List V → Hp → Prop} {F : List V → Hp → Prop}
   (w0 : W 0 [] H₂) (turn : ∀ i ys H, i ≤ n → ys.length = i → W i ys H → (J.stop i H ∧ F ys H) ∨ (J.go i H ∧ i < n ∧ ∀ x H', J.yld i H x H' → te (some x :: σ) H' fun v H'' => W (i + 1) (ys ++ [v]) H''))
   {E : Value → Shared → Prop} {RR : Value → Addr → Result → Shared → Prop}
   (hRR : ∀ (D C : Addr) (s' : Shared) (H' : Hp) (ys : List V) (m : Str → Option Value), Inv X pins σ (upd H' D (.lst ys)) s' → H' D = none → FpOk X pins (upd H' D (.lst ys)) C → s'.heap.Ns C m → F ys H' → RR (.ref D) C (.ok .next) s') :
   wpAny (model X.prog X.w) X.A (newList []) (fun acc s₃ => wpAny (model X.prog X.w) X.A (newFunctionEnv scope X.env.globals (clOf X.env scope.names []) [] X.env.qual none .none (some X.env)) (fun cenv s₄ =>
     codeAny (model X.prog X.w) X.A (.compStart (.ListComp elt [⟨.Name x px, iter, [], 0⟩] scope pos) 0 (.ref it) acc { cenv with scope := relabel scope X.env }) (RR acc cenv.locals) s₄) E s₃) E s₂ := by
 refine wpAny_newObj_type (wpAny_newFunctionEnv K.cell (by intro y hy; simp at hy) (fun h₁ hns₁ hsb₁ => ?_) K.kind)
 dsimp only at hns₁ hsb₁ ⊢
 generalize hH2 : s₂.heap.push { cls := .type "list", dict := none, data := .seq ([] : List Value).toArray } = H2 at hns₁ hsb₁ ⊢
 have hC : H2.objs.size = s₂.heap.objs.size + 1 := by rw [← hH2, Heap.size_push]
 have hDC : s₂.heap.objs.size ≠ H2.objs.size := by rw [hC]; exact Nat.ne_of_lt (Nat.lt_succ_self _)
 have below : ∀ b, b < s₂.heap.objs.size → b ≠ H2.objs.size ∧ b ≠ s₂.heap.objs.size := fun b hb => ⟨by rw [hC]; exact Nat.ne_of_lt (Nat.lt_succ_of_lt hb), Nat.ne_of_lt hb⟩
 have hfl : ∀ b ∈ fp, b < s₂.heap.objs.size := fun b hb => by obtain ⟨o, e, _⟩ := T.obj _ _ st b hb; exact Heap.lt_size e
 have old : ∀ b o, s₂.heap.get? b = some o → h₁.get? b = some o := fun b o e => hsb₁.extBut b o (below b (Heap.lt_size e)).1 (Heap.get?_push_of_some _ (hH2 ▸ Heap.get?_push_of_some _ e))
 have hacc : h₁.get? s₂.heap.objs.size = some { cls := .type "list", data := .seq ([] : List Value).toArray 0 } := hsb₁.extBut _ _ hDC (Heap.get?_push_of_some _ (hH2 ▸ Heap.get?_push_size _ rfl))
 generalize hCC : H2.objs.size = C at *
 generalize hDD : s₂.heap.objs.size = D at *
 have hCle : s₂.heap.objs.size ≤ C := by rw [hDD, hC]; exact Nat.le_succ _
 have st₁ : tn 0 h₁ := T.keep _ _ _ st fun b _ o e => old b o e
 have I₁ := inv_comp (t := s₂.toks + ([] : List (Str × Value)).length) K I hf (fun b hb => by rw [hDD]; exact hfl b hb) hCle hns₁ old
 generalize hX' : compCx X scope C x M s₂ H₂ fp = X' at I₁
 have eX : X'.prog = X.prog ∧ X'.w = X.w ∧ X'.K = X.K ∧ X'.calm = true ∧ X'.A = X.A ∧ X'.ex = fp ∧ X'.env = compEnvC scope (clOf X.env scope.names []) C X.env ∧ X'.s₀ = s₂ ∧ X'.pn = [] := by
   subst hX'; exact ⟨rfl, rfl, rfl, hc, rfl, rfl, rfl, rfl, rfl⟩
 obtain ⟨eP, ew, eK, ec, eA, eex, eenv, es0, epn⟩ := eX
 have eL : X'.env.locals = C := by rw [eenv]; rfl
 have cells' : ∀ y c, X'.env.cells.lookup y = some c → X.env.cells.lookup y = some c := fun y c e => by rw [eenv] at e; exact CompOk.cl_of e
 have efs : X'.fs = frs X.stack := by subst hX'; rfl
 have fsub : ∀ b ∈ X'.fs, b = X.env.locals ∨ b ∈ X.fs := fun b hb => List.mem_cons.mp (I.stkSub b (by rw [← efs]; exact hb))
 have fpok : ∀ {pn : List (Addr × Obj)} {H' : Hp}, (∀ p ∈ pn, p.1 = D) → (∀ b ∈ fp, H' b = none) → ∀ b ∈ fp, FpOk X' pn H' b := fun {pn H'} hp hn b hb => by
   refine ⟨hn b hb, ?_, fun z => ?_, .inl (by rw [eex]; exact hb), fun y c e => (hf b hb).2.2.2.2.1 y c (cells' y c e), fun p hq => ?_⟩
   · rw [eL]; exact (below b (hfl b hb)).1
   · rcases fsub b z with q | q
     · exact (hf b hb).2.1 q
     · exact (hf b hb).2.2.1 q
   · rw [epn, List.nil_append] at hq
     rw [hp p hq]; exact Ne.symm (below b (hfl b hb)).2
 have Dfp : D ∉ fp := fun z => Nat.lt_irrefl _ (hfl D z)
 have ltL : X.env.locals < D := by have := I.lt; rw [hDD] at this; exact this
 have ltF : ∀ b ∈ X.fs, b < D := fun b hb => Nat.lt_of_not_le fun z => I.nofs (a := b) (by rw [hDD]; exact z) hb
 have newok : ∀ {b : Addr} {pn : List (Addr × Obj)} {H' : Hp}, D ≤ b → b ≠ C → H' b = none → (∀ p ∈ pn, p.1 ≠ b) → FpOk X' pn H' b := fun {b pn H'} hb hbC hn hp => by
   refine ⟨hn, by rw [eL]; exact hbC, fun z => ?_, .inr (by rw [es0, hDD]; exact hb), fun y c e => ?_, fun p hq => ?_⟩
   · rcases fsub b z with q | q
     · rw [q] at hb; exact absurd (Nat.lt_of_lt_of_le ltL hb) (Nat.lt_irrefl _)
     · exact absurd (Nat.lt_of_lt_of_le (ltF b q) hb) (Nat.lt_irrefl _)
   · obtain ⟨v, o, ho, _⟩ := I.cell y c (cells' y c e)
     have := Heap.lt_size ho
     rw [hDD] at this
     exact Nat.ne_of_lt (Nat.lt_of_lt_of_le this hb)
   · rw [epn, List.nil_append] at hq
     exact hp p hq
 have outer : ∀ {σ' : St} {H' : Hp} {s' : Shared} {pn : List (Addr × Obj)}, Inv X' pn σ' H' s' → Inv X pins σ H' s' := fun {σ' H' s' pn} J' => by
   subst hX'
   refine I.call' (ch := fp) J'.os J'.base J'.hok J'.bare fun b hb => ?_
   obtain ⟨f0, f1, f2, f3, f4, f5⟩ := hf b hb
   exact ⟨f3, f1, f4, f5⟩
 have outok : ∀ {b : Addr} {H' : Hp}, D ≤ b → H' b = none → FpOk X pins H' b := fun {b H'} hb hn => by
   have q := I.fpOk (H' := H') (b := b) (by rw [hDD]; exact hb) hn
   exact q
 have loop : ∀ s₃ : Shared, s₃ = { s₂ with heap := h₁, toks := s₂.toks + ([] : List (Str × Value)).length } →
     codeAny (model X.prog X.w) X.A (.compLoop (.ListComp elt [⟨.Name x px, iter, [], 0⟩] scope pos) 0 (.ref it) (.ref D) (compEnvC scope (clOf X.env scope.names []) C X.env)) (RR (.ref D) C) s₃ := by
   rintro s₃ rfl
   refine compLoop_go (fun k s' => ∃ (i : Nat) (ys : List V) (its : List Value) (σ0 : Option V) (H' : Hp), i ≤ n ∧ k = n + 1 - i ∧ ys.length = i ∧ Inv X' [] (σ0 :: σ) H' s' ∧ tn i s'.heap ∧ (∀ b ∈ fp, H' b = none) ∧ H' D = none ∧ Vals ys its ∧
     (∃ c, s'.heap.get? D = some { cls := .type "list", data := .seq its.toArray c }) ∧ W i ys H') ?_ (n + 1) ⟨0, [], [], none, H₂, Nat.zero_le _, rfl, rfl, I₁, st₁, fun b hb => (hf b hb).1, by rw [← hDD]; exact I.hok.fresh (Nat.le_refl _), .nil, ⟨0, hacc⟩, w0⟩
   rintro k s' ⟨i, ys, its, σ0, H', hi, rfl, hyl, I', st', fr', hD', rv, ⟨c, hobj⟩, w'⟩
   have hx0 : X'.N[0]? = some x := by subst hX'; rfl
   have hxl : X'.env.scope.names.lookup x = some .local := by rw [eenv]; exact lookup_relabel_local K.loc
   have hNd : X'.N.Nodup := by subst hX'; exact K.nd
   rcases turn i ys H' hi hyl w' with ⟨stop, fin⟩ | ⟨go, hlt, step⟩
   · have pinD : Inv X' [(D, { cls := .type "list", data := .seq its.toArray c })] (σ0 :: σ) H' s' := I'.pins_of fun p hp => by
       obtain rfl : p = (D, { cls := .type "list", data := .seq its.toArray c }) := by simpa using hp
       refine ⟨hobj, hD', ?_, ?_, fun v z => nomatch z⟩
       · rw [eL]; exact hDC
       · intro z
         rcases fsub D z with q | q
         · rw [q] at ltL; exact Nat.lt_irrefl _ ltL
         · exact Nat.lt_irrefl _ (ltF D q)
     have q := T.done X' eP ew eK ec i _ s' (σ0 :: σ) H' (notedBy (model X.prog X.w) X.A (compEnvC scope (clOf X.env scope.names []) C X.env) fun e s' => RR (.ref D) C (.error e) s') pinD (fpok (fun p hp => by obtain rfl : p = (D, { cls := .type "list", data := .seq its.toArray c }) := (by simpa using hp); rfl) fr') st' stop
     rw [eA] at q
     refine wpAny_mono q (fun r s4 ⟨hr, I4⟩ => ?_) fun _ _ z => z
     subst hr
     obtain ⟨e4, n4, _⟩ := I4.pin (D, { cls := .type "list", data := .seq its.toArray c }) (List.mem_append_right _ (by simp))
     have O4 := outer I4
     obtain ⟨m4, ns4, _⟩ := I4.loc
     rw [eL] at ns4
     refine hRR D C s4 H' ys m4 (O4.track (outok (Nat.le_refl _) n4) (Nat.le_trans I.sz (by rw [hDD]; exact Nat.le_refl _)) ⟨by rw [hyl]; exact Nat.le_trans hi hsz, its, c, rv, e4⟩) n4 (outok (by rw [hC]; exact Nat.le_succ _) ?_) ns4 fin
     rw [zJ (Ne.symm hDC)]
     have := I4.free
     rw [eL] at this
     exact this
   · have pinD : Inv X' [(D, { cls := .type "list", data := .seq its.toArray c })] (σ0 :: σ) H' s' := I'.pins_of fun p hp => by
       obtain rfl : p = (D, { cls := .type "list", data := .seq its.toArray c }) := by simpa using hp
       refine ⟨hobj, hD', ?_, ?_, fun v z => nomatch z⟩
       · rw [eL]; exact hDC
       · intro z
         rcases fsub D z with q | q
         · rw [q] at ltL; exact Nat.lt_irrefl _ ltL
         · exact Nat.lt_irrefl _ (ltF D q)
     have pd : ∀ p ∈ [(D, ({ cls := .type "list", data := .seq its.toArray c } : Obj))], p.1 = D := fun p hp => by obtain rfl : p = (D, { cls := .type "list", data := .seq its.toArray c }) := (by simpa using hp); rfl
     have q := T.item X' eP ew eK ec i _ s' (σ0 :: σ) H' (notedBy (model X.prog X.w) X.A (compEnvC scope (clOf X.env scope.names []) C X.env) fun e s' => RR (.ref D) C (.error e) s') pinD (fpok pd fr') st' go
     rw [eA] at q
     refine wpAny_mono q (fun r s4 ⟨u, hr, h4⟩ => ?_) fun _ _ z => z
     subst hr
     refine wpAny_mono h4 (fun _ s5 ⟨xv, H5, I5, r5, y5, st5, fr5⟩ => ?_) fun _ _ z => z
     have I5' := I5.pinned (fpok pd fr5) (T.obj _ _ st5)
     refine wpAny_assign_Name ?_
     rw [← eenv]
     refine store_ok I5' hNd hx0 (.inl hxl) r5 (fun s6 I6 => ?_) (.inr hxl)
     have te6 := step xv H5 y5
     have q6 := (he C s₂ H₂ fp) (([(D, ({ cls := .type "list", data := .seq its.toArray c } : Obj))]) ++ pinsAt fp s5.heap) s6 (some xv :: σ) H5 (fun v H'' => W (i + 1) (ys ++ [v]) H'') (by rw [hX']; exact I6) te6
     rw [hX', eP, ew, eA] at q6
     refine wpAny_mono q6 (fun u7 s7 ⟨v7, H7, I7, r7, w7⟩ => ?_) (fun _ _ z => by subst hX'; exact (show False from z).elim)
     obtain ⟨e7, n7, _⟩ := I7.pin (D, { cls := .type "list", data := .seq its.toArray c }) (List.mem_append_right _ (List.mem_append_left _ (by simp)))
     refine append_at (hsz := by rw [List.size_toArray, ← rv.length, hyl]; exact Nat.le_trans hi hsz) e7 fun h8 sb8 g8 => ?_
     have I8 : Inv X' [] (some xv :: σ) H7 { s7 with heap := h8, toks := s7.toks } := (I7.pins_of (pins' := []) fun p hp => absurd hp (by simp)).turned (t' := s7.toks) (it := D) (fun b o hb e => (sb8.2 b hb).trans e) n7 (by rw [eL]; exact hDC) (.inr (by rw [es0, hDD]; exact Nat.le_refl _))
       (newok (H' := H7) (pn := []) (Nat.le_refl _) hDC n7 (fun p hp => absurd hp (by simp))).2.2.2.2.1 (fun p hp => by rw [epn] at hp; exact absurd hp (by simp))
     refine ⟨n + 1 - (i + 1), by omega, i + 1, ys ++ [v7], its ++ [u7], some xv, H7, hlt, rfl, by rw [List.length_append, List.length_singleton, hyl], I8, ?_, fun b hb => ?_, n7, rv.append (.cons r7 .nil), ⟨c + 1, ?_⟩, w7⟩
     · refine T.keep _ _ _ st5 fun b hb o e => ?_
       have e' := (I7.pin (b, o) (List.mem_append_right _ (List.mem_append_right _ (yB hb e)))).1
       exact (sb8.2 b (fun z => Dfp (z ▸ hb))).trans e'
     · obtain ⟨o, e, d⟩ := T.obj _ _ st5 b hb
       exact (I7.pin (b, o) (List.mem_append_right _ (List.mem_append_right _ (yB hb e)))).2.1
     · rw [g8, List.push_toArray]
 exact codeAny_compStart_list (loop _ rfl) (T.self X.A 0 _ _ _ st₁ (loop _ rfl))
theorem pe_comp (K : CompOk X scope x M) (hc : X.calm = true) (hi : PI X (.Name x px) iter wi) (he : ∀ (C : Addr) (s₂ : Shared) (H₂ : Hp) (fp : List Addr), PE (compCx X scope C x M s₂ H₂ fp) elt te)
   (hs : ∀ x, foldedSetIterable iter X.env x = pure x := by intro _; rfl) : PE X (.ListComp elt [⟨.Name x px, iter, [], 0⟩] scope pos) (tComp wi te) := by
 intro pins s σ H Q I h
 rw [eval_ListComp]
 refine wpAny_comprehension_free (use := none) rfl hs (K.closure I.ok) K.kind K.names (thn (hi pins s σ H _ I h) fun v s1 h1 => thn h1 fun itv s2 h2 => ?_)
 obtain ⟨it, fp, tn, J, H2, e, I2, T, st2, f2, n, W, hsz, w0, turn⟩ := h2
 subst e
 refine comp_block (RR := fun acc C => compPost (model X.prog X.w) X.A X.xe none (EP X pins σ Q) acc C) K hc I2 he T st2 f2 hsz (F := fun ys H => ∀ p, H p = none → Q (.ref p) (upd H p (.lst ys))) w0 turn ?_
 intro D C s' H' ys m I' n' fC ns fin
 refine ⟨m, ns, fun h' sb => ?_⟩
 obtain ⟨f0, f1, f2, f3, f4, f5⟩ := fC
 exact ⟨.ref D, _, I'.turned (t' := s'.toks) (it := C) (fun b o hb e => (sb.2 b hb).trans e) f0 f1 f3 f4 f5, rfl, fin D n'⟩
theorem ps_comp {i : Nat} {y : Str} {spos py : Pos} (hN : X.N.Nodup) (hy : X.N[i]? = some y) (hl : Loc X.env.scope y) (K : CompOk X scope x M) (hc : X.calm = true) (hi : PI X (.Name x px) iter wi) (he : ∀ (C : Addr) (s₂ : Shared) (H₂ : Hp) (fp : List Addr), PE (compCx X scope C x M s₂ H₂ fp) elt te)
   (hsw : swapsWith (.ListComp elt [⟨.Name x px, iter, [], 0⟩] scope pos) (some (.Name y py)) spos.line X.env = pure true := by rfl)
   (hs : ∀ x, foldedSetIterable iter X.env x = pure x := by intro _; rfl) (hf : X.fn y = true ∨ X.env.scope.names.lookup y = some .local := by first | exact .inl rfl | exact .inr rfl | assumption) :
   PS X (.Assign [.Name y py] (.ListComp elt [⟨.Name x px, iter, [], 0⟩] scope pos) spos) (tAsg (tComp wi te) (gName i)) := by
 intro pins s σ H Dn I h
 rw [exec_Assign_Name_used _ _ _ _ hsw]
 refine wpAny_bind (wpAny_standAt (wpAny_bind ?_))
 show wpAny _ X.A (do let _ ← comprehension (.ListComp elt [⟨.Name x px, iter, [], 0⟩] scope pos) scope X.env _ (newList []) false (eval iter X.env) (some (assign (.Name y py) X.env))) _ _ s
 refine wpAny_bind (thn (wpAny_comprehension_free (use := some (assign (.Name y py) X.env)) (Q := fun _ s' => SP X pins Dn .next s') rfl hs (K.closure I.ok) K.kind K.names (thn (hi pins s σ H _ I h) fun v s1 h1 => thn h1 fun itv s2 h2 => ?_)) fun _ s' hq => wpAny_pure (wpAny_pure hq))
 obtain ⟨it, fp, tn, J, H2, e, I2, T, st2, f2, n, W, hsz, w0, turn⟩ := h2
 subst e
 refine comp_block (RR := fun acc C => compPost (model X.prog X.w) X.A X.xe (some (assign (.Name y py) X.env)) (fun _ s' => SP X pins Dn .next s') acc C) K hc I2 he T st2 f2 hsz (F := fun ys H => ∀ p, H p = none → Dn.nx (σ.set i (some (.ref p))) (upd H p (.lst ys))) w0 turn ?_
 intro D C s' H' ys m I' n' fC ns fin
 refine wpAny_assign_Name (store_ok2 (v := .ref D) I' hN hy hl rfl (fun s'' I'' ch => ?_) hf)
 obtain ⟨f0, f1, f2, f3, f4, f5⟩ := fC
 obtain ⟨a, sb1, ha⟩ := ch
 have hCa : C ≠ a := by
   rcases ha with z | z
   · rw [z]; exact f1
   · exact Ne.symm (f4 y a z)
 refine ⟨m, ns.sameBut sb1 hCa, fun h' sb => ?_⟩
 exact ⟨_, _, I''.turned (t' := s''.toks) (it := C) (fun b o hb e => (sb.2 b hb).trans e) f0 f1 f3 f4 f5, fin D n'⟩
end
end L2
namespace L2
open PySem PySem.Spec PyProof.Rows PySem.Calls
def S (l : List Nat) : Str := ⟨l.toArray⟩
abbrev cd (x : Str) : List Nat := x.cps.toList
theorem cd_S (l : List Nat) : cd (S l) = l := rfl
theorem S_cd (x : Str) : S (cd x) = x := by cases x; rfl
theorem cd_inj {x y : Str} (h : cd x = cd y) : x = y := by rw [← S_cd x, ← S_cd y, h]
theorem len_S (l : List Nat) : (S l).length = l.length := by show l.toArray.size = _; simp
theorem len_cd (x : Str) : x.length = (cd x).length := by show x.cps.size = _; simp
theorem S_app (a b : List Nat) : S a ++ S b = S (a ++ b) := by
 show (⟨a.toArray ++ b.toArray⟩ : Str) = ⟨(a ++ b).toArray⟩
 simp
theorem cd_app (x y : Str) : cd (x ++ y) = cd x ++ cd y := by
 show (x.cps ++ y.cps).toList = _
 simp
section
variable {X : Cx} {tg : Expr}
end
theorem comp_range {lo : Int} {n : Nat} {te : TE} {σ : St} {H : Hp} {Q : VK} (hz : n ≤ sizeLine) (W : Nat → List V → Hp → Prop) (h0 : W 0 [] H)
   (hs : ∀ i ys H, i < n → ys.length = i → W i ys H → te (some (.int (lo + i)) :: σ) H fun v H' => W (i + 1) (ys ++ [v]) H')
   (hd : ∀ ys H, ys.length = n → W n ys H → ∀ p, H p = none → Q (.ref p) (upd H p (.lst ys))) :
   ∃ (m : Nat) (W : Nat → List V → Hp → Prop), m ≤ sizeLine ∧ W 0 [] H ∧ ∀ i ys H, i ≤ m → ys.length = i → W i ys H →
     ((Itr lo n).stop i H ∧ ∀ p, H p = none → Q (.ref p) (upd H p (.lst ys))) ∨ ((Itr lo n).go i H ∧ i < m ∧ ∀ v H', (Itr lo n).yld i H v H' → te (some v :: σ) H' fun v H'' => W (i + 1) (ys ++ [v]) H'') := by
 refine ⟨n, W, hz, h0, fun i ys H hi hl hw => ?_⟩
 by_cases hlt : i < n
 · refine .inr ⟨hlt, hlt, fun v H' y => ?_⟩
   obtain ⟨e, y⟩ := y
   subst e y
   exact hs i ys _ hlt hl hw
 · have e : i = n := by omega
   subst e
   exact .inl ⟨Nat.le_refl _, hd ys H hl hw⟩
theorem comp_list {K : PySem.W.Frag} {a : Addr} {xs : List V} {te : TE} {σ : St} {H : Hp} {Q : VK} (hz : xs.length ≤ sizeLine) (W : Nat → List V → Hp → Prop) (h0 : W 0 [] H) (hq : ∀ i ys H, W i ys H → SqL K H a xs)
   (hs : ∀ i x ys H, xs[i]? = some x → ys.length = i → W i ys H → te (some x :: σ) H fun v H' => W (i + 1) (ys ++ [v]) H')
   (hd : ∀ ys H, ys.length = xs.length → W xs.length ys H → ∀ p, H p = none → Q (.ref p) (upd H p (.lst ys))) :
   ∃ (m : Nat) (W : Nat → List V → Hp → Prop), m ≤ sizeLine ∧ W 0 [] H ∧ ∀ i ys H, i ≤ m → ys.length = i → W i ys H →
     ((Itl K a).stop i H ∧ ∀ p, H p = none → Q (.ref p) (upd H p (.lst ys))) ∨ ((Itl K a).go i H ∧ i < m ∧ ∀ v H', (Itl K a).yld i H v H' → te (some v :: σ) H' fun v H'' => W (i + 1) (ys ++ [v]) H'') := by
 refine ⟨xs.length, W, hz, h0, fun i ys H hi hl hw => ?_⟩
 have q := hq i ys H hw
 by_cases hlt : i < xs.length
 · refine .inr ⟨⟨xs, xs[i], q, by simp [hlt]⟩, hlt, fun v H' y => ?_⟩
   obtain ⟨e, y⟩ := y
   subst e
   exact hs i v ys _ (y xs q) hl hw
 · have e : i = xs.length := by omega
   subst e
   exact .inl ⟨⟨xs, q, Nat.le_refl _⟩, hd ys H hl hw⟩
section
variable {X : Cx}
theorem strs_of {ys : List Str} : ∀ {its : List Value}, Vals (ys.map V.str) its → StrsAre its ys := by
 induction ys with
 | nil => intro its r; cases r; exact .nil
 | cons y ys ih =>
   intro its r
   cases r with
   | cons a b => obtain ⟨t, rfl⟩ := a; exact .cons _ _ (ih b)
def joinS (sep : Str) (ys : List Str) : Str := Txt.join sep ys
theorem mt_join : MtM X "str.join" (fun x vs H Q => ∃ (sep : Str) (p : Addr) (ys : List Str), x = .str sep ∧ vs = [.ref p] ∧ (SqL X.K H p (ys.map V.str) ∨ SqT X.K H p (ys.map V.str)) ∧ (ys.map (·.length)).sum + ys.length * sep.length ≤ 16777216 ∧ Q (.str (joinS sep ys)) H) := by
 intro pins s σ H x vs v us Q I rx rv h
 obtain ⟨sep, p, ys, rfl, rfl, hq, hz, q⟩ := h
 obtain ⟨t, rfl⟩ := rx
 obtain ⟨u, rfl, ru⟩ := rv.one
 cases ru
 rcases hq with hq | hq
 · obtain ⟨its, r, pl, _⟩ := I.list hq
   exact join_list pl.isList (by simpa using strs_of r) hz fun t' k => ⟨.str _, H, I.tok _, ⟨_, rfl⟩, q⟩
 · obtain ⟨its, r, pl, _⟩ := I.tuple hq
   exact join_tuple pl (by simpa using strs_of r) hz fun t' k => ⟨.str _, H, I.tok _, ⟨_, rfl⟩, q⟩
theorem yU : OpR X (binaryOp .Mult) (rI (fun i j => Builtin.Int.intBits i ≤ 60000000 ∧ Builtin.Int.intBits j ≤ 60000000) fun i j => .int (i * j)) := opI fun i j _ _ _ _ _ hc q => mul_int q (IntMulOk.of_le hc.1 hc.2 (by decide))
def cutN (xs : List Nat) (lo hi : Option Int) : List Nat := (xs.drop (HT.sIx xs.length 0 lo)).take (HT.sIx xs.length xs.length hi - HT.sIx xs.length 0 lo)
theorem pick_nat (xs : List Nat) (i k : Nat) : (List.range k).filterMap (fun m => xs[i + m]?) = (xs.drop i).take k := by
 induction k generalizing i with
 | zero => simp
 | succ k ih =>
   rw [List.range_succ_eq_map, List.filterMap_cons]
   have e : (List.map Nat.succ (List.range k)).filterMap (fun m => xs[i + m]?) = (List.range k).filterMap (fun m => xs[(i + 1) + m]?) := by
     rw [List.filterMap_map]
     congr 1
     funext m
     show xs[i + (m + 1)]? = xs[i + 1 + m]?
     congr 1; omega
   rw [e, ih (i + 1)]
   by_cases hi : i < xs.length
   · rw [Nat.add_zero, List.getElem?_eq_getElem hi, List.drop_eq_getElem_cons hi, List.take_succ_cons]
   · rw [Nat.add_zero, List.getElem?_eq_none (Nat.not_lt.mp hi), List.drop_eq_nil_of_le (Nat.not_lt.mp hi), List.drop_eq_nil_of_le (by omega)]
     simp
theorem slice_idx (lo hi : Option Int) (n : Nat) : Builtin.Str.strSliceIndices lo hi 1 n = (List.range (HT.sIx n n hi - HT.sIx n 0 lo)).map fun m => HT.sIx n 0 lo + m := by
 unfold Builtin.Str.strSliceIndices sliceRange
 have h1 : (1 : Int) > 0 := by omega
 simp only [h1, if_true, Int.ediv_one]
 have cl : ∀ (v : Int) (d : Nat), max 0 (min (if v < 0 then v + (n : Int) else v) (n : Int)) = ((HT.sIx n d (some v) : Nat) : Int) := fun v d => by
   show _ = (((if v < 0 then (v + (n : Int)).toNat else min v.toNat n) : Nat) : Int)
   by_cases hv : v < 0
   · simp only [if_pos hv]; omega
   · simp only [if_neg hv]; omega
 have fin : ∀ a b : Nat, (List.range (if (a : Int) < (b : Int) then (b : Int) - (a : Int) + 1 - 1 else 0).toNat).map (fun k : Nat => ((a : Int) + 1 * (k : Int)).toNat) = (List.range (b - a)).map fun m => a + m := fun a b => by
   have e1 : (if (a : Int) < (b : Int) then (b : Int) - (a : Int) + 1 - 1 else 0).toNat = b - a := by split <;> omega
   rw [e1]
   apply List.map_congr_left
   intro k _
   omega
 cases lo with
 | none =>
   cases hi with
   | none => exact fin 0 n
   | some v => simp only [cl v n]; exact fin 0 _
 | some u =>
   cases hi with
   | none => simp only [cl u 0]; exact fin _ n
   | some v => simp only [cl u 0, cl v n]; exact fin _ _
theorem slice_is (x : Str) (lo hi : Option Int) : Txt.slice x lo hi = S (cutN (cd x) lo hi) := by
 unfold Txt.slice
 rw [slice_idx]
 have hx : x.length = (cd x).length := len_cd x
 split
 · rename_i h
   simp only [Bool.and_eq_true, beq_iff_eq, List.length_map, List.length_range] at h
   rw [hx] at h
   have h2 := h.2
   have l1 := HT.sIx_le (cd x).length (cd x).length (Nat.le_refl _) hi
   unfold cutN
   rw [h2]
   have l0 : HT.sIx (cd x).length 0 lo = 0 ∨ (cd x).length = 0 := by omega
   rcases l0 with l0 | l0
   · rw [l0, List.drop_zero, List.take_length, S_cd]
   · have e : cd x = [] := List.eq_nil_of_length_eq_zero l0
     apply cd_inj
     rw [e]; simp [cd_S]
 · rw [List.filterMap_map]
   unfold S cutN
   congr 2
   rw [← pick_nat, hx]
   congr 1
   funext m
   show x.cps[_]? = (cd x)[_]?
   simp [cd]
theorem sl_str : SlR X (fun x lo hi H Q => ∃ z, x = .str z ∧ z.length ≤ sizeLine ∧ Q (.str (S (cutN (cd z) lo hi))) H) := by
 intro pins s σ H x v vl vu lo hi sl Q I rx hs pl pu h
 obtain ⟨z, rfl, hz, q⟩ := h
 obtain ⟨t, rfl⟩ := rx
 refine ⟨"str", _, slot_str_getitem.lookup, typeIs_str s z t, ?_⟩
 rw [← slice_is] at q
 have fin : ∀ (l u : Option (Int × Tok)), l.map (·.1) = lo → u.map (·.1) = hi → vl = partValue l → vu = partValue u → wpAny (model X.prog X.w) X.A (getItem (.str z t) (.ref sl)) (EP X pins σ Q) X.xe s := fun l u e1 e2 e3 e4 => by
   subst e3 e4
   obtain ⟨o, ho, hc, hd⟩ := hs
   subst e1 e2
   exact wpAny_getItem_str_slice (l := l) (u := u) (st := none) ⟨o, ho, hc, hd⟩ rfl (post_val_or_str ⟨Nat.le_trans (Txt.slice_le z _ _) hz, fun t' k => ⟨.str _, H, I.tok _, ⟨_, rfl⟩, q⟩⟩)
 cases pl with
 | none =>
   cases pu with
   | none => exact fin none none rfl rfl rfl rfl
   | int i t => exact fin none (some (i, t)) rfl rfl rfl rfl
 | int j t' =>
   cases pu with
   | none => exact fin (some (j, t')) none rfl rfl rfl rfl
   | int i t => exact fin (some (j, t')) (some (i, t)) rfl rfl rfl rfl
end
end L2
namespace Att
open PySem PySem.W PySem.Calls PyProof.Rows
theorem bits_of_lay {ns : List Int} (h : WData.layableAll [WData.list (ns.map WData.int)] = true) : ∀ n ∈ ns, Builtin.Int.intBits n ≤ 1048576 := by
 have h1 : (WData.list (ns.map WData.int)).layable = true := by simpa [WData.layableAll] using h
 intro n hn
 have h2 := layableW_item h1 (.int n) (List.mem_map.mpr ⟨n, hn, rfl⟩)
 have h3 := (layableW_iff.mp h2).2.2
 simpa [WData.weight, Builtin.Int.intBits] using h3
theorem attach_callB {l : OpenLaw} {n : Nat} {q : Program} {loose : List Str} {XP : (Str → Option Value) → Heap → Prop} {YP : World → Heap → Prop} {d : DefRec}
   (hn : l.most = some n) (hdf : d.params.defaults = [])
   (call : ∀ (w : World) (s₀ s₁ : Shared) (mg mb : Str → Option Value) (fa : Addr) (o : Obj) (pm cd doc : Value) (a : Addr) (vs : List Value) (ns : List Int),
     Ground q loose [] XP w s₀ mg mb s₁.heap → YP w s₁.heap →
     s₁.heap.get? fa = some o → o.data = .func (docDef d.name d.params d.body d.scope pm cd doc) → s₁.heap.CodeRec cd d.name → mg d.name = some (.ref fa) →
     s₁.heap.get? a = some { cls := .type "list", data := .seq vs.toArray } → IntsAre vs ns → ns.length ≤ n → (∀ n ∈ ns, Builtin.Int.intBits n ≤ 1048576) → s₁.gens = #[] →
     codeAny (model l.prog w) callerA (.call (.ref fa) ⟨[.ref a], []⟩) (fun r s' => r = .ok (.ret (.bool true)) ∧ OldK s₁.heap s'.heap ∧ s'.os = s₁.os ∧ AllBare s'.gens) s₁) :
   WalkO q loose XP YP l.row.toRowW d [] (fun f vs => PySem.call f vs) := by
 intro w s₀ s₁ mg mb G Y fa o pm cd doc dV kV ho hd hcd hD hmg hg args vals as hpre hlay hrd hwl hlo
 obtain rfl : dV = .none := Dflts.none hD hdf
 obtain rfl : kV = .none := Dflts.noKw hD
 obtain ⟨a, vs, ns, rfl, rfl, hobj, hints, hlen⟩ := script_of hn hpre hwl
 refine enter_call (codeAny_mono (call w s₀ s₁ mg mb fa o pm cd doc a vs ns G Y ho (fd_plain hd) hcd hmg hobj hints hlen (bits_of_lay hlay) hg) fun r s' hq => ?_)
 obtain ⟨rfl, h2, h3, h4⟩ := hq
 exact ⟨.inl ⟨.bool true, .bool true, [], rfl, fun _ => rfl, .bool true, post_true l _, fun _ => ⟨List.Pairwise.nil, fun _ hm => (nomatch hm)⟩⟩, h2, h3, h4⟩
end Att
namespace L2
open PySem PySem.Spec PyProof.Rows
theorem walk_ofB {l : PySem.W.OpenLaw} {n k : Nat} {q : Program} {loose : List Str} {XP : (Str → Option Value) → Heap → Prop} {YP : World → Heap → Prop} {d : DefRec} {K : Params → PySem.W.Frag} {CX : World → CXT} {sp : World → Sp} {x : Str}
   (hn : l.most = some n) (hn2 : n ≤ sizeLine) (hdf : d.params.defaults = []) (hr : Room k callerA)
   (hY : ∀ (w : World) (h : Heap), YP w h → (K w.params).In h)
   (F : ∀ (w : World) (mg : Str → Option Value) (fa : Addr) (h : Heap), (K w.params).In h → h.Ns mainGlobals mg → mg d.name = some (.ref fa) →
     ∃ fd : FuncData, (∀ (s : Shared) (u : Value), BindsTo s fd ⟨[u], []⟩ [(x, u)]) ∧
       ∀ base : Heap, (K w.params).In base → base.Ns mainGlobals mg → FnOk l.prog w (K w.params) mg base (CX w) k fa fd [x] (sp w))
   (hsp : ∀ (w : World) (H : Hp) (a : Addr) (ns : List Int), ns.length ≤ n → (∀ n ∈ ns, Builtin.Int.intBits n ≤ 1048576) → Only H → SqL (K w.params) H a (ns.map V.int) → sp w [.ref a] H (fun v _ => v = .bl true) fun _ _ _ => False)
   (hCX : ∀ (w : World) (H : Hp) (s : Shared) (e : Value) (s' : Shared), CX w [] H s (fun _ _ _ => False) e s' → False) :
   PySem.W.WalkO q loose XP YP l.row.toRowW d [] (fun f vs => PySem.call f vs) := by
 refine Att.attach_callB hn hdf fun w s₀ s₁ mg mb fa o pm cd doc a vs ns G Y ho hd hcd hmg hobj hints hlen hbits hg => ?_
 have KX := hY w _ Y
 obtain ⟨fd, hb, hF⟩ := F w mg fa _ KX G.T.g hmg
 exact law_call KX G.T.g G.T.b G.T.builtins G.T.nolimit hg hobj hints (Nat.le_trans hlen hn2) hr hF hb (fun H hO hS => hsp w H a ns hlen hbits hO hS) fun H e s' => hCX w H s₁ e s'
def GlobV (mg : Str → Option Value) (x : Str) (v : V) : Prop := ∃ u, mg x = some u ∧ RelV v u
theorem pe_gv {X : Cx} {x : Str} {v : V} {pos : Pos} (hg : Gl X x) (h : GlobV X.mg x v) (hd : (x == ("__debug__" : Str)) = false := by decide) : PE X (.Name x pos) (tC v) := by
 obtain ⟨u, hm, r⟩ := h
 exact pe_glob hg hm r hd
theorem SqT.mod {K : PySem.W.Frag} {a : Addr} {oc : Value} {od : Option Addr} {its : Array Value} {n : Nat} {sl : Array (Option Value)} {xs : List V} (h : K.lookup a = some ⟨oc, od, .seq its n, sl⟩) (hc : oc = .type "tuple") (hz : its.size ≤ sizeLine) (hv : Vals xs its.toList) (H : Hp) : SqT K H a xs :=
 .inr ⟨_, its, n, h, hc, rfl, hz, hv⟩
theorem Same.tup {K : PySem.W.Frag} {H H' : Hp} {a : Addr} {xs : List V} (e : Same H H') (h : SqT K H a xs) : SqT K H' a xs := by
 rcases h with (h | ⟨o, h⟩) | h
 · exact .inl (.inl (e _ _ h))
 · exact .inl (.inr ⟨o, e _ _ h⟩)
 · exact .inr h
theorem zI {H : Hp} {p : Addr} (h : H p = none) (o : HO) : Same H (upd H p o) := fun b u q => by rw [zJ (zG q h)]; exact q
namespace Bt
theorem int : bootBuiltins "int" = some (.type "int") := PyProof.Rows.boot_int
theorem bool : bootBuiltins "bool" = some (.type "bool") := PyProof.Rows.boot_bool
theorem str : bootBuiltins "str" = some (.type "str") := PyProof.Rows.boot_str
theorem list : bootBuiltins "list" = some (.type "list") := PyProof.Rows.boot_list
theorem tuple : bootBuiltins "tuple" = some (.type "tuple") := PyProof.Rows.boot_tuple
theorem dict : bootBuiltins "dict" = some (.type "dict") := PyProof.Rows.boot_dict
theorem set : bootBuiltins "set" = some (.type "set") := PyProof.Rows.boot_set
theorem isinstance : bootBuiltins "isinstance" = some (.builtin "isinstance") := PyProof.Rows.boot_isinstance
theorem all : bootBuiltins "all" = some (.builtin "all") := PyProof.Rows.boot_all
theorem abs : bootBuiltins "abs" = some (.builtin "abs") := PyProof.Rows.Boot.«abs»
end Bt
end L2
namespace L2
open PySem PySem.Spec PyProof.Rows
abbrev ib (x : Int) : Nat := Builtin.Int.intBits x
theorem ib_small {x : Int} (h1 : -(2 ^ 64) < x) (h2 : x < 2 ^ 64) : ib x ≤ 64 := intBits_le_64 h1 h2
theorem ib_big {m : Nat} {x : Int} (h : x.natAbs < 2 ^ m) : ib x ≤ m := intBits_le_iff.mpr h
theorem at_some {α : Type} {l : List α} {i : Int} (h0 : 0 ≤ i) (h1 : i < l.length) : ∃ c, atI l i = some c ∧ l[i.toNat]? = some c := by
 have hk : i.toNat < l.length := by omega
 refine ⟨l[i.toNat], ?_, List.getElem?_eq_getElem hk⟩
 have e : i = ((i.toNat : Nat) : Int) := by omega
 have q : atI l ((i.toNat : Nat) : Int) = some l[i.toNat] := atI_nat (List.getElem?_eq_getElem hk)
 rw [← e] at q
 exact q
theorem Same.ty {K : PySem.W.Frag} {H H' : Hp} {x : V} {t : Value} (e : Same H H') (h : TyOf K H x t) : TyOf K H' x t := by
 cases h with
 | non => exact .non
 | bl x => exact .bl x
 | int i => exact .int i
 | str x => exact .str x
 | flt x => exact .flt x
 | lst q => exact .lst (e _ _ q)
 | frz q => exact .frz (e _ _ q)
 | tup q => exact .tup (e _ _ q)
 | dK q => exact .dK (e _ _ q)
 | dT q => exact .dT (e _ _ q)
 | ins q a b c d f => exact .ins (e _ _ q) a b c d f
theorem zL {n m : Nat} (h : n ≤ m) (hm : m ≤ 16777216 := by decide) : n ≤ sizeLine := by rw [sizeLine_eq]; omega
structure CompR (J : It) (te : TE) (σ : St) (H1 : Hp) (Q : VK) : Prop where
 ex : ∃ (n : Nat) (W : Nat → List V → Hp → Prop), n ≤ sizeLine ∧ W 0 [] H1 ∧ ∀ i ys H, i ≤ n → ys.length = i → W i ys H →
   (J.stop i H ∧ ∀ p, H p = none → Q (.ref p) (upd H p (.lst ys))) ∨ (J.go i H ∧ i < n ∧ ∀ x H', J.yld i H x H' → te (some x :: σ) H' fun v H'' => W (i + 1) (ys ++ [v]) H'')
def tCompR (wi : TI) (te : TE) : TE := fun σ H Q => wi σ H fun J H1 => CompR J te σ H1 Q
structure ForR (J : It) (g : TG) (tb : TS) (D : Ends) (σ : St) (H1 : Hp) : Prop where
 ex : ∃ W : Nat → Nat → St → Hp → Prop, (∃ m, W 0 m σ H1) ∧ ∀ i m σ H, W i m σ H →
   (J.stop i H ∧ D.nx σ H) ∨ (J.go i H ∧ ∃ N : St → Hp → Prop, (∀ σ' H', N σ' H' → ∃ m', m' < m ∧ W (i + 1) m' σ' H') ∧ ∀ x H', J.yld i H x H' → g x σ H' fun σ2 H2 => tb { D with nx := N, ct := N, bk := D.nx } σ2 H2)
def tForR (wi : TI) (g : TG) (tb : TS) : TS := fun D σ H => wi σ H fun J H1 => ForR J g tb D σ H1
structure WhileR (c : TT) (tb : TS) (D : Ends) (σ : St) (H : Hp) : Prop where
 ex : tWhile c tb D σ H
theorem PI.weak {X : Cx} {tg iter : Expr} {wi : TI} (h : PI X tg iter wi) {pins : List (Addr × Obj)} {s : Shared} {σ : St} {H : Hp} {R R' : It → Hp → Prop} (I : Inv X pins σ H s) (hw : wi σ H R) (hR : ∀ J H1, R J H1 → R' J H1) :
   wpAny (model X.prog X.w) X.A (eval iter X.env) (fun v s1 => wpAny (model X.prog X.w) X.A (pyIter v) (PIE X pins σ tg R') X.xe s1) X.xe s := by
 refine thn (h pins s σ H R I hw) fun v s1 h1 => thn h1 fun itv s2 ⟨it, fp, tn, J, H', e, I', T, st, f, r⟩ => ?_
 exact ⟨it, fp, tn, J, H', e, I', T, st, f, hR J H' r⟩
section
variable {X : Cx} {scope : Scope} {x : Str} {M : List Str} {elt iter : Expr} {px pos : Pos} {te : TE} {wi : TI}
theorem pi_conv {tg : Expr} {wi wi' : TI} (h : PI X tg iter wi) (hw : ∀ σ H R, wi' σ H R → ∃ R0, wi σ H R0 ∧ ∀ J H1, R0 J H1 → R J H1) : PI X tg iter wi' := by
 intro pins s σ H R I q
 obtain ⟨R0, q0, hR⟩ := hw σ H R q
 exact h.weak I q0 hR
theorem pe_compR (K : CompOk X scope x M) (hc : X.calm = true) (hi : PI X (.Name x px) iter wi) (he : ∀ (C : Addr) (s₂ : Shared) (H₂ : Hp) (fp : List Addr), PE (compCx X scope C x M s₂ H₂ fp) elt te)
   (hs : ∀ x, foldedSetIterable iter X.env x = pure x := by intro _; rfl) : PE X (.ListComp elt [⟨.Name x px, iter, [], 0⟩] scope pos) (tCompR wi te) := by
 intro pins s σ H Q I h
 have q := pe_comp (pos := pos) K hc (wi := fun σ0 H0 R0 => ∃ R, wi σ0 H0 R ∧ ∀ J H1, R J H1 → R0 J H1) (pi_conv hi fun σ H R ⟨R1, a, b⟩ => ⟨R1, a, b⟩) he hs pins s σ H Q I
 exact q ⟨_, h, fun J H1 r => r.ex⟩
theorem ps_compR {i : Nat} {y : Str} {spos py : Pos} (hN : X.N.Nodup) (hy : X.N[i]? = some y) (hl : Loc X.env.scope y) (K : CompOk X scope x M) (hc : X.calm = true) (hi : PI X (.Name x px) iter wi) (he : ∀ (C : Addr) (s₂ : Shared) (H₂ : Hp) (fp : List Addr), PE (compCx X scope C x M s₂ H₂ fp) elt te)
   (hsw : swapsWith (.ListComp elt [⟨.Name x px, iter, [], 0⟩] scope pos) (some (.Name y py)) spos.line X.env = pure true := by rfl)
   (hs : ∀ x, foldedSetIterable iter X.env x = pure x := by intro _; rfl) (hf : X.fn y = true ∨ X.env.scope.names.lookup y = some .local := by first | exact .inl rfl | exact .inr rfl | assumption) :
   PS X (.Assign [.Name y py] (.ListComp elt [⟨.Name x px, iter, [], 0⟩] scope pos) spos) (tAsg (tCompR wi te) (gName i)) := by
 intro pins s σ H D I h
 have q := ps_comp (pos := pos) (spos := spos) hN hy hl K hc (wi := fun σ0 H0 R0 => ∃ R, wi σ0 H0 R ∧ ∀ J H1, R J H1 → R0 J H1) (pi_conv hi fun σ H R ⟨R1, a, b⟩ => ⟨R1, a, b⟩) he hsw hs hf pins s σ H D I
 exact q ⟨_, h, fun J H1 r => r.ex⟩
theorem yS {tg : Expr} {body : List Stmt} {g : TG} {tb : TS} (hp : PassesOwn (model X.prog X.w) X.A X.env X.xe) (hc : X.calm = true) (hi : PI X tg iter wi) (hg : PG X tg g) (hb : PSs X body tb)
   (hs : ∀ x, foldedSetIterable iter X.env x = pure x := by intro _; rfl) : PS X (.For tg iter body [] pos) (tForR wi g tb) := by
 intro pins s σ H D I h
 have q := ps_for (pos := pos) hp hc (wi := fun σ0 H0 R0 => ∃ R, wi σ0 H0 R ∧ ∀ J H1, R J H1 → R0 J H1) (pi_conv hi fun σ H R ⟨R1, a, b⟩ => ⟨R1, a, b⟩) hg hb hs pins s σ H D I
 exact q ⟨_, h, fun J H1 r => r.ex⟩
end
theorem comp_rangeR {lo : Int} {n : Nat} {te : TE} {σ : St} {H : Hp} {Q : VK} (hz : n ≤ sizeLine) (W : Nat → List V → Hp → Prop) (h0 : W 0 [] H)
   (hs : ∀ i ys H, i < n → ys.length = i → W i ys H → te (some (.int (lo + i)) :: σ) H fun v H' => W (i + 1) (ys ++ [v]) H')
   (hd : ∀ ys H, ys.length = n → W n ys H → ∀ p, H p = none → Q (.ref p) (upd H p (.lst ys))) : CompR (Itr lo n) te σ H Q := ⟨comp_range hz W h0 hs hd⟩
theorem comp_listR {K : PySem.W.Frag} {a : Addr} {xs : List V} {te : TE} {σ : St} {H : Hp} {Q : VK} (hz : xs.length ≤ sizeLine) (W : Nat → List V → Hp → Prop) (h0 : W 0 [] H) (hq : ∀ i ys H, W i ys H → SqL K H a xs)
   (hs : ∀ i x ys H, xs[i]? = some x → ys.length = i → W i ys H → te (some x :: σ) H fun v H' => W (i + 1) (ys ++ [v]) H')
   (hd : ∀ ys H, ys.length = xs.length → W xs.length ys H → ∀ p, H p = none → Q (.ref p) (upd H p (.lst ys))) : CompR (Itl K a) te σ H Q := ⟨comp_list hz W h0 hq hs hd⟩
theorem for_listR {K : PySem.W.Frag} {a : Addr} {xs : List V} {g : TG} {tb : TS} {D : Ends} {σ : St} {H : Hp} (Pv : Nat → St → Hp → Prop) (h0 : Pv 0 σ H) (hl : ∀ i σ H, i ≤ xs.length → Pv i σ H → SqL K H a xs)
   (hs : ∀ i x σ H, xs[i]? = some x → Pv i σ H → g x σ H fun σ2 H2 => tb { D with nx := Pv (i + 1), ct := Pv (i + 1), bk := D.nx } σ2 H2) (hd : ∀ σ H, Pv xs.length σ H → D.nx σ H) : ForR (Itl K a) g tb D σ H := ⟨for_list Pv h0 hl hs hd⟩
theorem for_rangeR {lo : Int} {n : Nat} {g : TG} {tb : TS} {D : Ends} {σ : St} {H : Hp} (Pv : Nat → St → Hp → Prop) (h0 : Pv 0 σ H)
   (hs : ∀ i σ H, i < n → Pv i σ H → g (.int (lo + i)) σ H fun σ2 H2 => tb { D with nx := Pv (i + 1), ct := Pv (i + 1), bk := D.nx } σ2 H2) (hd : ∀ σ H, Pv n σ H → D.nx σ H) : ForR (Itr lo n) g tb D σ H := ⟨for_range Pv h0 hs hd⟩
theorem map_get {α : Type} {f : α → V} {l : List α} {i : Nat} {x : V} (h : (l.map f)[i]? = some x) : ∃ a, l[i]? = some a ∧ x = f a := by
 rw [List.getElem?_map] at h
 cases e : l[i]? with
 | none => rw [e] at h; cases h
 | some a => rw [e] at h; exact ⟨a, rfl, (Option.some.inj h).symm⟩
theorem kit_ty {K : PySem.W.Frag} {a b : String} {r : Bool} (h : (if (Value.type a == Value.type b) = true then some true else if PySem.W.kitMeta b = true then (fastBuiltinMro a).map (·.contains (Value.type b)) else none) = some r) : PySem.W.kitOne K (.type a) (.type b) = some r := h
end L2
namespace L2
open PySem PySem.Spec PyProof.Rows PySem.Calls
def TrD (h base : Heap) (e : Addr) (cls : Value) (dct : Option Addr) (fl : Value) : Prop :=
 ∃ oe vs T oT ts, h.get? e = some oe ∧ (oe.cls = cls ∧ oe.dict = dct) ∧ oe.data = .fields vs ∧ vs[1]? = some (.ref T) ∧ base.get? T = none ∧ T ≠ e ∧ h.get? T = some oT ∧ oT.data = .fields ts ∧ ts[3]? = some fl
def FlyD (base : Heap) (l : List Env) (e : Addr) (cls : Value) (dct : Option Addr) (fl : Value) (h : Heap) : Prop :=
 base.StaysIn h ∧ base.get? e = none ∧ h.FunFrames base l ∧ TrD h base e cls dct fl
theorem FlyD.there {base h : Heap} {l : List Env} {e : Addr} {cls fl : Value} {dct : Option Addr} (x : FlyD base l e cls dct fl h) : ∃ ob, h.get? e = some ob ∧ ob.cls = cls ∧ ob.dict = dct ∧ ∃ vs, ob.data = .fields vs := by
 obtain ⟨_, _, _, oe, vs, _, _, _, he, hc, hd, _⟩ := x
 exact ⟨oe, he, hc.1, hc.2, vs, hd⟩
section
variable {M : Model} {A : Around} {E : Value → Shared → Prop} {s : Shared}
theorem FlyD.less {base h : Heap} {env : Env} {l : List Env} {e : Addr} {cls fl : Value} {dct : Option Addr} (x : FlyD base (env :: l) e cls dct fl h) : FlyD base l e cls dct fl h := by
 obtain ⟨a, b, ⟨_, _, c⟩, d⟩ := x
 exact ⟨a, b, c, d⟩
end
end L2
namespace L2
open PySem PySem.Spec PyProof.Rows PySem.Calls
structure XUn (outer : List Env) (H H' : Hp) (h B h1 : Heap) : Prop where
 keepB : ∀ b o, h.get? b = some o → H b = none → b ∉ frs outer → B.get? b = some o
 thereB : ∀ b o, h.get? b = some o → b ∉ frs outer → ∃ o', B.get? b = some o'
 slot : ∀ b o, h.get? b = some o → H b = none → b ∈ frs outer → ∃ sl, h1.get? b = some { o with slots := sl }
 free : ∀ b o, h.get? b = some o → H b = none → H' b = none
 tups : ∀ b xs, H b = some (.tup xs) → H' b = some (.tup xs)
 frzs : ∀ b o u, H b = some (.frz o u) → H' b = some (.frz o u)
 tbls : ∀ b ps, H b = some (.tbl ps) → ∃ more, H' b = some (.tbl (ps ++ more))
theorem XUn.step {outer : List Env} {H H' : Hp} {h B h1 h2 base : Heap} (x : XUn outer H H' h B h1) (fr : h1.FunFrames base outer) (up : h1.UpToSlots h2) : XUn outer H H' h B h2 :=
 ⟨x.keepB, x.thereB, fun b o e n hb => by
   obtain ⟨sl, q⟩ := x.slot b o e n hb
   obtain ⟨_, o', ho', hd'⟩ := fr.mem hb
   rw [q] at ho'; cases ho'
   obtain ⟨sl', q'⟩ := up b _ q hd'
   exact ⟨sl', q'⟩, x.free, x.tups, x.frzs, x.tbls⟩
theorem XUn.un {outer : List Env} {H H' : Hp} {h B h1 : Heap} (x : XUn outer H H' h B h1) (st : B.StaysIn h1) (fr : h1.FunFrames B outer) : Un (frs outer) [] H H' h h1 :=
 ⟨fun b o e n hb _ => st b o (x.keepB b o e n hb), fun b o e n hb _ => x.slot b o e n hb, fun b o e n _ => x.free b o e n, fun b o e _ => by
   by_cases hb : b ∈ frs outer
   · obtain ⟨_, o', ho', _⟩ := fr.mem hb
     exact ⟨o', ho'⟩
   · obtain ⟨o', q⟩ := x.thereB b o e hb
     exact ⟨o', st b o' q⟩, x.tups, x.frzs, x.tbls⟩
section
variable {P : Program} {w : World} {K : PySem.W.Frag} {mg : Str → Option Value} {base : Heap} {N : List Str} {qual : Str} {scope : Scope} {f : Addr} {cdv : Value} {A : Around} {outer : List Env} {s : Shared} {H : Hp} {E : XK}
end
section
variable {P : Program} {w : World} {K : PySem.W.Frag} {mg : Str → Option Value} {base : Heap}
end
end L2
namespace L2
open PySem PySem.Spec PyProof.Rows PySem.Calls PySem.W PySem.Builtin PySem.Builtin.ObjectAttr PySem.Builtin.Getset_descriptor
section
variable {prog : Program} {w : World} {A : Around} {E : Value → Shared → Prop} {s : Shared} {K : PySem.W.Frag} {x D : Addr}
def ClsAt (h : Heap) (x D : Addr) : Prop := ∃ o, h.get? x = some o ∧ o.cls = .ref D
theorem ClsAt.type {M : Model} {h : Heap} (p : ClsAt h x D) : Looks M h (typeOf (.ref x)) (.ref D) := by
 obtain ⟨o, e, c⟩ := p
 exact c ▸ (Looks.ld e).andThen .now
theorem looks_data {M : Model} {h : Heap} {name : Str} {a g : Value} (X : K.In h) (hf : findIn K (.ref D) name = some (some a)) (hg : specialIn K a "__get__" = some (some g)) (ht : takesIn K a = some true) : Looks M h (find (.ref x) (.ref D) name) (.bind g a) := by
 have l1 := looks_findIn (M := M) X hf
 have l2 : Looks M h (getOf (some a)) (some g) := looks_specialIn X hg
 have l3 := looks_takesIn (M := M) X ht
 refine l1.andThen (l2.andThen ?_)
 have l4 : Looks M h (dataDescriptor? (some a) (some g)) (some (g, a)) := l3.andThen .now
 exact l4.andThen (Looks.tag .now)
structure ExcCls (K : PySem.W.Frag) (D : Addr) : Prop where
 ga : findIn K (.ref D) "__getattribute__" = some (some (.builtin "BaseException.__getattribute__"))
 gk : findIn K (.ref D) "__getattr__" = some none
 cl : (clsIn K D).isSome = true
 ha : findIn K (.ref D) "__class__" = some (some (.builtin "object.__class__"))
 hn : specialIn K (.builtin "object.__class__") "__get__" = some (some (.builtin "getset_descriptor.__get__"))
 tk : takesIn K (.builtin "object.__class__") = some true
 mo : mroIn K D (.type "object") = some true
 mb : mroIn K D (.type "BaseException") = some true
theorem class_get {R : Result → Shared → Prop} (c : ExcCls K D) (X : K.In s.heap) (p : ClsAt s.heap x D) (q : R (.ok (.ret (.ref D))) s) :
   codeAny (model prog w) A (.call (.builtin "getset_descriptor.__get__") ⟨[.builtin "object.__class__", .ref x, .ref D], []⟩) R s := by
 obtain ⟨hh, g, d, t, os⟩ := s
 obtain ⟨o, eo, ec⟩ := id p
 have t0 := p.type (M := model prog w)
 have l1 := looks_mroIn (M := model prog w) X c.mo
 have arg0 := KF.args_gs (Value.builtin "object.__class__") (Value.ref x) (Value.ref D)
 refine codeAny_call_builtin KF.slot_gs.plain KF.entry_gs
   (KF.slot_gs.check _ _ _ _ _ _ _ _ KF.type_class arg0 ?_)
 unfold Builtin.«getset_descriptor.__get__»
   descrGet
 rw [dga_obj]; refine wpAny_bind (wpAny_pure ?_)
 unfold descrGetter descrCheckInstance
   descrNameAndClass isInstance
 simp only [KF.owner_class]; (repeat lk)
 refine ⟨Code.quiet_builtin _
   (by symm), codeAny_builtin KF.entry_class ?_⟩
 unfold Builtin.«object.__class__»
   shownTypeOf
 (repeat lk); exact q
theorem class_call {tk : Tok} {R : Result → Shared → Prop} (c : ExcCls K D) (X : K.In s.heap) (p : ClsAt s.heap x D) (q : R (.ok (.ret (.ref D))) s) :
   codeAny (model prog w) A (.call (.builtin "BaseException.__getattribute__") ⟨[.ref x, .str "__class__" tk], []⟩) R s := by
 obtain ⟨hh, g, d, t, os⟩ := s
 obtain ⟨o, eo, ec⟩ := id p
 have t0 := p.type (M := model prog w)
 have lb := looks_mroIn (M := model prog w) X c.mb
 have f0 := looks_data (x := x) (M := model prog w) X c.ha c.hn c.tk
 have hk : builtinKind "BaseException.__getattribute__" = some .slot := by symm
 have hsplit : splitId "BaseException.__getattribute__" = some ("BaseException", "__getattribute__") := by symm
 have ha := F.args_bexc_ga (.ref x) (.str "__class__" tk)
 refine codeAny_call_builtin F.excAttr_ValueError.ga.plain F.entry_bexc_ga ?_
 simp only [checkBuiltinCall, hk, hsplit]
 unfold isInstance
 refine wpAny_bind ?_
 (repeat (first | (with_reducible refine wpAny_call (class_get c X p ?_)) | lk))
 exact q
theorem class_of {Q : Option Value → Shared → Prop} (c : ExcCls K D) (X : K.In s.heap) (p : ClsAt s.heap x D) (q : Q (some (.ref D)) { s with toks := s.toks + 1 }) : wpAny (model prog w) A (getAttr? (.ref x) "__class__") Q E s := by
 obtain ⟨hh, g, d, t, os⟩ := s
 obtain ⟨o, eo, ec⟩ := id p
 have t0 := p.type (M := model prog w)
 have t1 := looks_findIn (M := model prog w) X c.ga
 have f1 := looks_findIn (M := model prog w) X c.gk
 have f3 := F.excAttr_ValueError.ga.bind (.ref x)
 unfold getAttr? getAttrBy? getAttrBy
 refine wpAny_bind (wpAny_mkText (wpAny_bind (wpAny_attempt (wpAny_holding (wpAny_bind (t0.at (wpAny_bind (t1.at ?_))))))))
 show wpAny _ _ (getAttrByItsOwn _ _ _ _ _ _) _ _ _
 unfold getAttrByItsOwn hookBefore
 refine wpAny_bind (f1.at (wpAny_bind (wpAny_attempt (wpAny_holding ?_))))
 show wpAny _ _ (boundAndCalled _ _ _) _ _ _
 unfold boundAndCalled
 rw [f3]
 refine wpAny_bind (wpAny_pure (wpAny_call ?_))
 refine class_call c (s := ⟨hh, g, d, t + 1, os⟩) X p ?_
 exact wpAny_pure (wpAny_pure q)
theorem kit_exc (c : ExcCls K D) : KitX K (.ref x) (.ref D) (fun h => ClsAt h x D) where
 ty := fun _ _ _ p => p.type
 it := fun _ _ X _ => by
   obtain ⟨cd, e⟩ := Option.isSome_iff_exists.mp c.cl
   unfold clsIn at e
   split at e
   · rename_i c' d' cd' sl' ho
     intro A' Q' E' s' k q
     unfold isType loadHead
     exact wpAny_bind (wpAny_loadPart (k _ _ (X _ _ ho)) (wpAny_pure q))
   · cases e
 ne := fun h tp dd its n sl X htp => by
   obtain ⟨cd, e⟩ := Option.isSome_iff_exists.mp c.cl
   refine Bool.eq_false_iff.mpr fun q => ?_
   have z : D = tp := Value.ref.inj (beq_iff_eq.mp q)
   subst z
   unfold clsIn at e
   split at e
   · rename_i c' d' cd' sl' ho
     have z := (X _ _ ho).symm.trans htp
     cases z
   · cases e
 ca := fun X p k => class_of c X p k
end
def excO (a D : Addr) : HO := .ext fun h => ClsAt h a D
def excD (a D dx : Addr) : HO := .ext fun h => ∃ o, h.get? a = some o ∧ o.cls = .ref D ∧ o.dict = some dx ∧ ∃ vs, o.data = .fields vs
inductive TyE (K : PySem.W.Frag) (H : Hp) : V → Value → Prop where
 | old {x : V} {t : Value} (h : TyOf K H x t) : TyE K H x t
 | exc {a D : Addr} (h : H a = some (excO a D)) (c : ExcCls K D) : TyE K H (.ref a) (.ref D)
 | tpl {a : Addr} {xs : List V} (h : SqT K H a xs) : TyE K H (.ref a) (.type "tuple")
 | excd {a D dx : Addr} (h : H a = some (excD a D dx)) (c : ExcCls K D) : TyE K H (.ref a) (.ref D)
def vVal : V → Value
 | .ref a => .ref a
 | .ty n => .type n
 | _ => .none
def isCls : V → Bool
 | .ref _ => true
 | .ty _ => true
 | _ => false
section
variable {X : Cx} {pins : List (Addr × Obj)} {σ : St} {H : Hp} {s : Shared} {A : Around} {E : Value → Shared → Prop} {Q : Value → Shared → Prop} {c : Value} {b : Bool}
theorem kit_of {x : V} {u t : Value} (I : Inv X pins σ H s) (rx : RelV x u) (ty : TyE X.K H x t) : (∃ P : Heap → Prop, KitX X.K u t P ∧ P s.heap) ∧ u ≠ .builtin "__main__.__loader__#opaque" := by
 cases ty with
 | @tpl a xs h =>
   cases (show u = Value.ref a from rx)
   obtain ⟨its, r, pl, hz⟩ := I.tuple h
   obtain ⟨o, h1, h2, _⟩ := pl
   exact ⟨⟨_, kitx_tuple, ⟨o, h1, h2⟩⟩, fun z => nomatch z⟩
 | old ty =>
   cases ty with
   | non => cases (show u = Value.none from rx); exact ⟨⟨_, kitx_none, True.intro⟩, fun z => nomatch z⟩
   | bl y => cases (show u = Value.bool y from rx); exact ⟨⟨_, kitx_bool, True.intro⟩, fun z => nomatch z⟩
   | int i => obtain ⟨t, q⟩ := (show ∃ t, u = Value.int i t from rx); cases q; exact ⟨⟨_, kitx_int, True.intro⟩, fun z => nomatch z⟩
   | str y => obtain ⟨t, q⟩ := (show ∃ t, u = Value.str y t from rx); cases q; exact ⟨⟨_, kitx_str, True.intro⟩, fun z => nomatch z⟩
   | flt y => obtain ⟨t, q⟩ := (show ∃ t, u = Value.float y t from rx); cases q; exact ⟨⟨_, kitx_float, True.intro⟩, fun z => nomatch z⟩
   | @lst a xs ea =>
     cases (show u = Value.ref a from rx)
     obtain ⟨_, _, n, _, h1⟩ := (show ObjOk X.prog X.w H s.heap a (.lst xs) from I.hok a _ ea)
     exact ⟨⟨_, kitx_list, ⟨_, h1, rfl⟩⟩, fun z => nomatch z⟩
   | @frz a ob xs ea =>
     cases (show u = Value.ref a from rx)
     obtain ⟨_, _, _, n, _, h1⟩ := (show ObjOk X.prog X.w H s.heap a (.frz ob (.lst xs)) from I.hok a _ ea)
     exact ⟨⟨_, kitx_list, ⟨_, h1, rfl⟩⟩, fun z => nomatch z⟩
   | @tup a xs ea =>
     cases (show u = Value.ref a from rx)
     obtain ⟨_, _, _, p⟩ := (show ObjOk X.prog X.w H s.heap a (.tup xs) from I.hok a _ ea)
     obtain ⟨o, h1, h2, _⟩ := p
     exact ⟨⟨_, kitx_tuple, ⟨o, h1, h2⟩⟩, fun z => nomatch z⟩
   | @dK a kvs ea =>
     cases (show u = Value.ref a from rx)
     obtain ⟨_, _, vs, _, p⟩ := (show ObjOk X.prog X.w H s.heap a (.dK kvs) from I.hok a _ ea)
     obtain ⟨o, es, ep, h1, h2, _⟩ := p
     exact ⟨⟨_, kitx_dict, ⟨o, h1, h2.1⟩⟩, fun z => nomatch z⟩
   | @dT a kvs ea =>
     cases (show u = Value.ref a from rx)
     obtain ⟨_, _, xs, _, o, es, ep, h1, h2, _⟩ := (show ObjOk X.prog X.w H s.heap a (.dT kvs) from I.hok a _ ea)
     exact ⟨⟨_, kitx_dict, ⟨o, h1, h2.1⟩⟩, fun z => nomatch z⟩
   | @ins a C dx fs ea cl ha hn htk hm =>
     cases (show u = Value.ref a from rx)
     obtain ⟨mA, O, _⟩ := ins_get I.hok ea
     obtain ⟨od, J, _⟩ := O.look
     exact ⟨⟨_, kitx_own (cl.get _) cl.hd ha hn htk hm, J⟩, fun z => nomatch z⟩
 | @exc a D h c =>
   cases (show u = Value.ref a from rx)
   obtain ⟨p, _⟩ := (show ObjOk X.prog X.w H s.heap a (excO a D) from I.hok a _ h)
   exact ⟨⟨_, kit_exc c, p⟩, fun z => nomatch z⟩
 | @excd a D dx h c =>
   cases (show u = Value.ref a from rx)
   obtain ⟨⟨o, e, k, _⟩, _⟩ := (show ObjOk X.prog X.w H s.heap a (excD a D dx) from I.hok a _ h)
   exact ⟨⟨_, kit_exc c, ⟨o, e, k⟩⟩, fun z => nomatch z⟩
theorem vVal_rel {x : V} {u : Value} (h : isCls x = true) (r : RelV x u) : u = vVal x := by
 cases x with
 | ref a => exact r
 | ty n => exact r
 | _ => cases h
theorem call_isi : CallR X (.builtin "isinstance") (fun xs H Q => ∃ x y t b, xs = [x, y] ∧ isCls y = true ∧ TyE X.K H x t ∧ PySem.W.kitOne X.K t (vVal y) = some b ∧ Q (.bl b) H) := by
 intro pins s σ H xs us Q I r h
 obtain ⟨x, y, t, b, rfl, hc, ty, e, q⟩ := h
 obtain ⟨u, w', rfl, rx, ry⟩ := vals2 r
 obtain rfl := vVal_rel hc ry
 obtain ⟨⟨P, Z, p⟩, nb⟩ := kit_of I rx ty
 exact kia_one Z I.kIn p e nb fun tk => ⟨.bl b, H, I.tok _, rfl, q⟩
end
end L2
namespace L2
open PySem PySem.Spec PyProof.Rows PySem.Calls PySem.W
abbrev mroVE : List Value := [.type "ValueError", .type "Exception", .type "BaseException", .type "object"]
section
variable {P : Program} {w : World} {K : PySem.W.Frag} {mg : Str → Option Value} {base : Heap} {N : List Str} {qual : Str} {scope : Scope} {f : Addr} {cdv : Value} {A : Around} {outer : List Env} {s : Shared} {H : Hp} {E : XK}
end
abbrev TSx := Ends → (St → XK) → St → Hp → Prop
section
variable {X : Cx} {k : Nat} {f C : Addr} {fd : FuncData} {ps : List Str} {sp : Sp} {dvs : List V} {ds : List Value} {x m : Str} {p pos apos : Pos} {e o : Expr} {es : List Expr} {ta : TE} {t : TA}
theorem PA.nox {es : List Expr} {t : TA} (h : PA X.nox es t) (E : Value → Shared → Prop) {pos : Pos} {pins : List (Addr × Obj)} {s : Shared} {σ : St} {H : Hp} {Q : List V → Hp → Prop} (I : Inv X pins σ H s) (q : t σ H Q) :
   wpAny (model X.prog X.w) X.A (spliced (backTo pos (starEach es X.env))) (AP X pins σ Q) E s :=
 wpAny_mono (h pos pins s σ H Q (I.wish _) q) (fun _ _ ⟨vs, H', I', r, q⟩ => ⟨vs, H', I'.unwish, r, q⟩) fun _ _ z => False.elim z
end
section
variable {X : Cx} {body suite : List Stmt} {b₀ : Stmt} {x : Str} {C : Addr} {np hpos pos : Pos} {tb : TSx} {th : TS}
end
end L2
namespace L2
open PySem PySem.Spec PyProof.Rows PySem.Calls PySem.W
section
variable {X : Cx} {pins : List (Addr × Obj)} {σ : St} {H : Hp} {s : Shared}
end
section
variable {X : Cx} {body suite : List Stmt} {b₀ : Stmt} {x n : Str} {C : Addr} {np hpos pos : Pos} {tb : TSx} {th : TS} {j : Nat}
end
end L2
namespace L2
open PySem PySem.Spec PyProof.Rows PySem.Calls
section
variable {X : Cx}
theorem mt_zfill : MtM X "str.zfill" (fun x vs H Q => ∃ z i, x = .str z ∧ vs = [.int i] ∧ PadOk i = true ∧ Q (.str (Txt.zfill z i)) H) := by
 intro pins s σ H x vs v us Q I rx rv h
 obtain ⟨z, i, rfl, rfl, hz, q⟩ := h
 obtain ⟨t, rfl⟩ := rx
 obtain ⟨u, rfl, t', rfl⟩ := rv.one
 exact SC.zfill hz (fun t' k => ⟨.str _, H, I.tok _, ⟨_, rfl⟩, q⟩)
def repN (l : List Nat) : Nat → List Nat
 | 0 => []
 | k + 1 => repN l k ++ l
theorem repN_len (l : List Nat) : ∀ k, (repN l k).length = k * l.length
 | 0 => by simp [repN]
 | k + 1 => by rw [repN, List.length_append, repN_len l k, Nat.succ_mul]
theorem rep_is (x : Str) (k : Nat) : (⟨(List.replicate k x.cps).foldl (· ++ ·) #[]⟩ : Str) = S (repN (cd x) k) := by
 have g : ∀ k, (List.replicate k x.cps).foldl (· ++ ·) #[] = (repN (cd x) k).toArray := fun k => by
   induction k with
   | zero => rfl
   | succ k ih => rw [List.replicate_succ', List.foldl_append, ih]; show _ ++ x.cps = _; rw [repN]; apply Array.ext'; simp [cd]
 rw [g]; rfl
theorem op_mul_str : OpR X (binaryOp .Mult) (fun x y H Q => ∃ z n, x = .str z ∧ y = .int n ∧ 0 ≤ n ∧ n ≤ 1000000 ∧ z.length * n.toNat ≤ 1000000 ∧ z.length ≤ 1000000 ∧ Q (.str (S (repN (cd z) n.toNat))) H) := by
 intro pins s σ H x y v u Q I rx ry h
 obtain ⟨z, n, rfl, rfl, h0, h1, h2, h3, q⟩ := h
 obtain ⟨t, rfl⟩ := rx
 obtain ⟨t', rfl⟩ := ry
 have tl : Builtin.Str.tooLong (z.length * n.toNat) = false := by
   unfold Builtin.Str.tooLong
   exact decide_eq_false (by rw [sizeLine_eq]; omega)
 refine P.mul_str ?_ ?_ (fun _ _ => tl) ?_
 · rw [decide_eq_false (by omega), decide_eq_false (by omega)]; rfl
 · intro hn _ hgt
   have : (2 ^ 63 - 1 : Int) / n ≥ 1000000 := by
     have : (1000000 : Int) * n ≤ 2 ^ 63 - 1 := by omega
     exact Int.le_ediv_of_mul_le (by omega) this
   omega
 · have fin : ∀ y : Str, y = S (repN (cd z) n.toNat) → ∀ t tk, EP X pins σ Q (.str y t) { s with toks := tk } := fun y e t tk => by
     subst e; exact ⟨.str _, H, I.tok _, ⟨_, rfl⟩, q⟩
   by_cases hn : n < 1
   · rw [if_pos hn]
     have e0 : n = 0 := by omega
     subst e0
     exact ⟨by rw [sizeLine_eq]; exact Nat.zero_le _, fin _ rfl _ _⟩
   · rw [if_neg hn]
     by_cases h1 : (n == 1 || z.length == 0) = true
     · rw [if_pos h1]
       refine fin z ?_ t s.toks
       rcases Bool.or_eq_true_iff.mp h1 with e | e
       · have e' : n = 1 := by simpa using e
         subst e'
         show z = S (repN (cd z) 1)
         rw [show repN (cd z) 1 = cd z from by simp [repN], S_cd]
       · have e' : (cd z) = [] := List.eq_nil_of_length_eq_zero (by rw [← len_cd]; simpa using e)
         have : ∀ k, repN [] k = [] := fun k => by induction k with | zero => rfl | succ k ih => simp [repN, ih]
         rw [e', this, ← e', S_cd]
     · rw [if_neg h1]
       refine ⟨?_, fin _ (rep_is z n.toNat) _ _⟩
       rw [rep_is, len_S, repN_len, ← len_cd, sizeLine_eq, Nat.mul_comm]
       omega
end
end L2
namespace L2
open PySem PySem.Spec PyProof.Rows PySem.Calls
structure FunD (K : PySem.W.Frag) (x qual : Str) (st : Stmt) (ds : List Value) (f : Addr) (fd : FuncData) : Prop where
 ex : ∃ (T : Addr) (oc : Value) (od : Option Addr) (kV doc pm : Value) (an : Option Addr) (cdv ct : Value) (osl : Array (Option Value)) (to : Obj) (n : Nat),
   fd = PySem.W.fnOf x qual (defArgs st) (defBody st) (defScope st) (.ref T) kV doc pm an cdv ct ∧ K.lookup f = some ⟨oc, od, .func fd, osl⟩ ∧ PySem.W.codeIn K cdv qual = true ∧ K.lookup T = some to ∧ to.cls = .type "tuple" ∧ to.data = .seq ds.toArray n
 kp : PySem.W.keepIn K (.ref f) = true
section
variable {P : Program} {w : World} {K : PySem.W.Frag} {mg : Str → Option Value} {base : Heap} {x qual : Str} {st : Stmt} {f : Addr} {fd : FuncData} {N ps : List Str} {k : Nat} {sp : Sp} {ds : List Value}
theorem FunD.ok (F : FunD K x qual st ds f fd) (S : FnScope N ps (defScope st)) (len : ∀ vs H Q E, sp vs H Q E → vs.length = ps.length)
   (hbody : ∀ (cdv : Value) (A : Around) (outer : List Env) (s : Shared) (H : Hp) (vs : List V) (Q : VK) (E : XK), Room k (A.deeper (envOfC qual (defScope st) s.heap.objs.size f cdv)) → sp vs H Q E →
     ∃ t, PSs (cxOf CX0 P w K mg base N qual (defScope st) f cdv A outer s H E).nox (defBody st) t ∧ t { nx := fun _ H' => Q .non H', rt := Q } (start N vs) H) : FnOk P w K mg base CX0 (k + 1) f fd ps sp := by
 obtain ⟨T, oc, od, kV, doc, pm, an, cdv, ct, osl, to, n, rfl, lk, hcd, _⟩ := F.ex
 refine fn_of lk hcd S len fun A outer s H vs Q E hr hsp => ?_
 obtain ⟨t, h, q⟩ := hbody cdv A outer s H vs Q E hr hsp
 exact ⟨t, h.nox, q⟩
theorem FunD.binds {es : List Value} (F : FunD K x qual st ds f fd)
   (h : ∀ (T : Addr) (kV doc pm : Value) (an : Option Addr) (cdv ct : Value) (us : List Value) (M : Model) (A : Around) (E : Value → Shared → Prop) (Q : List (Str × Value) → Shared → Prop) (s : Shared) (to : Obj) (n : Nat), s.heap.get? T = some to → to.cls = .type "tuple" → to.data = .seq ds.toArray n →
     (us ++ es).length = ps.length → Q (ps.zip (us ++ es)) s → wpAny M A (bindArgs (PySem.W.fnOf x qual (defArgs st) (defBody st) (defScope st) (.ref T) kV doc pm an cdv ct) ⟨us, []⟩) Q E s) : Binds K fd ps es := by
 obtain ⟨T, oc, od, kV, doc, pm, an, cdv, ct, osl, to, n, rfl, lk, hcd, lt, tc, td⟩ := F.ex
 intro s us X hl M A E Q q
 exact h T kV doc pm an cdv ct us M A E Q s to n (X _ _ lt) tc td hl q
end
section
variable {K : PySem.W.Frag} {C D : Addr} {cd : ClassData} {r b : Bool} {T : String}
theorem kit_self : PySem.W.kitOne K (.ref D) (.ref D) = some true := by unfold PySem.W.kitOne; rw [if_pos (beq_self_eq_true _)]
theorem app_len {α : Type} {us ds : List α} {n m : Nat} (h : (us ++ ds).length = n) (hm : ds.length + m = n) : us.length = m := by rw [List.length_append] at h; omega
theorem funD_mk {x qual : Str} {st : Stmt} {f T : Addr} {oc : Value} {od an dd : Option Addr} {osl dsl : Array (Option Value)} {kV doc pm cdv ct : Value} {ds : List Value} {n : Nat} (l : K.lookup f = some ⟨oc, od, .func (PySem.W.fnOf x qual (defArgs st) (defBody st) (defScope st) (.ref T) kV doc pm an cdv ct), osl⟩)
   (c : PySem.W.codeIn K cdv qual = true) (k : PySem.W.keepIn K (.ref f) = true) (lt : K.lookup T = some ⟨.type "tuple", dd, .seq ds.toArray n, dsl⟩) : FunD K x qual st ds f (PySem.W.fnOf x qual (defArgs st) (defBody st) (defScope st) (.ref T) kV doc pm an cdv ct) :=
 ⟨⟨T, oc, od, kV, doc, pm, an, cdv, ct, osl, _, n, rfl, l, c, lt, rfl, rfl⟩, k⟩
end
end L2
namespace L2
theorem Bt.ValueError : PySem.bootBuiltins "ValueError" = some (.type "ValueError") := PyProof.Rows.Boot.«ValueError»
open PySem PySem.Spec PyProof.Rows
def FIG : Str := "0123456789"
def inF (c : Nat) : Bool := !(Builtin.Str.occurrences FIG (S [c]) 0 FIG.length 1).isEmpty
theorem inF_iff (c : Nat) : inF c = true ↔ 48 ≤ c ∧ c ≤ 57 := by
 have h : inF c = decide (c ∈ FIG.cps.toList) := StrLaws.found_one FIG c
 have e : FIG.cps.toList = [48, 49, 50, 51, 52, 53, 54, 55, 56, 57] := by symm
 rw [h, e, decide_eq_true_iff]
 simp only [List.mem_cons, List.not_mem_nil, or_false]
 omega
def val (l : List Nat) : Int := l.foldl (fun a c => a * 10 + ((c - 48 : Nat) : Int)) 0
structure Fine (n : Nat) (z : Str) : Prop where
 len : z.length ≤ n
 cod : ∀ c ∈ cd z, c < 1000
theorem Fine.mono {n m : Nat} {z : Str} (h : Fine n z) (l : n ≤ m) : Fine m z := ⟨Nat.le_trans h.len l, h.cod⟩
theorem Fine.app {n m : Nat} {x y : Str} (h : Fine n x) (k : Fine m y) : Fine (n + m) (x ++ y) := by
 refine ⟨?_, fun c hc => ?_⟩
 · rw [len_cd, cd_app, List.length_append, ← len_cd, ← len_cd]; have := h.len; have := k.len; omega
 · rw [cd_app] at hc
   rcases List.mem_append.mp hc with e | e
   · exact h.cod c e
   · exact k.cod c e
theorem Fine.size {n : Nat} {z : Str} (h : Fine n z) (hn : n ≤ 100000 := by decide) : z.length ≤ sizeLine := by rw [sizeLine_eq]; have := h.len; omega
theorem Fine.int {i : Int} {k : Nat} (hk : 0 < k) (h : i.natAbs < 10 ^ k) : Fine (k + 1) (toString i) := by
 refine ⟨?_, fun c hc => ?_⟩
 · rw [show ((toString i : String) : Str).length = (toString i).length from PySem.ofString_length _]
   exact int_text_length_le10 hk h
 · rcases Nat.lt_or_ge c 1000 with z | z
   · exact z
   · exact absurd hc (int_text_free' c ⟨by omega, by omega⟩ i)
end L2
namespace L2
open PySem PySem.Spec PyProof.Rows PySem.Calls
structure EqJ (X : Cx) (H : Hp) (n : Nat) (x y : V) (b : Bool) : Prop where
 rc : ∀ (pins : List (Addr × Obj)) (s : Shared) (σ : St) (u v : Value) (A : Around), Inv X pins σ H s → RelV x u → RelV y v → A.units + n < cLine → SeqAt.RcAt A s u v b
 ne : ∀ (pins : List (Addr × Obj)) (s : Shared) (σ : St) (u v : Value) (A : Around), Inv X pins σ H s → RelV x u → RelV y v → A.units + n < cLine → SeqAt.RcNeAt A s u v (!b)
def EqJi (X : Cx) (H : Hp) (n : Nat) (x y : V) (b : Bool) : Prop :=
 ∀ (pins : List (Addr × Obj)) (s : Shared) (σ : St) (u v : Value) (A : Around), Inv X pins σ H s → RelV x u → RelV y v → A.units + n < cLine → SeqAt.EqAt A s u v b
section
variable {X : Cx} {H : Hp} {n : Nat} {x y : V} {b : Bool} {p q : Addr} {xs ys : List V}
theorem eqi_flat (fx : flatV x = true) (fy : flatV y = true) : EqJi X H n x y (eqV x y) := fun _ _ _ _ _ _ _ rx ry _ => eqAt_V rx ry fx fy
theorem eqi_same : EqJi X H n (.ref p) (.ref p) true := fun _ _ _ _ _ _ _ rx ry _ => by cases rx; cases ry; exact SeqAt.EqAt.same _
theorem eqi_refs (hn : p ≠ q) (h : EqJ X H n (.ref p) (.ref q) b) : EqJi X H n (.ref p) (.ref q) b := fun pins s σ u v A I rx ry hu => by
 have r := h.rc pins s σ u v A I rx ry hu
 cases rx; cases ry
 exact SeqAt.EqAt.of_refs hn r
theorem vals_at {xs : List V} {us : List Value} (r : Vals xs us) {j : Nat} (h : j < us.toArray.size) : ∃ x, xs[j]? = some x ∧ RelV x us.toArray[j] := by
 have hj : j < us.length := by simpa using h
 have hx : j < xs.length := by rw [r.length]; exact hj
 obtain ⟨u, hu, ru⟩ := r.get (List.getElem?_eq_getElem hx)
 refine ⟨xs[j], List.getElem?_eq_getElem hx, ?_⟩
 rw [List.getElem?_eq_getElem hj] at hu
 cases hu
 simpa using ru
theorem eqj_lists {e : Nat → Bool} (h : SqL X.K H p xs) (k : SqL X.K H q ys) (hl : xs.length = ys.length) (he : ∀ (j : Nat) x y, xs[j]? = some x → ys[j]? = some y → EqJi X H n x y (e j)) :
   EqJ X H (n + 1) (.ref p) (.ref q) ((List.range xs.length).all e) := by
 have g : ∀ (pins : List (Addr × Obj)) (s : Shared) (σ : St) (A : Around), Inv X pins σ H s → A.units + (n + 1) < cLine → ∃ its its' : List Value, s.heap.IsList p its.toArray ∧ s.heap.IsList q its'.toArray ∧ its.toArray.size = its'.toArray.size ∧ its.toArray.size = xs.length ∧
     ∀ j (h1 : j < its.toArray.size) (h2 : j < its'.toArray.size), SeqAt.EqAt A.in1 s its.toArray[j] its'.toArray[j] (e j) := fun pins s σ A I hu => by
   obtain ⟨its, r, pl, _⟩ := I.list h
   obtain ⟨its', r', pl', _⟩ := I.list k
   have l1 := r.length
   have l2 := r'.length
   refine ⟨its, its', pl.isList, pl'.isList, by simp only [List.size_toArray]; omega, by simp only [List.size_toArray]; omega, fun j h1 h2 => ?_⟩
   obtain ⟨x, hx, rx⟩ := vals_at r h1
   obtain ⟨y, hy, ry⟩ := vals_at r' h2
   exact he j x y hx hy pins s σ _ _ A.in1 I rx ry (by show A.units + 1 + n < _; omega)
 refine ⟨fun pins s σ u v A I rx ry hu => ?_, fun pins s σ u v A I rx ry hu => ?_⟩ <;> (cases rx; cases ry; have hu' : A.units < cLine := by omega)
 · obtain ⟨its, its', a, b, c, d, z⟩ := g pins s σ A I hu
   rw [← d]; exact SeqAt.RcAt.lists a b c hu' z
 · obtain ⟨its, its', a, b, c, d, z⟩ := g pins s σ A I hu
   rw [← d]; exact SeqAt.RcNeAt.lists a b c hu' z
theorem eqj_lists_len (h : SqL X.K H p xs) (k : SqL X.K H q ys) (hl : xs.length ≠ ys.length) : EqJ X H (n + 1) (.ref p) (.ref q) false := by
 refine ⟨fun pins s σ u v A I rx ry hu => ?_, fun pins s σ u v A I rx ry hu => ?_⟩ <;> (cases rx; cases ry; have hu' : A.units < cLine := by omega)
 · obtain ⟨its, r, pl, _⟩ := I.list h
   obtain ⟨its', r', pl', _⟩ := I.list k
   exact SeqAt.RcAt.lists_lengths pl.isList pl'.isList (by rw [List.size_toArray, List.size_toArray, ← r.length, ← r'.length]; simpa using hl) hu'
 · obtain ⟨its, r, pl, _⟩ := I.list h
   obtain ⟨its', r', pl', _⟩ := I.list k
   exact SeqAt.RcNeAt.lists_lengths pl.isList pl'.isList (by rw [List.size_toArray, List.size_toArray, ← r.length, ← r'.length]; simpa using hl) hu'
theorem eqj_tups {e : Nat → Bool} (h : SqT X.K H p xs) (k : SqT X.K H q ys) (he : ∀ (j : Nat) x y, xs[j]? = some x → ys[j]? = some y → EqJi X H n x y (e j)) :
   EqJ X H (n + 1) (.ref p) (.ref q) ((List.range (min xs.length ys.length)).all e && xs.length == ys.length) := by
 have g : ∀ (pins : List (Addr × Obj)) (s : Shared) (σ : St) (A : Around), Inv X pins σ H s → A.units + (n + 1) < cLine → ∃ its its' : List Value, s.heap.IsTuple p its.toArray ∧ s.heap.IsTuple q its'.toArray ∧ its.toArray.size = xs.length ∧ its'.toArray.size = ys.length ∧
     ∀ j (h1 : j < its.toArray.size) (h2 : j < its'.toArray.size), SeqAt.EqAt A.in1 s its.toArray[j] its'.toArray[j] (e j) := fun pins s σ A I hu => by
   obtain ⟨its, r, pl, _⟩ := I.tuple h
   obtain ⟨its', r', pl', _⟩ := I.tuple k
   have l1 := r.length
   have l2 := r'.length
   refine ⟨its, its', pl, pl', by simp only [List.size_toArray]; omega, by simp only [List.size_toArray]; omega, fun j h1 h2 => ?_⟩
   obtain ⟨x, hx, rx⟩ := vals_at r h1
   obtain ⟨y, hy, ry⟩ := vals_at r' h2
   exact he j x y hx hy pins s σ _ _ A.in1 I rx ry (by show A.units + 1 + n < _; omega)
 refine ⟨fun pins s σ u v A I rx ry hu => ?_, fun pins s σ u v A I rx ry hu => ?_⟩ <;> (cases rx; cases ry; have hu' : A.units < cLine := by omega)
 · obtain ⟨its, its', a, b, c, d, z⟩ := g pins s σ A I hu
   rw [← c, ← d]; exact SeqAt.RcAt.tuples a b hu' z
 · obtain ⟨its, its', a, b, c, d, z⟩ := g pins s σ A I hu
   rw [← c, ← d]
   exact SeqAt.RcNeAt.tuples a b hu' z
theorem eqV_self {x : V} (h : flatV x = true) : eqV x x = true := by
 cases x <;> first | rfl | exact beq_self_eq_true _ | cases h
def eqL : List V → List V → Bool
 | [], [] => true
 | x :: xs, y :: ys => eqV x y && eqL xs ys
 | _, _ => false
theorem eqL_range : ∀ {xs ys : List V}, xs.length = ys.length → (List.range xs.length).all (fun j => eqV (xs.getD j .non) (ys.getD j .non)) = eqL xs ys
 | [], [], _ => rfl
 | x :: xs, y :: ys, h => by
   have h' : xs.length = ys.length := Nat.succ.inj h
   rw [List.length_cons, List.range_succ_eq_map, List.all_cons, List.all_map, eqL, ← eqL_range h']
   rfl
 | [], _ :: _, h => by cases h
 | _ :: _, [], h => by cases h
theorem eqL_len : ∀ {xs ys : List V}, eqL xs ys = true → xs.length = ys.length
 | [], [], _ => rfl
 | x :: xs, y :: ys, h => by rw [eqL, Bool.and_eq_true] at h; rw [List.length_cons, List.length_cons, eqL_len h.2]
 | [], _ :: _, h => by cases h
 | _ :: _, [], h => by cases h
theorem eqL_self : ∀ {xs : List V}, xs.all flatV = true → eqL xs xs = true
 | [], _ => rfl
 | x :: xs, h => by rw [List.all_cons, Bool.and_eq_true] at h; rw [eqL, eqV_self h.1, eqL_self h.2]; rfl
theorem all_get {xs : List V} (h : xs.all flatV = true) {j : Nat} {x : V} (e : xs[j]? = some x) : flatV x = true ∧ xs.getD j .non = x :=
 ⟨List.all_eq_true.mp h x (List.mem_of_getElem? e), by rw [List.getD, e]; rfl⟩
theorem eqj_flists (h : SqL X.K H p xs) (k : SqL X.K H q ys) (fx : xs.all flatV = true) (fy : ys.all flatV = true) : EqJ X H (n + 1) (.ref p) (.ref q) (eqL xs ys) := by
 by_cases hl : xs.length = ys.length
 · rw [← eqL_range hl]
   refine eqj_lists h k hl fun j x y hx hy => ?_
   obtain ⟨a, a'⟩ := all_get fx hx
   obtain ⟨b, b'⟩ := all_get fy hy
   rw [a', b']
   exact eqi_flat a b
 · have : eqL xs ys = false := by
     cases e : eqL xs ys with
     | false => rfl
     | true => exact absurd (eqL_len e) hl
   rw [this]
   exact eqj_lists_len h k hl
theorem eqj_ftups (h : SqT X.K H p xs) (k : SqT X.K H q ys) (fx : xs.all flatV = true) (fy : ys.all flatV = true) : EqJ X H (n + 1) (.ref p) (.ref q) (eqL xs ys) := by
 have e : ((List.range (min xs.length ys.length)).all (fun j => eqV (xs.getD j .non) (ys.getD j .non)) && xs.length == ys.length) = eqL xs ys := by
   by_cases hl : xs.length = ys.length
   · rw [← hl, Nat.min_self, beq_self_eq_true, Bool.and_true]; exact eqL_range hl
   · have : eqL xs ys = false := by
       cases e : eqL xs ys with
       | false => rfl
       | true => exact absurd (eqL_len e) hl
     rw [this, beq_eq_false_iff_ne.mpr hl, Bool.and_false]
 rw [← e]
 refine eqj_tups h k fun j x y hx hy => ?_
 obtain ⟨a, a'⟩ := all_get fx hx
 obtain ⟨b, b'⟩ := all_get fy hy
 rw [a', b']
 exact eqi_flat a b
theorem op_neJ (hu : X.A.units + 20 < cLine) : OpR X (compareOp .NotEq) (fun x y H Q => ∃ b, EqJ X H 20 x y b ∧ Q (.bl (!b)) H) := by
 intro pins s σ H x y v u Q I rx ry h
 obtain ⟨b, e, q⟩ := h
 exact e.ne pins s σ v u X.A I rx ry hu X.prog X.w X.xe _ ⟨.bl (!b), H, I, rfl, q⟩
theorem hu20 {A : Around} {k : Nat} (hr : Room k A) : A.units + 20 < cLine := by have := hr.units; omega
end
end L2
namespace L2
open PySem PySem.Spec PyProof.Rows PySem.Calls
section
variable {P : Program} {w : World} {K : PySem.W.Frag} {mg : Str → Option Value} {base : Heap}
structure MethJ (P : Program) (w : World) (K : PySem.W.Frag) (mg : Str → Option Value) (base : Heap) (CX : CXT) (k : Nat) (C : Addr) (m : Str) where
 f : Addr
 fd : FuncData
 ps : List Str
 sp : Sp
 ds : List Value
 dvs : List V
 c : Cls K C
 hm : Meth K C m f
 F : FnOk P w K mg base CX k f fd ps sp
 hb : Binds K fd ps ds
 hd : Vals dvs ds
end
section
variable {X : Cx} {CX : CXT} {k : Nat} {E : XK} {m : Str} {pos apos : Pos} {e o : Expr} {es : List Expr} {ta : TE} {t : TA}
def tMethG (X : Cx) (CX : CXT) (k : Nat) (m : Str) (E : XK) (ta : TE) (t : TA) : TE := fun σ H Q => ta σ H fun x H1 => ∃ (a C dx : Addr) (fs : List (Str × V)) (M : MethJ X.prog X.w X.K X.mg X.base CX k C m), x = .ref a ∧ H1 a = some (.ins C dx fs) ∧ fs.lookup m = none ∧
 t σ H1 fun vs H2 => M.sp (x :: (vs ++ M.dvs)) H2 Q E
theorem pe_methG {pl : Sem Bool} (hr : Room k X.A) (hx : Passes CX X E) (he : PE X o ta) (ha : PA X (e :: es) t)
   (hst : starEach (e :: es) X.env = (false, eval e X.env) :: starEach es X.env := by rfl) (hpl : (backTo pos (starEach es X.env)).any (·.1) = false := by rfl)
   (ht : eval (.Call (.Attribute o m apos) (e :: es) [] pos) X.env = (do
     let ov ← eval o X.env
     standAt apos.atName
     let (f, first) ← holding [ov] (getMethod ov m pl)
     callWith pos f first (backTo pos (starEach (e :: es) X.env)) (backToKw pos (keywordEach [] X.env))) := by rfl) :
   PE X (.Call (.Attribute o m apos) (e :: es) [] pos) (tMethG X CX k m E ta t) := by
 intro pins s σ H Q I h
 refine PySem.W.methodCall_KW (pl := pl) (thn (he pins s σ H _ I h) fun u s1 ⟨x, H1, I1, rx, a, C, dx, fs, M, ex, ea, l, q⟩ => ?_) ht
 subst ex
 obtain rfl : u = Value.ref a := rx
 refine getmeth_ok I1 ea M.c M.hm l ?_
 refine PySem.W.callWith_K (first := [.ref a]) (h₀ := X.base) I.ok.mod.kin M.hm.kp (thn (ha pos pins s1 σ H1 _ I1 q) fun us s2 ⟨vs, H2, I2, r, q2⟩ => ⟨I2.kIn, ?_⟩) hst hpl
 exact run_fn (us := .ref a :: us) (vs := .ref a :: vs) M.F hr M.hb M.hd hx I2 (.cons rfl r) q2
theorem pe_methG0 {pl : Sem Bool} (hr : Room k X.A) (hx : Passes CX X E) (he : PE X o ta)
   (ht : eval (.Call (.Attribute o m apos) [] [] pos) X.env = (do
     let ov ← eval o X.env
     standAt apos.atName
     let (f, first) ← holding [ov] (getMethod ov m pl)
     callWith pos f first (backTo pos (starEach [] X.env)) (backToKw pos (keywordEach [] X.env))) := by rfl) :
   PE X (.Call (.Attribute o m apos) [] [] pos) (tMethG X CX k m E ta tNil) := by
 intro pins s σ H Q I h
 refine PySem.W.methodCall_KW (pl := pl) (thn (he pins s σ H _ I h) fun u s1 ⟨x, H1, I1, rx, a, C, dx, fs, M, ex, ea, l, q⟩ => ?_) ht
 subst ex
 obtain rfl : u = Value.ref a := rx
 refine getmeth_ok I1 ea M.c M.hm l ?_
 exact PySem.W.callWith_K0 (first := [.ref a]) I1.kIn M.hm.kp (run_fn (us := [.ref a]) (vs := [.ref a]) M.F hr M.hb M.hd hx I1 (.cons rfl .nil) q)
structure ClsFn (K : PySem.W.Frag) (C : Addr) (m : Str) (f : Addr) : Prop where
 rd : PySem.W.readsIn K C (.type "type") = true
 at_ : PySem.W.findCls K (.ref C) (.type "type") m = some (.val (.ref f))
 sp : PySem.W.specialIn K (.ref C) "__getattribute__" = some (some (.builtin "type.__getattribute__"))
 kp : PySem.W.keepIn K (.ref f) = true
theorem pe_clsfn {pl : Sem Bool} {C f : Addr} {fd : FuncData} {ps : List Str} {sp : Sp} {x : Str} {np : Pos} (c : ClsFn X.K C m f) (F : FnOk X.prog X.w X.K X.mg X.base CX k f fd ps sp) (hr : Room k X.A) (hg : Gl X x) (hmg : X.mg x = some (.ref C)) (hb : Binds X.K fd ps []) (hx : Passes CX X E)
   (ha : PA X (e :: es) t) (hd : (x == ("__debug__" : Str)) = false := by decide)
   (hst : starEach (e :: es) X.env = (false, eval e X.env) :: starEach es X.env := by rfl) (hpl : (backTo pos (starEach es X.env)).any (·.1) = false := by rfl)
   (ht : eval (.Call (.Attribute (.Name x np) m apos) (e :: es) [] pos) X.env = (do
     let ov ← eval (.Name x np) X.env
     standAt apos.atName
     let (f, first) ← holding [ov] (getMethod ov m pl)
     callWith pos f first (backTo pos (starEach (e :: es) X.env)) (backToKw pos (keywordEach [] X.env))) := by rfl) :
   PE X (.Call (.Attribute (.Name x np) m apos) (e :: es) [] pos) (tCall sp [] E t) := by
 intro pins s σ H Q I h
 refine PySem.W.methodCall_KW (pl := pl) (ld_glob I hg hmg ?_ hd) ht
 refine PySem.W.method_cls I.kIn c.sp (PySem.W.cls_value (s := s) I.kIn c.rd c.at_ rfl ?_)
 refine PySem.W.callWith_K (first := []) (h₀ := X.base) I.ok.mod.kin c.kp (thn (ha pos pins _ σ H _ (I.tok _) h) fun us s2 ⟨vs, H2, I2, r, q2⟩ => ⟨I2.kIn, ?_⟩) hst hpl
 exact run_fn (us := us) (vs := vs) F hr hb .nil hx I2 r q2
end
end L2
namespace L2
open PySem PySem.Spec PyProof.Rows
def dig (n : Nat) : List Nat := (Nat.toDigits 10 n).map Char.toNat
theorem digChar : ∀ d : Nat, d < 10 → (Nat.digitChar d).toNat = 48 + d := by decide
theorem dig_lt {n : Nat} (h : n < 10) : dig n = [48 + n] := by
 unfold dig; rw [Nat.toDigits_of_lt_base h]; show [(Nat.digitChar n).toNat] = _; rw [digChar n h]
theorem dig_ge {n : Nat} (h : 10 ≤ n) : dig n = dig (n / 10) ++ [48 + n % 10] := by
 unfold dig; rw [Nat.toDigits_of_base_le (by decide) h, List.map_append]; show _ ++ [(Nat.digitChar (n % 10)).toNat] = _; rw [digChar _ (Nat.mod_lt _ (by decide))]
theorem dig_len {k n : Nat} (hk : 1 ≤ k) (hn : n < 10 ^ k) : (dig n).length ≤ k := by unfold dig; rw [List.length_map]; exact toDigits_len_pow (by decide) hk hn
theorem dig_all (n : Nat) : (dig n).all inF = true := by
 induction n using Nat.strongRecOn with
 | _ n ih =>
   by_cases h : n < 10
   · rw [dig_lt h, List.all_cons, (inF_iff _).mpr ⟨by omega, by omega⟩]; rfl
   · rw [dig_ge (by omega), List.all_append, ih (n / 10) (by omega), List.all_cons, (inF_iff _).mpr ⟨by omega, by have := Nat.mod_lt n (show 0 < 10 by decide); omega⟩]; rfl
theorem dig_head {n : Nat} (h : n ≠ 0) : ∃ c r, dig n = c :: r ∧ 49 ≤ c ∧ c ≤ 57 := by
 induction n using Nat.strongRecOn with
 | _ n ih =>
   by_cases h10 : n < 10
   · exact ⟨_, _, dig_lt h10, by omega, by omega⟩
   · obtain ⟨c, r, e, h1, h2⟩ := ih (n / 10) (by omega) (by omega)
     exact ⟨c, r ++ [48 + n % 10], by rw [dig_ge (by omega), e]; rfl, h1, h2⟩
theorem dig_fig {n c : Nat} (h : c ∈ dig n) : 48 ≤ c ∧ c ≤ 57 := (inF_iff c).mp (List.all_eq_true.mp (dig_all n) c h)
theorem dig_zero : dig 0 = [48] := dig_lt (by decide)
def numL (i : Int) : List Nat := if i < 0 then 45 :: dig i.natAbs else dig i.natAbs
theorem cd_str (i : Int) : cd ((toString i : String) : Str) = numL i := by
 show (Str.ofString (toString i)).cps.toList = _
 rw [signs_ofString]
 unfold numL
 cases i with
 | ofNat m =>
   rw [if_neg (show ¬ Int.ofNat m < 0 from by have : Int.ofNat m = (m : Int) := rfl; omega)]
   show (Nat.repr m).toList.map Char.toNat = _
   rw [Nat.toList_repr]; rfl
 | negSucc m =>
   rw [if_pos (Int.negSucc_lt_zero m)]
   have : (toString (Int.negSucc m)) = "-" ++ Nat.repr (m + 1) := rfl
   rw [this, String.toList_append, Nat.toList_repr]; rfl
end L2
namespace L2
open PySem PySem.Spec PyProof.Rows PySem.Calls
section
variable {X : Cx}
end
structure Thing (K : PySem.W.Frag) (H : Hp) (x : V) where
 t : Value
 bi : Bool
 bb : Bool
 bs : Bool
 ty : TyE K H x t
 ki : PySem.W.kitOne K t (.type "int") = some bi
 kb : PySem.W.kitOne K t (.type "bool") = some bb
 ks : PySem.W.kitOne K t (.type "str") = some bs
 hi : (bi && !bb) = true → ∃ n, x = .int n
 hs : bs = true → ∃ z, x = .str z
 ni : ∀ n, x = .int n → (bi && !bb) = true
 ns : ∀ z, x = .str z → bs = true
 hbl : bb = true → ∃ b, x = .bl b
 nbl : ∀ b, x = .bl b → bb = true
theorem Same.seqT {K : PySem.W.Frag} {H H' : Hp} {a : Addr} {xs : List V} (e : Same H H') (h : SqT K H a xs) : SqT K H' a xs := by
 rcases h with h | h
 · exact .inl (h.imp (fun k => e _ _ k) (fun ⟨o, k⟩ => ⟨o, e _ _ k⟩))
 · exact .inr h
theorem Same.tyE' {K : PySem.W.Frag} {H H' : Hp} {x : V} {t : Value} (e : Same H H') (h : TyE K H x t) : TyE K H' x t := by
 cases h with
 | old h => exact .old (e.ty h)
 | exc h c => exact .exc (e _ _ h) c
 | excd h c => exact .excd (e _ _ h) c
 | tpl h => exact .tpl (e.seqT h)
def Thing.same {K : PySem.W.Frag} {H H' : Hp} {x : V} (h : Thing K H x) (e : Same H H') : Thing K H' x := ⟨h.t, h.bi, h.bb, h.bs, e.tyE' h.ty, h.ki, h.kb, h.ks, h.hi, h.hs, h.ni, h.ns, h.hbl, h.nbl⟩
theorem Same.upd {H H' : Hp} {p : Addr} {o : HO} (e : Same H H') (h : H p = none ∨ H p = some o) : Same H (L2.upd H' p o) := fun b u q => by
 by_cases z : b = p
 · subst z
   rcases h with h | h
   · rw [h] at q; cases q
   · rw [h] at q; rw [zB]; exact q
 · rw [zJ z]; exact e b u q
end L2
namespace L2
open PySem PySem.Spec PyProof.Rows
theorem str_is (n : Int) : ((toString n : String) : Str) = S (numL n) := cd_inj (cd_str n)
theorem logOk {m : Int} (h : m.natAbs < 10 ^ 61) : m.natAbs.log2 < 1920 := by
 by_cases h0 : m.natAbs = 0
 · rw [h0]; decide
 · exact (Nat.log2_lt h0).mpr (Nat.lt_trans h (by symm))
end L2
namespace L2
open PySem PySem.Spec PyProof.Rows PySem.Calls
theorem pe_eqv {X : Cx} {e : Expr} {te te' : TE} (h : PE X e te') (h2 : te' = te) : PE X e te := h2 ▸ h
section
variable {X : Cx}
end
end L2
namespace L2
open PySem PySem.Spec PyProof.Rows PySem.Calls
section
variable {prog : Program} {w : World} {A : Around} {R : Result → Shared → Prop} {I : Addr} {fp wr : List Addr} {G : Array GenState → Array GenState → Prop} {n : Nat} {P : Nat → Value → Prop} {St : Nat → Shared → Prop}
end
section
variable {prog : Program} {w : World} {A : Around} {E : Value → Shared → Prop} {s : Shared}
end
section
variable {X : Cx}
end
end L2
namespace L2
open PySem PySem.Spec PyProof.Rows PySem.Calls
section
variable {X : Cx}
end
end L2
namespace HT
open PySem PySem.Spec PyProof.Rows PySem.Calls
section
variable {prog : Program} {w : World} {A : Around} {E : Value → Shared → Prop} {s : Shared}
end
end HT
namespace L2
open PySem PySem.Spec PyProof.Rows PySem.Calls
section
variable {X : Cx}
end
end L2
namespace L2
open PySem PySem.Spec PyProof.Rows PySem.Calls
def PIfs (X : Cx) (ifs : List Expr) (t : TT) : Prop :=
 ∀ (pins : List (Addr × Obj)) (s : Shared) (σ : St) (H : Hp) (Q : Bool → Hp → Prop), Inv X pins σ H s → t σ H Q →
   wpAny (model X.prog X.w) X.A (forIn ifs true fun c r => if r = true then do let ok ← isTrue c X.env (eval c X.env); pure (ForInStep.yield ok) else pure (ForInStep.yield r)) (TP X pins σ Q) X.xe s
def tTrue : TT := fun _ H Q => Q true H
theorem pifs_nil {X : Cx} : PIfs X [] tTrue := fun pins s σ H Q I h => wpAny_pure ⟨H, I, h⟩
theorem pifs_one {X : Cx} {c : Expr} {t : TT} (hc : PT X c t) : PIfs X [c] t := fun pins s σ H Q I h => by
 rw [List.forIn_cons]
 refine wpAny_bind (wpAny_bind (thn (hc pins s σ H Q I h) fun b s1 q => wpAny_pure ?_))
 exact wpAny_pure q
theorem compLoop_go2 {prog : Program} {w : World} {A : Around} {R : Result → Shared → Prop} {s : Shared} {elt target iter : Expr} {ifs : List Expr} {scope : Scope} {pos : Pos} {it acc : Value} {env : Env} (I : Nat → Shared → Prop)
   (turn : ∀ n s, I n s → wpAny (model prog w) A (pyNext it) (fun r s₁ => match r with
     | none => R (.ok .next) s₁
     | some v => wpAny (model prog w) A (letOwnedTupleGo target it v) (fun _ s₂ => wpAny (model prog w) A (assign target env v) (fun _ s₃ =>
         wpAny (model prog w) A (forIn ifs true fun c r => if r = true then do let ok ← isTrue c env (eval c env); pure (ForInStep.yield ok) else pure (ForInStep.yield r)) (fun ok s₄ =>
           if ok = true then wpAny (model prog w) A (eval elt env) (fun x s₅ =>
             wpAny (model prog w) A (call (.builtin "list.append") [acc, x]) (fun _ s₆ => ∃ m, m < n ∧ I m s₆) (notedBy (model prog w) A env fun e s' => R (.error e) s') s₅)
             (notedBy (model prog w) A env fun e s' => R (.error e) s') s₄ else ∃ m, m < n ∧ I m s₄)
           (notedBy (model prog w) A env fun e s' => R (.error e) s') s₃) (notedBy (model prog w) A env fun e s' => R (.error e) s') s₂) (notedBy (model prog w) A env fun e s' => R (.error e) s') s₁)
     (notedBy (model prog w) A env fun e s' => R (.error e) s') s)
   (n : Nat) (h : I n s) : codeAny (model prog w) A (.compLoop (.ListComp elt [⟨target, iter, ifs, 0⟩] scope pos) 0 it acc env) R s := by
 refine codeAny_loop rfl I (fun n s hI => ?_) n h
 show wpAny _ A ((compTurn (.ListComp elt [⟨target, iter, ifs, 0⟩] scope pos) 0 it acc env).onRaise (fun x => do noteFrame x env; theTreesLotGoes x)) _ _ s
 refine wpAny_noted ?_
 rw [compTurn_list]
 refine wpAny_bind (wpAny_standAt (wpAny_bind (wpAny_mono (turn n s hI) (fun r s₁ h₁ => ?_) fun _ _ h' => h')))
 cases r with
 | none => exact wpAny_pure h₁
 | some v =>
   refine wpAny_bind (wpAny_mono h₁ (fun _ s₂ h₂ => wpAny_bind (wpAny_mono h₂ (fun _ s₃ h₃ => ?_) fun _ _ h' => h')) fun _ _ h' => h')
   refine wpAny_bind (wpAny_mono h₃ (fun ok s₄ h₄ => ?_) fun _ _ h' => h')
   cases ok with
   | false => exact wpAny_pure ⟨rfl, h₄⟩
   | true => exact wpAny_bind (wpAny_bind (wpAny_mono h₄ (fun x s₅ h₅ => wpAny_bind (wpAny_mono h₅ (fun _ s₆ h₆ => wpAny_pure (wpAny_pure ⟨rfl, h₆⟩)) fun _ _ h' => h')) fun _ _ h' => h'))
def compCx2 (X : Cx) (scope : Scope) (C : Addr) (x y : Str) (M : List Str) (s₂ : Shared) (H₂ : Hp) (fp : List Addr) : Cx :=
 { X with N := x :: y :: M, s₀ := s₂, H₀ := H₂, env := compEnvC scope (clOf X.env scope.names []) C X.env, outer := X.stack, ex := fp, fn := fun _ => false, pn := [], xe := fun _ _ => False }
structure CompOk2 (X : Cx) (scope : Scope) (x y : Str) (M : List Str) : Prop where
 base : CompOk X scope x M
 loc2 : scope.names.lookup y = some .local
 nd2 : (x :: y :: M).Nodup
theorem compOk2_of {X : Cx} {scope : Scope} {x y : Str} {M : List Str} (h : CompOk X scope x M) (h1 : scope.names.lookup y = some .local) (h2 : (x :: y :: M).Nodup) : CompOk2 X scope x y M := ⟨h, h1, h2⟩
section
variable {X : Cx} {scope : Scope} {x y : Str} {M : List Str} {pins : List (Addr × Obj)} {σ : St} {H₂ : Hp} {s₂ : Shared} {elt iter tg : Expr} {ifs : List Expr} {pos : Pos} {te : TE} {wi : TI} {g : TG} {tc : TT}
theorem inv_comp2 (K : CompOk2 X scope x y M) (I : Inv X pins σ H₂ s₂) {fp : List Addr} (hf : ∀ b ∈ fp, FpOk X pins H₂ b) (hfl : ∀ b ∈ fp, b < s₂.heap.objs.size) {C : Addr} (hC : s₂.heap.objs.size ≤ C) {h₁ : Heap} {t : Nat} {m : Str → Option Value} (hn : h₁.Ns C m)
   (hk : ∀ b o, s₂.heap.get? b = some o → h₁.get? b = some o) : Inv (compCx2 X scope C x y M s₂ H₂ fp) [] (none :: none :: σ) H₂ { s₂ with heap := h₁, toks := t } := by
 have I1 := inv_comp (t := t) K.base I hf hfl hC hn hk
 have ok : (compCx2 X scope C x y M s₂ H₂ fp).Ok := by
   obtain ⟨a1, a2, a3, a4, a5, a6, a7, a8, a9, a10, a11, a12, a13, a14, a15, a16, a17, a18⟩ := I1.ok
   exact ⟨a1, a2, a3, a4, a5, a6, a7, a8, a9, a10, a11, a12, a13, a14, a15, a16, a17, a18⟩
 obtain ⟨m', ns', lo⟩ := I1.loc
 refine ⟨ok, I1.os, I1.bare, I1.base, ⟨m', ns', fun i z v e1 e2 e3 => ?_⟩, I1.cell, I1.free, I1.freeC, I1.pin, I1.hok, ?_⟩
 · match i, e1, e2 with
   | 0, _, e2 => cases e2
   | 1, _, e2 => cases e2
   | j + 2, e1, e2 => exact lo (j + 1) z v e1 e2 e3
 · have := I1.len
   show (none :: none :: σ).length = (x :: y :: M).length
   have h2 : (none :: σ).length = (x :: M).length := this
   simp only [List.length_cons] at h2 ⊢
   omega
def tComp2 (wi : TI) (g : TG) (tc : TT) (te : TE) : TE := fun σ H Q => wi σ H fun J H1 => ∃ (n : Nat) (W : Nat → List V → Hp → Prop), n ≤ sizeLine ∧ W 0 [] H1 ∧ ∀ i ys H, i ≤ n → ys.length ≤ i → W i ys H →
 (J.stop i H ∧ ∀ p, H p = none → Q (.ref p) (upd H p (.lst ys))) ∨ (J.go i H ∧ i < n ∧ ∀ x H', J.yld i H x H' → ∀ u v, g x (u :: v :: σ) H' fun ρ H2 => (∃ u' v', ρ = u' :: v' :: σ) ∧ tc ρ H2 fun c H3 => if c = true then te ρ H3 fun z H4 => W (i + 1) (ys ++ [z]) H4 else W (i + 1) ys H3)
theorem comp_block2 (K : CompOk2 X scope x y M) (hc : X.calm = true) (I : Inv X pins σ H₂ s₂) (hg : ∀ (C : Addr) (s₂ : Shared) (H₂ : Hp) (fp : List Addr), PG (compCx2 X scope C x y M s₂ H₂ fp) tg g) (ht : ∀ (C : Addr) (s₂ : Shared) (H₂ : Hp) (fp : List Addr), PIfs (compCx2 X scope C x y M s₂ H₂ fp) ifs tc) (he : ∀ (C : Addr) (s₂ : Shared) (H₂ : Hp) (fp : List Addr), PE (compCx2 X scope C x y M s₂ H₂ fp) elt te)
   {it : Addr} {fp : List Addr} {tn : Nat → Heap → Prop} {J : It} (T : Turn X.prog X.w X.K tg J fp it tn) (st : tn 0 s₂.heap) (hf : ∀ b ∈ fp, FpOk X pins H₂ b) {n : Nat} (hsz : n ≤ sizeLine) {W : Nat → List V → Hp → Prop} {F : List V → Hp → Prop}
   (w0 : W 0 [] H₂) (turn : ∀ i ys H, i ≤ n → ys.length ≤ i → W i ys H → (J.stop i H ∧ F ys H) ∨ (J.go i H ∧ i < n ∧ ∀ x H', J.yld i H x H' → ∀ u v, g x (u :: v :: σ) H' fun ρ H2 => (∃ u' v', ρ = u' :: v' :: σ) ∧ tc ρ H2 fun c H3 => if c = true then te ρ H3 fun z H4 => W (i + 1) (ys ++ [z]) H4 else W (i + 1) ys H3))
   {E : Value → Shared → Prop} {RR : Value → Addr → Result → Shared → Prop}
   (hRR : ∀ (D C : Addr) (s' : Shared) (H' : Hp) (ys : List V) (m : Str → Option Value), Inv X pins σ (upd H' D (.lst ys)) s' → H' D = none → FpOk X pins (upd H' D (.lst ys)) C → s'.heap.Ns C m → F ys H' → RR (.ref D) C (.ok .next) s') :
   wpAny (model X.prog X.w) X.A (newList []) (fun acc s₃ => wpAny (model X.prog X.w) X.A (newFunctionEnv scope X.env.globals (clOf X.env scope.names []) [] X.env.qual none .none (some X.env)) (fun cenv s₄ =>
     codeAny (model X.prog X.w) X.A (.compStart (.ListComp elt [⟨tg, iter, ifs, 0⟩] scope pos) 0 (.ref it) acc { cenv with scope := relabel scope X.env }) (RR acc cenv.locals) s₄) E s₃) E s₂ := by
 refine wpAny_newObj_type (wpAny_newFunctionEnv K.base.cell (by intro y hy; simp at hy) (fun h₁ hns₁ hsb₁ => ?_) K.base.kind)
 dsimp only at hns₁ hsb₁ ⊢
 generalize hH2 : s₂.heap.push { cls := .type "list", dict := none, data := .seq ([] : List Value).toArray } = H2 at hns₁ hsb₁ ⊢
 have hC : H2.objs.size = s₂.heap.objs.size + 1 := by rw [← hH2, Heap.size_push]
 have hDC : s₂.heap.objs.size ≠ H2.objs.size := by rw [hC]; exact Nat.ne_of_lt (Nat.lt_succ_self _)
 have below : ∀ b, b < s₂.heap.objs.size → b ≠ H2.objs.size ∧ b ≠ s₂.heap.objs.size := fun b hb => ⟨by rw [hC]; exact Nat.ne_of_lt (Nat.lt_succ_of_lt hb), Nat.ne_of_lt hb⟩
 have hfl : ∀ b ∈ fp, b < s₂.heap.objs.size := fun b hb => by obtain ⟨o, e, _⟩ := T.obj _ _ st b hb; exact Heap.lt_size e
 have old : ∀ b o, s₂.heap.get? b = some o → h₁.get? b = some o := fun b o e => hsb₁.extBut b o (below b (Heap.lt_size e)).1 (Heap.get?_push_of_some _ (hH2 ▸ Heap.get?_push_of_some _ e))
 have hacc : h₁.get? s₂.heap.objs.size = some { cls := .type "list", data := .seq ([] : List Value).toArray 0 } := hsb₁.extBut _ _ hDC (Heap.get?_push_of_some _ (hH2 ▸ Heap.get?_push_size _ rfl))
 generalize hCC : H2.objs.size = C at *
 generalize hDD : s₂.heap.objs.size = D at *
 have hCle : s₂.heap.objs.size ≤ C := by rw [hDD, hC]; exact Nat.le_succ _
 have st₁ : tn 0 h₁ := T.keep _ _ _ st fun b _ o e => old b o e
 have I₁ := inv_comp2 (t := s₂.toks + ([] : List (Str × Value)).length) K I hf (fun b hb => by rw [hDD]; exact hfl b hb) hCle hns₁ old
 generalize hX' : compCx2 X scope C x y M s₂ H₂ fp = X' at I₁
 have eX : X'.prog = X.prog ∧ X'.w = X.w ∧ X'.K = X.K ∧ X'.calm = true ∧ X'.A = X.A ∧ X'.ex = fp ∧ X'.env = compEnvC scope (clOf X.env scope.names []) C X.env ∧ X'.s₀ = s₂ ∧ X'.pn = [] := by
   subst hX'; exact ⟨rfl, rfl, rfl, hc, rfl, rfl, rfl, rfl, rfl⟩
 obtain ⟨eP, ew, eK, ec, eA, eex, eenv, es0, epn⟩ := eX
 have eL : X'.env.locals = C := by rw [eenv]; rfl
 have cells' : ∀ y c, X'.env.cells.lookup y = some c → X.env.cells.lookup y = some c := fun y c e => by rw [eenv] at e; exact CompOk.cl_of e
 have efs : X'.fs = frs X.stack := by subst hX'; rfl
 have fsub : ∀ b ∈ X'.fs, b = X.env.locals ∨ b ∈ X.fs := fun b hb => List.mem_cons.mp (I.stkSub b (by rw [← efs]; exact hb))
 have fpok : ∀ {pn : List (Addr × Obj)} {H' : Hp}, (∀ p ∈ pn, p.1 = D) → (∀ b ∈ fp, H' b = none) → ∀ b ∈ fp, FpOk X' pn H' b := fun {pn H'} hp hn b hb => by
   refine ⟨hn b hb, ?_, fun z => ?_, .inl (by rw [eex]; exact hb), fun y c e => (hf b hb).2.2.2.2.1 y c (cells' y c e), fun p hq => ?_⟩
   · rw [eL]; exact (below b (hfl b hb)).1
   · rcases fsub b z with q | q
     · exact (hf b hb).2.1 q
     · exact (hf b hb).2.2.1 q
   · rw [epn, List.nil_append] at hq
     rw [hp p hq]; exact Ne.symm (below b (hfl b hb)).2
 have Dfp : D ∉ fp := fun z => Nat.lt_irrefl _ (hfl D z)
 have ltL : X.env.locals < D := by have := I.lt; rw [hDD] at this; exact this
 have ltF : ∀ b ∈ X.fs, b < D := fun b hb => Nat.lt_of_not_le fun z => I.nofs (a := b) (by rw [hDD]; exact z) hb
 have newok : ∀ {b : Addr} {pn : List (Addr × Obj)} {H' : Hp}, D ≤ b → b ≠ C → H' b = none → (∀ p ∈ pn, p.1 ≠ b) → FpOk X' pn H' b := fun {b pn H'} hb hbC hn hp => by
   refine ⟨hn, by rw [eL]; exact hbC, fun z => ?_, .inr (by rw [es0, hDD]; exact hb), fun y c e => ?_, fun p hq => ?_⟩
   · rcases fsub b z with q | q
     · rw [q] at hb; exact absurd (Nat.lt_of_lt_of_le ltL hb) (Nat.lt_irrefl _)
     · exact absurd (Nat.lt_of_lt_of_le (ltF b q) hb) (Nat.lt_irrefl _)
   · obtain ⟨v, o, ho, _⟩ := I.cell y c (cells' y c e)
     have := Heap.lt_size ho
     rw [hDD] at this
     exact Nat.ne_of_lt (Nat.lt_of_lt_of_le this hb)
   · rw [epn, List.nil_append] at hq
     exact hp p hq
 have outer : ∀ {σ' : St} {H' : Hp} {s' : Shared} {pn : List (Addr × Obj)}, Inv X' pn σ' H' s' → Inv X pins σ H' s' := fun {σ' H' s' pn} J' => by
   subst hX'
   refine I.call' (ch := fp) J'.os J'.base J'.hok J'.bare fun b hb => ?_
   obtain ⟨f0, f1, f2, f3, f4, f5⟩ := hf b hb
   exact ⟨f3, f1, f4, f5⟩
 have outok : ∀ {b : Addr} {H' : Hp}, D ≤ b → H' b = none → FpOk X pins H' b := fun {b H'} hb hn => by
   have q := I.fpOk (H' := H') (b := b) (by rw [hDD]; exact hb) hn
   exact q
 have loop : ∀ s₃ : Shared, s₃ = { s₂ with heap := h₁, toks := s₂.toks + ([] : List (Str × Value)).length } →
     codeAny (model X.prog X.w) X.A (.compLoop (.ListComp elt [⟨tg, iter, ifs, 0⟩] scope pos) 0 (.ref it) (.ref D) (compEnvC scope (clOf X.env scope.names []) C X.env)) (RR (.ref D) C) s₃ := by
   rintro s₃ rfl
   refine compLoop_go2 (fun k s' => ∃ (i : Nat) (ys : List V) (its : List Value) (σ0 σ1 : Option V) (H' : Hp), i ≤ n ∧ k = n + 1 - i ∧ ys.length ≤ i ∧ Inv X' [] (σ0 :: σ1 :: σ) H' s' ∧ tn i s'.heap ∧ (∀ b ∈ fp, H' b = none) ∧ H' D = none ∧ Vals ys its ∧
     (∃ c, s'.heap.get? D = some { cls := .type "list", data := .seq its.toArray c }) ∧ W i ys H') ?_ (n + 1) ⟨0, [], [], none, none, H₂, Nat.zero_le _, rfl, Nat.le_refl _, I₁, st₁, fun b hb => (hf b hb).1, by rw [← hDD]; exact I.hok.fresh (Nat.le_refl _), .nil, ⟨0, hacc⟩, w0⟩
   rintro k s' ⟨i, ys, its, σ0, σ1, H', hi, rfl, hyl, I', st', fr', hD', rv, ⟨c, hobj⟩, w'⟩
   rcases turn i ys H' hi hyl w' with ⟨stop, fin⟩ | ⟨go, hlt, step⟩
   · have pinD : Inv X' [(D, { cls := .type "list", data := .seq its.toArray c })] (σ0 :: σ1 :: σ) H' s' := I'.pins_of fun p hp => by
       obtain rfl : p = (D, { cls := .type "list", data := .seq its.toArray c }) := by simpa using hp
       refine ⟨hobj, hD', ?_, ?_, fun v z => nomatch z⟩
       · rw [eL]; exact hDC
       · intro z
         rcases fsub D z with q | q
         · rw [q] at ltL; exact Nat.lt_irrefl _ ltL
         · exact Nat.lt_irrefl _ (ltF D q)
     have q := T.done X' eP ew eK ec i _ s' (σ0 :: σ1 :: σ) H' (notedBy (model X.prog X.w) X.A (compEnvC scope (clOf X.env scope.names []) C X.env) fun e s' => RR (.ref D) C (.error e) s') pinD (fpok (fun p hp => by obtain rfl : p = (D, { cls := .type "list", data := .seq its.toArray c }) := (by simpa using hp); rfl) fr') st' stop
     rw [eA] at q
     refine wpAny_mono q (fun r s4 ⟨hr, I4⟩ => ?_) fun _ _ z => z
     subst hr
     obtain ⟨e4, n4, _⟩ := I4.pin (D, { cls := .type "list", data := .seq its.toArray c }) (List.mem_append_right _ (by simp))
     have O4 := outer I4
     obtain ⟨m4, ns4, _⟩ := I4.loc
     rw [eL] at ns4
     refine hRR D C s4 H' ys m4 (O4.track (outok (Nat.le_refl _) n4) (Nat.le_trans I.sz (by rw [hDD]; exact Nat.le_refl _)) ⟨Nat.le_trans hyl (Nat.le_trans hi hsz), its, c, rv, e4⟩) n4 (outok (by rw [hC]; exact Nat.le_succ _) ?_) ns4 fin
     rw [zJ (Ne.symm hDC)]
     have := I4.free
     rw [eL] at this
     exact this
   · have pinD : Inv X' [(D, { cls := .type "list", data := .seq its.toArray c })] (σ0 :: σ1 :: σ) H' s' := I'.pins_of fun p hp => by
       obtain rfl : p = (D, { cls := .type "list", data := .seq its.toArray c }) := by simpa using hp
       refine ⟨hobj, hD', ?_, ?_, fun v z => nomatch z⟩
       · rw [eL]; exact hDC
       · intro z
         rcases fsub D z with q | q
         · rw [q] at ltL; exact Nat.lt_irrefl _ ltL
         · exact Nat.lt_irrefl _ (ltF D q)
     have pd : ∀ p ∈ [(D, ({ cls := .type "list", data := .seq its.toArray c } : Obj))], p.1 = D := fun p hp => by obtain rfl : p = (D, { cls := .type "list", data := .seq its.toArray c }) := (by simpa using hp); rfl
     have q := T.item X' eP ew eK ec i _ s' (σ0 :: σ1 :: σ) H' (notedBy (model X.prog X.w) X.A (compEnvC scope (clOf X.env scope.names []) C X.env) fun e s' => RR (.ref D) C (.error e) s') pinD (fpok pd fr') st' go
     rw [eA] at q
     refine wpAny_mono q (fun r s4 ⟨u, hr, h4⟩ => ?_) fun _ _ z => z
     subst hr
     refine wpAny_mono h4 (fun _ s5 ⟨xv, H5, I5, r5, y5, st5, fr5⟩ => ?_) fun _ _ z => z
     have I5' := I5.pinned (fpok pd fr5) (T.obj _ _ st5)
     rw [← eenv]
     have g6 := step xv H5 y5 σ0 σ1
     have q6 := (hg C s₂ H₂ fp) (([(D, ({ cls := .type "list", data := .seq its.toArray c } : Obj))]) ++ pinsAt fp s5.heap) s5 (σ0 :: σ1 :: σ) H5 xv u _ (by rw [hX']; exact I5') r5 g6
     rw [hX', eP, ew, eA] at q6
     refine wpAny_mono q6 (fun _ s6 ⟨ρ, H6, I6, ⟨u', v', eρ⟩, t6⟩ => ?_) (fun _ _ z => by subst hX'; exact (show False from z).elim)
     subst eρ
     have q7 := (ht C s₂ H₂ fp) _ s6 (u' :: v' :: σ) H6 _ (by rw [hX']; exact I6) t6
     rw [hX', eP, ew, eA] at q7
     refine wpAny_mono q7 (fun ok s7 ⟨H7, I7, w7⟩ => ?_) (fun _ _ z => by subst hX'; exact (show False from z).elim)
     have keepT : ∀ {s8 : Shared} {H8 : Hp} {pn : List (Addr × Obj)}, Inv X' (pn ++ (([(D, ({ cls := .type "list", data := .seq its.toArray c } : Obj))]) ++ pinsAt fp s5.heap)) (u' :: v' :: σ) H8 s8 → True := fun _ => trivial
     cases ok with
     | false =>
       obtain ⟨e7, n7, _⟩ := I7.pin (D, { cls := .type "list", data := .seq its.toArray c }) (List.mem_append_right _ (List.mem_append_left _ (by simp)))
       refine ⟨n + 1 - (i + 1), by omega, i + 1, ys, its, u', v', H7, hlt, rfl, Nat.le_succ_of_le hyl, I7.pins_of (pins' := []) fun p hp => absurd hp (by simp), ?_, fun b hb => ?_, n7, rv, ⟨c, e7⟩, w7⟩
       · refine T.keep _ _ _ st5 fun b hb o e => ?_
         exact (I7.pin (b, o) (List.mem_append_right _ (List.mem_append_right _ (yB hb e)))).1
       · obtain ⟨o, e, d⟩ := T.obj _ _ st5 b hb
         exact (I7.pin (b, o) (List.mem_append_right _ (List.mem_append_right _ (yB hb e)))).2.1
     | true =>
       have q8 := (he C s₂ H₂ fp) _ s7 (u' :: v' :: σ) H7 (fun z H'' => W (i + 1) (ys ++ [z]) H'') (by rw [hX']; exact I7) w7
       rw [hX', eP, ew, eA] at q8
       refine wpAny_mono q8 (fun u8 s8 ⟨v8, H8, I8, r8, w8⟩ => ?_) (fun _ _ z => by subst hX'; exact (show False from z).elim)
       obtain ⟨e7, n7, _⟩ := I8.pin (D, { cls := .type "list", data := .seq its.toArray c }) (List.mem_append_right _ (List.mem_append_left _ (by simp)))
       refine append_at (hsz := by rw [List.size_toArray, ← rv.length]; exact Nat.le_trans hyl (Nat.le_trans hi hsz)) e7 fun h8 sb8 g8 => ?_
       have I9 : Inv X' [] (u' :: v' :: σ) H8 { s8 with heap := h8, toks := s8.toks } := (I8.pins_of (pins' := []) fun p hp => absurd hp (by simp)).turned (t' := s8.toks) (it := D) (fun b o hb e => (sb8.2 b hb).trans e) n7 (by rw [eL]; exact hDC) (.inr (by rw [es0, hDD]; exact Nat.le_refl _))
         (newok (H' := H8) (pn := []) (Nat.le_refl _) hDC n7 (fun p hp => absurd hp (by simp))).2.2.2.2.1 (fun p hp => by rw [epn] at hp; exact absurd hp (by simp))
       refine ⟨n + 1 - (i + 1), by omega, i + 1, ys ++ [v8], its ++ [u8], u', v', H8, hlt, rfl, by rw [List.length_append, List.length_singleton]; omega, I9, ?_, fun b hb => ?_, n7, rv.append (.cons r8 .nil), ⟨c + 1, ?_⟩, w8⟩
       · refine T.keep _ _ _ st5 fun b hb o e => ?_
         have e' := (I8.pin (b, o) (List.mem_append_right _ (List.mem_append_right _ (yB hb e)))).1
         exact (sb8.2 b (fun z => Dfp (z ▸ hb))).trans e'
       · obtain ⟨o, e, d⟩ := T.obj _ _ st5 b hb
         exact (I8.pin (b, o) (List.mem_append_right _ (List.mem_append_right _ (yB hb e)))).2.1
       · rw [g8, List.push_toArray]
 exact codeAny_compStart_list (loop _ rfl) (T.self X.A 0 _ _ _ st₁ (loop _ rfl))
theorem pe_comp2 (K : CompOk2 X scope x y M) (hc : X.calm = true) (hi : PI X tg iter wi) (hg : ∀ (C : Addr) (s₂ : Shared) (H₂ : Hp) (fp : List Addr), PG (compCx2 X scope C x y M s₂ H₂ fp) tg g) (ht : ∀ (C : Addr) (s₂ : Shared) (H₂ : Hp) (fp : List Addr), PIfs (compCx2 X scope C x y M s₂ H₂ fp) ifs tc) (he : ∀ (C : Addr) (s₂ : Shared) (H₂ : Hp) (fp : List Addr), PE (compCx2 X scope C x y M s₂ H₂ fp) elt te)
   (hs : ∀ x, foldedSetIterable iter X.env x = pure x := by intro _; rfl) : PE X (.ListComp elt [⟨tg, iter, ifs, 0⟩] scope pos) (tComp2 wi g tc te) := by
 intro pins s σ H Q I h
 rw [eval_ListComp]
 refine wpAny_comprehension_free (use := none) rfl hs (K.base.closure I.ok) K.base.kind K.base.names (thn (hi pins s σ H _ I h) fun v s1 h1 => thn h1 fun itv s2 h2 => ?_)
 obtain ⟨it, fp, tn, J, H2, e, I2, T, st2, f2, n, W, hsz, w0, turn⟩ := h2
 subst e
 refine comp_block2 (RR := fun acc C => compPost (model X.prog X.w) X.A X.xe none (EP X pins σ Q) acc C) K hc I2 hg ht he T st2 f2 hsz (F := fun ys H => ∀ p, H p = none → Q (.ref p) (upd H p (.lst ys))) w0 turn ?_
 intro D C s' H' ys m I' n' fC ns fin
 refine ⟨m, ns, fun h' sb => ?_⟩
 obtain ⟨f0, f1, f2, f3, f4, f5⟩ := fC
 exact ⟨.ref D, _, I'.turned (t' := s'.toks) (it := C) (fun b o hb e => (sb.2 b hb).trans e) f0 f1 f3 f4 f5, rfl, fin D n'⟩
end
end L2
namespace L2
open PySem PySem.Spec PyProof.Rows PySem.Calls
section
variable {X : Cx} {scope : Scope} {x y : Str} {M : List Str} {elt iter : Expr} {ifs : List Expr} {pos p1 p2 p3 : Pos} {kk : Nat} {te : TE} {wi : TI} {tc : TT}
structure CompRT (K : PySem.W.Frag) (J : It) (tc : TT) (te : TE) (σ : St) (H1 : Hp) (Q : VK) : Prop where
 ex : ∃ (n : Nat) (W : Nat → List V → Hp → Prop), n ≤ sizeLine ∧ W 0 [] H1 ∧ ∀ i ys H, i ≤ n → ys.length ≤ i → W i ys H →
   (J.stop i H ∧ ∀ p, H p = none → Q (.ref p) (upd H p (.lst ys))) ∨ (J.go i H ∧ i < n ∧ ∀ z H', J.yld i H z H' → ∃ (p : Addr) (a b : V), z = .ref p ∧ SqT K H' p [a, b] ∧ tc (some a :: some b :: σ) H' fun c H3 => if c = true then te (some a :: some b :: σ) H3 fun z H4 => W (i + 1) (ys ++ [z]) H4 else W (i + 1) ys H3)
def tCompT (K : PySem.W.Frag) (wi : TI) (tc : TT) (te : TE) : TE := fun σ H Q => wi σ H fun J H1 => CompRT K J tc te σ H1 Q
theorem pg_two (K : CompOk2 X scope x y M) (hc : X.calm = true) {C : Addr} {s₂ : Shared} {H₂ : Hp} {fp : List Addr} : PG (compCx2 X scope C x y M s₂ H₂ fp) (.Tuple [.Name x p1, .Name y p2] kk p3) (gTup X.K 2 (gCons (gName 0) (gCons (gName 1) gNil))) :=
 pg_tup (X := compCx2 X scope C x y M s₂ H₂ fp) hc (yC (zV K.nd2 rfl (.inl (lookup_relabel_local K.base.loc)) (.inr (lookup_relabel_local K.base.loc))) (yC (zV K.nd2 rfl (.inl (lookup_relabel_local K.loc2)) (.inr (lookup_relabel_local K.loc2))) pgs_nil))
theorem pe_compT (K : CompOk2 X scope x y M) (hc : X.calm = true) (hi : PI X (.Tuple [.Name x p1, .Name y p2] kk p3) iter wi) (ht : ∀ (C : Addr) (s₂ : Shared) (H₂ : Hp) (fp : List Addr), PIfs (compCx2 X scope C x y M s₂ H₂ fp) ifs tc) (he : ∀ (C : Addr) (s₂ : Shared) (H₂ : Hp) (fp : List Addr), PE (compCx2 X scope C x y M s₂ H₂ fp) elt te)
   (hs : ∀ x, foldedSetIterable iter X.env x = pure x := by intro _; rfl) : PE X (.ListComp elt [⟨.Tuple [.Name x p1, .Name y p2] kk p3, iter, ifs, 0⟩] scope pos) (tCompT X.K wi tc te) := by
 intro pins s σ H Q I h
 have q := pe_comp2 (pos := pos) K hc (wi := fun σ0 H0 R0 => ∃ R, wi σ0 H0 R ∧ ∀ J H1, R J H1 → R0 J H1) (pi_conv hi fun σ H R ⟨R1, a, b⟩ => ⟨R1, a, b⟩) (fun C s₂ H₂ fp => pg_two (p1 := p1) (p2 := p2) (p3 := p3) (kk := kk) K hc) ht he hs pins s σ H Q I
 refine q ⟨_, h, fun J H1 r => ?_⟩
 obtain ⟨n, W, h1, h2, h3⟩ := r.ex
 refine ⟨n, W, h1, h2, fun i ys H' hi hy hw => ?_⟩
 rcases h3 i ys H' hi hy hw with hq | ⟨g1, g2, g3⟩
 · exact .inl hq
 · refine .inr ⟨g1, g2, fun z H2 hz u v => ?_⟩
   obtain ⟨p, a, b, e, hq, t⟩ := g3 z H2 hz
   exact ⟨p, [a, b], e, hq, rfl, a, [b], rfl, b, [], rfl, rfl, ⟨_, _, rfl⟩, t⟩
end
theorem comp_listT {K : PySem.W.Frag} {a : Addr} {xs : List V} {tc : TT} {te : TE} {σ : St} {H : Hp} {Q : VK} (hz : xs.length ≤ sizeLine) (W : Nat → List V → Hp → Prop) (h0 : W 0 [] H) (hq : ∀ i ys H, W i ys H → SqL K H a xs)
   (hs : ∀ i x ys H, xs[i]? = some x → ys.length ≤ i → W i ys H → ∃ (p : Addr) (u v : V), x = .ref p ∧ SqT K H p [u, v] ∧ tc (some u :: some v :: σ) H fun c H3 => if c = true then te (some u :: some v :: σ) H3 fun z H4 => W (i + 1) (ys ++ [z]) H4 else W (i + 1) ys H3)
   (hd : ∀ ys H, W xs.length ys H → ∀ p, H p = none → Q (.ref p) (upd H p (.lst ys))) : CompRT K (Itl K a) tc te σ H Q := by
 refine ⟨xs.length, W, hz, h0, fun i ys H hi hl hw => ?_⟩
 have q := hq i ys H hw
 by_cases hlt : i < xs.length
 · refine .inr ⟨⟨xs, xs[i], q, by simp [hlt]⟩, hlt, fun v H' y => ?_⟩
   obtain ⟨e, y⟩ := y
   subst e
   exact hs i v ys _ (y xs q) hl hw
 · have e : i = xs.length := by omega
   subst e
   exact .inl ⟨⟨xs, q, Nat.le_refl _⟩, hd ys H hw⟩
section
variable {prog : Program} {w : World} {A : Around} {E : Value → Shared → Prop} {s : Shared}
end
section
variable {X : Cx}
end
section
variable {X : Cx} {tg : Expr}
end
theorem eqi_ftups {X : Cx} {H : Hp} {n : Nat} {p q : Addr} {xs ys : List V} (h : SqT X.K H p xs) (k : SqT X.K H q ys) (fx : xs.all flatV = true) (fy : ys.all flatV = true) (hxy : eqL xs ys = true → xs = ys) : EqJi X H (n + 1) (.ref p) (.ref q) (eqL xs ys) := by
 by_cases hpq : p = q
 · subst hpq
   intro pins s σ u v A I ru rv hu
   have e2 := I.tuple_inj h k
   subst e2
   rw [eqL_self fx]
   exact eqi_same (n := n + 1) pins s σ u v A I ru rv hu
 · exact eqi_refs hpq (eqj_ftups (n := n) h k fx fy)
end L2
namespace L2
open PySem PySem.Spec PyProof.Rows PySem.Calls
end L2
namespace L2
open PySem PySem.Spec PyProof.Rows PySem.Calls
end L2
namespace L2
open PySem PySem.Spec PyProof.Rows PySem.Calls
open PySem.W (tabObj CodeHd kla_obj kla_fn)
structure LamD where
 qual : Str
 params : Arguments
 body : Expr
 scope : Scope
 x : Str
 y : Str
def SameB (P : Addr) (H H' : Hp) : Prop := ∀ b u, b ≠ P → H b = some u → H' b = some u
theorem SameB.trans {P : Addr} {H H1 H2 : Hp} (a : SameB P H H1) (b : SameB P H1 H2) : SameB P H H2 := fun c u n e => b c u n (a c u n e)
theorem SameB.refl {P : Addr} {H : Hp} : SameB P H H := fun _ _ _ e => e
theorem IsCell.one {h1 h2 : Heap} {c : Addr} {v : Option Value} (x : h1.IsCell c v) (k : ∀ o, h1.get? c = some o → h2.get? c = some o) : h2.IsCell c v :=
 let ⟨o, ho, hd⟩ := x; ⟨o, k o ho, hd⟩
structure LamD.Ok (D : LamD) : Prop where
 kind : D.scope.kind = .function
 co : D.scope.isCoroutine = false
 gen : D.scope.isGenerator = false
 names : D.scope.names = [(D.x, .local), (D.y, .free)]
 ne : D.x ≠ D.y
 bind : ∀ (cc : Addr) (pm cdv ct u : Value), bindArgs (kla_fn "<lambda>" D.qual D.params D.body D.scope [(D.y, cc)] pm cdv ct) ⟨[u], []⟩ = pure [(D.x, u)]
theorem LamD.Ok.lx {D : LamD} (O : D.Ok) : D.scope.names.lookup D.x = some .local := by rw [O.names, List.lookup_cons, beq_self_eq_true]
theorem LamD.Ok.ly {D : LamD} (O : D.Ok) : D.scope.names.lookup D.y = some .free := by
 rw [O.names, List.lookup_cons, beq_eq_false_iff_ne.mpr O.ne.symm, List.lookup_cons, beq_self_eq_true]
theorem LamD.Ok.of {D : LamD} (O : D.Ok) {x : Str} {k : NameKind} (h : D.scope.names.lookup x = some k) : (x = D.x ∧ k = .local) ∨ (x = D.y ∧ k = .free) := by
 rw [O.names, List.lookup_cons] at h
 cases e : x == D.x with
 | true => rw [e] at h; cases h; exact .inl ⟨eq_of_beq e, rfl⟩
 | false =>
   rw [e, List.lookup_cons] at h
   cases e2 : x == D.y with
   | true => rw [e2] at h; cases h; exact .inr ⟨eq_of_beq e2, rfl⟩
   | false => rw [e2] at h; cases h
end L2
namespace L2
open PySem PySem.Spec PyProof.Rows PySem.Calls
open PySem.W (tabObj CodeHd kla_obj kla_fn)
end L2
namespace L2
open PySem PySem.Spec PyProof.Rows PySem.Calls
open PySem.W (tabObj CodeHd kla_obj kla_fn)
end L2
namespace L2
open PySem PySem.Spec PyProof.Rows PySem.Calls
section
variable {X : Cx}
end
end L2
namespace L2
open PySem PySem.Spec PyProof.Rows PySem.Calls
section
variable {X : Cx}
end
end L2
namespace L2
open PySem PySem.Spec
end L2
namespace L2
open PySem PySem.Spec PyProof.Rows PySem.Calls
section
variable {X : Cx}
end
end L2
namespace L2
open PySem PySem.Spec PyProof.Rows PySem.Calls
section
variable {X : Cx}
end
end L2
namespace L2
open PySem PySem.Spec PyProof.Rows PySem.Calls
section
variable {X : Cx} {scope : Scope} {x y : Str} {M : List Str} {tg elt iter : Expr} {ifs : List Expr} {pos p1 p2 p3 : Pos} {kk : Nat} {te : TE} {wi : TI} {tc : TT} {g : TG}
theorem ps_comp2 {i : Nat} {z : Str} {spos py : Pos} (hN : X.N.Nodup) (hy : X.N[i]? = some z) (hl : Loc X.env.scope z) (K : CompOk2 X scope x y M) (hc : X.calm = true) (hi : PI X tg iter wi) (hg : ∀ (C : Addr) (s₂ : Shared) (H₂ : Hp) (fp : List Addr), PG (compCx2 X scope C x y M s₂ H₂ fp) tg g) (ht : ∀ (C : Addr) (s₂ : Shared) (H₂ : Hp) (fp : List Addr), PIfs (compCx2 X scope C x y M s₂ H₂ fp) ifs tc) (he : ∀ (C : Addr) (s₂ : Shared) (H₂ : Hp) (fp : List Addr), PE (compCx2 X scope C x y M s₂ H₂ fp) elt te)
   (hsw : swapsWith (.ListComp elt [⟨tg, iter, ifs, 0⟩] scope pos) (some (.Name z py)) spos.line X.env = pure true)
   (hs : ∀ x, foldedSetIterable iter X.env x = pure x) (hf : X.fn z = true ∨ X.env.scope.names.lookup z = some .local) :
   PS X (.Assign [.Name z py] (.ListComp elt [⟨tg, iter, ifs, 0⟩] scope pos) spos) (tAsg (tComp2 wi g tc te) (gName i)) := by
 intro pins s σ H Dn I h
 rw [exec_Assign_Name_used _ _ _ _ hsw]
 refine wpAny_bind (wpAny_standAt (wpAny_bind ?_))
 show wpAny _ X.A (do let _ ← comprehension (.ListComp elt [⟨tg, iter, ifs, 0⟩] scope pos) scope X.env _ (newList []) false (eval iter X.env) (some (assign (.Name z py) X.env))) _ _ s
 refine wpAny_bind (thn (wpAny_comprehension_free (use := some (assign (.Name z py) X.env)) (Q := fun _ s' => SP X pins Dn .next s') rfl hs (K.base.closure I.ok) K.base.kind K.base.names (thn (hi pins s σ H _ I h) fun v s1 h1 => thn h1 fun itv s2 h2 => ?_)) fun _ s' hq => wpAny_pure (wpAny_pure hq))
 obtain ⟨it, fp, tn, J, H2, e, I2, T, st2, f2, n, W, hsz, w0, turn⟩ := h2
 subst e
 refine comp_block2 (RR := fun acc C => compPost (model X.prog X.w) X.A X.xe (some (assign (.Name z py) X.env)) (fun _ s' => SP X pins Dn .next s') acc C) K hc I2 hg ht he T st2 f2 hsz (F := fun ys H => ∀ p, H p = none → Dn.nx (σ.set i (some (.ref p))) (upd H p (.lst ys))) w0 turn ?_
 intro D C s' H' ys m I' n' fC ns fin
 refine wpAny_assign_Name (store_ok2 (v := .ref D) I' hN hy hl rfl (fun s'' I'' ch => ?_) hf)
 obtain ⟨f0, f1, f2, f3, f4, f5⟩ := fC
 obtain ⟨a, sb1, ha⟩ := ch
 have hCa : C ≠ a := by
   rcases ha with z | z
   · rw [z]; exact f1
   · exact Ne.symm (f4 _ a z)
 refine ⟨m, ns.sameBut sb1 hCa, fun h' sb => ?_⟩
 exact ⟨_, _, I''.turned (t' := s''.toks) (it := C) (fun b o hb e => (sb.2 b hb).trans e) f0 f1 f3 f4 f5, fin D n'⟩
theorem ps_compT {i : Nat} {z : Str} {spos py : Pos} (hN : X.N.Nodup) (hy : X.N[i]? = some z) (hl : Loc X.env.scope z) (K : CompOk2 X scope x y M) (hc : X.calm = true) (hi : PI X (.Tuple [.Name x p1, .Name y p2] kk p3) iter wi) (ht : ∀ (C : Addr) (s₂ : Shared) (H₂ : Hp) (fp : List Addr), PIfs (compCx2 X scope C x y M s₂ H₂ fp) ifs tc) (he : ∀ (C : Addr) (s₂ : Shared) (H₂ : Hp) (fp : List Addr), PE (compCx2 X scope C x y M s₂ H₂ fp) elt te)
   (hsw : swapsWith (.ListComp elt [⟨.Tuple [.Name x p1, .Name y p2] kk p3, iter, ifs, 0⟩] scope pos) (some (.Name z py)) spos.line X.env = pure true := by rfl)
   (hs : ∀ x, foldedSetIterable iter X.env x = pure x := by intro _; rfl) (hf : X.fn z = true ∨ X.env.scope.names.lookup z = some .local := by first | exact .inl rfl | exact .inr rfl | assumption) :
   PS X (.Assign [.Name z py] (.ListComp elt [⟨.Tuple [.Name x p1, .Name y p2] kk p3, iter, ifs, 0⟩] scope pos) spos) (tAsg (tCompT X.K wi tc te) (gName i)) := by
 intro pins s σ H D I h
 have q := ps_comp2 (pos := pos) (spos := spos) hN hy hl K hc (wi := fun σ0 H0 R0 => ∃ R, wi σ0 H0 R ∧ ∀ J H1, R J H1 → R0 J H1) (pi_conv hi fun σ H R ⟨R1, a, b⟩ => ⟨R1, a, b⟩) (fun C s₂ H₂ fp => pg_two (p1 := p1) (p2 := p2) (p3 := p3) (kk := kk) K hc) ht he hsw hs hf pins s σ H D I
 refine q ⟨_, h, fun J H1 r => ?_⟩
 obtain ⟨n, W, h1, h2, h3⟩ := r.ex
 refine ⟨n, W, h1, h2, fun i ys H' hi hy hw => ?_⟩
 rcases h3 i ys H' hi hy hw with hq | ⟨g1, g2, g3⟩
 · exact .inl hq
 · refine .inr ⟨g1, g2, fun z H2 hz u v => ?_⟩
   obtain ⟨p, a, b, e, hq, t⟩ := g3 z H2 hz
   exact ⟨p, [a, b], e, hq, rfl, a, [b], rfl, b, [], rfl, rfl, ⟨_, _, rfl⟩, t⟩
end
end L2
namespace L2
open PySem PySem.Spec PyProof.Rows PySem.Calls
end L2
namespace L2
open PySem PySem.Spec PyProof.Rows PySem.Calls
section
variable {X : Cx} {pins : List (Addr × Obj)} {σ : St} {H : Hp} {s : Shared} {h' : Heap}
theorem Inv.turnedM {t' : Nat} {L : List Addr} (I : Inv X pins σ H s) (k : ∀ b o, b ∉ L → s.heap.get? b = some o → h'.get? b = some o) (hL : ∀ b ∈ L, FpOk X pins H b) : Inv X pins σ H { s with heap := h', toks := t' } := by
 have nit : ∀ b u, H b = some u → b ∉ L := fun b u e z => by have := (hL b z).1; rw [this] at e; cases e
 refine I.step (g' := s.gens) (d' := s.drawn) (ch := L) (fun b hb => ?_) (fun b o _ _ hc e _ => k b o hc e) (fun b o _ _ hc e _ => ⟨o.slots, k b o hc e⟩) (fun _ _ _ _ n => n)
   (fun b o hc e => ⟨o, k b o hc e⟩) (fun _ _ e => e) (fun _ _ _ e => e) (fun b ps e => ⟨#[], by rw [e]; simp⟩) (fun m hm => ?_) (fun b u e => ?_) I.bare
 · obtain ⟨f0, f1, f2, f3, f4, f5⟩ := hL b hb
   exact ⟨f3, f1, f4, f5⟩
 · obtain ⟨o, es, ep, ho, r⟩ := hm
   exact ⟨o, es, ep, k _ o (fun z => (hL _ z).2.1 rfl) ho, r⟩
 · refine (I.hok b u e).stay (fun c v hc q => k c v ?_ q) (fun _ q => q) fun _ _ q => q
   rcases hc with z | z
   · rw [z]; exact nit b u e
   · exact nit c _ z
end
section
variable {X : Cx} {ea eb : Expr} {t : TA} {p pos tp : Pos} {elts : List Expr} {x1 : Nat}
end
end L2
namespace L2
open PySem PySem.Spec PyProof.Rows PySem.Calls
end L2
namespace L2
open PySem PySem.Spec PyProof.Rows PySem.Calls
section
variable {X : Cx} {scope : Scope} {x : Str} {M : List Str} {pins : List (Addr × Obj)} {σ : St} {H₂ : Hp} {s₂ : Shared} {elt iter tg : Expr} {ifs : List Expr} {pos px : Pos} {te : TE} {wi : TI} {g : TG} {tc : TT}
def tCompF0 (wi : TI) (g : TG) (tc : TT) (te : TE) : TE := fun σ H Q => wi σ H fun J H1 => ∃ (n : Nat) (W : Nat → List V → Hp → Prop), n ≤ sizeLine ∧ W 0 [] H1 ∧ ∀ i ys H, i ≤ n → ys.length ≤ i → W i ys H →
 (J.stop i H ∧ ∀ p, H p = none → Q (.ref p) (upd H p (.lst ys))) ∨ (J.go i H ∧ i < n ∧ ∀ x H', J.yld i H x H' → ∀ u, g x (u :: σ) H' fun ρ H2 => (∃ u', ρ = u' :: σ) ∧ tc ρ H2 fun c H3 => if c = true then te ρ H3 fun z H4 => W (i + 1) (ys ++ [z]) H4 else W (i + 1) ys H3)
theorem comp_blockF (K : CompOk X scope x M) (hc : X.calm = true) (I : Inv X pins σ H₂ s₂) (hg : ∀ (C : Addr) (s₂ : Shared) (H₂ : Hp) (fp : List Addr), PG (compCx X scope C x M s₂ H₂ fp) tg g) (ht : ∀ (C : Addr) (s₂ : Shared) (H₂ : Hp) (fp : List Addr), PIfs (compCx X scope C x M s₂ H₂ fp) ifs tc) (he : ∀ (C : Addr) (s₂ : Shared) (H₂ : Hp) (fp : List Addr), PE (compCx X scope C x M s₂ H₂ fp) elt te)
   {it : Addr} {fp : List Addr} {tn : Nat → Heap → Prop} {J : It} (T : Turn X.prog X.w X.K tg J fp it tn) (st : tn 0 s₂.heap) (hf : ∀ b ∈ fp, FpOk X pins H₂ b) {n : Nat} (hsz : n ≤ sizeLine) {W : Nat → List V → Hp → Prop} {F : List V → Hp → Prop}
   (w0 : W 0 [] H₂) (turn : ∀ i ys H, i ≤ n → ys.length ≤ i → W i ys H → (J.stop i H ∧ F ys H) ∨ (J.go i H ∧ i < n ∧ ∀ x H', J.yld i H x H' → ∀ u, g x (u :: σ) H' fun ρ H2 => (∃ u', ρ = u' :: σ) ∧ tc ρ H2 fun c H3 => if c = true then te ρ H3 fun z H4 => W (i + 1) (ys ++ [z]) H4 else W (i + 1) ys H3))
   {E : Value → Shared → Prop} {RR : Value → Addr → Result → Shared → Prop}
   (hRR : ∀ (D C : Addr) (s' : Shared) (H' : Hp) (ys : List V) (m : Str → Option Value), Inv X pins σ (upd H' D (.lst ys)) s' → H' D = none → FpOk X pins (upd H' D (.lst ys)) C → s'.heap.Ns C m → F ys H' → RR (.ref D) C (.ok .next) s') :
   wpAny (model X.prog X.w) X.A (newList []) (fun acc s₃ => wpAny (model X.prog X.w) X.A (newFunctionEnv scope X.env.globals (clOf X.env scope.names []) [] X.env.qual none .none (some X.env)) (fun cenv s₄ =>
     codeAny (model X.prog X.w) X.A (.compStart (.ListComp elt [⟨tg, iter, ifs, 0⟩] scope pos) 0 (.ref it) acc { cenv with scope := relabel scope X.env }) (RR acc cenv.locals) s₄) E s₃) E s₂ := by
 refine wpAny_newObj_type (wpAny_newFunctionEnv K.cell (by intro y hy; simp at hy) (fun h₁ hns₁ hsb₁ => ?_) K.kind)
 dsimp only at hns₁ hsb₁ ⊢
 generalize hH2 : s₂.heap.push { cls := .type "list", dict := none, data := .seq ([] : List Value).toArray } = H2 at hns₁ hsb₁ ⊢
 have hC : H2.objs.size = s₂.heap.objs.size + 1 := by rw [← hH2, Heap.size_push]
 have hDC : s₂.heap.objs.size ≠ H2.objs.size := by rw [hC]; exact Nat.ne_of_lt (Nat.lt_succ_self _)
 have below : ∀ b, b < s₂.heap.objs.size → b ≠ H2.objs.size ∧ b ≠ s₂.heap.objs.size := fun b hb => ⟨by rw [hC]; exact Nat.ne_of_lt (Nat.lt_succ_of_lt hb), Nat.ne_of_lt hb⟩
 have hfl : ∀ b ∈ fp, b < s₂.heap.objs.size := fun b hb => by obtain ⟨o, e, _⟩ := T.obj _ _ st b hb; exact Heap.lt_size e
 have old : ∀ b o, s₂.heap.get? b = some o → h₁.get? b = some o := fun b o e => hsb₁.extBut b o (below b (Heap.lt_size e)).1 (Heap.get?_push_of_some _ (hH2 ▸ Heap.get?_push_of_some _ e))
 have hacc : h₁.get? s₂.heap.objs.size = some { cls := .type "list", data := .seq ([] : List Value).toArray 0 } := hsb₁.extBut _ _ hDC (Heap.get?_push_of_some _ (hH2 ▸ Heap.get?_push_size _ rfl))
 generalize hCC : H2.objs.size = C at *
 generalize hDD : s₂.heap.objs.size = D at *
 have hCle : s₂.heap.objs.size ≤ C := by rw [hDD, hC]; exact Nat.le_succ _
 have st₁ : tn 0 h₁ := T.keep _ _ _ st fun b _ o e => old b o e
 have I₁ := inv_comp (t := s₂.toks + ([] : List (Str × Value)).length) K I hf (fun b hb => by rw [hDD]; exact hfl b hb) hCle hns₁ old
 generalize hX' : compCx X scope C x M s₂ H₂ fp = X' at I₁
 have eX : X'.prog = X.prog ∧ X'.w = X.w ∧ X'.K = X.K ∧ X'.calm = true ∧ X'.A = X.A ∧ X'.ex = fp ∧ X'.env = compEnvC scope (clOf X.env scope.names []) C X.env ∧ X'.s₀ = s₂ ∧ X'.pn = [] := by
   subst hX'; exact ⟨rfl, rfl, rfl, hc, rfl, rfl, rfl, rfl, rfl⟩
 obtain ⟨eP, ew, eK, ec, eA, eex, eenv, es0, epn⟩ := eX
 have eL : X'.env.locals = C := by rw [eenv]; rfl
 have cells' : ∀ y c, X'.env.cells.lookup y = some c → X.env.cells.lookup y = some c := fun y c e => by rw [eenv] at e; exact CompOk.cl_of e
 have efs : X'.fs = frs X.stack := by subst hX'; rfl
 have fsub : ∀ b ∈ X'.fs, b = X.env.locals ∨ b ∈ X.fs := fun b hb => List.mem_cons.mp (I.stkSub b (by rw [← efs]; exact hb))
 have fpok : ∀ {pn : List (Addr × Obj)} {H' : Hp}, (∀ p ∈ pn, p.1 = D) → (∀ b ∈ fp, H' b = none) → ∀ b ∈ fp, FpOk X' pn H' b := fun {pn H'} hp hn b hb => by
   refine ⟨hn b hb, ?_, fun z => ?_, .inl (by rw [eex]; exact hb), fun y c e => (hf b hb).2.2.2.2.1 y c (cells' y c e), fun p hq => ?_⟩
   · rw [eL]; exact (below b (hfl b hb)).1
   · rcases fsub b z with q | q
     · exact (hf b hb).2.1 q
     · exact (hf b hb).2.2.1 q
   · rw [epn, List.nil_append] at hq
     rw [hp p hq]; exact Ne.symm (below b (hfl b hb)).2
 have Dfp : D ∉ fp := fun z => Nat.lt_irrefl _ (hfl D z)
 have ltL : X.env.locals < D := by have := I.lt; rw [hDD] at this; exact this
 have ltF : ∀ b ∈ X.fs, b < D := fun b hb => Nat.lt_of_not_le fun z => I.nofs (a := b) (by rw [hDD]; exact z) hb
 have newok : ∀ {b : Addr} {pn : List (Addr × Obj)} {H' : Hp}, D ≤ b → b ≠ C → H' b = none → (∀ p ∈ pn, p.1 ≠ b) → FpOk X' pn H' b := fun {b pn H'} hb hbC hn hp => by
   refine ⟨hn, by rw [eL]; exact hbC, fun z => ?_, .inr (by rw [es0, hDD]; exact hb), fun y c e => ?_, fun p hq => ?_⟩
   · rcases fsub b z with q | q
     · rw [q] at hb; exact absurd (Nat.lt_of_lt_of_le ltL hb) (Nat.lt_irrefl _)
     · exact absurd (Nat.lt_of_lt_of_le (ltF b q) hb) (Nat.lt_irrefl _)
   · obtain ⟨v, o, ho, _⟩ := I.cell y c (cells' y c e)
     have := Heap.lt_size ho
     rw [hDD] at this
     exact Nat.ne_of_lt (Nat.lt_of_lt_of_le this hb)
   · rw [epn, List.nil_append] at hq
     exact hp p hq
 have outer : ∀ {σ' : St} {H' : Hp} {s' : Shared} {pn : List (Addr × Obj)}, Inv X' pn σ' H' s' → Inv X pins σ H' s' := fun {σ' H' s' pn} J' => by
   subst hX'
   refine I.call' (ch := fp) J'.os J'.base J'.hok J'.bare fun b hb => ?_
   obtain ⟨f0, f1, f2, f3, f4, f5⟩ := hf b hb
   exact ⟨f3, f1, f4, f5⟩
 have outok : ∀ {b : Addr} {H' : Hp}, D ≤ b → H' b = none → FpOk X pins H' b := fun {b H'} hb hn => by
   have q := I.fpOk (H' := H') (b := b) (by rw [hDD]; exact hb) hn
   exact q
 have loop : ∀ s₃ : Shared, s₃ = { s₂ with heap := h₁, toks := s₂.toks + ([] : List (Str × Value)).length } →
     codeAny (model X.prog X.w) X.A (.compLoop (.ListComp elt [⟨tg, iter, ifs, 0⟩] scope pos) 0 (.ref it) (.ref D) (compEnvC scope (clOf X.env scope.names []) C X.env)) (RR (.ref D) C) s₃ := by
   rintro s₃ rfl
   refine compLoop_go2 (fun k s' => ∃ (i : Nat) (ys : List V) (its : List Value) (σ0 : Option V) (H' : Hp), i ≤ n ∧ k = n + 1 - i ∧ ys.length ≤ i ∧ Inv X' [] (σ0 :: σ) H' s' ∧ tn i s'.heap ∧ (∀ b ∈ fp, H' b = none) ∧ H' D = none ∧ Vals ys its ∧
     (∃ c, s'.heap.get? D = some { cls := .type "list", data := .seq its.toArray c }) ∧ W i ys H') ?_ (n + 1) ⟨0, [], [], none, H₂, Nat.zero_le _, rfl, Nat.le_refl _, I₁, st₁, fun b hb => (hf b hb).1, by rw [← hDD]; exact I.hok.fresh (Nat.le_refl _), .nil, ⟨0, hacc⟩, w0⟩
   rintro k s' ⟨i, ys, its, σ0, H', hi, rfl, hyl, I', st', fr', hD', rv, ⟨c, hobj⟩, w'⟩
   rcases turn i ys H' hi hyl w' with ⟨stop, fin⟩ | ⟨go, hlt, step⟩
   · have pinD : Inv X' [(D, { cls := .type "list", data := .seq its.toArray c })] (σ0 :: σ) H' s' := I'.pins_of fun p hp => by
       obtain rfl : p = (D, { cls := .type "list", data := .seq its.toArray c }) := by simpa using hp
       refine ⟨hobj, hD', ?_, ?_, fun v z => nomatch z⟩
       · rw [eL]; exact hDC
       · intro z
         rcases fsub D z with q | q
         · rw [q] at ltL; exact Nat.lt_irrefl _ ltL
         · exact Nat.lt_irrefl _ (ltF D q)
     have q := T.done X' eP ew eK ec i _ s' (σ0 :: σ) H' (notedBy (model X.prog X.w) X.A (compEnvC scope (clOf X.env scope.names []) C X.env) fun e s' => RR (.ref D) C (.error e) s') pinD (fpok (fun p hp => by obtain rfl : p = (D, { cls := .type "list", data := .seq its.toArray c }) := (by simpa using hp); rfl) fr') st' stop
     rw [eA] at q
     refine wpAny_mono q (fun r s4 ⟨hr, I4⟩ => ?_) fun _ _ z => z
     subst hr
     obtain ⟨e4, n4, _⟩ := I4.pin (D, { cls := .type "list", data := .seq its.toArray c }) (List.mem_append_right _ (by simp))
     have O4 := outer I4
     obtain ⟨m4, ns4, _⟩ := I4.loc
     rw [eL] at ns4
     refine hRR D C s4 H' ys m4 (O4.track (outok (Nat.le_refl _) n4) (Nat.le_trans I.sz (by rw [hDD]; exact Nat.le_refl _)) ⟨Nat.le_trans hyl (Nat.le_trans hi hsz), its, c, rv, e4⟩) n4 (outok (by rw [hC]; exact Nat.le_succ _) ?_) ns4 fin
     rw [zJ (Ne.symm hDC)]
     have := I4.free
     rw [eL] at this
     exact this
   · have pinD : Inv X' [(D, { cls := .type "list", data := .seq its.toArray c })] (σ0 :: σ) H' s' := I'.pins_of fun p hp => by
       obtain rfl : p = (D, { cls := .type "list", data := .seq its.toArray c }) := by simpa using hp
       refine ⟨hobj, hD', ?_, ?_, fun v z => nomatch z⟩
       · rw [eL]; exact hDC
       · intro z
         rcases fsub D z with q | q
         · rw [q] at ltL; exact Nat.lt_irrefl _ ltL
         · exact Nat.lt_irrefl _ (ltF D q)
     have pd : ∀ p ∈ [(D, ({ cls := .type "list", data := .seq its.toArray c } : Obj))], p.1 = D := fun p hp => by obtain rfl : p = (D, { cls := .type "list", data := .seq its.toArray c }) := (by simpa using hp); rfl
     have q := T.item X' eP ew eK ec i _ s' (σ0 :: σ) H' (notedBy (model X.prog X.w) X.A (compEnvC scope (clOf X.env scope.names []) C X.env) fun e s' => RR (.ref D) C (.error e) s') pinD (fpok pd fr') st' go
     rw [eA] at q
     refine wpAny_mono q (fun r s4 ⟨u, hr, h4⟩ => ?_) fun _ _ z => z
     subst hr
     refine wpAny_mono h4 (fun _ s5 ⟨xv, H5, I5, r5, y5, st5, fr5⟩ => ?_) fun _ _ z => z
     have I5' := I5.pinned (fpok pd fr5) (T.obj _ _ st5)
     rw [← eenv]
     have g6 := step xv H5 y5 σ0
     have q6 := (hg C s₂ H₂ fp) (([(D, ({ cls := .type "list", data := .seq its.toArray c } : Obj))]) ++ pinsAt fp s5.heap) s5 (σ0 :: σ) H5 xv u _ (by rw [hX']; exact I5') r5 g6
     rw [hX', eP, ew, eA] at q6
     refine wpAny_mono q6 (fun _ s6 ⟨ρ, H6, I6, ⟨u', eρ⟩, t6⟩ => ?_) (fun _ _ z => by subst hX'; exact (show False from z).elim)
     subst eρ
     have q7 := (ht C s₂ H₂ fp) _ s6 (u' :: σ) H6 _ (by rw [hX']; exact I6) t6
     rw [hX', eP, ew, eA] at q7
     refine wpAny_mono q7 (fun ok s7 ⟨H7, I7, w7⟩ => ?_) (fun _ _ z => by subst hX'; exact (show False from z).elim)
     have keepT : ∀ {s8 : Shared} {H8 : Hp} {pn : List (Addr × Obj)}, Inv X' (pn ++ (([(D, ({ cls := .type "list", data := .seq its.toArray c } : Obj))]) ++ pinsAt fp s5.heap)) (u' :: σ) H8 s8 → True := fun _ => trivial
     cases ok with
     | false =>
       obtain ⟨e7, n7, _⟩ := I7.pin (D, { cls := .type "list", data := .seq its.toArray c }) (List.mem_append_right _ (List.mem_append_left _ (by simp)))
       refine ⟨n + 1 - (i + 1), by omega, i + 1, ys, its, u', H7, hlt, rfl, Nat.le_succ_of_le hyl, I7.pins_of (pins' := []) fun p hp => absurd hp (by simp), ?_, fun b hb => ?_, n7, rv, ⟨c, e7⟩, w7⟩
       · refine T.keep _ _ _ st5 fun b hb o e => ?_
         exact (I7.pin (b, o) (List.mem_append_right _ (List.mem_append_right _ (yB hb e)))).1
       · obtain ⟨o, e, d⟩ := T.obj _ _ st5 b hb
         exact (I7.pin (b, o) (List.mem_append_right _ (List.mem_append_right _ (yB hb e)))).2.1
     | true =>
       have q8 := (he C s₂ H₂ fp) _ s7 (u' :: σ) H7 (fun z H'' => W (i + 1) (ys ++ [z]) H'') (by rw [hX']; exact I7) w7
       rw [hX', eP, ew, eA] at q8
       refine wpAny_mono q8 (fun u8 s8 ⟨v8, H8, I8, r8, w8⟩ => ?_) (fun _ _ z => by subst hX'; exact (show False from z).elim)
       obtain ⟨e7, n7, _⟩ := I8.pin (D, { cls := .type "list", data := .seq its.toArray c }) (List.mem_append_right _ (List.mem_append_left _ (by simp)))
       refine append_at (hsz := by rw [List.size_toArray, ← rv.length]; exact Nat.le_trans hyl (Nat.le_trans hi hsz)) e7 fun h8 sb8 g8 => ?_
       have I9 : Inv X' [] (u' :: σ) H8 { s8 with heap := h8, toks := s8.toks } := (I8.pins_of (pins' := []) fun p hp => absurd hp (by simp)).turned (t' := s8.toks) (it := D) (fun b o hb e => (sb8.2 b hb).trans e) n7 (by rw [eL]; exact hDC) (.inr (by rw [es0, hDD]; exact Nat.le_refl _))
         (newok (H' := H8) (pn := []) (Nat.le_refl _) hDC n7 (fun p hp => absurd hp (by simp))).2.2.2.2.1 (fun p hp => by rw [epn] at hp; exact absurd hp (by simp))
       refine ⟨n + 1 - (i + 1), by omega, i + 1, ys ++ [v8], its ++ [u8], u', H8, hlt, rfl, by rw [List.length_append, List.length_singleton]; omega, I9, ?_, fun b hb => ?_, n7, rv.append (.cons r8 .nil), ⟨c + 1, ?_⟩, w8⟩
       · refine T.keep _ _ _ st5 fun b hb o e => ?_
         have e' := (I8.pin (b, o) (List.mem_append_right _ (List.mem_append_right _ (yB hb e)))).1
         exact (sb8.2 b (fun z => Dfp (z ▸ hb))).trans e'
       · obtain ⟨o, e, d⟩ := T.obj _ _ st5 b hb
         exact (I8.pin (b, o) (List.mem_append_right _ (List.mem_append_right _ (yB hb e)))).2.1
       · rw [g8, List.push_toArray]
 exact codeAny_compStart_list (loop _ rfl) (T.self X.A 0 _ _ _ st₁ (loop _ rfl))
theorem pe_compF0 (K : CompOk X scope x M) (hc : X.calm = true) (hi : PI X tg iter wi) (hg : ∀ (C : Addr) (s₂ : Shared) (H₂ : Hp) (fp : List Addr), PG (compCx X scope C x M s₂ H₂ fp) tg g) (ht : ∀ (C : Addr) (s₂ : Shared) (H₂ : Hp) (fp : List Addr), PIfs (compCx X scope C x M s₂ H₂ fp) ifs tc) (he : ∀ (C : Addr) (s₂ : Shared) (H₂ : Hp) (fp : List Addr), PE (compCx X scope C x M s₂ H₂ fp) elt te)
   (hs : ∀ x, foldedSetIterable iter X.env x = pure x := by intro _; rfl) : PE X (.ListComp elt [⟨tg, iter, ifs, 0⟩] scope pos) (tCompF0 wi g tc te) := by
 intro pins s σ H Q I h
 rw [eval_ListComp]
 refine wpAny_comprehension_free (use := none) rfl hs (K.closure I.ok) K.kind K.names (thn (hi pins s σ H _ I h) fun v s1 h1 => thn h1 fun itv s2 h2 => ?_)
 obtain ⟨it, fp, tn, J, H2, e, I2, T, st2, f2, n, W, hsz, w0, turn⟩ := h2
 subst e
 refine comp_blockF (RR := fun acc C => compPost (model X.prog X.w) X.A X.xe none (EP X pins σ Q) acc C) K hc I2 hg ht he T st2 f2 hsz (F := fun ys H => ∀ p, H p = none → Q (.ref p) (upd H p (.lst ys))) w0 turn ?_
 intro D C s' H' ys m I' n' fC ns fin
 refine ⟨m, ns, fun h' sb => ?_⟩
 obtain ⟨f0, f1, f2, f3, f4, f5⟩ := fC
 exact ⟨.ref D, _, I'.turned (t' := s'.toks) (it := C) (fun b o hb e => (sb.2 b hb).trans e) f0 f1 f3 f4 f5, rfl, fin D n'⟩
structure CompRF (J : It) (tc : TT) (te : TE) (σ : St) (H1 : Hp) (Q : VK) : Prop where
 ex : ∃ (n : Nat) (W : Nat → List V → Hp → Prop), n ≤ sizeLine ∧ W 0 [] H1 ∧ ∀ i ys H, i ≤ n → ys.length ≤ i → W i ys H →
   (J.stop i H ∧ ∀ p, H p = none → Q (.ref p) (upd H p (.lst ys))) ∨ (J.go i H ∧ i < n ∧ ∀ z H', J.yld i H z H' → tc (some z :: σ) H' fun c H3 => if c = true then te (some z :: σ) H3 fun z H4 => W (i + 1) (ys ++ [z]) H4 else W (i + 1) ys H3)
def tCompF (wi : TI) (tc : TT) (te : TE) : TE := fun σ H Q => wi σ H fun J H1 => CompRF J tc te σ H1 Q
theorem pg_oneF (K : CompOk X scope x M) {C : Addr} {s₂ : Shared} {H₂ : Hp} {fp : List Addr} : PG (compCx X scope C x M s₂ H₂ fp) (.Name x px) (gName 0) :=
 zV K.nd rfl (.inl (lookup_relabel_local K.loc)) (.inr (lookup_relabel_local K.loc))
theorem pe_compF (K : CompOk X scope x M) (hc : X.calm = true) (hi : PI X (.Name x px) iter wi) (ht : ∀ (C : Addr) (s₂ : Shared) (H₂ : Hp) (fp : List Addr), PIfs (compCx X scope C x M s₂ H₂ fp) ifs tc) (he : ∀ (C : Addr) (s₂ : Shared) (H₂ : Hp) (fp : List Addr), PE (compCx X scope C x M s₂ H₂ fp) elt te)
   (hs : ∀ x, foldedSetIterable iter X.env x = pure x := by intro _; rfl) : PE X (.ListComp elt [⟨.Name x px, iter, ifs, 0⟩] scope pos) (tCompF wi tc te) := by
 intro pins s σ H Q I h
 have q := pe_compF0 (pos := pos) K hc (wi := fun σ0 H0 R0 => ∃ R, wi σ0 H0 R ∧ ∀ J H1, R J H1 → R0 J H1) (pi_conv hi fun σ H R ⟨R1, a, b⟩ => ⟨R1, a, b⟩) (fun C s₂ H₂ fp => pg_oneF (px := px) K) ht he hs pins s σ H Q I
 refine q ⟨_, h, fun J H1 r => ?_⟩
 obtain ⟨n, W, h1, h2, h3⟩ := r.ex
 refine ⟨n, W, h1, h2, fun i ys H' hi hy hw => ?_⟩
 rcases h3 i ys H' hi hy hw with hq | ⟨g1, g2, g3⟩
 · exact .inl hq
 · exact .inr ⟨g1, g2, fun z H2 hz u => ⟨⟨_, rfl⟩, g3 z H2 hz⟩⟩
theorem pifs_eqv {X : Cx} {ifs : List Expr} {t u : TT} (h : PIfs X ifs t) (e : t = u) : PIfs X ifs u := e ▸ h
end
theorem comp_listF {K : PySem.W.Frag} {a : Addr} {xs : List V} {tc : TT} {te : TE} {σ : St} {H : Hp} {Q : VK} (hz : xs.length ≤ sizeLine) (W : Nat → List V → Hp → Prop) (h0 : W 0 [] H) (hq : ∀ i ys H, W i ys H → SqL K H a xs)
   (hs : ∀ i x ys H, xs[i]? = some x → ys.length ≤ i → W i ys H → tc (some x :: σ) H fun c H3 => if c = true then te (some x :: σ) H3 fun z H4 => W (i + 1) (ys ++ [z]) H4 else W (i + 1) ys H3)
   (hd : ∀ ys H, W xs.length ys H → ∀ p, H p = none → Q (.ref p) (upd H p (.lst ys))) : CompRF (Itl K a) tc te σ H Q := by
 refine ⟨xs.length, W, hz, h0, fun i ys H hi hl hw => ?_⟩
 have q := hq i ys H hw
 by_cases hlt : i < xs.length
 · refine .inr ⟨⟨xs, xs[i], q, by simp [hlt]⟩, hlt, fun v H' y => ?_⟩
   obtain ⟨e, y⟩ := y
   subst e
   exact hs i v ys _ (y xs q) hl hw
 · have e : i = xs.length := by omega
   subst e
   exact .inl ⟨⟨xs, q, Nat.le_refl _⟩, hd ys H hw⟩
section
variable {X : Cx} {k : Nat} {m : Str} {pos apos : Pos} {o : Expr} {ta : TE}
end
end L2
namespace L2
open PySem PySem.Spec PyProof.Rows PySem.Calls
def Ite (K : PySem.W.Frag) (a : Addr) : It :=
 ⟨fun i H => ∃ xs x, SqL K H a xs ∧ xs[i]? = some x,
  fun i H z H' => ∃ T x, z = .ref T ∧ H T = none ∧ H' = upd H T (.tup [.int i, x]) ∧ ∀ xs, SqL K H a xs → xs[i]? = some x,
  fun i H => ∃ xs, SqL K H a xs ∧ xs.length ≤ i⟩
def EnT (e it a : Addr) (i : Nat) (h : Heap) : Prop := (∃ old, IsEnum h e it i old) ∧ h.IsListIter it a i
theorem turn_enum {P : Program} {w : World} {K : PySem.W.Frag} {elts : List Expr} {x1 : Nat} {tp : Pos} {e it a : Addr} (D : e ≠ it) : Turn P w K (.Tuple elts x1 tp) (Ite K a) [e, it] e (EnT e it a) where
 mem := by simp
 obj := fun i h st c hc => by
   obtain ⟨⟨u, h1⟩, h4⟩ := st
   simp only [List.mem_cons, List.not_mem_nil, or_false] at hc
   rcases hc with q | q
   · subst q; exact ⟨_, h1, fun v q => by cases q⟩
   · subst q; obtain ⟨o, e, c, d⟩ := h4; exact ⟨o, e, fun v q => by rw [d] at q; cases q⟩
 keep := fun i h h' st k => by
   obtain ⟨⟨u, h1⟩, h4⟩ := st
   exact ⟨⟨u, k _ (by simp) _ h1⟩, h4.at fun o q => k it (by simp) o q⟩
 item := by
   intro X hP hw hK hc i pins s σ H E I hf st hg
   subst hP hw hK
   obtain ⟨xs, x, hq, hx⟩ := hg
   obtain ⟨⟨old, h1⟩, h4⟩ := st
   obtain ⟨its, rv, p, hz⟩ := I.list hq
   obtain ⟨u, hu, ru⟩ := rv.get hx
   refine wpAny_pyNext_enum_item h1 h4 p.isList (x := u) (by simpa using hu) D fun h' a1 a2 a3 a4 a5 => ?_
   refine ⟨_, rfl, wpAny_letOwnedTupleGo_enum (s := { s with heap := h', toks := s.toks + 1 }) a1 fun h'' b1 b2 => ?_⟩
   have hT : H s.heap.objs.size = none := I.hok.fresh (Nat.le_refl _)
   have lt : ∀ c ∈ [e, it], c < s.heap.objs.size := fun c hc => by
     simp only [List.mem_cons, List.not_mem_nil, or_false] at hc
     rcases hc with q | q
     · subst q; exact Heap.lt_size h1
     · subst q; obtain ⟨o, q, _⟩ := h4; exact Heap.lt_size q
   have kk : ∀ c o, c ∉ [e, it] → s.heap.get? c = some o → h''.get? c = some o := fun c o hc q => by
     simp only [List.mem_cons, List.not_mem_nil, or_false, not_or] at hc
     exact (b2.2 c hc.1).trans (a5 c o hc.1 hc.2 q)
   have I1 : Inv X pins σ H { s with heap := h'', toks := s.toks + 1 } := I.turnedM (t' := s.toks + 1) kk hf
   have zT : s.heap.objs.size ≠ e := fun q => Nat.lt_irrefl _ (q ▸ lt e (by simp))
   have a5' := (b2.2 _ zT).trans a3
   have I2 := I1.track (a := s.heap.objs.size) (o := .tup [.int i, x]) (I.fpOk (Nat.le_refl _) hT) I.sz ⟨by show 2 ≤ sizeLine; decide, [.int i s.toks, u], .cons ⟨_, rfl⟩ (.cons ru .nil), ⟨_, a5', rfl, _, rfl⟩⟩
   refine ⟨.ref s.heap.objs.size, _, I2, rfl, ⟨_, x, rfl, hT, rfl, fun zs hzs => by rw [I.list_inj hzs hq]; exact hx⟩, ⟨⟨_, b1⟩, a2.at fun o q => (b2.2 _ (Ne.symm D)).trans q⟩, fun c hc => ?_⟩
   rw [zJ (Nat.ne_of_lt (lt c hc))]; exact (hf c hc).1
 done := by
   intro X hP hw hK hc i pins s σ H E I hf st hg
   subst hP hw hK
   obtain ⟨xs, hq, hx⟩ := hg
   obtain ⟨⟨old, h1⟩, h4⟩ := st
   obtain ⟨its, rv, p, hz⟩ := I.list hq
   have hl := rv.length
   refine wpAny_pyNext_enum_end (I.ok.hd hc) h1 h4 p.isList (by simp; omega) fun h' a7 => ⟨rfl, I.turnedM (t' := s.toks) (fun c o hc q => ?_) hf⟩
   simp only [List.mem_cons, List.not_mem_nil, or_false, not_or] at hc
   exact a7 c o hc.2 q
 self := fun _ _ _ _ _ st h => by
   obtain ⟨⟨u, h1⟩, _⟩ := st
   exact wpAny_pyIter_enum h1 h
section
variable {X : Cx} {ea : Expr} {t : TA} {p pos tp : Pos} {elts : List Expr} {x1 : Nat}
def iEnum (K : PySem.W.Frag) (t : TA) : TI := fun σ H R => t σ H fun vs H1 => ∃ a, vs = [.ref a] ∧ (∃ xs, SqL K H1 a xs) ∧ R (Ite K a) H1
theorem boot_enum : bootBuiltins "enumerate" = some (.type "enumerate") := by symm
theorem pi_enum (hg : Gl X "enumerate") (hm : X.mg "enumerate" = none) (ha : PA X [ea] t) (hs : starEach [ea] X.env = [(false, eval ea X.env)] := by rfl) :
   PI X (.Tuple elts x1 tp) (.Call (.Name "enumerate" p) [ea] [] pos) (iEnum X.K t) := by
 intro pins s σ H R I h
 refine Call_ (ld_blt I hg hm boot_enum (PyProof.Rows.callWith_type1 (thn (ha pos pins s σ H _ I h) fun us s1 ⟨vs, H1, I1, r1, q1⟩ => ?_) (by rw [hs]; rfl) (by rfl)))
 obtain ⟨a, e, ⟨xs, hq⟩, q⟩ := q1
 subst e
 cases r1 with
 | cons r rr =>
   cases rr
   cases r
   obtain ⟨its, rv, pl, hz⟩ := I1.list hq
   refine call_enumerate_list pl.isList fun h' z1 z2 z3 z7 => ?_
   refine wpAny_pyIter_enum (s := { s1 with heap := h' }) z1 ?_
   have I2 : Inv X pins σ H1 { s1 with heap := h' } := I1.kept (t' := s1.toks) z7
   refine ⟨_, [s1.heap.objs.size + 1, s1.heap.objs.size], _, _, H1, rfl, I2, turn_enum (Nat.succ_ne_self _), ⟨⟨_, z1⟩, z2⟩, fun c hc => ?_, q⟩
   have hle : s1.heap.objs.size ≤ c := by
     simp only [List.mem_cons, List.not_mem_nil, or_false] at hc
     rcases hc with e | e
     · rw [e]; exact Nat.le_succ _
     · rw [e]; exact Nat.le_refl _
   exact I1.fpOk hle (I1.hok.fresh hle)
end
theorem for_enumR {K : PySem.W.Frag} {a : Addr} {xs : List V} {g : TG} {tb : TS} {D : Ends} {σ : St} {H : Hp} (Pv : Nat → St → Hp → Prop) (h0 : Pv 0 σ H) (hq : ∀ i σ H, i ≤ xs.length → Pv i σ H → SqL K H a xs)
   (hs : ∀ i x σ H, xs[i]? = some x → Pv i σ H → ∀ T, H T = none → g (.ref T) σ (upd H T (.tup [.int i, x])) fun σ2 H2 => tb { D with nx := Pv (i + 1), ct := Pv (i + 1), bk := D.nx } σ2 H2) (hd : ∀ σ H, Pv xs.length σ H → D.nx σ H) : ForR (Ite K a) g tb D σ H := by
 refine ⟨fun i m σ H => i ≤ xs.length ∧ m = xs.length - i ∧ Pv i σ H, ⟨_, Nat.zero_le _, rfl, h0⟩, fun i m σ H ⟨hi, hm, hp⟩ => ?_⟩
 have q1 := hq i σ H hi hp
 by_cases c : i = xs.length
 · subst c
   exact .inl ⟨⟨xs, q1, Nat.le_refl _⟩, hd σ H hp⟩
 · have hlt : i < xs.length := by omega
   have hx : xs[i]? = some xs[i] := List.getElem?_eq_getElem hlt
   refine .inr ⟨⟨xs, _, q1, hx⟩, Pv (i + 1), fun σ' H' hn => ⟨xs.length - (i + 1), by omega, by omega, rfl, hn⟩, fun z H' hz => ?_⟩
   obtain ⟨T, x, rfl, hT, rfl, e1⟩ := hz
   exact hs i x σ H (e1 xs q1) hp T hT
end L2
namespace L2
open PySem PySem.Spec PyProof.Rows PySem.Calls
section
variable {X : Cx}
theorem op_in_d (hu : X.A.units + 1 < cLine) : OpR X (compareOp .In) (fun x y H Q => ∃ a o, y = .ref a ∧ DGet H a x o ∧ Q (.bl o.isSome) H) := by
 intro pins s σ H x y v u Q I rx ry h
 obtain ⟨a, o, rfl, g, q⟩ := h
 cases ry
 exact d_in hu I g rx fun s' I' => ⟨.bl _, H, I', rfl, q⟩
theorem op_notIn_d (hu : X.A.units + 1 < cLine) : OpR X (compareOp .NotIn) (fun x y H Q => ∃ a o, y = .ref a ∧ DGet H a x o ∧ Q (.bl (!o.isSome)) H) := by
 intro pins s σ H x y v u Q I rx ry h
 obtain ⟨a, o, rfl, g, q⟩ := h
 cases ry
 exact d_notIn hu I g rx fun s' I' => ⟨.bl _, H, I', rfl, q⟩
end
theorem keys_no : typeLookup (.type "list") "keys" = pure none := by rw [typeLookup_type, builtinLookup_eq_fast]; kernel_rfl
theorem ask_keys {prog : Program} {w : World} {A : Around} {E : Value → Shared → Prop} {s : Shared} {a : Addr} {xs : Array Value} {k : Nat} {sl : Array (Option Value)} {Q : Option Value → Shared → Prop}
   (hx : s.heap.get? a = some ⟨.type "list", none, .seq xs k, sl⟩) (hA : A.handled = none) (h : ∀ h' tk e, Heap.NewExcOf s.heap h' e "AttributeError" → Q none { s with heap := h', toks := tk }) :
   wpAny (model prog w) A (getAttr? (.ref a) "keys") Q E s := by
 obtain ⟨hp, g, d, tk, os⟩ := s
 have ty : ∀ j, (⟨hp, g, d, j, os⟩ : Shared).TypeIs (.ref a) "list" := fun _ => ⟨_, hx, rfl⟩
 have a1 := sub_AttributeError
 have a3 := PySem.F.slot_list_getattribute.lookup
 have a4 := PySem.F.slot_list_getattribute.bind (.ref a)
 have a5 := am_list_getattr_none
 unfold getAttr? getAttrBy? getAttrBy
 repeat (any_goals (first
   | assumption
   | exact ty _
   | ((with_reducible show wpAny _ _ (call (Value.builtin "list.__getattribute__") _ _) _ _ _)
      refine call_meets PySem.F.slot_list_getattribute (ty _) am_entry_list_getattribute (PySem.F.args_list_getattribute_2 _ _) (meets_getattribute_miss_list a xs k sl "keys" _ keys_no (by decide) (by size_fits)) ⟨hx, hA, fun h' tk' e hx' => ?_⟩)
   | wp_step))
 obtain ⟨t', u', he⟩ := hx'.there
 show wpAny _ _ (getattributeRaised _ _ _ _ _ _ _) _ _ _
 unfold getattributeRaised hookOrError
 repeat (any_goals (first | assumption | wp_step))
 exact h _ _ _ hx'.of
theorem ent_loop : entryFor table "dict.update.loop" = some Builtin.«dict.update.loop» := entryFor_of_tree (by kernel_rfl)
end L2
namespace L2
open PySem PySem.Spec PySem.Calls PyProof.Rows
def RawD (h : Heap) (d : Addr) (es : Array DictEntry) (ep : Nat) : Prop := ∃ o, h.get? d = some o ∧ o.ExactDict ∧ o.data = .dict es ep
theorem RawD.keep {h h' : Heap} {d : Addr} {es : Array DictEntry} {ep : Nat} (x : RawD h d es ep) (k : ∀ o, h.get? d = some o → h'.get? d = some o) : RawD h' d es ep := let ⟨o, ho, r⟩ := x; ⟨o, k o ho, r⟩
theorem RawD.lt {h : Heap} {d : Addr} {es : Array DictEntry} {ep : Nat} (x : RawD h d es ep) : d < h.objs.size := let ⟨_, ho, _⟩ := x; Heap.lt_size ho
section
variable {prog : Program} {w : World} {A : Around} {E : Value → Shared → Prop} {s : Shared} {d it : Addr} {es : Array DictEntry} {ep i : Nat}
theorem RawD.ty (x : RawD s.heap d es ep) : s.TypeIs (.ref d) "dict" := let ⟨o, ho, c, _⟩ := x; ⟨o, ho, c.1⟩
theorem raw_iter {Q : Value → Shared → Prop} (hd : (d == sysModules) = false) (hm : RawD s.heap d es ep)
   (q : Q (.ref s.heap.objs.size) { s with heap := s.heap.push { cls := .type "dict_keyiterator", data := .fields #[.ref d, .int 0 0, .int es.size 0, .int ep 0] } }) : wpAny (model prog w) A (pyIter (.ref d)) Q E s := by
 obtain ⟨o, ho, hc, hdat⟩ := id hm
 refine wpAny_pyIter_slot hm.ty F.slot_dict_iter (wpAny_call_entry F.slot_dict_iter hm.ty F.entry_dict_iter ?_ (F.args_dict_iter_1 _))
 unfold Builtin.«dict.__iter__»
 refine wpAny_bind ?_
 unfold Builtin.Dict.dictSlotNone
 refine wpAny_bind (wpAny_notOrdered_dict hm.ty ?_)
 refine wpAny_pure ?_
 show wpAny _ _ (Builtin.Dict.showsAll d >>= _) _ _ s
 unfold Builtin.Dict.showsAll
 rw [if_neg (by rw [hd]; exact Bool.false_ne_true)]
 refine wpAny_bind (wpAny_pure (wpAny_bind (wpAny_dictEntries ho hdat (wpAny_bind (wpAny_dictEpoch ho hdat ?_)))))
 refine wpAny_bind (wpAny_newObj_type (wpAny_pure ⟨_, rfl, "dict_keyiterator", _, ⟨_, Heap.get?_push_size _ rfl, rfl⟩, F.slot_dict_keyiterator_next.lookup, ?_⟩))
 simpa [rawInt] using q
theorem raw_item {Q : Option Value → Shared → Prop} (hit : s.heap.IsKeyIter it d i es.size ep) (hm : RawD s.heap d es ep) (hi : i < es.size)
   (q : ∀ h', h'.IsKeyIter it d (i + 1) es.size ep → Heap.SameBut it s.heap h' → Q (some es[i].key) { s with heap := h' }) : wpAny (model prog w) A (pyNext (.ref it)) Q E s := by
 obtain ⟨o, ho, hc, hd⟩ := id hit
 obtain ⟨od, hod, hcd, hdd⟩ := id hm
 unfold pyNext
 refine wpAny_bind (wpAny_attempt (wpAny_callSpecial?_slot (name := Str.ofString "__next__") hit.typeIs F.slot_dict_keyiterator_next
   (wpAny_call_entry F.slot_dict_keyiterator_next hit.typeIs F.entry_dict_keyiterator_next ?_ (F.args_dict_keyiterator_next_1 _))))
 refine wpAny_bind (wpAny_pure (wpAny_bind (wpAny_bind ?_)))
 first | refine wpAny_bind (wpAny_typeNameOfWhole_keyiter hit.typeIs (wpAny_pure ?_)) | refine wpAny_bind (wpAny_typeNameOf_keyiter hit.typeIs (wpAny_pure ?_))
 refine wpAny_bind (wpAny_fieldsOf ho hd ?_)
 simp only [show Builtin.Dict_items.ownsTuple "dict_keyiterator" = false by decide, Bool.false_eq_true, if_false]
 show wpAny _ _ (if (Value.ref d == Value.none) = true then _ else _) _ _ s
 rw [if_neg (show ¬ ((Value.ref d == Value.none) = true) from Bool.false_ne_true)]
 refine wpAny_bind (wpAny_pure (wpAny_bind (wpAny_dictEntries hod hdd ?_)))
 rw [if_neg (by simp)]
 refine wpAny_bind (wpAny_pure (wpAny_bind (wpAny_dictEpoch hod hdd ?_)))
 rw [if_neg (by simp)]
 refine wpAny_pure ?_
 simp only [show ¬ ((i : Int) < 0) from by omega, if_false, Int.toNat_natCast, Array.getElem?_eq_getElem hi]
 refine wpAny_bind ?_
 first | refine wpAny_bind (wpAny_typeNameOfWhole_keyiter hit.typeIs (wpAny_pure ?_)) | refine wpAny_bind (wpAny_typeNameOf_keyiter hit.typeIs (wpAny_pure ?_))
 refine wpAny_bind (wpAny_isOneOf_keyiter hit.typeIs ?_)
 show wpAny _ _ (setField (.ref it) 1 (rawInt ((i : Int) + 1)) >>= _) _ _ s
 refine wpAny_bind (wpAny_setField ho hd (by simp) ?_)
 have hit' : (s.heap.update it (Obj.mapFields (·.setIfInBounds 1 (rawInt ((i : Int) + 1))))).IsKeyIter it d (i + 1) es.size ep :=
   ⟨_, Heap.get?_update_self _ ho (Obj.isFreed_of_fields (Obj.data_mapFields hd _)), (Obj.cls_mapFields ..).trans hc, by rw [Obj.data_mapFields hd]; simp [rawInt]⟩
 refine wpAny_bind (wpAny_holding (wpAny_bind (wpAny_isOneOf_keyiter (s := { s with heap := s.heap.update it (Obj.mapFields (·.setIfInBounds 1 (rawInt ((i : Int) + 1)))) }) hit'.typeIs ?_)))
 show wpAny _ _ (pure es[i].key) _ _ _
 exact wpAny_pure (wpAny_pure ⟨_, rfl, wpAny_pure (q _ hit' (Heap.SameBut.update ..))⟩)
theorem raw_end {Q : Option Value → Shared → Prop} (hh : A.handled = none) (hit : s.heap.IsKeyIter it d es.size es.size ep) (hm : RawD s.heap d es ep)
   (q : ∀ h', Heap.ExtBut it s.heap h' → Q none { s with heap := h' }) : wpAny (model prog w) A (pyNext (.ref it)) Q E s := by
 obtain ⟨o, ho, hc, hd⟩ := id hit
 obtain ⟨od, hod, hcd, hdd⟩ := id hm
 unfold pyNext
 refine wpAny_bind (wpAny_attempt (wpAny_callSpecial?_slot (name := Str.ofString "__next__") hit.typeIs F.slot_dict_keyiterator_next
   (wpAny_call_entry F.slot_dict_keyiterator_next hit.typeIs F.entry_dict_keyiterator_next ?_ (F.args_dict_keyiterator_next_1 _))))
 refine wpAny_bind (wpAny_pure (wpAny_bind (wpAny_bind ?_)))
 first | refine wpAny_bind (wpAny_typeNameOfWhole_keyiter hit.typeIs (wpAny_pure ?_)) | refine wpAny_bind (wpAny_typeNameOf_keyiter hit.typeIs (wpAny_pure ?_))
 refine wpAny_bind (wpAny_fieldsOf ho hd ?_)
 simp only [show Builtin.Dict_items.ownsTuple "dict_keyiterator" = false by decide, Bool.false_eq_true, if_false]
 show wpAny _ _ (if (Value.ref d == Value.none) = true then _ else _) _ _ s
 rw [if_neg (show ¬ ((Value.ref d == Value.none) = true) from Bool.false_ne_true)]
 refine wpAny_bind (wpAny_pure (wpAny_bind (wpAny_dictEntries hod hdd ?_)))
 rw [if_neg (by simp)]
 refine wpAny_bind (wpAny_pure (wpAny_bind (wpAny_dictEpoch hod hdd ?_)))
 rw [if_neg (by simp)]
 refine wpAny_pure ?_
 simp only [show ¬ ((es.size : Int) < 0) from by omega, if_false, Int.toNat_natCast, Array.getElem?_eq_none (Nat.le_refl es.size)]
 refine wpAny_bind ?_
 first | refine wpAny_bind (wpAny_typeNameOfWhole_keyiter hit.typeIs (wpAny_pure ?_)) | refine wpAny_bind (wpAny_typeNameOf_keyiter hit.typeIs (wpAny_pure ?_))
 show wpAny _ _ (setField (.ref it) 0 .none >>= _) _ _ s
 refine wpAny_bind (wpAny_setField ho hd (by simp) ?_)
 show wpAny _ _ (newExc (.type "StopIteration") [] >>= _) _ _ _
 refine wpAny_bind ?_
 simp only [newExc, newTuple]
 refine wpAny_bind (wpAny_newObj_type ?_ (by size_fits))
 refine wpAny_bind (m := firstArgMember _ _) (wpAny_of_eq (a := Value.none) (by first | rfl | (simp only [firstArgMember]; rfl)) ?_)
 refine wpAny_newObj_type ?_ (by size_fits)
 simp only [raiseNew]
 refine wpAny_bind (wpAny_handled ?_)
 rw [show A.in1.handled = none from hh]
 refine wpAny_bind (wpAny_pure (wpAny_throw ?_))
 refine wpAny_bind (wpAny_isInstance (T := "StopIteration") (b := true) ⟨_, Heap.get?_push_size _ rfl, rfl⟩ isSubtype_stop ?_)
 exact wpAny_pure (q _ (((Heap.SameBut.update ..).extBut.push _).push _))
theorem raw_walks (hh : A.handled = none) (I d : Addr) (hne : d ≠ I) (es : Array DictEntry) (ep : Nat) :
   Walks prog w A I [I, d] [I] es.size (fun i v => ∃ e, es[i]? = some e ∧ e.key = v) (fun i h => h.IsKeyIter I d i es.size ep ∧ RawD h d es ep) where
 sub := fun b hb => by simp at hb; simp [hb]
 frame := fun _ _ _ st hk => ⟨st.1.at fun o e => hk I (by simp) o e, st.2.keep fun o e => hk d (by simp) o e⟩
 item := fun i s Q E hi st hQ => raw_item st.1 st.2 hi fun h' hit hs => hQ _ h' s.toks ⟨es[i], by simp [hi], rfl⟩ ⟨hit, st.2.keep fun o e => hs.extBut d o hne e⟩ fun b o hb e => hs.extBut b o (fun h => hb (by simp [h])) e
 done := fun s Q E st hQ => raw_end hh st.1 st.2 fun h' he => hQ h' s.toks fun b o hb e => he b o (fun h => hb (by simp [h])) e
 self := fun _ _ _ _ st hQ => wpAny_pyIter_keyiter st.1 hQ
theorem raw_src (lo : (d == sysModules) = false) : PySem.W.KdlSrc prog w "dict" d d es.size (fun i v => ∃ e, es[i]? = some e ∧ e.key = v) (fun h => RawD h d es ep) where
 type := fun _ hm => hm.ty
 there := fun _ hm => ⟨hm.lt, hm.lt⟩
 keep := fun _ _ hm hk => hm.keep fun o e => hk d (.inl rfl) o e
 notList := by decide
 notTuple := by decide
 hint := fun _ _ _ _ hm hq => PySem.W.kdl_hint_dict hm.ty hq
 iter := fun _ _ hh hm => ⟨_, _, (fun _ _ hq => raw_iter lo hm hq), raw_walks hh _ d (Nat.ne_of_lt hm.lt) es ep, ⟨⟨_, Heap.get?_push_size _ rfl, rfl, rfl⟩, hm.keep fun o e => Heap.get?_push_of_some _ e⟩⟩
end
section
variable {X : Cx} {pos : Pos}
end
end L2
namespace L2
open PySem PySem.Spec PySem.Calls PySem.W PyProof.Rows
inductive KAll (n : Nat) {α : Type} (R : α → Prop) : KasT α → Prop
 | ret {a : α} : R a → KAll n R (.ret a)
 | ask {i j : Nat} {k : Bool → KasT α} : i < n → j < n → (∀ b, KAll n R (k b)) → KAll n R (.ask i j k)
theorem KAll.bind {n : Nat} {α β : Type} {R : α → Prop} {S : β → Prop} {f : α → KasT β} {t : KasT α} (h : KAll n R t) (k : ∀ a, R a → KAll n S (f a)) : KAll n S (t.bind f) := by
 induction h with
 | ret r => exact k _ r
 | ask hi hj _ ih => exact .ask hi hj ih
def PlG (n : Nat) (p : Array Nat) : Prop := p.size = n ∧ ∀ x ∈ p, x < n
theorem PlG.at {n : Nat} {p : Array Nat} (h : PlG n p) (hn : 0 < n) (k : Nat) : p.getD k 0 < n := by
 rw [Array.getD_eq_getD_getElem?]
 by_cases hk : k < p.size
 · rw [Array.getElem?_eq_getElem hk]; exact h.2 _ (Array.getElem_mem hk)
 · rw [Array.getElem?_eq_none (by omega)]; exact hn
end L2
namespace L2
open PySem PySem.Spec PySem.Calls PySem.W PyProof.Rows
section
variable {prog : Program} {w : World} {A : Around} {E : Value → Shared → Prop} {s : Shared}
def IsTT (h : Heap) (v : Value) : Prop := ∃ x o q t tq tt m, v = .ref x ∧ h.get? x = some o ∧ o.cls = .type "tuple" ∧ o.data = .seq #[.str q tq, .str t tt] m
theorem IsTT.keep {h h' : Heap} {v : Value} (x : IsTT h v) (k : ∀ b o, h.get? b = some o → o.cls = .type "tuple" → h'.get? b = some o) : IsTT h' v := let ⟨a, o, q, t, tq, tt, m, e, ho, hc, r⟩ := x; ⟨a, o, q, t, tq, tt, m, e, k _ _ ho hc, hc, r⟩
end
end L2
namespace L2
open PySem PySem.Spec PyProof.Rows PySem.Calls
section
variable {X : Cx} {scope : Scope} {x y z : Str} {M : List Str} {elt iter : Expr} {ifs : List Expr} {pos p1 p2 p3 p4 : Pos} {kk : Nat} {te : TE} {wi : TI} {tc : TT}
structure CompRT3 (K : PySem.W.Frag) (J : It) (tc : TT) (te : TE) (σ : St) (H1 : Hp) (Q : VK) : Prop where
 ex : ∃ (n : Nat) (W : Nat → List V → Hp → Prop), n ≤ sizeLine ∧ W 0 [] H1 ∧ ∀ i ys H, i ≤ n → ys.length ≤ i → W i ys H →
   (J.stop i H ∧ ∀ p, H p = none → Q (.ref p) (upd H p (.lst ys))) ∨ (J.go i H ∧ i < n ∧ ∀ z H', J.yld i H z H' → ∃ (p : Addr) (a b d : V), z = .ref p ∧ SqT K H' p [a, b, d] ∧ tc (some a :: some b :: σ) H' fun c H3 => if c = true then te (some a :: some b :: σ) H3 fun z H4 => W (i + 1) (ys ++ [z]) H4 else W (i + 1) ys H3)
end
end L2
namespace L2
open PySem PySem.Spec PyProof.Rows PySem.Calls PySem.W PySem.Builtin PySem.Builtin.ObjectAttr PySem.Builtin.Getset_descriptor
structure ExcGet (K : PySem.W.Frag) (D : Addr) (f : Str) : Prop where
 ga : findIn K (.ref D) "__getattribute__" = some (some (.builtin "BaseException.__getattribute__"))
 gk : findIn K (.ref D) "__getattr__" = some none
 hd : hasDictIn K D = true
 at_ : findIn K (.ref D) f = some none
 mb : mroIn K D (.type "BaseException") = some true
section
variable {prog : Program} {w : World} {A : Around} {E : Value → Shared → Prop} {s : Shared} {K : PySem.W.Frag} {x D : Addr} {ox : Obj} {od : Obj} {name : Str} {v : Value}
def excMro : List Value → Bool
 | .ref _ :: r => excMro r
 | l => l == mroVE
structure ExcSet (K : PySem.W.Frag) (D : Addr) (f : Str) : Prop where
 sa : findIn K (.ref D) "__setattr__" = some (some (.builtin "object.__setattr__"))
 hd : hasDictIn K D = true
 at_ : findIn K (.ref D) f = some none
 mr : (clsIn K D).any (fun cd => excMro cd.mro) = true
 mo : mroIn K D (.type "object") = some true
end
end L2
namespace L2
open PySem PySem.Spec PyProof.Rows PySem.Calls PySem.W PySem.Builtin PySem.Builtin.ObjectAttr PySem.Builtin.Getset_descriptor
def excInI (K : PySem.W.Frag) (C : Addr) : Bool := match K.lookup C with
 | some ⟨.type "type", _, .cls cd, sl⟩ => (match cd.mro, sl.toList with
   | .ref C' :: bm, [_, _, _, _, some (.builtin n), _] => C' == C && n == "ValueError.__new__" && !cd.hasDel && tailIn K mroVE bm
   | _, _ => false)
 | _ => false
section
variable {prog : Program} {w : World} {A : Around} {E : Value → Shared → Prop} {s : Shared} {K : PySem.W.Frag} {C fI : Addr}
end
end L2
namespace L2
open PySem PySem.Spec PyProof.Rows PySem.Calls PySem.W PySem.Builtin PySem.Builtin.ObjectAttr PySem.Builtin.Getset_descriptor
theorem upd_back {H : Hp} {a : Addr} {o : HO} (h : H a = some o) : upd H a o = H := by
 funext b; unfold upd; split
 · rename_i e; rw [e, h]
 · rfl
structure BInit (K : PySem.W.Frag) (C : Addr) : Prop where
 rd : PySem.W.readsIn K C (.type "type") = true
 at_ : PySem.W.findCls K (.ref C) (.type "type") "__init__" = some (.val (.builtin "ValueError.__init__"))
 sp : PySem.W.specialIn K (.ref C) "__getattribute__" = some (some (.builtin "type.__getattribute__"))
section
variable {X : Cx} {pos apos np : Pos} {e : Expr} {es : List Expr} {t : TA} {x : Str} {C0 : Addr}
end
end L2
namespace L2
open PySem PySem.Spec PyProof.Rows PySem.Calls PySem.W PySem.Builtin
section
variable {X : Cx} {pins : List (Addr × Obj)} {σ : St} {H : Hp} {s : Shared} {o value : Expr} {f : Str} {pos pos' : Pos} {ta tv : TE}
end
section
variable {P : Program} {w : World} {K : PySem.W.Frag} {mg : Str → Option Value} {base : Heap} {N : List Str} {qual : Str} {scope : Scope} {f : Addr} {cdv : Value} {A : Around} {outer : List Env} {s : Shared} {H : Hp} {E : XK}
end
end L2
namespace L2
open PySem PySem.Spec PyProof.Rows PySem.Calls PySem.W PySem.Builtin
section
variable {P : Program} {w : World} {K : PySem.W.Frag} {mg : Str → Option Value} {base : Heap} {N : List Str} {qual : Str} {scope : Scope} {f : Addr} {cdv : Value} {A : Around} {outer : List Env} {s : Shared} {H : Hp} {E : XK}
structure MkX (K : PySem.W.Frag) (C f : Addr) : Prop where
 ex : excInI K C = true
 init : PySem.W.findIn K (.ref C) "__init__" = some (some (.ref f))
 fn : PySem.W.isFn K (.ref f) = true
 kp : PySem.W.keepIn K (.ref C) = true
end
end L2
namespace L2
open PySem PySem.Spec PyProof.Rows PySem.Calls
section
variable {X : Cx}
theorem keys_rel {P : Program} {w : World} : ∀ {es : List DictEntry} {vs : List (Key × Value)} {kvs : List (Key × V)}, Pairs (mixKind P w) es vs → KV kvs vs → Vals (kvs.map fun p => kV p.1) (es.map (·.key))
 | _, _, _, .nil, .nil => .nil
 | _, _, _, .cons hk _ t, .cons r t' => by
   refine .cons ?_ (keys_rel t t')
   rw [mixKind_is] at hk
   dsimp only
   rw [r.1]
   rcases zQ hk with ⟨i, u, e, z⟩ | ⟨x, u, e, z⟩
   · rw [e, z]; exact ⟨u, rfl⟩
   · rw [e, z]; exact ⟨u, rfl⟩
variable {tg : Expr}
end
end L2
namespace L2
open PySem PySem.Spec PyProof.Rows PySem.Calls PySem.W
section
variable {K : PySem.W.Frag} {C A0 fI : Addr} {xo : Value} {xd : Option Addr} {cd cdA : ClassData} {sl : Array (Option Value)}
end
section
variable {X : Cx} {scope : Scope} {x : Str} {M : List Str} {pins : List (Addr × Obj)} {σ : St} {H₂ : Hp} {s₂ : Shared} {elt iter tg : Expr} {ifs : List Expr} {pos px : Pos} {te : TE} {wi : TI} {g : TG} {tc : TT}
end
end L2
namespace L2
open PySem PySem.Spec PyProof.Rows PySem.Calls
theorem dict_keep {prog : Program} {w : World} {h h' : Heap} {d : Addr} {kvs : List (Key × Value)} (x : h.DictOf (mixKind prog w) d kvs) (k : ∀ o, h.get? d = some o → h'.get? d = some o) : h'.DictOf (mixKind prog w) d kvs :=
 let ⟨o, es, ep, ho, r⟩ := x; ⟨o, es, ep, k o ho, r⟩
theorem dict_loop {prog : Program} {w : World} {A : Around} {R : Result → Shared → Prop} {d it l : Addr} {items : Array Value} {rows : List (Key × Value)} {res : Value}
   (hdi : d ≠ it) (hdl : d ≠ l) (hil : it ≠ l) (hand : A.handled = none) (hlen : items.size = rows.length) (hz : rows.length ≤ sizeLine) :
   ∀ (k i : Nat) (s : Shared), items.size - i = k → i ≤ items.size → s.heap.IsListIter it l i → s.heap.IsList l items →
     (∀ (j : Nat) (x : Value) (kv : Key × Value), items[j]? = some x → rows[j]? = some kv → ∃ t u, x = .ref t ∧ IsTup s.heap t #[u, kv.2] ∧ (mixKind prog w).is kv.1 u = true ∧ t ≠ d ∧ t ≠ it) →
     s.heap.DictOf (mixKind prog w) d (merged [] (rows.take i)) →
     (∀ h' tk, (∀ b o, b ≠ d → b ≠ it → s.heap.get? b = some o → h'.get? b = some o) → h'.DictOf (mixKind prog w) d (merged [] rows) → R (.ok (.ret res)) { s with heap := h', toks := tk }) →
     codeAny (model prog w) A (.builtin "dict.update.loop" ⟨[.ref d, .ref it, rawInt (i : Nat), res], []⟩) R s := by
 intro k
 induction k with
 | zero =>
   intro i s hk hi hit hl hrow hd hR
   refine codeAny_builtin ent_loop ?_
   rw [Around.under_plainId (by symm)]
   unfold Builtin.«dict.update.loop»
   refine wpAny_bind (wpAny_pyNext_list_end hand hit hl (by rw [Array.getElem?_eq_none]; omega) fun h2 x2 => ?_)
   show wpAny _ _ (Builtin.Dict.addKeywords d [] >>= _) _ _ _
   refine wpAny_bind (wpAny_pure (wpAny_pure (hR h2 s.toks (fun b o _ hb e => x2 b o hb e) ?_)))
   have e1 : rows.take i = rows := List.take_of_length_le (by omega)
   rw [e1] at hd
   exact dict_keep hd fun o e => x2 d o hdi e
 | succ k ih =>
   intro i s hk hi hit hl hrow hd hR
   have hlt : i < items.size := by omega
   obtain ⟨x, hx⟩ : ∃ x, items[i]? = some x := ⟨_, Array.getElem?_eq_getElem hlt⟩
   obtain ⟨kv, hkv⟩ : ∃ kv, rows[i]? = some kv := ⟨_, List.getElem?_eq_getElem (by omega)⟩
   obtain ⟨t, u, rfl, ht, hu, htd, hti⟩ := hrow i x kv hx hkv
   refine codeAny_builtin ent_loop ?_
   rw [Around.under_plainId (by symm)]
   unfold Builtin.«dict.update.loop»
   refine wpAny_bind (wpAny_pyNext_list_item hit hl hx fun h1 it1 sb1 => ?_)
   obtain ⟨ot, hot, hct, nt, hdt⟩ := id ht
   have hot1 : h1.get? t = some ot := (sb1.2 t hti).trans hot
   show wpAny _ _ (holding [Value.ref t] _ >>= _) _ _ _
   refine wpAny_bind (wpAny_holding ?_)
   refine wpAny_bind (wpAny_tryCatch ?_)
   unfold Builtin.Dict.pairItems
   refine wpAny_bind (wpAny_typeOf (T := "tuple") ⟨_, hot1, hct⟩ ?_)
   rw [if_pos (by decide)]
   refine wpAny_bind (wpAny_seqItems hot1 hdt ?_)
   refine wpAny_pure ?_
   show wpAny _ _ (holding [u, kv.2] (dictSet d u kv.2)) _ _ _
   have hle : (merged ([] : List (Key × Value)) (rows.take i)).length ≤ sizeLine := by
     have e1 := merged_length_le ([] : List (Key × Value)) (rows.take i)
     have e2 := List.length_take_le i rows
     have e3 : ([] : List (Key × Value)).length = 0 := rfl
     have e4 : (rows.take i).length ≤ rows.length := List.length_take_le' i rows
     omega
   refine wpAny_holding (wpAny_dictSet_pairs (s := { s with heap := h1 }) (kvs := merged [] (rows.take i)) hu (dict_keep hd fun o e => (sb1.2 d hdi).trans e) (fun h2 d2 sb2 => ?_) hle)
   refine wpAny_pure ⟨plainId_quiet (by symm) _, ?_⟩
   have hk2 : ∀ b o, b ≠ d → b ≠ it → s.heap.get? b = some o → h2.get? b = some o := fun b o n1 n2 e => (sb2.2 b n1).trans ((sb1.2 b n2).trans e)
   refine ih (i + 1) _ (by omega) hlt ?_ ?_ ?_ ?_ ?_
   · obtain ⟨oi, hoi, r⟩ := it1
     exact ⟨oi, (sb2.2 it (Ne.symm hdi)).trans hoi, r⟩
   · obtain ⟨ol, hol, r⟩ := hl
     exact ⟨ol, hk2 l _ (Ne.symm hdl) (Ne.symm hil) hol, r⟩
   · intro j x kv hx hkv
     obtain ⟨t, u, e, ⟨o, ho, r⟩, hu, n1, n2⟩ := hrow j x kv hx hkv
     exact ⟨t, u, e, ⟨o, hk2 t _ n1 n2 ho, r⟩, hu, n1, n2⟩
   · rw [merged_take_succ _ _ _ _ hkv]; exact d2
   · intro h' tk hk' hd'
     exact hR h' tk (fun b o n1 n2 e => hk' b o n1 n2 (hk2 b o n1 n2 e)) hd'
abbrev mkD (rows : List (Key × V)) : List (Key × V) := mergeK [] rows
def PrR (H : Hp) (x : V) (kv : Key × V) : Prop := ∃ a, x = .ref a ∧ H a = some (.tup [kV kv.1, kv.2])
theorem rows_of {P : Program} {w : World} {H : Hp} {h : Heap} (ok : HOk P w H h) : ∀ {ts : List V} {rows : List (Key × V)} {its : List Value}, Paired (PrR H) ts rows → Vals ts its →
   ∃ vs : List (Key × Value), KV rows vs ∧ ∀ (j : Nat) (x : Value) (kv : Key × Value), its[j]? = some x → vs[j]? = some kv → ∃ t u, x = .ref t ∧ (∃ ys, H t = some (.tup ys)) ∧ IsTup h t #[u, kv.2] ∧ (mixKind P w).is kv.1 u = true
 | _, _, _, .nil, .nil => ⟨[], .nil, fun j x kv e => by simp at e⟩
 | _, _, _, .cons r rs, .cons q qs => by
   obtain ⟨vs, hv, h2⟩ := rows_of ok rs qs
   obtain ⟨a, rfl, ha⟩ := r
   cases q
   obtain ⟨_, us, ru, ht⟩ := (show ObjOk P w H h a (.tup _) from ok a _ ha)
   cases ru with
   | cons r1 ru =>
     cases ru with
     | cons r2 ru =>
       cases ru
       refine ⟨(_, _) :: vs, .cons ⟨rfl, r2⟩ hv, fun j x kv e1 e2 => ?_⟩
       cases j with
       | zero =>
         cases e1; cases e2
         exact ⟨a, _, rfl, ⟨_, ha⟩, ht, kV_is r1⟩
       | succ j => exact h2 j x kv e1 e2
theorem call_dict_pairs {X : Cx} (hc : X.calm = true) : CallR X (.type "dict") (fun xs H Q => ∃ p ts rows, xs = [.ref p] ∧ H p = some (.lst ts) ∧ Paired (PrR H) ts rows ∧ ∀ d, H d = none → Q (.ref d) (upd H d (.dK (mkD rows)))) := by
 intro pins s σ H xs us Q I r h
 obtain ⟨p, ts, rows, rfl, hp, hrw, q⟩ := h
 obtain ⟨u, rfl, ru⟩ := r.one
 cases ru
 obtain ⟨hz, its, n, rv, ho⟩ := (show ObjOk X.prog X.w H s.heap p (.lst ts) from I.hok p _ hp)
 obtain ⟨vs, hv, hrow⟩ := rows_of I.hok hrw rv
 have big := I.big
 have hand : X.A.handled = none := I.ok.hd hc
 have elen : its.length = vs.length := by rw [← rv.length, ← hv.length]; exact Paired.length hrw
 have hpl := Heap.lt_size ho
 refine callType_codes (Q₁ := fun obj s₁ => obj = .ref s.heap.objs.size ∧ s₁ = { s with heap := s.heap.push { cls := .type "dict", data := .dict #[] } }) PySem.F.kt_called_dict (PySem.F.kt_typeCall_dict_1 _) PySem.F.entry_dict_init (kt_code_dict_new _ ⟨rfl, rfl⟩) ?_
 rintro obj s₁ ⟨rfl, rfl⟩
 have new : (s.heap.push { cls := .type "dict", data := .dict #[] }).DictOf (mixKind X.prog X.w) s.heap.objs.size [] := Heap.DictOf.new s.heap
 refine ⟨new.typeIs, PySem.F.args_dict_init_2 _ _, ?_⟩
 unfold Builtin.«dict.__init__» Builtin.Dict.selfAndRest
 refine wpAny_bind (wpAny_bind (wpAny_notOrdered_dict new.typeIs ?_))
 show wpAny _ _ (pure (s.heap.objs.size, [Value.ref p])) _ _ _
 refine wpAny_pure ?_
 show wpAny _ _ (Builtin.Dict.updateFrom "dict.__init__" _ (.ref p) [] .none) _ _ _
 unfold Builtin.Dict.updateFrom
 have ho1 := Heap.get?_push_of_some { cls := .type "dict", data := .dict #[] } ho
 refine wpAny_bind (wpAny_typeOf (T := "list") ⟨_, ho1, rfl⟩ ?_)
 rw [if_pos (by decide)]
 refine wpAny_bind (ask_keys ho1 (show X.A.in1.in1.handled = none from hand) fun h1 tk1 e1 x1 => ?_)
 rw [if_pos (by rfl)]
 have ho2 := x1.keeps _ _ ho1
 have hl2 : h1.IsList p its.toArray := ⟨_, ho2, rfl, n, rfl⟩
 refine wpAny_bind (wpAny_rule (wpAny_bind (wpAny_pyIter_list (s := { s with heap := h1, toks := tk1 }) hl2 ?_)))
 have hsz1 : s.heap.objs.size < h1.objs.size := by
   obtain ⟨o, _, _, ho, _⟩ := id new
   exact Heap.lt_size (x1.keeps _ _ ho)
 have kk : ∀ b o, s.heap.get? b = some o → (h1.push { cls := .type "list_iterator", data := .fields #[.ref p, .int 0 0] }).get? b = some o := fun b o e => Heap.get?_push_of_some _ (x1.keeps b o (Heap.get?_push_of_some _ e))
 refine wpAny_pure ⟨plainId_quiet (by symm) _, ?_⟩
 refine dict_loop (rows := vs) (l := p) (items := its.toArray) (Nat.ne_of_lt hsz1) (Nat.ne_of_gt hpl) (Nat.ne_of_gt (Nat.lt_trans hpl hsz1)) (by first | exact hand | (rw [Around.under_plainId (by symm)]; exact hand)) (by simpa using elen) (by rw [← elen, ← rv.length]; exact hz) _ 0 _ rfl (Nat.zero_le _) ?_ ?_ ?_ ?_ ?_
 · exact ⟨_, Heap.get?_push_size _ rfl, rfl, rfl⟩
 · exact ⟨_, kk _ _ ho, rfl, n, rfl⟩
 · intro j x kv e1 e2
   obtain ⟨t, u, ex, ⟨ys, hys⟩, ⟨o, hot, r⟩, hu⟩ := hrow j x kv (by simpa using e1) e2
   have ht := Heap.lt_size hot
   exact ⟨t, u, ex, ⟨o, kk _ _ hot, r⟩, hu, Nat.ne_of_lt ht, Nat.ne_of_lt (Nat.lt_trans ht hsz1)⟩
 · exact dict_keep new fun o e => Heap.get?_push_of_some _ (x1.keeps _ _ e)
 · intro h' tk hk' hd'
   refine ⟨rfl, .ref s.heap.objs.size, _, I.laid (a := s.heap.objs.size) (o := .dK (mkD rows)) (h' := h') (t' := tk) (fun b o e => ?_) (Nat.le_refl _) ⟨?_, beq_eq_false_iff_ne.mpr (Ne.symm (Nat.ne_of_lt big)), _, KV.merge hv .nil, hd'⟩, rfl, q _ (I.hok.fresh (Nat.le_refl _))⟩
   · have hb := Heap.lt_size e
     exact hk' b o (Nat.ne_of_lt hb) (Nat.ne_of_lt (Nat.lt_trans hb hsz1)) (kk b o e)
   · refine Nat.le_trans (length_mergeK rows []) ?_
     rw [List.length_nil, Nat.zero_add, hv.length, ← elen, ← rv.length]; exact hz
theorem key_rel {P : Program} {w : World} {k : Key} {u : Value} (hk : (mixKind P w).is k u = true) : RelV (kV k) u := by
 rw [mixKind_is] at hk
 rcases zQ hk with ⟨i, u, e, z⟩ | ⟨x, u, e, z⟩
 · rw [e, z]; exact ⟨u, rfl⟩
 · rw [e, z]; exact ⟨u, rfl⟩
section
variable {X : Cx} {o : Expr} {to : TE} {apos cpos tp : Pos} {elts : List Expr} {x1 : Nat}
end
end L2
namespace L2
open PySem PySem.Spec PyProof.Rows PySem.Calls
theorem hash_none {prog : Program} {w : World} {A : Around} {E : Value → Shared → Prop} {s : Shared} {Q : Int → Shared → Prop} (h : Q 4238894112 { s with toks := s.toks + 1 }) : wpAny (model prog w) A (pyHash .none) Q E s := by
 unfold pyHash
 have ty : s.TypeIs .none "NoneType" := rfl
 have hv : [Value.none].any Value.onHeap = false := rfl
 show wpAny _ _ (pyHashByItsType .none) _ _ _
 unfold pyHashByItsType
 refine wpAny_bind ?_
 rw [cRoomFor, if_neg (by rw [hv]; exact Bool.false_ne_true)]
 refine wpAny_pure ?_
 refine wpAny_bind (wpAny_specialOf ty PySem.F.slot_NoneType_hash.lookup ?_)
 show wpAny _ _ (if (some (Value.builtin "NoneType.__hash__") == some Value.none) = true then _ else _) Q E s
 rw [if_neg (by rw [beq_builtin_none]; exact Bool.false_ne_true)]
 refine wpAny_bind (wpAny_specialOf ty PySem.F.slot_NoneType_hash.lookup ?_)
 show wpAny _ _ (callSpecialIfBoundUnlessNone? .none "__hash__" _ >>= _) Q E s
 refine wpAny_bind (wpAny_callSpecialIfBoundUnlessNone?_slot ty PySem.F.slot_NoneType_hash (wpAny_call_entry PySem.F.slot_NoneType_hash ty PySem.F.entry_NoneType_hash ?_ (PySem.F.args_NoneType_hash_1 _)))
 unfold Builtin.«NoneType.__hash__»
 refine wpAny_bind (wpAny_pure ?_)
 show wpAny _ _ (do ret (← mkInt 4238894112)) _ _ s
 refine wpAny_ret_mkInt ?_
 show wpAny _ _ (if (decide (-(2 : Int) ^ 63 ≤ 4238894112) && decide ((4238894112 : Int) < 2 ^ 63)) = true then _ else _) Q E _
 rw [if_pos (by decide)]
 exact wpAny_pure h
def optIs : Option Key → Value → Bool
 | none, .none => true
 | some k, v => keyIs k v
 | _, _ => false
theorem yE : ∀ {k : Option Key} {v : Value}, optIs k v = true → (k = none ∧ v = Value.none) ∨ ∃ q, k = some q ∧ keyIs q v = true
 | none, v, h => by
   cases v <;> first | exact .inl ⟨rfl, rfl⟩ | exact nomatch h
 | some q, v, h => .inr ⟨q, rfl, by simpa [optIs] using h⟩
theorem key_some (a b : Key) : decide ((some a : Option Key) = some b) = decide (a = b) := by
 by_cases e : a = b
 · subst e; simp
 · rw [decide_eq_false e, decide_eq_false (fun q => e (Option.some.inj q))]
theorem key_ns (b : Key) : decide ((none : Option Key) = some b) = false := decide_eq_false (fun q => nomatch q)
theorem key_sn (b : Key) : decide ((some b : Option Key) = none) = false := decide_eq_false (fun q => nomatch q)
def optKind (prog : Program) (w : World) : PySem.KeyKind prog w (Option Key) where
 is := optIs
 hash := fun | none => 4238894112 | some k => keyH w k
 inj := fun v a b ha hb => by
   rcases yE ha with ⟨rfl, rfl⟩ | ⟨p, rfl, hp⟩
   · rcases yE hb with ⟨rfl, _⟩ | ⟨q, rfl, hq⟩
     · rfl
     · rcases zQ hq with ⟨_, _, _, e⟩ | ⟨_, _, _, e⟩ <;> exact nomatch e
   · rcases yE hb with ⟨rfl, rfl⟩ | ⟨q, rfl, hq⟩
     · rcases zQ hp with ⟨_, _, _, e⟩ | ⟨_, _, _, e⟩ <;> exact nomatch e
     · rw [(mixKind prog w).inj v p q hp hq]
 byValue := fun k v h => by
   rcases yE h with ⟨rfl, rfl⟩ | ⟨p, rfl, hp⟩
   · rfl
   · exact (mixKind prog w).byValue p v hp
 pyHash := fun hv h => by
   rcases yE hv with ⟨rfl, rfl⟩ | ⟨p, rfl, hp⟩
   · exact hash_none h
   · exact (mixKind prog w).pyHash hp h
 eqBool := fun hu hv h => by
   rcases yE hu with ⟨rfl, rfl⟩ | ⟨p, rfl, hp⟩
   · rcases yE hv with ⟨rfl, rfl⟩ | ⟨q, rfl, hq⟩
     · exact (SeqAt.EqAt.same _) _ _ _ _ h
     · rw [key_ns] at h
       rcases zQ hq with ⟨j, u, rfl, rfl⟩ | ⟨y, u, rfl, rfl⟩
       · exact SeqAt.EqAt.none_int j u _ _ _ _ h
       · exact SeqAt.EqAt.none_str y u _ _ _ _ h
   · rcases yE hv with ⟨rfl, rfl⟩ | ⟨q, rfl, hq⟩
     · rw [key_sn] at h
       rcases zQ hp with ⟨j, u, rfl, rfl⟩ | ⟨y, u, rfl, rfl⟩
       · exact SeqAt.EqAt.int_none j u _ _ _ _ h
       · exact SeqAt.EqAt.str_none y u _ _ _ _ h
     · rw [key_some] at h; exact (mixKind prog w).eqBool hp hq h
 «strs» := fun k x t v h => by
   rcases yE h with ⟨rfl, e⟩ | ⟨p, rfl, hp⟩
   · exact nomatch e
   · exact (mixKind prog w).strs p x t v hp
theorem pairs_opt {prog : Program} {w : World} : ∀ {es : List DictEntry} {vs : List (Key × Value)}, Pairs (mixKind prog w) es vs → Pairs (optKind prog w) es (vs.map fun p => (some p.1, p.2))
 | _, _, .nil => .nil
 | _, _, .cons hk hh t => .cons hk hh (pairs_opt t)
theorem dictOf_opt {prog : Program} {w : World} {h : Heap} {d : Addr} {vs : List (Key × Value)} (x : h.DictOf (mixKind prog w) d vs) : h.DictOf (optKind prog w) d (vs.map fun p => (some p.1, p.2)) := by
 obtain ⟨o, es, ep, ho, hc, hd, hk, hp, hn⟩ := x
 refine ⟨o, es, ep, ho, hc, hd, fun e he => ?_, pairs_opt hp, ?_⟩
 · obtain ⟨k, h1, h2⟩ := hk e he
   exact ⟨some k, h1, h2⟩
 · rw [List.map_map]
   have : ((fun x : Option Key × Value => x.1) ∘ fun p : Key × Value => (some p.1, p.2)) = (fun k => some k) ∘ fun p : Key × Value => p.1 := rfl
   rw [this, ← List.map_map]
   exact List.Pairwise.map _ (fun a b ne e => ne (Option.some.inj e)) hn
theorem val_none (vs : List (Key × Value)) : valueAt (vs.map fun p => ((some p.1 : Option Key), p.2)) none = none := by
 induction vs with
 | nil => rfl
 | cons a r ih =>
   unfold valueAt at ih ⊢
   rw [List.map_cons, List.find?_cons, key_sn]
   exact ih
section
variable {X : Cx}
theorem op_in_n : OpR X (compareOp .In) (fun x y H Q => ∃ a kvs, x = .non ∧ y = .ref a ∧ Rd H a (.dK kvs) ∧ Q (.bl false) H) := by
 intro pins s σ H x y v u Q I rx ry h
 obtain ⟨a, kvs, rfl, rfl, g, q⟩ := h
 cases rx
 cases ry
 obtain ⟨z, hd, vs, rel, dd⟩ := dk_rd I.hok g
 refine wpAny_in_of (knd := optKind X.prog X.w) (k := none) rfl hd (dictOf_opt dd).mapOf ?_
 rw [val_none]
 exact ⟨.bl false, H, I.tok _, rfl, q⟩
theorem op_orR {op : Value → Value → Sem Value} {r r' : V → V → Hp → VK → Prop} (h : OpR X op r) (h' : OpR X op r') : OpR X op (fun x y H Q => r x y H Q ∨ r' x y H Q) := by
 intro pins s σ H x y v u Q I rx ry q
 rcases q with q | q
 · exact h pins s σ H x y v u Q I rx ry q
 · exact h' pins s σ H x y v u Q I rx ry q
theorem op_inO (hu : X.A.units + 1 < cLine) : OpR X (compareOp .In) (fun x y H Q => (∃ a o, y = .ref a ∧ DGet H a x o ∧ Q (.bl o.isSome) H) ∨ ∃ a kvs, x = .non ∧ y = .ref a ∧ Rd H a (.dK kvs) ∧ Q (.bl false) H)
 := op_orR (op_in_d hu) op_in_n
end
theorem comp_enumT {K : PySem.W.Frag} {a : Addr} {xs : List V} {tc : TT} {te : TE} {σ : St} {H : Hp} {Q : VK} (hz : xs.length ≤ sizeLine) (W : Nat → List V → Hp → Prop) (h0 : W 0 [] H) (hq : ∀ i ys H, W i ys H → SqL K H a xs)
   (hs : ∀ i x ys H, xs[i]? = some x → ys.length ≤ i → W i ys H → ∀ T, H T = none → tc (some (.int i) :: some x :: σ) (upd H T (.tup [.int i, x])) fun c H3 => if c = true then te (some (.int i) :: some x :: σ) H3 fun z H4 => W (i + 1) (ys ++ [z]) H4 else W (i + 1) ys H3)
   (hd : ∀ ys H, W xs.length ys H → ∀ p, H p = none → Q (.ref p) (upd H p (.lst ys))) : CompRT K (Ite K a) tc te σ H Q := by
 refine ⟨xs.length, W, hz, h0, fun i ys H hi hl hw => ?_⟩
 have q := hq i ys H hw
 by_cases hlt : i < xs.length
 · refine .inr ⟨⟨xs, xs[i], q, by simp [hlt]⟩, hlt, fun v H' y => ?_⟩
   obtain ⟨T, x, rfl, hT, rfl, e⟩ := y
   exact ⟨T, _, _, rfl, SqT.of zB, hs i x ys H (e xs q) hl hw T hT⟩
 · have e : i = xs.length := by omega
   subst e
   exact .inl ⟨⟨xs, q, Nat.le_refl _⟩, hd ys H hw⟩
theorem PS.nox {X : Cx} {st : Stmt} {t : TS} (h : PS X.nox st t) : PS X st t := fun pins s σ H D I hw =>
 wpAny_mono (h pins s σ H D (I.wish _) hw) (fun _ _ q => q.unwish) fun _ _ z => False.elim z
end L2
namespace L2
open PySem PySem.Spec PyProof.Rows PySem.Calls
section
variable {M : Model} {A : Around} {E : Value → Shared → Prop} {s : Shared}
end
section
variable {P : Program} {w : World} {K : PySem.W.Frag} {mg : Str → Option Value} {base : Heap} {N : List Str} {qual : Str} {scope : Scope} {f : Addr} {cdv : Value} {A : Around} {outer : List Env} {s : Shared} {H : Hp} {E : XK}
end
section
variable {P : Program} {w : World} {K : PySem.W.Frag} {mg : Str → Option Value} {base : Heap}
end
end L2
namespace L2
open PySem PySem.Spec PyProof.Rows PySem.Calls
end L2
namespace L2
open PySem PySem.Spec PyProof.Rows PySem.Calls
end L2
namespace L2
open PySem PySem.Spec PyProof.Rows PySem.Calls
def oV : Option Key → V
 | none => .non
 | some k => kV k
theorem oV_is {P : Program} {w : World} {k : Option Key} {u : Value} (r : RelV (oV k) u) : (optKind P w).is k u = true := by
 cases k with
 | none => cases (show u = Value.none from r); rfl
 | some k => exact kV_is (P := P) (w := w) (k := k) r
theorem o_rel {P : Program} {w : World} {k : Option Key} {u : Value} (h : (optKind P w).is k u = true) : RelV (oV k) u := by
 rcases yE (show optIs k u = true from h) with ⟨rfl, rfl⟩ | ⟨q, rfl, hq⟩
 · exact rfl
 · exact key_rel (P := P) (w := w) hq
def dO (P : Program) (w : World) (a : Addr) (kvs : List (Option Key × V)) : HO := .ext fun h => kvs.length ≤ sizeLine ∧ (a == sysModules) = false ∧ ∃ vs, KV kvs vs ∧ h.DictOf (optKind P w) a vs
section
variable {P : Program} {w : World} {H : Hp} {h : Heap} {a : Addr} {kvs : List (Option Key × V)}
theorem ok_dO {vs : List (Option Key × Value)} (z : kvs.length ≤ sizeLine) (hd : (a == sysModules) = false) (rel : KV kvs vs) (dd : h.DictOf (optKind P w) a vs) : ObjOk P w H h a (dO P w a kvs) := by
 refine ⟨⟨z, hd, vs, rel, dd⟩, ?_, fun h1 h2 x k => ?_⟩
 · obtain ⟨q, _, _, hq, _⟩ := dd
   exact ⟨q, hq⟩
 · obtain ⟨z, hd, vs, rel, o, es, ep, e, c⟩ := x
   exact ⟨z, hd, vs, rel, o, es, ep, k _ e, c⟩
theorem dO_rd (ok : HOk P w H h) (e : Rd H a (dO P w a kvs)) : kvs.length ≤ sizeLine ∧ (a == sysModules) = false ∧ ∃ vs, KV kvs vs ∧ h.DictOf (optKind P w) a vs := (rd_of ok e).1
theorem dO_of (ok : HOk P w H h) (e : H a = some (dO P w a kvs)) : kvs.length ≤ sizeLine ∧ (a == sysModules) = false ∧ ∃ vs, KV kvs vs ∧ h.DictOf (optKind P w) a vs := dO_rd ok (.inl e)
theorem dO_empty (h : Heap) (hb : sysModules < h.objs.size) : ObjOk P w H (h.push { cls := .type "dict", data := .dict #[] }) h.objs.size (dO P w h.objs.size []) :=
 ok_dO (vs := []) (Nat.zero_le _) (beq_eq_false_iff_ne.mpr (Ne.symm (Nat.ne_of_lt hb))) .nil (Heap.DictOf.new h)
end
def backV : Value → V
 | .none => .non
 | .bool b => .bl b
 | .int i _ => .int i
 | .str x _ => .str x
 | .bytes b _ => .byt b
 | .float b _ => .flt b
 | .ref a => .ref a
 | .type n => .ty n
 | _ => .non
theorem RelV.back {x : V} {v : Value} (r : RelV x v) : x = backV v := by
 cases x with
 | non => cases (show v = Value.none from r); rfl
 | bl b => cases (show v = Value.bool b from r); rfl
 | int i => obtain ⟨t, rfl⟩ := r; rfl
 | str i => obtain ⟨t, rfl⟩ := r; rfl
 | byt i => obtain ⟨t, rfl⟩ := r; rfl
 | flt i => obtain ⟨t, rfl⟩ := r; rfl
 | ref i => cases (show v = Value.ref i from r); rfl
 | ty i => cases (show v = Value.type i from r); rfl
theorem RelV.uniq {x y : V} {v : Value} (a : RelV x v) (b : RelV y v) : x = y := a.back.trans b.back.symm
section
variable {X : Cx} {pos : Pos}
def tDNewO (P : Program) (w : World) : TE := fun _ H Q => ∀ p, H p = none → Q (.ref p) (upd H p (dO P w p []))
theorem pe_dnewO : PE X (.Dict [] [] pos) (tDNewO X.prog X.w) := fun pins s σ H Q I h =>
 wpAny_Dict_empty ⟨.ref s.heap.objs.size, _, I.laid (a := s.heap.objs.size) (o := dO X.prog X.w s.heap.objs.size []) (t' := s.toks) (fun _ _ q => Heap.get?_push_of_some _ q) (Nat.le_refl _) (dO_empty s.heap I.big), rfl, h _ (I.hok.fresh (Nat.le_refl _))⟩
def tDisp1 (P : Program) (w : World) (tk tv : TE) : TE := fun σ H Q => ∀ p, H p = none → tk σ (upd H p (dO P w p [])) fun x H1 => tv σ H1 fun y H2 => H2 p = some (dO P w p []) ∧ ∃ k, x = oV k ∧ Q (.ref p) (upd H2 p (dO P w p [(k, y)]))
theorem pe_disp1 {ke ve : Expr} {tk tv : TE} (hk : PE X ke tk) (hv : PE X ve tv) : PE X (.Dict [some ke] [ve] pos) (tDisp1 X.prog X.w tk tv) := by
 intro pins s σ H Q I q
 have hn := I.hok.fresh (Nat.le_refl s.heap.objs.size)
 have I1 := I.laid (a := s.heap.objs.size) (o := dO X.prog X.w s.heap.objs.size []) (h' := s.heap.push { cls := .type "dict", data := .dict #[] }) (t' := s.toks) (fun _ _ q => Heap.get?_push_of_some _ q) (Nat.le_refl _) (dO_empty s.heap I.big)
 have pp : PPs X pos [some ke] [ve] [(tk, tv)] := pps_cons hk hv pps_nil
 have qq : tPairs [(tk, tv)] σ (upd H s.heap.objs.size (dO X.prog X.w s.heap.objs.size [])) (fun ps H2 => match ps with | [(x, y)] => H2 s.heap.objs.size = some (dO X.prog X.w s.heap.objs.size []) ∧ ∃ k, x = oV k ∧ Q (.ref s.heap.objs.size) (upd H2 s.heap.objs.size (dO X.prog X.w s.heap.objs.size [(k, y)])) | _ => False) := q _ hn
 refine wpAny_Dict_walk (knd := optKind X.prog X.w) rfl rfl (by simp) (by show 1 ≤ 15; decide) (thn (pp pins _ σ _ _ I1 qq) fun ws s2 ⟨ps, H2, I2, rel, g⟩ => ?_)
 match ps, rel, g with
 | [(x, y)], rel, g =>
   obtain ⟨e, k, ek, q2⟩ := g
   subst ek
   cases rel with
   | @cons _ b _ bs h t =>
     cases t
     obtain ⟨b1, b2⟩ := b
     obtain ⟨z, hd, vs0, r0, dd⟩ := dO_of I2.hok e
     cases r0
     refine ⟨[(k, b2)], ⟨oV_is h.1, rfl, True.intro⟩, dd, fun h' dd' hs => ⟨.ref s.heap.objs.size, _, ?_, rfl, q2⟩⟩
     have he : ∃ q, h'.get? s.heap.objs.size = some q := let ⟨q, _, _, hq, _⟩ := dd'; ⟨q, hq⟩
     exact d_write I2 (by rw [e]; exact True.intro) hs he (ok_dO (vs := [(k, b2)]) (by show 1 ≤ sizeLine; decide) hd (.cons ⟨rfl, h.2⟩ .nil) dd')
def sDPutO (P : Program) (w : World) (td ty tv : TE) : TS := fun D σ H => tv σ H fun v H1 => td σ H1 fun x H2 => ty σ H2 fun y H3 => ∃ a kvs k, x = .ref a ∧ y = oV k ∧ H3 a = some (dO P w a kvs) ∧ kvs.length < sizeLine ∧ D.nx σ (upd H3 a (dO P w a (putK kvs k v)))
theorem ps_dputO {o i value : Expr} {td ty tv : TE} {pos' : Pos} (ho : PE X o td) (hi : PE X i ty) (hv : PE X value tv) (hs : swapsWith value (some (.Subscript o i pos')) pos.line X.env = pure false) :
   PS X (.Assign [.Subscript o i pos'] value pos) (sDPutO X.prog X.w td ty tv) := by
 intro pins s σ H D I h
 refine wpAny_Assign_Subscript (thn (hv pins s σ H _ I h) fun r s1 ⟨v, H1, I1, rv, q1⟩ => thn (ho pins s1 σ H1 _ I1 q1) fun u s2 ⟨x, H2, I2, rx, q2⟩ => thn (hi pins s2 σ H2 _ I2 q2) fun iv s3 ⟨y, H3, I3, ry, a, kvs, k, ex, ey, e, l, q3⟩ => ?_) hs
 subst ex ey
 obtain rfl : u = Value.ref a := rx
 obtain ⟨z, hd, vs, rel, dd⟩ := dO_of I3.hok e
 have hz : vs.length ≤ sizeLine := by rw [← rel.length]; exact z
 have hl : (putK kvs k v).length ≤ sizeLine := by have := length_putK kvs k v; omega
 refine wpAny_setItem_pairs (hsz := hz) (oV_is ry) dd fun h' dd' hs => ⟨σ, _, ?_, q3⟩
 have he : ∃ q, h'.get? a = some q := let ⟨q, _, _, hq, _⟩ := dd'; ⟨q, hq⟩
 exact d_write I3 (by rw [e]; exact True.intro) hs he (ok_dO hl hd (rel.put k rv) dd')
def tDGet2O (P : Program) (w : World) (td ty tx : TE) : TE := fun σ H Q => td σ H fun x H1 => ∃ a kvs, x = .ref a ∧ Rd H1 a (dO P w a kvs) ∧ ty σ H1 fun y H2 => tx σ H2 fun z H3 => ∃ kvs k, Rd H3 a (dO P w a kvs) ∧ y = oV k ∧ Q ((valV kvs k).getD z) H3
theorem pe_dget2O {o e f : Expr} {apos cpos : Pos} {td ty tx : TE} (ho : PE X o td) (he : PE X e ty) (hf : PE X f tx) (m : M2 X o "get" apos e f cpos) : PE X (.Call (.Attribute o "get" apos) [e, f] [] cpos) (tDGet2O X.prog X.w td ty tx) := by
 intro pins s σ H Q I h
 refine wpAny_Call_method m.base m.few m.line PySem.F.plainAttrs_dict PySem.F.slot_dict_get PySem.F.type_dict_get (thn (ho pins s σ H _ I h) fun u s1 ⟨x, H1, I1, rx, a, kvs, ex, d, q1⟩ => ?_)
 subst ex
 obtain rfl : u = Value.ref a := rx
 obtain ⟨_, hd, vs, _, dd⟩ := dO_rd I1.hok d
 refine ⟨dd.typeIs, fun b q => ?_, ?_⟩
 · cases q
   obtain ⟨ob, _, _, h1, h2, _⟩ := dd
   exact ⟨ob, h1, h2.2.1⟩
 rw [m.trees]
 refine Calls.callWith_builtin rfl (Calls.evalArgs_plain (Calls.spliced_cons (thn (he pins s1 σ H1 _ I1 q1) fun iv s2 ⟨y, H2, I2, ry, q2⟩ =>
   Calls.spliced_cons (thn (hf pins s2 σ H2 _ I2 q2) fun fv s3 ⟨z, H3, I3, rz, kvs, k, g, ey, q3⟩ => Calls.spliced_nil ?_))))
 subst ey
 obtain ⟨z, hd, vs, rel, dd⟩ := dO_rd I3.hok g
 refine call_meetsIn PySem.F.slot_dict_get dd.typeIs PySem.F.entry_dict_get (PySem.F.args_dict_get_3 _ _ _) (meets_dict_get_default (optKind X.prog X.w) a (oV_is ry) hd fv) ⟨_, dd.mapOf, ⟨_, H3, I3.tok _, (rel.val k).getD rz, q3⟩⟩
end
theorem kvo_get {kvs : List (Option Key × V)} {vs : List (Option Key × Value)} (r : KV kvs vs) : ∀ {i : Nat} {p : Option Key × V}, kvs[i]? = some p → ∃ v, vs[i]? = some (p.1, v) ∧ RelV p.2 v := by
 induction r with
 | nil => intro i p h; simp at h
 | @cons a b as bs h _ ih =>
   intro i p e
   cases i with
   | zero => cases e; exact ⟨b.2, by rw [h.1]; rfl, h.2⟩
   | succ i => exact ih e
def EntO (P : Program) (w : World) (o : Obj) (kvs : List (Option Key × V)) : Prop := ∃ es ep vs, o.data = .dict es ep ∧ Pairs (optKind P w) es.toList vs ∧ KV kvs vs
theorem pairs_uniq {P : Program} {w : World} : ∀ {es : List DictEntry} {vs us : List (Option Key × Value)}, Pairs (optKind P w) es vs → Pairs (optKind P w) es us → vs = us
 | _, _, _, .nil, .nil => rfl
 | _, (a, x) :: _, (b, y) :: _, .cons h1 e1 t1, .cons h2 e2 t2 => by
   have k1 : a = b := (optKind P w).inj _ _ _ h1 h2
   have k2 : x = y := (show x = _ from e1.symm).trans e2
   rw [pairs_uniq t1 t2, k1, k2]
theorem kv_uniq : ∀ {kvs lvs : List (Option Key × V)} {vs : List (Option Key × Value)}, KV kvs vs → KV lvs vs → kvs = lvs
 | _, _, _, .nil, .nil => rfl
 | (a, x) :: _, (b, y) :: _, (c, z) :: _, .cons h1 t1, .cons h2 t2 => by
   obtain ⟨e1, r1⟩ := h1
   obtain ⟨e2, r2⟩ := h2
   have e1 : a = c := e1
   have e2 : b = c := e2
   have e3 : x = y := RelV.uniq r1 r2
   rw [kv_uniq t1 t2, e1, e2, e3]
theorem EntO.uniq {P : Program} {w : World} {o : Obj} {kvs lvs : List (Option Key × V)} (h : EntO P w o kvs) (k : EntO P w o lvs) : kvs = lvs := by
 obtain ⟨es, ep, vs, d1, p1, r1⟩ := h
 obtain ⟨es2, ep2, vs2, d2, p2, r2⟩ := k
 rw [d1] at d2
 cases d2
 cases pairs_uniq p1 p2
 exact kv_uniq r1 r2
theorem frzO_at {P : Program} {w : World} {H : Hp} {h : Heap} {a : Addr} {o : Obj} {kvs : List (Option Key × V)} {es : Array DictEntry} {ep : Nat} (hd : o.data = .dict es ep) (ok : ObjOk P w H h a (.frz o (dO P w a kvs))) :
   ∃ vs, KV kvs vs ∧ h.DictAt (optKind P w) a vs ep ∧ es.size = kvs.length ∧ EntO P w o kvs := by
 obtain ⟨e, ⟨_, _, vs, rv, o', es', ep', e', x, d', k', pr, nd⟩, _⟩ := ok
 rw [e] at e'
 cases e'
 rw [hd] at d'
 cases d'
 exact ⟨vs, rv, ⟨o, es, e, x, hd, k', pr, nd⟩, by rw [← Array.length_toList, pr.length, ← rv.length], es, ep, vs, hd, pr, rv⟩
def ItmO (P : Program) (w : World) (a : Addr) (o : Obj) : It :=
 ⟨fun i H => ∃ kvs, H a = some (.frz o (dO P w a kvs)) ∧ EntO P w o kvs ∧ i < kvs.length,
  fun i H z H' => ∃ T p, z = .ref T ∧ H T = none ∧ H' = upd H T (.tup [oV p.1, p.2]) ∧ ∀ kvs, EntO P w o kvs → kvs[i]? = some p,
  fun i H => ∃ kvs, H a = some (.frz o (dO P w a kvs)) ∧ EntO P w o kvs ∧ kvs.length ≤ i⟩
theorem turn_itemsO {P : Program} {w : World} {K : PySem.W.Frag} {elts : List Expr} {x1 : Nat} {tp : Pos} {a it : Addr} {o : Obj} {es : Array DictEntry} {ep : Nat} (hd : o.data = .dict es ep) :
   Turn P w K (.Tuple elts x1 tp) (ItmO P w a o) [it] it (fun i h => (∃ ok ov, IsItemIter h it a i es.size ep ok ov) ∧ i ≤ es.size) where
 mem := by simp
 obj := fun i h st b hb => by
   have e : b = it := by simpa using hb
   subst e
   obtain ⟨⟨k, v, q⟩, _⟩ := st
   exact ⟨_, q, fun v z => by cases z⟩
 keep := fun i h h' st k => by
   obtain ⟨⟨ok, ov, q⟩, z⟩ := st
   exact ⟨⟨ok, ov, k it (by simp) _ q⟩, z⟩
 item := by
   intro X hP hw hK hc i pins s σ H E I hf st hg
   subst hP hw hK
   obtain ⟨kvs, hq, _, hi⟩ := hg
   obtain ⟨vs, rv, hat, sz, en⟩ := frzO_at hd (I.hok a _ hq)
   obtain ⟨⟨ok, ov, hit⟩, hle⟩ := st
   have hx : kvs[i]? = some kvs[i] := List.getElem?_eq_getElem hi
   obtain ⟨v, hv, ru⟩ := kvo_get rv hx
   rw [sz, rv.length] at hit
   refine wpAny_pyNext_items_item hit hat hv fun key h' hkey ho hT hsz hk => ?_
   refine ⟨_, rfl, wpAny_letOwnedTupleGo_items (s := { s with heap := h' }) ho fun h'' b1 b2 => ?_⟩
   have hN : H s.heap.objs.size = none := I.hok.fresh (Nat.le_refl _)
   have lt : it < s.heap.objs.size := Heap.lt_size hit
   have kk : ∀ c o, c ∉ [it] → s.heap.get? c = some o → h''.get? c = some o := fun c o hc q => by
     simp only [List.mem_cons, List.not_mem_nil, or_false] at hc
     exact (b2.2 c hc).trans (hk c o hc q)
   have I1 : Inv X pins σ H { s with heap := h'' } := I.turnedM (t' := s.toks) kk hf
   have zT : s.heap.objs.size ≠ it := Nat.ne_of_gt lt
   have a5 := (b2.2 _ zT).trans hT
   have I2 := I1.track (a := s.heap.objs.size) (o := .tup [oV kvs[i].1, kvs[i].2]) (I.fpOk (Nat.le_refl _) hN) I.sz ⟨by show 2 ≤ sizeLine; decide, [key, v], .cons (o_rel hkey) (.cons ru .nil), ⟨_, a5, rfl, _, rfl⟩⟩
   rw [← rv.length, ← sz] at b1
   refine ⟨.ref s.heap.objs.size, _, I2, rfl, ⟨_, kvs[i], rfl, hN, rfl, fun zs hzs => by rw [← en.uniq hzs]; exact hx⟩, ⟨⟨_, _, b1⟩, by omega⟩, fun c hc => ?_⟩
   have e : c = it := by simpa using hc
   subst e
   rw [zJ (Nat.ne_of_lt lt)]; exact (hf c hc).1
 done := by
   intro X hP hw hK hc i pins s σ H E I hf st hg
   subst hP hw hK
   obtain ⟨kvs, hq, _, hi⟩ := hg
   obtain ⟨vs, rv, hat, sz, _⟩ := frzO_at hd (I.hok a _ hq)
   obtain ⟨⟨ok, ov, hit⟩, hle⟩ := st
   rw [sz, rv.length] at hit
   obtain ⟨f0, f1, f2, f3, f4, f5⟩ := hf it (by simp)
   exact wpAny_pyNext_items_end (I.ok.hd hc) hit hat (by rw [List.getElem?_eq_none_iff, ← rv.length]; exact hi) fun h' eb => ⟨rfl, I.turned (t' := s.toks) (fun b o hb e => eb b o hb e) f0 f1 f3 f4 f5⟩
 self := fun _ _ _ _ _ st h => by
   obtain ⟨⟨ok, ov, hit⟩, _⟩ := st
   exact PySem.W.kcp_self hit h
section
variable {X : Cx} {o : Expr} {to : TE} {apos cpos tp : Pos} {elts : List Expr} {x1 : Nat}
def iItemsO (P : Program) (w : World) (to : TE) : TI := fun σ H R => to σ H fun x H1 => ∃ a kvs, x = .ref a ∧ Rd H1 a (dO P w a kvs) ∧ ∀ o, EntO P w o kvs → R (ItmO P w a o) (upd H1 a (.frz o (dO P w a kvs)))
theorem pi_itemsO (ho : PE X o to) (hbase : attributeBase o "items" X.env (eval o X.env) = eval o X.env := by rfl) (hline : (apos.endLine == cpos.line) = true := by rfl) :
   PI X (.Tuple elts x1 tp) (.Call (.Attribute o "items" apos) [] [] cpos) (iItemsO X.prog X.w to) := by
 intro pins s σ H R I h
 refine wpAny_Call_method0_late hbase hline (thn (ho pins s σ H _ I h) fun v s1 ⟨x, H1, I1, r1, q1⟩ => ?_)
 obtain ⟨a, kvs, e, hq, q⟩ := q1
 subst e
 cases r1
 obtain ⟨hz, hS, vs, rv, od, es, ep, hod, hx, hdat, hk, hp, hn⟩ := dO_rd I1.hok hq
 have hm : s1.heap.DictOf (optKind X.prog X.w) a vs := ⟨od, es, ep, hod, hx, hdat, hk, hp, hn⟩
 refine ⟨"dict", "dict.items", PySem.F.plainAttrs_dict, PySem.F.slot_dict_items, PySem.F.type_dict_items, hm.typeIs, (fun b q => by cases q; exact ⟨od, hod, hx.2.1⟩), Calls.callWith_builtin rfl (PySem.evalArgs_none ?_)⟩
 refine call_meetsIn PySem.F.slot_dict_items hm.typeIs PySem.F.entry_dict_items (PySem.F.args_dict_items_1 _) (meets_dict_items (optKind X.prog X.w) a hS) ⟨⟨vs, hm⟩, ?_⟩
 have I2 : Inv X pins σ (upd H1 a (.frz od (dO X.prog X.w a kvs))) s1 := by
   have ok : ObjOk X.prog X.w (upd H1 a (.frz od (dO X.prog X.w a kvs))) s1.heap a (.frz od (dO X.prog X.w a kvs)) := ⟨hod, ok_dO hz hS rv hm⟩
   rcases hq with hq | ⟨o', hq⟩
   · exact I1.write (x := a) (e := a) (t' := s1.toks) (h' := s1.heap) (by rw [hq]; exact True.intro) (.inl rfl) (fun b u _ z => z) ⟨_, hod⟩ ok
   · obtain ⟨e', _⟩ := (show ObjOk X.prog X.w H1 s1.heap a (.frz o' (dO X.prog X.w a kvs)) from I1.hok a _ hq)
     rw [hod] at e'; cases e'
     rw [upd_back hq]; exact I1
 have sz : es.size = vs.length := by rw [← Array.length_toList, hp.length]
 have k1 : ∀ b u, s1.heap.get? b = some u → (s1.heap.push { cls := .type "dict_items", data := .fields #[.ref a] }).get? b = some u := fun b u e => Heap.get?_push_of_some _ e
 refine wpAny_pyIter_items (knd := optKind X.prog X.w) (d := a) (kvs := vs) (ep := ep) (s := { s1 with heap := s1.heap.push { cls := .type "dict_items", data := .fields #[.ref a] } }) ⟨_, Heap.get?_push_size _ rfl, rfl, rfl⟩ ⟨od, es, k1 _ _ hod, hx, hdat, hk, hp, hn⟩ ?_
 have I3 : Inv X pins σ (upd H1 a (.frz od (dO X.prog X.w a kvs))) { s1 with heap := s1.heap.push { cls := .type "dict_items", data := .fields #[.ref a] } } := I2.kept (t' := s1.toks) k1
 refine ⟨_, [_], _, _, _, rfl, I3.kept (t' := s1.toks) fun b o e => Heap.get?_push_of_some _ e, turn_itemsO hdat, ⟨⟨.none, .none, by rw [sz]; exact Heap.get?_push_size _ rfl⟩, Nat.zero_le _⟩, fun b hb => ?_, q od ⟨es, ep, vs, hdat, hp, rv⟩⟩
 have e : b = (s1.heap.push { cls := .type "dict_items", data := .fields #[.ref a] }).objs.size := by simpa using hb
 subst e
 exact I3.fpOk (Nat.le_refl _) (I3.hok.fresh (Nat.le_refl _))
end
section
variable {P : Program} {w : World} {a : Addr} {o : Obj} {kvs : List (Option Key × V)} {σ : St} {H : Hp}
theorem for_itemsO {g : TG} {tb : TS} {D : Ends} (en : EntO P w o kvs) (Pv : Nat → St → Hp → Prop) (h0 : Pv 0 σ H) (hq : ∀ i σ H, i ≤ kvs.length → Pv i σ H → H a = some (.frz o (dO P w a kvs)))
   (hs : ∀ i p σ H, kvs[i]? = some p → Pv i σ H → ∀ T, H T = none → g (.ref T) σ (upd H T (.tup [oV p.1, p.2])) fun σ2 H2 => tb { D with nx := Pv (i + 1), ct := Pv (i + 1), bk := D.nx } σ2 H2) (hd : ∀ σ H, Pv kvs.length σ H → D.nx σ H) : ForR (ItmO P w a o) g tb D σ H := by
 refine ⟨fun i m σ H => i ≤ kvs.length ∧ m = kvs.length - i ∧ Pv i σ H, ⟨_, Nat.zero_le _, rfl, h0⟩, fun i m σ H ⟨hi, hm, hp⟩ => ?_⟩
 have q1 := hq i σ H hi hp
 by_cases c : i = kvs.length
 · subst c
   exact .inl ⟨⟨kvs, q1, en, Nat.le_refl _⟩, hd σ H hp⟩
 · have hlt : i < kvs.length := by omega
   refine .inr ⟨⟨kvs, q1, en, hlt⟩, Pv (i + 1), fun σ' H' hn => ⟨kvs.length - (i + 1), by omega, by omega, rfl, hn⟩, fun z H' hz => ?_⟩
   obtain ⟨T, p, rfl, hT, rfl, e1⟩ := hz
   exact hs i p σ H (e1 kvs en) hp T hT
theorem comp_itemsO {K : PySem.W.Frag} {tc : TT} {te : TE} {Q : VK} (en : EntO P w o kvs) (hz : kvs.length ≤ sizeLine) (W : Nat → List V → Hp → Prop) (h0 : W 0 [] H) (hq : ∀ i ys H, W i ys H → H a = some (.frz o (dO P w a kvs)))
   (hs : ∀ i x ys H, kvs[i]? = some x → ys.length ≤ i → W i ys H → ∀ T, H T = none → tc (some (oV x.1) :: some x.2 :: σ) (upd H T (.tup [oV x.1, x.2])) fun c H3 => if c = true then te (some (oV x.1) :: some x.2 :: σ) H3 fun z H4 => W (i + 1) (ys ++ [z]) H4 else W (i + 1) ys H3)
   (hd : ∀ ys H, W kvs.length ys H → ∀ p, H p = none → Q (.ref p) (upd H p (.lst ys))) : CompRT K (ItmO P w a o) tc te σ H Q := by
 refine ⟨kvs.length, W, hz, h0, fun i ys H hi hl hw => ?_⟩
 have q := hq i ys H hw
 by_cases hlt : i < kvs.length
 · refine .inr ⟨⟨kvs, q, en, hlt⟩, hlt, fun v H' y => ?_⟩
   obtain ⟨T, x, rfl, hT, rfl, e⟩ := y
   exact ⟨T, _, _, rfl, SqT.of zB, hs i x ys H (e kvs en) hl hw T hT⟩
 · have e : i = kvs.length := by omega
   subst e
   exact .inl ⟨⟨kvs, q, en, Nat.le_refl _⟩, hd ys H hw⟩
end
def ItdO (P : Program) (w : World) (a : Addr) (o : Obj) : It :=
 ⟨fun i H => ∃ kvs, H a = some (.frz o (dO P w a kvs)) ∧ EntO P w o kvs ∧ i < kvs.length,
  fun i H z H' => H' = H ∧ ∀ kvs, EntO P w o kvs → (kvs.map fun p => oV p.1)[i]? = some z,
  fun i H => ∃ kvs, H a = some (.frz o (dO P w a kvs)) ∧ EntO P w o kvs ∧ kvs.length ≤ i⟩
theorem keysO_rel {P : Program} {w : World} : ∀ {es : List DictEntry} {vs : List (Option Key × Value)} {kvs : List (Option Key × V)}, Pairs (optKind P w) es vs → KV kvs vs → Vals (kvs.map fun p => oV p.1) (es.map (·.key))
 | _, _, _, .nil, .nil => .nil
 | _, _, _, .cons hk _ t, .cons r t' => by
   refine .cons ?_ (keysO_rel t t')
   dsimp only
   rw [r.1]
   exact o_rel hk
theorem frzO_raw {P : Program} {w : World} {H : Hp} {h : Heap} {a : Addr} {o : Obj} {kvs : List (Option Key × V)} {es : Array DictEntry} {ep : Nat} (hd : o.data = .dict es ep) (ok : ObjOk P w H h a (.frz o (dO P w a kvs))) :
   RawD h a es ep ∧ Vals (kvs.map fun p => oV p.1) (es.toList.map (·.key)) ∧ es.size = kvs.length ∧ EntO P w o kvs := by
 obtain ⟨e, ⟨_, _, vs, rv, o', es', ep', e', x, d', _, pr, _⟩, _⟩ := ok
 rw [e] at e'
 cases e'
 rw [hd] at d'
 cases d'
 exact ⟨⟨o, e, x, hd⟩, keysO_rel pr rv, by rw [← Array.length_toList, pr.length, ← rv.length], es, ep, vs, hd, pr, rv⟩
theorem turn_dictO {P : Program} {w : World} {K : PySem.W.Frag} {tg : Expr} {a it : Addr} {o : Obj} {es : Array DictEntry} {ep : Nat} (hd : o.data = .dict es ep) : Turn P w K tg (ItdO P w a o) [it] it (fun i h => h.IsKeyIter it a i es.size ep ∧ i ≤ es.size) where
 mem := by simp
 obj := fun i h st b hb => by
   have e : b = it := by simpa using hb
   subst e
   obtain ⟨⟨ob, q, c, d⟩, _⟩ := st
   exact ⟨ob, q, fun v z => by rw [d] at z; cases z⟩
 keep := fun i h h' st k => ⟨st.1.at fun ob q => k it (by simp) ob q, st.2⟩
 item := by
   intro X hP hw hK hc i pins s σ H E I hf st hg
   subst hP hw hK
   obtain ⟨kvs, hq, _, hi⟩ := hg
   obtain ⟨raw, rk, sz, en⟩ := frzO_raw hd (I.hok a _ hq)
   obtain ⟨f0, f1, f2, f3, f4, f5⟩ := hf it (by simp)
   have hi' : i < es.size := by omega
   refine raw_item st.1 raw hi' fun h' st' sb => ?_
   have I1 : Inv X pins σ H { s with heap := h' } := I.turned (t' := s.toks) (fun b o hb e => (sb.2 b hb).trans e) f0 f1 f3 f4 f5
   obtain ⟨ob, e, c, d⟩ := id st'
   have hk : (kvs.map fun p => oV p.1)[i]? = some ((kvs.map fun p => oV p.1)[i]'(by rw [List.length_map]; exact hi)) := List.getElem?_eq_getElem _
   obtain ⟨u, hu, ru⟩ := rk.get hk
   have eu : u = es[i].key := by
     rw [List.getElem?_map, Array.getElem?_toList, Array.getElem?_eq_getElem hi'] at hu
     exact (Option.some.inj hu).symm
   subst eu
   exact ⟨_, rfl, go_of (s := { s with heap := h' }) e c d (by decide) ⟨_, H, I1, ru, ⟨rfl, fun kvs' hy => by rw [← en.uniq hy]; exact hk⟩, ⟨st', hi'⟩, fun b hb => (hf b hb).1⟩⟩
 done := by
   intro X hP hw hK hc i pins s σ H E I hf st hg
   subst hP hw hK
   obtain ⟨kvs, hq, _, hi⟩ := hg
   obtain ⟨raw, rk, sz, _⟩ := frzO_raw hd (I.hok a _ hq)
   obtain ⟨f0, f1, f2, f3, f4, f5⟩ := hf it (by simp)
   obtain ⟨st, hle⟩ := st
   have : i = es.size := by omega
   subst this
   exact raw_end (I.ok.hd hc) st raw fun h' eb => ⟨rfl, I.turned (t' := s.toks) (fun b o hb e => eb b o hb e) f0 f1 f3 f4 f5⟩
 self := fun _ _ _ _ _ st h => wpAny_pyIter_keyiter st.1 h
section
variable {X : Cx} {tg : Expr}
def iDictO (P : Program) (w : World) (tl : TE) : TI := fun σ H R => tl σ H fun x H1 => ∃ a kvs, x = .ref a ∧ Rd H1 a (dO P w a kvs) ∧ ∀ o, EntO P w o kvs → R (ItdO P w a o) (upd H1 a (.frz o (dO P w a kvs)))
theorem pi_dictO {l : Expr} {tl : TE} (hl : PE X l tl) : PI X tg l (iDictO X.prog X.w tl) := by
 intro pins s σ H R I h
 refine thn (hl pins s σ H _ I h) fun v s1 ⟨x, H1, I1, r1, q1⟩ => ?_
 obtain ⟨a, kvs, e, hq, q⟩ := q1
 subst e
 cases r1
 obtain ⟨hz, hS, vs, rv, o, es, ep, ho, hx, hdat, hk, hp, hn⟩ := dO_rd I1.hok hq
 have hm : RawD s1.heap a es ep := ⟨o, ho, hx, hdat⟩
 have I2 : Inv X pins σ (upd H1 a (.frz o (dO X.prog X.w a kvs))) s1 := by
   have ok : ObjOk X.prog X.w (upd H1 a (.frz o (dO X.prog X.w a kvs))) s1.heap a (.frz o (dO X.prog X.w a kvs)) := ⟨ho, ok_dO hz hS rv ⟨o, es, ep, ho, hx, hdat, hk, hp, hn⟩⟩
   rcases hq with hq | ⟨o', hq⟩
   · exact I1.write (x := a) (e := a) (t' := s1.toks) (h' := s1.heap) (by rw [hq]; exact True.intro) (.inl rfl) (fun b u _ z => z) ⟨_, ho⟩ ok
   · obtain ⟨e', _⟩ := (show ObjOk X.prog X.w H1 s1.heap a (.frz o' (dO X.prog X.w a kvs)) from I1.hok a _ hq)
     rw [ho] at e'; cases e'
     rw [upd_back hq]; exact I1
 refine raw_iter hS hm ?_
 refine ⟨s1.heap.objs.size, [s1.heap.objs.size], _, _, _, rfl, I2.kept (t' := s1.toks) fun b o e => Heap.get?_push_of_some _ e, turn_dictO hdat, ⟨⟨_, Heap.get?_push_size _ rfl, rfl, rfl⟩, Nat.zero_le _⟩, fun b hb => ?_, q o ⟨es, ep, vs, hdat, hp, rv⟩⟩
 have e : b = s1.heap.objs.size := by simpa using hb
 subst e
 exact I2.fpOk (Nat.le_refl _) (I2.hok.fresh (Nat.le_refl _))
end
theorem comp_dictO {P : Program} {w : World} {a : Addr} {o : Obj} {kvs : List (Option Key × V)} {tc : TT} {te : TE} {σ : St} {H : Hp} {Q : VK} (en : EntO P w o kvs) (hz : kvs.length ≤ sizeLine) (W : Nat → List V → Hp → Prop) (h0 : W 0 [] H) (hq : ∀ i ys H, W i ys H → H a = some (.frz o (dO P w a kvs)))
   (hs : ∀ i x ys H, kvs[i]? = some x → ys.length ≤ i → W i ys H → tc (some (oV x.1) :: σ) H fun c H3 => if c = true then te (some (oV x.1) :: σ) H3 fun z H4 => W (i + 1) (ys ++ [z]) H4 else W (i + 1) ys H3)
   (hd : ∀ ys H, W kvs.length ys H → ∀ p, H p = none → Q (.ref p) (upd H p (.lst ys))) : CompRF (ItdO P w a o) tc te σ H Q := by
 refine ⟨kvs.length, W, hz, h0, fun i ys H hi hl hw => ?_⟩
 have q := hq i ys H hw
 by_cases hlt : i < kvs.length
 · refine .inr ⟨⟨kvs, q, en, hlt⟩, hlt, fun v H' y => ?_⟩
   obtain ⟨rfl, e1⟩ := y
   have hx : kvs[i]? = some kvs[i] := List.getElem?_eq_getElem hlt
   have e2 := e1 kvs en
   rw [List.getElem?_map, hx] at e2
   cases e2
   exact hs i _ ys _ hx hl hw
 · have e : i = kvs.length := by omega
   subst e
   exact .inl ⟨⟨kvs, q, en, Nat.le_refl _⟩, hd ys H hw⟩
end L2
namespace L2
open PySem PySem.Spec PySem.Calls PySem.W PyProof.Rows
theorem rising_le : ∀ {p : Str} {l : List Str}, risingS p l = true → (p :: l).Pairwise (fun a b => a.cps.toList ≤ b.cps.toList)
 | p, [], _ => by simp
 | p, x :: r, h => by
   have h1 : (!ltCps x.cps.toList p.cps.toList && risingS x r) = true := h
   rw [Bool.and_eq_true] at h1
   have h2 := rising_le h1.2
   have h3 : p.cps.toList ≤ x.cps.toList := by
     have := h1.1
     rw [ltCps_eq] at this
     intro hc
     rw [decide_eq_true hc] at this
     exact absurd this (by decide)
   refine List.pairwise_cons.mpr ⟨fun y hy => ?_, h2⟩
   rcases List.mem_cons.mp hy with rfl | hy
   · exact h3
   · exact List.le_trans h3 ((List.pairwise_cons.mp h2).1 y hy)
theorem sorted_le {l : List Str} (h : sortedS l = true) : l.Pairwise (fun a b => a.cps.toList ≤ b.cps.toList) := by
 cases l with
 | nil => exact List.Pairwise.nil
 | cons a r => exact rising_le h
theorem sorted_uniq {a b : List Str} (p : a.Perm b) (ha : sortedS a = true) (hb : sortedS b = true) : a = b := by
 refine p.eq_of_pairwise (fun x y _ _ h1 h2 => ?_) (sorted_le ha) (sorted_le hb)
 have : x.cps.toList = y.cps.toList := List.le_antisymm h1 h2
 exact cd_inj this
theorem strs_vals {out : List Value} {ss : List Str} (h : StrsAre out ss) : Vals (ss.map V.str) out := by
 induction h with
 | nil => exact .nil
 | cons y t _ ih => exact .cons ⟨t, rfl⟩ ih
theorem call_sortedS {X : Cx} (hc : X.calm = true) : CallR X (.builtin "sorted") (fun xs H Q => ∃ d zs, xs = [.ref d] ∧ (H d = some (.lst (zs.map V.str)) ∨ ∃ kvs, H d = some (.dK kvs) ∧ kvs.map (·.1) = zs.map Sum.inr) ∧ zs.length < 64 ∧
   ∀ l ys, H l = none → ys.Perm zs → sortedS ys = true → Q (.ref l) (upd H l (.lst (ys.map V.str)))) := by
 intro pins s σ H xs us Q I r h
 obtain ⟨d, zs, rfl, hH, h64, q⟩ := h
 obtain ⟨u, rfl, rx⟩ := vals1 r
 cases rx
 rcases hH with hH | ⟨kvs, hH, hkz⟩
 · obtain ⟨hz, its, n, rv, ho⟩ := (show ObjOk X.prog X.w H s.heap d (.lst (zs.map V.str)) from I.hok d _ hH)
   have hS := strs_of rv
   have hl : its.length = zs.length := by have := rv.length; rw [List.length_map] at this; exact this.symm
   refine sorted_strs (vs := its) (ss := zs) ⟨_, ho, rfl, n, rfl⟩ hS (by omega) fun out ss' a1 a2 a3 => ?_
   obtain ⟨e, he⟩ := sortedAll_at s.heap its out
   have hf : H (s.heap.objs.size + 1) = none := I.hok.fresh (Nat.le_succ _)
   refine ⟨.ref (s.heap.objs.size + 1), _, I.laid (t' := s.toks) (a := s.heap.objs.size + 1) (o := .lst (ss'.map V.str)) (fun b u e => sortedAll_old e) (Nat.le_succ _) ⟨?_, out.toList, e, strs_vals a1, he⟩, rfl, q _ ss' hf a2 a3⟩
   rw [List.length_map, a2.length_eq, sizeLine_eq]; omega
 · obtain ⟨hz, hS, vs, rv, od, es, ep, hod, hx, hdat, hk, hpr, hn⟩ := dk_rd I.hok (.inl hH)
   have hm : RawD s.heap d es ep := ⟨od, hod, hx, hdat⟩
   have hkl : kvs.length = zs.length := by have := congrArg List.length hkz; rw [List.length_map, List.length_map] at this; exact this
   have hes : es.size = zs.length := by rw [← Array.length_toList, hpr.length, ← rv.length, hkl]
   have hand : X.A.handled = none := I.ok.hd hc
   have hkv : Vals (zs.map V.str) (es.toList.map (·.key)) := by
     have := keys_rel hpr rv
     rw [show zs.map V.str = kvs.map fun p => kV p.1 by
       have e := congrArg (List.map kV) hkz
       rw [List.map_map, List.map_map] at e
       exact e.symm]
     exact this
   refine call_function_entry kind_sorted plain_sorted entry_sorted (args_sorted1 _) ?_
   unfold Builtin.«sorted»
   refine wpAny_bind (m := checkCount "sorted" 1 1 _) (wpAny_pure ?_)
   refine wpAny_bind (kdu_collect (A := X.A.in1) (raw_src (es := es) (ep := ep) hS) hand hm (by rw [hes, sizeLine_eq]; omega) fun h' tk acc hk hacc => ?_)
   have hl : acc.toList.length = zs.length := by rw [Array.length_toList, hacc.1, hes]
   refine wpAny_bind (wpAny_newList ?_ (by rw [hl, sizeLine_eq]; omega))
   have key : acc.toList = es.toList.map (·.key) := by
     refine List.ext_getElem? fun j => ?_
     rw [List.getElem?_map, Array.getElem?_toList, Array.getElem?_toList]
     cases ha : acc[j]? with
     | none =>
       have : es[j]? = none := by
         rw [Array.getElem?_eq_none_iff] at ha ⊢
         rw [← hacc.1]; exact ha
       rw [this]; rfl
     | some v =>
       obtain ⟨e, h1, h2⟩ := hacc.2 j v ha
       rw [h1, ← h2]; rfl
   rw [← key] at hkv
   have hSt := strs_of hkv
   have I1 : Inv X pins σ H { s with heap := h', toks := tk } := I.kept hk
   have hoL : (h'.push (seqObj "list" acc.toList.toArray 0)).get? h'.objs.size = some (seqObj "list" acc.toList.toArray 0) := Heap.get?_push_size _ rfl
   have k2 : ∀ b u, h'.get? b = some u → (h'.push (seqObj "list" acc.toList.toArray 0)).get? b = some u := fun b u e => Heap.get?_push_of_some _ e
   show wpAny _ _ _ _ _ { s with heap := h'.push (seqObj "list" acc.toList.toArray 0), toks := tk }
   have lt2 : ∀ b u, h'.get? b = some u → b < (h'.push (seqObj "list" acc.toList.toArray 0)).objs.size := fun b u e => Heap.lt_size (k2 b u e)
   generalize h'.push (seqObj "list" acc.toList.toArray 0) = h2 at hoL k2 lt2 ⊢
   refine wpAny_bind (wpAny_holding (wpAny_call_entry slot_list_sort ⟨_, hoL, rfl⟩ entry_list_sort ?body (args_list_sort _)))
   refine list_sort_treeK (s := { s with heap := h2, toks := tk }) (vs := acc.toList) strKind_oneLt hoL hSt.keysOf (fun v₁ v₂ rest e => keyKind_strs (by rw [← e]; exact hSt)) (by omega) fun st' a1 a2 => ⟨_, rfl, wpAny_pure ⟨_, rfl, ?_⟩⟩
   obtain ⟨ss', b1, b2, b3⟩ := sorted_out_str hSt a1 a2
   obtain ⟨e, he⟩ := sortedHeap_at (out := (arrOf st').map (·.2)) hoL
   refine ⟨.ref h'.objs.size, _, I1.laid (t' := tk) (a := h'.objs.size) (o := .lst (ss'.map V.str)) (fun b u e => ?_) (Nat.le_refl _) ⟨?_, _, e, strs_vals b1, he⟩, rfl, q _ ss' (I1.hok.fresh (Nat.le_refl _)) b2 b3⟩
   · rw [sortedHeap_old (Nat.ne_of_lt (Heap.lt_size e)) (lt2 b u e)]
     exact k2 b u e
   · rw [List.length_map, b2.length_eq, sizeLine_eq]; omega
section
variable {X : Cx} {pos : Pos} {P : Program} {w : World}
theorem pe_dnewP (hp : X.prog = P) (hw : X.w = w) : PE X (.Dict [] [] pos) (tDNewO P w) := by subst hp hw; exact pe_dnewO
theorem pe_disp1P (hp : X.prog = P) (hw : X.w = w) {ke ve : Expr} {tk tv : TE} (hk : PE X ke tk) (hv : PE X ve tv) : PE X (.Dict [some ke] [ve] pos) (tDisp1 P w tk tv) := by subst hp hw; exact pe_disp1 hk hv
theorem ps_dputP (hp : X.prog = P) (hw : X.w = w) {o i value : Expr} {td ty tv : TE} {pos' : Pos} (ho : PE X o td) (hi : PE X i ty) (hv : PE X value tv) (hs : swapsWith value (some (.Subscript o i pos')) pos.line X.env = pure false) :
   PS X (.Assign [.Subscript o i pos'] value pos) (sDPutO P w td ty tv) := by subst hp hw; exact ps_dputO ho hi hv hs
theorem pe_dget2P (hp : X.prog = P) (hw : X.w = w) {o e f : Expr} {apos cpos : Pos} {td ty tx : TE} (ho : PE X o td) (he : PE X e ty) (hf : PE X f tx) (m : M2 X o "get" apos e f cpos) : PE X (.Call (.Attribute o "get" apos) [e, f] [] cpos) (tDGet2O P w td ty tx) := by subst hp hw; exact pe_dget2O ho he hf m
theorem pi_itemsP {o : Expr} {to : TE} {apos cpos tp : Pos} {elts : List Expr} {x1 : Nat} (hp : X.prog = P) (hw : X.w = w) (ho : PE X o to) (hbase : attributeBase o "items" X.env (eval o X.env) = eval o X.env := by rfl) (hline : (apos.endLine == cpos.line) = true := by rfl) :
   PI X (.Tuple elts x1 tp) (.Call (.Attribute o "items" apos) [] [] cpos) (iItemsO P w to) := by subst hp hw; exact pi_itemsO ho hbase hline
theorem pi_dictP {tg : Expr} (hp : X.prog = P) (hw : X.w = w) {l : Expr} {tl : TE} (hl : PE X l tl) : PI X tg l (iDictO P w tl) := by subst hp hw; exact pi_dictO hl
end
section
variable {X : Cx} {CX : CXT} {k : Nat} {E : XK} {m : Str} {pos apos : Pos} {o : Expr} {ta : TE} {P : Program} {w : World} {K : PySem.W.Frag} {mg : Str → Option Value} {base : Heap}
def tMethQ (P : Program) (w : World) (K : PySem.W.Frag) (mg : Str → Option Value) (base : Heap) (CX : CXT) (k : Nat) (m : Str) (E : XK) (ta : TE) : TE := fun σ H Q => ta σ H fun x H1 => ∃ (a C dx : Addr) (fs : List (Str × V)) (M : MethJ P w K mg base CX k C m), x = .ref a ∧ H1 a = some (.ins C dx fs) ∧ fs.lookup m = none ∧ M.sp (x :: M.dvs) H1 Q E
theorem pe_methQ0 {pl : Sem Bool} (hP : X.prog = P) (hw : X.w = w) (hK : X.K = K) (hg : X.mg = mg) (hb : X.base = base) (hr : Room k X.A) (hx : Passes CX X E) (he : PE X o ta)
   (ht : eval (.Call (.Attribute o m apos) [] [] pos) X.env = (do
     let ov ← eval o X.env
     standAt apos.atName
     let (f, first) ← holding [ov] (getMethod ov m pl)
     callWith pos f first (backTo pos (starEach [] X.env)) (backToKw pos (keywordEach [] X.env))) := by rfl) :
   PE X (.Call (.Attribute o m apos) [] [] pos) (tMethQ P w K mg base CX k m E ta) := by
 subst hP hw hK hg hb
 exact pe_methG0 hr hx he ht
end
end L2
namespace L2
open PySem PySem.Spec PyProof.Rows
def pad3 (l : List Nat) : List Nat := List.replicate (3 - l.length) 48 ++ l
def figM (n : Int) : List Nat := pad3 (dig n.natAbs)
def sgn (n : Int) : List Nat := if n < 0 then [45] else []
def monL (n : Int) : List Nat := sgn n ++ ((figM n).take ((figM n).length - 2) ++ 46 :: (figM n).drop ((figM n).length - 2))
def isF (c : Nat) : Prop := 48 ≤ c ∧ c ≤ 57
theorem pad3_len (l : List Nat) : 3 ≤ (pad3 l).length ∧ (pad3 l).length = max 3 l.length := by
 unfold pad3; rw [List.length_append, List.length_replicate]; omega
theorem figM_fig {n : Int} {c : Nat} (h : c ∈ figM n) : isF c := by
 unfold figM pad3 at h
 rcases List.mem_append.mp h with h | h
 · rw [(List.mem_replicate.mp h).2]; exact ⟨by decide, by decide⟩
 · exact dig_fig h
theorem figM_head {n : Int} (h : (figM n).head? = some 48) : (figM n).length = 3 := by
 have hl := (pad3_len (dig n.natAbs)).2
 by_cases h3 : (dig n.natAbs).length ≤ 3
 · show (pad3 _).length = 3; omega
 · exfalso
   have e : figM n = dig n.natAbs := by unfold figM pad3; rw [show 3 - (dig n.natAbs).length = 0 by omega]; rfl
   rw [e] at h
   by_cases h0 : n.natAbs = 0
   · rw [h0, dig_zero] at h3; simp at h3
   · obtain ⟨c, r, ec, hc, _⟩ := dig_head h0
     rw [ec] at h
     have : c = 48 := by simpa using h
     omega
theorem mon_shape (n : Int) : ∃ a x y, monL n = sgn n ++ (a ++ [46, x, y]) ∧ figM n = a ++ [x, y] ∧ a ≠ [] ∧ (∀ c ∈ a, isF c) ∧ isF x ∧ isF y ∧ (a.head? = some 48 → a = [48]) := by
 have hl : 3 ≤ (figM n).length := (pad3_len _).1
 have hd : ((figM n).drop ((figM n).length - 2)).length = 2 := by rw [List.length_drop]; omega
 obtain ⟨x, y, e⟩ : ∃ x y, (figM n).drop ((figM n).length - 2) = [x, y] := by
   match h : (figM n).drop ((figM n).length - 2), hd with
   | [x, y], _ => exact ⟨x, y, rfl⟩
 have ea : figM n = (figM n).take ((figM n).length - 2) ++ [x, y] := by rw [← e, List.take_append_drop]
 have ht : ((figM n).take ((figM n).length - 2)).length = (figM n).length - 2 := by rw [List.length_take]; omega
 refine ⟨(figM n).take ((figM n).length - 2), x, y, ?_, ea, ?_, fun c hc => figM_fig (List.mem_of_mem_take hc), figM_fig (n := n) (by rw [ea]; simp), figM_fig (n := n) (by rw [ea]; simp), fun h => ?_⟩
 · unfold monL; rw [e]
 · intro z; rw [z] at ht; simp at ht; omega
 · have h1 : (figM n).head? = some 48 := by
     rw [ea]
     cases hh : (figM n).take ((figM n).length - 2) with
     | nil => rw [hh] at h; cases h
     | cons c r => rw [hh] at h; exact h
   have h3 := figM_head h1
   rw [h3] at h ht ⊢
   match hh : (figM n).take (3 - 2), ht with
   | [c], _ => rw [hh] at h; have : c = 48 := by simpa using h
               rw [this]
theorem sgn_mem {n : Int} {c : Nat} (h : c ∈ sgn n) : c = 45 := by unfold sgn at h; split at h; exact List.mem_singleton.mp h; cases h
theorem mon_chars {n : Int} {c : Nat} (h : c ∈ monL n) : c = 45 ∨ c = 46 ∨ isF c := by
 obtain ⟨a, x, y, e, _, _, ha, hx, hy, _⟩ := mon_shape n
 rw [e] at h
 rcases List.mem_append.mp h with h | h
 · exact .inl (sgn_mem h)
 · rcases List.mem_append.mp h with h | h
   · exact .inr (.inr (ha c h))
   · simp only [List.mem_cons, List.not_mem_nil, or_false] at h
     rcases h with h | h | h
     · exact .inr (.inl h)
     · rw [h]; exact .inr (.inr hx)
     · rw [h]; exact .inr (.inr hy)
theorem mon_fine {n : Int} (h : n.natAbs < 10 ^ 60) : Fine 65 (S (monL n)) := by
 refine ⟨?_, fun c hc => ?_⟩
 · obtain ⟨a, x, y, e, ef, _⟩ := mon_shape n
   have hl := (pad3_len (dig n.natAbs)).2
   have hd := dig_len (k := 60) (by decide) h
   have e3 := congrArg List.length ef
   rw [List.length_append] at e3
   have e4 : (figM n).length = (pad3 (dig n.natAbs)).length := rfl
   rw [len_S, e, List.length_append, List.length_append]
   have e5 : (sgn n).length ≤ 1 := by unfold sgn; split <;> simp
   simp only [List.length_cons, List.length_nil] at e3 ⊢
   omega
 · rw [cd_S] at hc
   rcases mon_chars hc with z | z | z
   · omega
   · omega
   · unfold isF at z; omega
end L2
namespace K31
open PySem L2
def top (i : Nat) : Stmt := PySem.Challenge.pw_askpaper_k31_sums_put_together.main.body.getD i (.Pass ⟨0, 0, 0, 0⟩)
abbrev s_money_shown : Stmt := top 20
abbrev s_c_Kind___init : Stmt := inClass (top 22) 0
abbrev s_c_YesNo___init : Stmt := inClass (top 23) 0
abbrev s_c_YesNo_told : Stmt := inClass (top 23) 6
abbrev s_c_Whole_shown : Stmt := inClass (top 24) 2
abbrev s_c_Whole_bounds : Stmt := inClass (top 24) 5
abbrev s_c_Whole_told : Stmt := inClass (top 24) 6
abbrev s_c_Money_shown : Stmt := inClass (top 25) 1
abbrev s_c_Money_told : Stmt := inClass (top 25) 2
abbrev s_c_Pick___init : Stmt := inClass (top 26) 0
abbrev s_c_Pick_told : Stmt := inClass (top 26) 6
abbrev s_c_Names___init : Stmt := inClass (top 27) 0
abbrev s_c_Names_told : Stmt := inClass (top 27) 6
abbrev s_c_Row___init : Stmt := inClass (top 29) 0
abbrev s_c_Ask___init : Stmt := inClass (top 30) 0
abbrev s_c_Sheet___init : Stmt := inClass (top 31) 0
abbrev s_c_Paper___init : Stmt := inClass (top 32) 0
abbrev s_kinds_of : Stmt := top 34
abbrev s_gathered : Stmt := top 35
abbrev s_questions_of : Stmt := top 36
abbrev s_put_together : Stmt := top 37
abbrev s_law_cell : Stmt := top 39
abbrev s_law_name : Stmt := top 40
abbrev s_law_whole : Stmt := top 41
abbrev s_law_kind : Stmt := top 42
abbrev s_law_part : Stmt := top 43
abbrev s_law_sums : Stmt := top 44
abbrev s_law_come : Stmt := top 45
abbrev s_law_times : Stmt := top 46
abbrev s_law_terms : Stmt := top 47
abbrev s_law_named : Stmt := top 48
abbrev s_law_told : Stmt := top 49
abbrev s_law : Stmt := top 50
set_option genInjectivity false
set_option genSizeOf false
structure Adr where
 f_money_shown : Addr
 d_money_shown : FuncData
 f_c_Kind___init : Addr
 d_c_Kind___init : FuncData
 f_c_YesNo___init : Addr
 d_c_YesNo___init : FuncData
 f_c_YesNo_told : Addr
 d_c_YesNo_told : FuncData
 f_c_Whole_shown : Addr
 d_c_Whole_shown : FuncData
 f_c_Whole_bounds : Addr
 d_c_Whole_bounds : FuncData
 f_c_Whole_told : Addr
 d_c_Whole_told : FuncData
 f_c_Money_shown : Addr
 d_c_Money_shown : FuncData
 f_c_Money_told : Addr
 d_c_Money_told : FuncData
 f_c_Pick___init : Addr
 d_c_Pick___init : FuncData
 f_c_Pick_told : Addr
 d_c_Pick_told : FuncData
 f_c_Names___init : Addr
 d_c_Names___init : FuncData
 ds_c_Names___init : List Value
 f_c_Names_told : Addr
 d_c_Names_told : FuncData
 f_c_Row___init : Addr
 d_c_Row___init : FuncData
 f_c_Ask___init : Addr
 d_c_Ask___init : FuncData
 ds_c_Ask___init : List Value
 f_c_Sheet___init : Addr
 d_c_Sheet___init : FuncData
 f_c_Paper___init : Addr
 d_c_Paper___init : FuncData
 f_kinds_of : Addr
 d_kinds_of : FuncData
 f_gathered : Addr
 d_gathered : FuncData
 f_questions_of : Addr
 d_questions_of : FuncData
 f_put_together : Addr
 d_put_together : FuncData
 f_law_cell : Addr
 d_law_cell : FuncData
 f_law_name : Addr
 d_law_name : FuncData
 f_law_whole : Addr
 d_law_whole : FuncData
 f_law_kind : Addr
 d_law_kind : FuncData
 f_law_part : Addr
 d_law_part : FuncData
 f_law_sums : Addr
 d_law_sums : FuncData
 f_law_come : Addr
 d_law_come : FuncData
 f_law_times : Addr
 d_law_times : FuncData
 f_law_terms : Addr
 d_law_terms : FuncData
 f_law_named : Addr
 d_law_named : FuncData
 f_law_told : Addr
 d_law_told : FuncData
 f_law : Addr
 d_law : FuncData
 c_Ask : Addr
 c_Kind : Addr
 c_Money : Addr
 c_Names : Addr
 c_Paper : Addr
 c_Pick : Addr
 c_Row : Addr
 c_Sheet : Addr
 c_Whole : Addr
 c_YesNo : Addr
structure Txt (K : W.Frag) (mg : Str → Option Value) (A : Adr) : Prop where
 F_money_shown : Fun K "money_shown" "money_shown" s_money_shown A.f_money_shown A.d_money_shown
 b_money_shown : Binds K A.d_money_shown ["hundredths"] []
 k_money_shown : W.keepIn K (.ref A.f_money_shown) = true
 m_money_shown : mg "money_shown" = some (.ref A.f_money_shown)
 F_c_Kind___init : Fun K "__init__" "Kind.__init__" s_c_Kind___init A.f_c_Kind___init A.d_c_Kind___init
 b_c_Kind___init : Binds K A.d_c_Kind___init ["self", "low", "high"] []
 F_c_YesNo___init : Fun K "__init__" "YesNo.__init__" s_c_YesNo___init A.f_c_YesNo___init A.d_c_YesNo___init
 b_c_YesNo___init : Binds K A.d_c_YesNo___init ["self"] []
 F_c_YesNo_told : Fun K "told" "YesNo.told" s_c_YesNo_told A.f_c_YesNo_told A.d_c_YesNo_told
 b_c_YesNo_told : Binds K A.d_c_YesNo_told ["self"] []
 F_c_Whole_shown : Fun K "shown" "Whole.shown" s_c_Whole_shown A.f_c_Whole_shown A.d_c_Whole_shown
 b_c_Whole_shown : Binds K A.d_c_Whole_shown ["self", "answer"] []
 F_c_Whole_bounds : Fun K "bounds" "Whole.bounds" s_c_Whole_bounds A.f_c_Whole_bounds A.d_c_Whole_bounds
 b_c_Whole_bounds : Binds K A.d_c_Whole_bounds ["self"] []
 F_c_Whole_told : Fun K "told" "Whole.told" s_c_Whole_told A.f_c_Whole_told A.d_c_Whole_told
 b_c_Whole_told : Binds K A.d_c_Whole_told ["self"] []
 F_c_Money_shown : Fun K "shown" "Money.shown" s_c_Money_shown A.f_c_Money_shown A.d_c_Money_shown
 b_c_Money_shown : Binds K A.d_c_Money_shown ["self", "answer"] []
 F_c_Money_told : Fun K "told" "Money.told" s_c_Money_told A.f_c_Money_told A.d_c_Money_told
 b_c_Money_told : Binds K A.d_c_Money_told ["self"] []
 F_c_Pick___init : Fun K "__init__" "Pick.__init__" s_c_Pick___init A.f_c_Pick___init A.d_c_Pick___init
 b_c_Pick___init : Binds K A.d_c_Pick___init ["self", "words"] []
 F_c_Pick_told : Fun K "told" "Pick.told" s_c_Pick_told A.f_c_Pick_told A.d_c_Pick_told
 b_c_Pick_told : Binds K A.d_c_Pick_told ["self"] []
 F_c_Names___init : FunD K "__init__" "Names.__init__" s_c_Names___init A.ds_c_Names___init A.f_c_Names___init A.d_c_Names___init
 b_c_Names___init : Binds K A.d_c_Names___init ["self", "most"] []
 F_c_Names_told : Fun K "told" "Names.told" s_c_Names_told A.f_c_Names_told A.d_c_Names_told
 b_c_Names_told : Binds K A.d_c_Names_told ["self"] []
 F_c_Row___init : Fun K "__init__" "Row.__init__" s_c_Row___init A.f_c_Row___init A.d_c_Row___init
 b_c_Row___init : Binds K A.d_c_Row___init ["self", "name"] []
 F_c_Ask___init : FunD K "__init__" "Ask.__init__" s_c_Ask___init A.ds_c_Ask___init A.f_c_Ask___init A.d_c_Ask___init
 bd_c_Ask___init : Binds K A.d_c_Ask___init ["self", "name", "kind", "when"] A.ds_c_Ask___init
 dv_c_Ask___init : Vals [.non] A.ds_c_Ask___init
 F_c_Sheet___init : Fun K "__init__" "Sheet.__init__" s_c_Sheet___init A.f_c_Sheet___init A.d_c_Sheet___init
 b_c_Sheet___init : Binds K A.d_c_Sheet___init ["self", "name", "each", "rows", "ways"] []
 F_c_Paper___init : Fun K "__init__" "Paper.__init__" s_c_Paper___init A.f_c_Paper___init A.d_c_Paper___init
 b_c_Paper___init : Binds K A.d_c_Paper___init ["self", "name", "sheets", "totals"] []
 F_kinds_of : Fun K "kinds_of" "kinds_of" s_kinds_of A.f_kinds_of A.d_kinds_of
 b_kinds_of : Binds K A.d_kinds_of ["paper"] []
 k_kinds_of : W.keepIn K (.ref A.f_kinds_of) = true
 m_kinds_of : mg "kinds_of" = some (.ref A.f_kinds_of)
 F_gathered : Fun K "gathered" "gathered" s_gathered A.f_gathered A.d_gathered
 b_gathered : Binds K A.d_gathered ["totals", "name", "known"] []
 k_gathered : W.keepIn K (.ref A.f_gathered) = true
 m_gathered : mg "gathered" = some (.ref A.f_gathered)
 F_questions_of : Fun K "questions_of" "questions_of" s_questions_of A.f_questions_of A.d_questions_of
 b_questions_of : Binds K A.d_questions_of ["paper", "name"] []
 k_questions_of : W.keepIn K (.ref A.f_questions_of) = true
 m_questions_of : mg "questions_of" = some (.ref A.f_questions_of)
 F_put_together : Fun K "put_together" "put_together" s_put_together A.f_put_together A.d_put_together
 b_put_together : Binds K A.d_put_together ["paper", "name"] []
 k_put_together : W.keepIn K (.ref A.f_put_together) = true
 m_put_together : mg "put_together" = some (.ref A.f_put_together)
 F_law_cell : Fun K "_law_cell" "_law_cell" s_law_cell A.f_law_cell A.d_law_cell
 b_law_cell : Binds K A.d_law_cell ["_law_script", "_law_k"] []
 k_law_cell : W.keepIn K (.ref A.f_law_cell) = true
 m_law_cell : mg "_law_cell" = some (.ref A.f_law_cell)
 F_law_name : Fun K "_law_name" "_law_name" s_law_name A.f_law_name A.d_law_name
 b_law_name : Binds K A.d_law_name ["_law_script", "_law_k"] []
 k_law_name : W.keepIn K (.ref A.f_law_name) = true
 m_law_name : mg "_law_name" = some (.ref A.f_law_name)
 F_law_whole : Fun K "_law_whole" "_law_whole" s_law_whole A.f_law_whole A.d_law_whole
 b_law_whole : Binds K A.d_law_whole ["_law_found"] []
 k_law_whole : W.keepIn K (.ref A.f_law_whole) = true
 m_law_whole : mg "_law_whole" = some (.ref A.f_law_whole)
 F_law_kind : Fun K "_law_kind" "_law_kind" s_law_kind A.f_law_kind A.d_law_kind
 b_law_kind : Binds K A.d_law_kind ["_law_number"] []
 k_law_kind : W.keepIn K (.ref A.f_law_kind) = true
 m_law_kind : mg "_law_kind" = some (.ref A.f_law_kind)
 F_law_part : Fun K "_law_part" "_law_part" s_law_part A.f_law_part A.d_law_part
 b_law_part : Binds K A.d_law_part ["_law_number", "_law_own", "_law_many", "_law_sums_here"] []
 k_law_part : W.keepIn K (.ref A.f_law_part) = true
 m_law_part : mg "_law_part" = some (.ref A.f_law_part)
 F_law_sums : Fun K "_law_sums" "_law_sums" s_law_sums A.f_law_sums A.d_law_sums
 b_law_sums : Binds K A.d_law_sums ["_law_script", "_law_many"] []
 k_law_sums : W.keepIn K (.ref A.f_law_sums) = true
 m_law_sums : mg "_law_sums" = some (.ref A.f_law_sums)
 F_law_come : Fun K "_law_come" "_law_come" s_law_come A.f_law_come A.d_law_come
 b_law_come : Binds K A.d_law_come ["_law_made", "_law_own", "_law_found"] []
 k_law_come : W.keepIn K (.ref A.f_law_come) = true
 m_law_come : mg "_law_come" = some (.ref A.f_law_come)
 F_law_times : Fun K "_law_times" "_law_times" s_law_times A.f_law_times A.d_law_times
 b_law_times : Binds K A.d_law_times ["_law_made", "_law_own", "_law_aim"] []
 k_law_times : W.keepIn K (.ref A.f_law_times) = true
 m_law_times : mg "_law_times" = some (.ref A.f_law_times)
 F_law_terms : Fun K "_law_terms" "_law_terms" s_law_terms A.f_law_terms A.d_law_terms
 b_law_terms : Binds K A.d_law_terms ["_law_made", "_law_own", "_law_script"] []
 k_law_terms : W.keepIn K (.ref A.f_law_terms) = true
 m_law_terms : mg "_law_terms" = some (.ref A.f_law_terms)
 F_law_named : Fun K "_law_named" "_law_named" s_law_named A.f_law_named A.d_law_named
 b_law_named : Binds K A.d_law_named ["_law_script", "_law_part_here"] []
 k_law_named : W.keepIn K (.ref A.f_law_named) = true
 m_law_named : mg "_law_named" = some (.ref A.f_law_named)
 F_law_told : Fun K "_law_told" "_law_told" s_law_told A.f_law_told A.d_law_told
 b_law_told : Binds K A.d_law_told ["_law_paper", "_law_name_here"] []
 k_law_told : W.keepIn K (.ref A.f_law_told) = true
 m_law_told : mg "_law_told" = some (.ref A.f_law_told)
 F_law : Fun K "law" "law" s_law A.f_law A.d_law
 m_law : mg "law" = some (.ref A.f_law)
 n_abs : mg "abs" = none
 n_bool : mg "bool" = none
 n_dict : mg "dict" = none
 n_enumerate : mg "enumerate" = none
 n_int : mg "int" = none
 n_isinstance : mg "isinstance" = none
 n_len : mg "len" = none
 n_list : mg "list" = none
 n_range : mg "range" = none
 n_sorted : mg "sorted" = none
 n_str : mg "str" = none
 n_tuple : mg "tuple" = none
 i_int_bool : W.kitOne K (.type "int") (.type "bool") = some false
 i_int_int : W.kitOne K (.type "int") (.type "int") = some true
 i_str_str : W.kitOne K (.type "str") (.type "str") = some true
 i_list_list : W.kitOne K (.type "list") (.type "list") = some true
 i_tuple_tuple : W.kitOne K (.type "tuple") (.type "tuple") = some true
 m_Ask : mg "Ask" = some (.ref A.c_Ask)
 v_Ask : GlobV mg "Ask" (.ref A.c_Ask)
 m_Kind : mg "Kind" = some (.ref A.c_Kind)
 m_Money : mg "Money" = some (.ref A.c_Money)
 m_Names : mg "Names" = some (.ref A.c_Names)
 m_Paper : mg "Paper" = some (.ref A.c_Paper)
 m_Pick : mg "Pick" = some (.ref A.c_Pick)
 m_Row : mg "Row" = some (.ref A.c_Row)
 m_Sheet : mg "Sheet" = some (.ref A.c_Sheet)
 m_Whole : mg "Whole" = some (.ref A.c_Whole)
 m_YesNo : mg "YesNo" = some (.ref A.c_YesNo)
 kr_Ask_Ask : W.kitOne K (.ref A.c_Ask) (.ref A.c_Ask) = some true
 cl_YesNo : Cls K A.c_YesNo
 mk_YesNo : Mk K A.c_YesNo A.f_c_YesNo___init
 me_YesNo_told : Meth K A.c_YesNo "told" A.f_c_YesNo_told
 no_YesNo_low : NoAttr K A.c_YesNo "low"
 no_YesNo_high : NoAttr K A.c_YesNo "high"
 cl_Whole : Cls K A.c_Whole
 mk_Whole : Mk K A.c_Whole A.f_c_Kind___init
 me_Whole_shown : Meth K A.c_Whole "shown" A.f_c_Whole_shown
 me_Whole_told : Meth K A.c_Whole "told" A.f_c_Whole_told
 me_Whole_bounds : Meth K A.c_Whole "bounds" A.f_c_Whole_bounds
 no_Whole_low : NoAttr K A.c_Whole "low"
 no_Whole_high : NoAttr K A.c_Whole "high"
 cl_Money : Cls K A.c_Money
 mk_Money : Mk K A.c_Money A.f_c_Kind___init
 me_Money_shown : Meth K A.c_Money "shown" A.f_c_Money_shown
 me_Money_told : Meth K A.c_Money "told" A.f_c_Money_told
 me_Money_bounds : Meth K A.c_Money "bounds" A.f_c_Whole_bounds
 no_Money_low : NoAttr K A.c_Money "low"
 no_Money_high : NoAttr K A.c_Money "high"
 cl_Pick : Cls K A.c_Pick
 mk_Pick : Mk K A.c_Pick A.f_c_Pick___init
 me_Pick_told : Meth K A.c_Pick "told" A.f_c_Pick_told
 no_Pick_low : NoAttr K A.c_Pick "low"
 no_Pick_high : NoAttr K A.c_Pick "high"
 no_Pick_words : NoAttr K A.c_Pick "words"
 cl_Names : Cls K A.c_Names
 mk_Names : Mk K A.c_Names A.f_c_Names___init
 me_Names_told : Meth K A.c_Names "told" A.f_c_Names_told
 no_Names_low : NoAttr K A.c_Names "low"
 no_Names_high : NoAttr K A.c_Names "high"
 cl_Ask : Cls K A.c_Ask
 ty_Ask : ∀ (H : Hp) (a dx : Addr) (fs : List (Str × V)), H a = some (.ins A.c_Ask dx fs) → TyOf K H (.ref a) (.ref A.c_Ask)
 mk_Ask : Mk K A.c_Ask A.f_c_Ask___init
 no_Ask_name : NoAttr K A.c_Ask "name"
 no_Ask_kind : NoAttr K A.c_Ask "kind"
 no_Ask_when : NoAttr K A.c_Ask "when"
 cl_Sheet : Cls K A.c_Sheet
 mk_Sheet : Mk K A.c_Sheet A.f_c_Sheet___init
 no_Sheet_name : NoAttr K A.c_Sheet "name"
 no_Sheet_each : NoAttr K A.c_Sheet "each"
 no_Sheet_rows : NoAttr K A.c_Sheet "rows"
 no_Sheet_ways : NoAttr K A.c_Sheet "ways"
 cl_Paper : Cls K A.c_Paper
 mk_Paper : Mk K A.c_Paper A.f_c_Paper___init
 no_Paper_name : NoAttr K A.c_Paper "name"
 no_Paper_sheets : NoAttr K A.c_Paper "sheets"
 no_Paper_totals : NoAttr K A.c_Paper "totals"
 cf_Kind_init : ClsFn K A.c_Kind "__init__" A.f_c_Kind___init
 cf_Row_init : ClsFn K A.c_Row "__init__" A.f_c_Row___init
theorem sc_money_shown : FnScope ["hundredths", "figures", "minus"] ["hundredths"] (defScope s_money_shown) := ⟨rfl, rfl, rfl, by symm, rfl, by symm, by symm⟩
theorem sc_c_Kind___init : FnScope ["self", "low", "high"] ["self", "low", "high"] (defScope s_c_Kind___init) := ⟨rfl, rfl, rfl, by symm, rfl, by symm, by symm⟩
theorem sc_c_YesNo___init : FnScope ["self"] ["self"] (defScope s_c_YesNo___init) := ⟨rfl, rfl, rfl, by symm, rfl, by symm, by symm⟩
theorem sc_c_YesNo_told : FnScope ["self"] ["self"] (defScope s_c_YesNo_told) := ⟨rfl, rfl, rfl, by symm, rfl, by symm, by symm⟩
theorem sc_c_Whole_shown : FnScope ["self", "answer"] ["self", "answer"] (defScope s_c_Whole_shown) := ⟨rfl, rfl, rfl, by symm, rfl, by symm, by symm⟩
theorem sc_c_Whole_bounds : FnScope ["self"] ["self"] (defScope s_c_Whole_bounds) := ⟨rfl, rfl, rfl, by symm, rfl, by symm, by symm⟩
theorem sc_c_Whole_told : FnScope ["self"] ["self"] (defScope s_c_Whole_told) := ⟨rfl, rfl, rfl, by symm, rfl, by symm, by symm⟩
theorem sc_c_Money_shown : FnScope ["self", "answer"] ["self", "answer"] (defScope s_c_Money_shown) := ⟨rfl, rfl, rfl, by symm, rfl, by symm, by symm⟩
theorem sc_c_Money_told : FnScope ["self"] ["self"] (defScope s_c_Money_told) := ⟨rfl, rfl, rfl, by symm, rfl, by symm, by symm⟩
theorem sc_c_Pick___init : FnScope ["self", "words"] ["self", "words"] (defScope s_c_Pick___init) := ⟨rfl, rfl, rfl, by symm, rfl, by symm, by symm⟩
theorem sc_c_Pick_told : FnScope ["self"] ["self"] (defScope s_c_Pick_told) := ⟨rfl, rfl, rfl, by symm, rfl, by symm, by symm⟩
theorem sc_c_Names___init : FnScope ["self", "most"] ["self", "most"] (defScope s_c_Names___init) := ⟨rfl, rfl, rfl, by symm, rfl, by symm, by symm⟩
theorem sc_c_Names_told : FnScope ["self"] ["self"] (defScope s_c_Names_told) := ⟨rfl, rfl, rfl, by symm, rfl, by symm, by symm⟩
theorem sc_c_Row___init : FnScope ["self", "name"] ["self", "name"] (defScope s_c_Row___init) := ⟨rfl, rfl, rfl, by symm, rfl, by symm, by symm⟩
theorem sc_c_Ask___init : FnScope ["self", "name", "kind", "when"] ["self", "name", "kind", "when"] (defScope s_c_Ask___init) := ⟨rfl, rfl, rfl, by symm, rfl, by symm, by symm⟩
theorem sc_c_Sheet___init : FnScope ["self", "name", "each", "rows", "ways"] ["self", "name", "each", "rows", "ways"] (defScope s_c_Sheet___init) := ⟨rfl, rfl, rfl, by symm, rfl, by symm, by symm⟩
theorem sc_c_Paper___init : FnScope ["self", "name", "sheets", "totals"] ["self", "name", "sheets", "totals"] (defScope s_c_Paper___init) := ⟨rfl, rfl, rfl, by symm, rfl, by symm, by symm⟩
theorem sc_kinds_of : FnScope ["paper", "kinds", "sheet", "row"] ["paper"] (defScope s_kinds_of) := ⟨rfl, rfl, rfl, by symm, rfl, by symm, by symm⟩
theorem sc_gathered : FnScope ["totals", "name", "known", "often", "times", "part", "inner", "question", "inner_times"] ["totals", "name", "known"] (defScope s_gathered) := ⟨rfl, rfl, rfl, by symm, rfl, by symm, by symm⟩
theorem sc_questions_of : FnScope ["paper", "name"] ["paper", "name"] (defScope s_questions_of) := ⟨rfl, rfl, rfl, by symm, rfl, by symm, by symm⟩
theorem sc_put_together : FnScope ["paper", "name", "often", "terms"] ["paper", "name"] (defScope s_put_together) := ⟨rfl, rfl, rfl, by symm, rfl, by symm, by symm⟩
theorem sc_law_cell : FnScope ["_law_script", "_law_k", "_law_number"] ["_law_script", "_law_k"] (defScope s_law_cell) := ⟨rfl, rfl, rfl, by symm, rfl, by symm, by symm⟩
theorem sc_law_name : FnScope ["_law_script", "_law_k", "_law_some", "_law_pad"] ["_law_script", "_law_k"] (defScope s_law_name) := ⟨rfl, rfl, rfl, by symm, rfl, by symm, by symm⟩
theorem sc_law_whole : FnScope ["_law_found"] ["_law_found"] (defScope s_law_whole) := ⟨rfl, rfl, rfl, by symm, rfl, by symm, by symm⟩
theorem sc_law_kind : FnScope ["_law_number", "_law_low"] ["_law_number"] (defScope s_law_kind) := ⟨rfl, rfl, rfl, by symm, rfl, by symm, by symm⟩
theorem sc_law_part : FnScope ["_law_number", "_law_own", "_law_many", "_law_sums_here", "_law_big", "_law_times_here"] ["_law_number", "_law_own", "_law_many", "_law_sums_here"] (defScope s_law_part) := ⟨rfl, rfl, rfl, by symm, rfl, by symm, by symm⟩
theorem sc_law_sums : FnScope ["_law_script", "_law_many", "_law_sums_here", "_law_made", "_law_own", "_law_parts", "_law_k", "_law_times_here", "_law_part_here"] ["_law_script", "_law_many"] (defScope s_law_sums) := ⟨rfl, rfl, rfl, by symm, rfl, by symm, by symm⟩
theorem sc_law_come : FnScope ["_law_made", "_law_own", "_law_found", "_law_times_here", "_law_part_here"] ["_law_made", "_law_own", "_law_found"] (defScope s_law_come) := ⟨rfl, rfl, rfl, by symm, rfl, by symm, by symm⟩
theorem sc_law_times : FnScope ["_law_made", "_law_own", "_law_aim", "_law_found", "_law_times_here", "_law_part_here"] ["_law_made", "_law_own", "_law_aim"] (defScope s_law_times) := ⟨rfl, rfl, rfl, by symm, rfl, by symm, by symm⟩
theorem sc_law_terms : FnScope ["_law_made", "_law_own", "_law_script", "_law_come_here", "_law_terms_here"] ["_law_made", "_law_own", "_law_script"] (defScope s_law_terms) := ⟨rfl, rfl, rfl, by symm, rfl, by symm, by symm⟩
theorem sc_law_named : FnScope ["_law_script", "_law_part_here"] ["_law_script", "_law_part_here"] (defScope s_law_named) := ⟨rfl, rfl, rfl, by symm, rfl, by symm, by symm⟩
theorem sc_law_told : FnScope ["_law_paper", "_law_name_here", "_law_found", "_law_row"] ["_law_paper", "_law_name_here"] (defScope s_law_told) := ⟨rfl, rfl, rfl, by symm, rfl, by symm, by symm⟩
theorem sc_law : FnScope ["_law_script", "_law_many", "_law_kinds", "_law_rows", "_law_made", "_law_totals", "_law_own", "_law_parts", "_law_named_here", "_law_paper", "_law_found", "_law_turn", "_law_come_here", "_law_terms_here", "_law_told_here", "_law_asked"] ["_law_script"] (defScope s_law) := ⟨rfl, rfl, rfl, by symm, rfl, by symm, by symm⟩
end K31
set_option maxHeartbeats 4000000
namespace K31
open PySem L2
seal PE PT PW PA PS PSs PG PGs PI PO PSet OpR UnR CallR TruR IxR SlR PC PPs
local macro_rules | `(tactic| walk_at "rd1") => `(tactic| first
 | (refine And.intro rfl ?_)
 | (refine And.intro (by assumption) ?_)
 | (refine And.intro (fun _ e => e) ?_)
 | (refine And.intro (TyOf.str _) ?_) | (refine And.intro (TyOf.int _) ?_) | (refine And.intro (TyOf.bl _) ?_) | (refine And.intro TyOf.non ?_)
 | (refine iteT ?_) | (refine iteF ?_)
 | (apply Exists.intro))
local macro_rules | `(tactic| walk_at "rd") => `(tactic| repeat (walk_at "rd1"))
theorem len_app (x y : Str) : (x ++ y).length = x.length + y.length := by rw [len_cd, cd_app, List.length_append, ← len_cd, ← len_cd]
theorem yR {t u : TS} {D : Ends} {σ : St} {H : Hp} (R : St → Hp → Prop) (hk : ∀ σ' H', R σ' H' → u D σ' H') (hm : ∀ N : St → Hp → Prop, (∀ σ' H', R σ' H' → N σ' H') → t { D with nx := N } σ H) : tSeq t u D σ H := hm _ hk
theorem let_at (i : Int) (h0 : 0 ≤ i) (h1 : i < 26) : atI ("abcdefghijklmnopqrstuvwxyz" : Str).cps.toList i = some (97 + i.toNat) := by
 have e : ("abcdefghijklmnopqrstuvwxyz" : Str).cps.toList = (List.range 26).map (97 + ·) := by symm
 obtain ⟨c, hc, hc2⟩ := at_some (l := ("abcdefghijklmnopqrstuvwxyz" : Str).cps.toList) h0 (by rw [e]; simpa using h1)
 rw [hc]
 rw [e, List.getElem?_map, List.getElem?_range (by omega)] at hc2
 exact hc2.symm
theorem ib_e {x : Int} (h0 : 0 ≤ x) (h : x < 2 ^ 63) : ib x ≤ 60000000 := Nat.le_trans (ib_small (by omega) (by omega)) (by decide)
theorem ibc {x : Int} (h : x.natAbs < 2 ^ 256) : ib x ≤ 60000000 := Nat.le_trans (ib_big (m := 256) h) (by decide)
theorem iteB {c : Bool} {A B : Prop} (h : c = true) (k : A) : if c = true then A else B := by rw [if_pos h]; exact k
theorem iteO {c : Bool} {A B : Prop} (h : c = false) (k : B) : if c = true then A else B := by rw [if_neg (by rw [h]; decide)]; exact k
theorem tt_true {σ : St} {H : Hp} {a b : Hp → Prop} (h : a H) : tTrue σ H (fun c H3 => if c = true then a H3 else b H3) := by
 show if true = true then a H else b H
 exact iteT h
theorem zD {α β : Type} {R R' : α → β → Prop} {as : List α} {bs : List β} (h : Paired R as bs) (f : ∀ a b, R a b → R' a b) : Paired R' as bs := by
 induction h with
 | nil => exact .nil
 | cons r _ ih => exact .cons (f _ _ r) ih
theorem yG {α β : Type} {R : α → β → Prop} {as as' : List α} {bs bs' : List β} (h : Paired R as bs) (k : Paired R as' bs') : Paired R (as ++ as') (bs ++ bs') := by
 induction h with
 | nil => exact k
 | cons r _ ih => exact .cons r ih
theorem zS {α β : Type} {R : α → β → Prop} : ∀ {as : List α} {bs : List β} {i : Nat} {a : α}, Paired R as bs → as[i]? = some a → ∃ b, bs[i]? = some b ∧ R a b
 | _, _, 0, _, .cons h _, e => by cases e; exact ⟨_, rfl, h⟩
 | _, _, i + 1, _, .cons _ t, e => zS (i := i) t e
theorem paired_at2 {α β : Type} {R : α → β → Prop} : ∀ {as : List α} {bs : List β} {i : Nat} {b : β}, Paired R as bs → bs[i]? = some b → ∃ a, as[i]? = some a ∧ R a b
 | _, _, 0, _, .cons h _, e => by cases e; exact ⟨_, rfl, h⟩
 | _, _, i + 1, _, .cons _ t, e => paired_at2 (i := i) t e
theorem zN {α β : Type} {R : α → β → Prop} {as : List α} {bs : List β} (h : Paired R as bs) : as.length = bs.length := Paired.length h
theorem zX {α : Type} {l : List α} {i : Nat} {x : α} (h : l[i]? = some x) : l.take (i + 1) = l.take i ++ [x] := by rw [List.take_succ, h]; rfl
def sqm (m : Int) : Int := m * m % 2147483629
def cellF (ns : List Int) (k : Nat) : Int :=
 if k < ns.length then ns.getD k 0 else sqm (if 0 < ns.length then (k : Int) * 48271 + 11 + ns.getD (k * 7 % ns.length) 0 % 2147483647 * 69621 else (k : Int) * 48271 + 11)
def Ns (ns : List Int) : Prop := ∀ n ∈ ns, ib n ≤ 1048576
def spCell (K : W.Frag) : Sp := fun vs H Q _ => ∃ (a : Addr) (ns : List Int) (k : Nat), vs = [.ref a, .int k] ∧ SqL K H a (ns.map V.int) ∧ k < 1000 ∧ ns.length ≤ 1000 ∧ Ns ns ∧ Q (.int (cellF ns k)) H
section
variable {P : Program} {w : World} {K : W.Frag} {mg : Str → Option Value} {base : Heap} {A : Adr}
theorem ok_law_cell (T : Txt K mg A) : FnOk P w K mg base CX0 1 A.f_law_cell A.d_law_cell ["_law_script", "_law_k"] (spCell K) := by
 refine T.F_law_cell.ok sc_law_cell (fun vs H Q E h => ?_) (fun cdv A0 outer s H vs Q E hr h => ?_)
 · obtain ⟨a, ns, k, rfl, _⟩ := h
   rfl
 obtain ⟨a, ns, k, rfl, hS, hk, hl, hb, q⟩ := h
 refine ⟨_, (zF (xB (zO op_lt (pv 1) (zZ yL (by rfl) T.n_len PySem.boot_len (zA (pv 0) zC)) (zY _)) (zH (zR (pe_ix ix_list (pv 0) (pv 1) (fun _ _ => rfl)))) yI)
     (zF (zW (i := 2) sc_law_cell.nd rfl (by first | exact Or.inl rfl | exact Or.inr rfl) (zK yH (zK yU (pv 1) zE) zE))
     (zF (xB (zO op_gt (zZ yL (by rfl) T.n_len PySem.boot_len (zA (pv 0) zC)) zE (zY _)) (zH (zW (i := 2) sc_law_cell.nd rfl (by first | exact Or.inl rfl | exact Or.inr rfl) (zK yH (pv 2) (zK yU (zK yD (pe_ix ix_list (pv 0) (zK yD (zK yU (pv 1) zE) (zZ yL (by rfl) T.n_len PySem.boot_len (zA (pv 0) zC))) (fun _ _ => rfl)) zE) zE)))) yI)
     (zH (zR (zK yD (zK yU (pv 2) (pv 2)) zE)))))), ?_⟩
 have eL : ((ns.map V.int).length : Nat) = ns.length := List.length_map ..
 refine ⟨_, rfl, _, rfl, a, _, rfl, .inl hS, _, _, rfl, rfl, _, rfl, ?_⟩
 refine ite2 (fun c => ?_) (fun c => ?_)
 · have c' : (k : Int) < ((ns.map V.int).length : Nat) := of_decide_eq_true c
   have c2 : k < ns.length := by rw [eL] at c'; omega
   obtain ⟨v, hv, hv2⟩ := at_some (l := ns.map V.int) (i := (k : Int)) (by omega) c'
   obtain ⟨n, hn, rfl⟩ := map_get hv2
   have e : cellF ns k = n := by
     unfold cellF
     rw [if_pos c2, List.getD_eq_getElem?_getD, show ns[k]? = some n from hn]
     rfl
   exact ⟨_, rfl, _, rfl, a, _, _, _, rfl, rfl, hS, hv, by rw [← e]; exact q⟩
 · have c2 : ¬ k < ns.length := fun z => c (decide_eq_true (by rw [eL]; omega))
   unfold cellF at q
   rw [if_neg c2] at q
   refine ⟨_, rfl, _, _, rfl, rfl, ⟨ib_e (by omega) (by omega), ib_e (by omega) (by omega)⟩, _, _, rfl, rfl, ?_⟩
   refine ⟨_, rfl, a, _, rfl, .inl hS, _, _, rfl, rfl, _, rfl, ?_⟩
   refine ite2 (fun d => ?_) (fun d => ?_)
   · have d' : (((ns.map V.int).length : Nat) : Int) > 0 := of_decide_eq_true d
     have d2 : 0 < ns.length := by rw [eL] at d'; omega
     rw [if_pos d2] at q
     have hx : ((k : Int) * 7 % ((ns.map V.int).length : Nat)) = ((k * 7 % ns.length : Nat) : Int) := by rw [eL, Int.natCast_emod, Int.natCast_mul]; rfl
     have hlt : k * 7 % ns.length < ns.length := Nat.mod_lt _ d2
     obtain ⟨v, hv, hv2⟩ := at_some (l := ns.map V.int) (i := (k : Int) * 7 % ((ns.map V.int).length : Nat)) (by rw [hx]; omega) (by rw [hx, eL]; omega)
     obtain ⟨n, hn, rfl⟩ := map_get hv2
     have e : ns.getD (k * 7 % ns.length) 0 = n := by
       rw [hx] at hn
       rw [List.getD_eq_getElem?_getD, show ns[k * 7 % ns.length]? = some n from hn]
       rfl
     rw [e] at q
     have a0 := Int.emod_nonneg n (b := 2147483647) (by decide)
     have a1 := Int.emod_lt_of_pos n (b := 2147483647) (by decide)
     refine ⟨_, rfl, _, rfl, _, rfl, _, _, rfl, rfl, ⟨ib_e (by omega) (by omega), ib_e (by decide) (by decide)⟩, _, rfl, a, _, rfl, .inl hS, _, _, rfl, rfl, (by rw [eL]; omega), a, _, _, _, rfl, rfl, hS, hv, _, _, rfl, rfl, (by show (0 : Int) < 2147483647; decide), _, _, rfl, rfl, ⟨ib_e (by show (0 : Int) ≤ n % 2147483647; omega) (by show n % 2147483647 < 2 ^ 63; omega), ib_e (by decide) (by decide)⟩, _, _, rfl, rfl, ?_⟩
     refine ⟨_, rfl, _, rfl, _, _, rfl, rfl, ⟨ibc ?_, ibc ?_⟩, _, _, rfl, rfl, (by show (0 : Int) < 2147483629; decide), q⟩
     · show ((k : Int) * 48271 + 11 + n % 2147483647 * 69621).natAbs < 2 ^ 256
       omega
     · show ((k : Int) * 48271 + 11 + n % 2147483647 * 69621).natAbs < 2 ^ 256
       omega
   · have d2 : ¬ 0 < ns.length := fun z => d (decide_eq_true (by rw [eL]; omega))
     rw [if_neg d2] at q
     refine ⟨_, rfl, _, rfl, _, _, rfl, rfl, ⟨ibc ?_, ibc ?_⟩, _, _, rfl, rfl, (by show (0 : Int) < 2147483629; decide), q⟩
     · show ((k : Int) * 48271 + 11).natAbs < 2 ^ 256
       omega
     · show ((k : Int) * 48271 + 11).natAbs < 2 ^ 256
       omega
end
def nmF (p : Int) (k : Nat) : Str := S (repN [120] (p % 4).toNat) ++ S [97 + k % 26] ++ S [97 + k / 26 % 26] ++ S (repN [121] (p / 4 % 5).toNat)
theorem rep_le (l : List Nat) (p : Int) (m : Nat) (h : p.toNat ≤ m) (hl : l.length = 1) : (repN l p.toNat).length ≤ m := by rw [repN_len, hl]; omega
theorem nm_cd (p : Int) (k : Nat) : cd (nmF p k) = repN [120] (p % 4).toNat ++ [97 + k % 26] ++ [97 + k / 26 % 26] ++ repN [121] (p / 4 % 5).toNat := by
 unfold nmF
 rw [cd_app, cd_app, cd_app]
 rfl
theorem nm_inj {p : Int} {j k : Nat} (hj : j < 26) (hk : k < 26) (e : nmF p j = nmF p k) : j = k := by
 have e2 := congrArg cd e
 rw [nm_cd, nm_cd, List.append_assoc, List.append_assoc, List.append_assoc, List.append_assoc] at e2
 have e3 := List.append_cancel_left e2
 have e4 := List.head_eq_of_cons_eq e3
 omega
def spName (K : W.Frag) : Sp := fun vs H Q _ => ∃ (a : Addr) (ns : List Int) (k : Nat), vs = [.ref a, .int k] ∧ SqL K H a (ns.map V.int) ∧ k < 26 ∧ ns.length ≤ 1000 ∧ Ns ns ∧ Q (.str (nmF (cellF ns 0) k)) H
section
variable {P : Program} {w : World} {K : W.Frag} {mg : Str → Option Value} {base : Heap} {A : Adr}
theorem ok_law_name (T : Txt K mg A) : FnOk P w K mg base CX0 2 A.f_law_name A.d_law_name ["_law_script", "_law_k"] (spName K) := by
 have G_law_cell := ok_law_cell (P := P) (w := w) (base := base) T
 refine T.F_law_name.ok sc_law_name (fun vs H Q E h => ?_) (fun cdv A0 outer s H vs Q E hr h => ?_)
 · obtain ⟨a, ns, k, rfl, _⟩ := h
   rfl
 obtain ⟨a, ns, k, rfl, hS, hk, hl, hb, q⟩ := h
 refine ⟨_, (zF (zW (i := 2) sc_law_name.nd rfl (by first | exact Or.inl rfl | exact Or.inr rfl) yK)
     (zF (zW (i := 3) sc_law_name.nd rfl (by first | exact Or.inl rfl | exact Or.inr rfl) (zM G_law_cell (hr.mono (by first | decide | omega)) rfl T.m_law_cell T.k_law_cell T.b_law_cell .nil zP (zA (pv 0) (zA zE zC))))
     (zH (zR (zK yA (zK yA (zK yA (zK op_mul_str yK (zK yD (pv 3) zE)) (pe_ix ix_str (pv 2) (zK yD (pv 1) zE) (fun _ _ => rfl))) (pe_ix ix_str (pv 2) (zK yD (zK op_fdiv (pv 1) zE) zE) (fun _ _ => rfl))) (zK op_mul_str yK (zK yD (zK op_fdiv (pv 3) zE) zE))))))), ?_⟩
 refine ⟨_, rfl, a, ns, 0, rfl, hS, by decide, hl, hb, ?_⟩
 generalize cellF ns 0 = p at q
 have a0 := Int.emod_nonneg p (b := 4) (by decide)
 have a1 := Int.emod_lt_of_pos p (b := 4) (by decide)
 have b0 := Int.emod_nonneg (p / 4) (b := 5) (by decide)
 have b1 := Int.emod_lt_of_pos (p / 4) (b := 5) (by decide)
 have r1 := rep_le [120] (p % 4) 4 (by omega) rfl
 have r2 := rep_le [121] (p / 4 % 5) 5 (by omega) rfl
 have l1 : (S (repN (cd (Str.ofString "x")) (p % 4).toNat)).length ≤ 4 := by rw [len_cd, cd_S]; exact r1
 have l2 : (S (repN (cd (Str.ofString "y")) (p / 4 % 5).toNat)).length ≤ 5 := by rw [len_cd, cd_S]; exact r2
 have lx : (Str.ofString "x").length = 1 := by symm
 have ly : (Str.ofString "y").length = 1 := by symm
 have lz : ("abcdefghijklmnopqrstuvwxyz" : Str).length = 26 := by symm
 have k0 : ((k : Int) % 26).toNat = k % 26 := by omega
 have k1 : ((k : Int) / 26 % 26).toNat = k / 26 % 26 := by omega
 have c0 := let_at ((k : Int) % 26) (by omega) (by omega)
 have c1 := let_at ((k : Int) / 26 % 26) (by omega) (by omega)
 rw [k0] at c0
 rw [k1] at c1
 have ls : ∀ c : Nat, (⟨#[c]⟩ : Str).length = 1 := fun c => rfl
 refine ⟨_, rfl, _, _, rfl, rfl, (by show (0 : Int) < 4; decide), _, _, rfl, rfl, a0, (by omega), (by rw [lx]; omega), (by rw [lx]; omega), ?_⟩
 refine ⟨_, rfl, _, rfl, _, _, rfl, rfl, (by show (0 : Int) < 26; decide), _, _, _, rfl, rfl, (by rw [lz, sizeLine_eq]; omega), c0, ?_⟩
 refine ⟨_, _, rfl, rfl, (by rw [sizeLine_eq]; have := ls (97 + k % 26); omega), ?_⟩
 refine ⟨_, rfl, _, rfl, _, _, rfl, rfl, ⟨by decide, by decide⟩, _, _, rfl, rfl, (by show (0 : Int) < 26; decide), _, _, _, rfl, rfl, (by rw [lz, sizeLine_eq]; omega), c1, ?_⟩
 refine ⟨_, _, rfl, rfl, (by rw [sizeLine_eq, len_app]; have := ls (97 + k % 26); have := ls (97 + k / 26 % 26); omega), ?_⟩
 refine ⟨_, rfl, _, _, rfl, rfl, ⟨by decide, by decide⟩, _, _, rfl, rfl, (by show (0 : Int) < 5; decide), _, _, rfl, rfl, b0, (by omega), (by rw [ly]; omega), (by rw [ly]; omega), ?_⟩
 exact ⟨_, _, rfl, rfl, (by rw [sizeLine_eq, len_app, len_app]; have := ls (97 + k % 26); have := ls (97 + k / 26 % 26); omega), q⟩
end
end K31
set_option maxHeartbeats 4000000
namespace K31
open PySem L2
seal PE PT PW PA PS PSs PG PGs PI PO PSet OpR UnR CallR TruR IxR SlR PC PPs
local macro_rules | `(tactic| walk_at "rd1") => `(tactic| first
 | (refine And.intro rfl ?_)
 | (refine And.intro (by assumption) ?_)
 | (refine And.intro (fun _ e => e) ?_)
 | (refine And.intro (TyOf.str _) ?_) | (refine And.intro (TyOf.int _) ?_) | (refine And.intro (TyOf.bl _) ?_) | (refine And.intro TyOf.non ?_)
 | (refine iteT ?_) | (refine iteF ?_)
 | (apply Exists.intro))
local macro_rules | `(tactic| walk_at "rd") => `(tactic| repeat (walk_at "rd1"))
theorem yQ {H : Hp} {a b : Addr} {o : HO} (h : upd H a o b = none) : b ≠ a ∧ H b = none := by
 by_cases e : b = a
 · subst e; rw [zB] at h; cases h
 · exact ⟨e, by rw [zJ e] at h; exact h⟩
theorem yP {H H' : Hp} (s : Same H H') {b : Addr} (h : H' b = none) : H b = none := by
 cases e : H b with
 | none => rfl
 | some o => rw [s b o e] at h; cases h
def Fr (M : List Addr) (H H' : Hp) : Prop := ∀ b o, H b = some o → b ∉ M → H' b = some o
theorem Fr.of {M : List Addr} {H H' : Hp} (s : Same H H') : Fr M H H' := fun b o h _ => s b o h
theorem Fr.trans {M : List Addr} {H H' H'' : Hp} (a : Fr M H H') (b : Fr M H' H'') : Fr M H H'' := fun x o h n => b x o (a x o h n) n
theorem Fr.upd {M : List Addr} {H H' : Hp} (a : Fr M H H') {m : Addr} (h : m ∈ M) (o : HO) : Fr M H (upd H' m o) := fun x u hx n => by
 rw [zJ (fun e => n (by rw [e]; exact h))]; exact a x u hx n
theorem Fr.new {M : List Addr} {H H' : Hp} (a : Fr M H H') {m : Addr} (h : H' m = none) (o : HO) : Fr M H (L2.upd H' m o) := fun x u hx n => by
 have := a x u hx n
 rw [zJ (zG this h)]; exact this
theorem Fr.more {M M' : List Addr} {H H' : Hp} (a : Fr M H H') (h : ∀ m ∈ M, m ∈ M') : Fr M' H H' := fun x u hx n => a x u hx fun e => n (h x e)
theorem fr_none {M : List Addr} {H H' : Hp} (a : Fr M H H') {b : Addr} (n : b ∉ M) (h : H' b = none) : H b = none := by
 cases e : H b with
 | none => rfl
 | some o => rw [a b o e n] at h; cases h
theorem ni1 {x a : Addr} (h : x ≠ a) : x ∉ [a] := fun e => h (List.mem_singleton.mp e)
abbrev oAsk (A : Adr) (dx : Addr) (u1 u2 u3 : V) : HO := .ins A.c_Ask dx [("name", u1), ("kind", u2), ("when", u3)]
abbrev oSh (A : Adr) (dx : Addr) (u1 u2 : V) (q1 q2 : Addr) : HO := .ins A.c_Sheet dx [("name", u1), ("each", u2), ("rows", .ref q1), ("ways", .ref q2)]
abbrev oPa (A : Adr) (dx : Addr) (u1 : V) (q1 q2 : Addr) : HO := .ins A.c_Paper dx [("name", u1), ("sheets", .ref q1), ("totals", .ref q2)]
def spRowI (K : W.Frag) : Sp := fun vs H Q _ => ∃ p C dx u1, vs = [.ref p, u1] ∧ H p = some (.ins C dx []) ∧ Cls K C ∧ NoAttr K C "name" ∧ Q .non (upd H p (.ins C dx [("name", u1)]))
def spAskI (A : Adr) : Sp := fun vs H Q _ => ∃ p dx u1 u2 u3, vs = [.ref p, u1, u2, u3] ∧ H p = some (.ins A.c_Ask dx []) ∧ Q .non (upd H p (oAsk A dx u1 u2 u3))
def spSheetI (A : Adr) (K : W.Frag) : Sp := fun vs H Q _ => ∃ p dx u1 u2 l1 l2 xs ys, vs = [.ref p, u1, u2, .ref l1, .ref l2] ∧ H p = some (.ins A.c_Sheet dx []) ∧ H l1 = some (.lst xs) ∧ H l2 = some (.lst ys) ∧
 ∀ q1 q2 H', q1 ≠ q2 → H q1 = none → H q2 = none → Fr [p] H H' → H' p = some (oSh A dx u1 u2 q1 q2) → H' q1 = some (.lst xs) → H' q2 = some (.lst ys) → Q .non H'
abbrev Part := Int × Option Str
def nv : Option Str → V
 | none => .non
 | some z => .str z
def PtR (H : Hp) (x : V) (p : Part) : Prop := ∃ a, x = .ref a ∧ H a = some (.tup [.int p.1, nv p.2])
def PsR (H : Hp) (l : Addr) (ps : List Part) : Prop := ∃ xs, H l = some (.lst xs) ∧ Paired (PtR H) xs ps
abbrev Tot := Str × List Part
def TtR (H : Hp) (x : V) (t : Tot) : Prop := ∃ a l, x = .ref a ∧ H a = some (.tup [.str t.1, .ref l]) ∧ PsR H l t.2
def TsR (H : Hp) (l : Addr) (ts : List Tot) : Prop := ∃ xs, H l = some (.lst xs) ∧ Paired (TtR H) xs ts
def Kp (H H' : Hp) : Prop := ∀ b o, H b = some o → ((∃ t, o = .tup t) ∨ ∃ l, o = .lst l) → H' b = some o
theorem Kp.of {H H' : Hp} (s : Same H H') : Kp H H' := fun b o h _ => s b o h
theorem Fr.kp {p : Addr} {H H' : Hp} {C dx : Addr} {fs : List (Str × V)} (F : Fr [p] H H') (hp : H p = some (.ins C dx fs)) : Kp H H' := fun b o h k => F b o h (ni1 (ne_of h hp (by
 rcases k with ⟨t, rfl⟩ | ⟨l, rfl⟩ <;> (intro z; cases z))))
theorem PtR.kp {H H' : Hp} (s : Kp H H') {x : V} {p : Part} (h : PtR H x p) : PtR H' x p := let ⟨a, e, h1⟩ := h; ⟨a, e, s _ _ h1 (.inl ⟨_, rfl⟩)⟩
theorem PsR.kp {H H' : Hp} (s : Kp H H') {l : Addr} {ps : List Part} (h : PsR H l ps) : PsR H' l ps := let ⟨xs, e, h1⟩ := h; ⟨xs, s _ _ e (.inr ⟨_, rfl⟩), zD h1 fun _ _ r => r.kp s⟩
theorem TtR.kp {H H' : Hp} (s : Kp H H') {x : V} {t : Tot} (h : TtR H x t) : TtR H' x t := let ⟨a, l, e, h1, h2⟩ := h; ⟨a, l, e, s _ _ h1 (.inl ⟨_, rfl⟩), h2.kp s⟩
theorem TsR.kp {H H' : Hp} (s : Kp H H') {l : Addr} {ts : List Tot} (h : TsR H l ts) : TsR H' l ts := let ⟨xs, e, h1⟩ := h; ⟨xs, s _ _ e (.inr ⟨_, rfl⟩), zD h1 fun _ _ r => r.kp s⟩
def spInit (K : W.Frag) : Sp := fun vs H Q _ => ∃ p C dx lo hi, vs = [.ref p, lo, hi] ∧ H p = some (.ins C dx []) ∧ Cls K C ∧ NoAttr K C "low" ∧ NoAttr K C "high" ∧ Q .non (upd H p (.ins C dx [("low", lo), ("high", hi)]))
def spPaperI (A : Adr) (K : W.Frag) : Sp := fun vs H Q _ => ∃ p dx u1 l1 l2 xs ts, vs = [.ref p, u1, .ref l1, .ref l2] ∧ H p = some (.ins A.c_Paper dx []) ∧ H l1 = some (.lst xs) ∧ TsR H l2 ts ∧ ts.length ≤ 100 ∧
 ∀ q1 q2 H', Fr [p] H H' → H' p = some (oPa A dx u1 q1 q2) → H' q1 = some (.lst xs) → TsR H' q2 ts → Q .non H'
section
variable {P : Program} {w : World} {K : W.Frag} {mg : Str → Option Value} {base : Heap} {A : Adr}
theorem ok_kind_init (T : Txt K mg A) : FnOk P w K mg base CX0 1 A.f_c_Kind___init A.d_c_Kind___init ["self", "low", "high"] (spInit K) := by
 refine T.F_c_Kind___init.ok sc_c_Kind___init (fun vs H Q E h => ?_) (fun cdv A0 outer s H vs Q E hr h => ?_)
 · obtain ⟨p, C, dx, lo, hi, rfl, _⟩ := h
   rfl
 obtain ⟨p, C, dx, lo, hi, rfl, hp, cl, n1, n2, q⟩ := h
 refine ⟨_, (zF (ps_fld (pv 0) (pv 1) rfl)
     (zH (ps_fld (pv 0) (pv 2) rfl))), ?_⟩
 refine ⟨_, rfl, _, rfl, p, C, dx, _, rfl, hp, cl, n1, by decide, ?_⟩
 refine ⟨_, rfl, _, rfl, p, C, dx, _, rfl, zB, cl, n2, (by show 1 < 1000; decide), ?_⟩
 rw [yY]
 exact q
theorem ok_row_init (T : Txt K mg A) : FnOk P w K mg base CX0 1 A.f_c_Row___init A.d_c_Row___init ["self", "name"] (spRowI K) := by
 refine T.F_c_Row___init.ok sc_c_Row___init (fun vs H Q E h => ?_) (fun cdv A0 outer s H vs Q E hr h => ?_)
 · obtain ⟨p, C, dx, u1, rfl, _⟩ := h
   rfl
 obtain ⟨p, C, dx, u1, rfl, hp, cl, na, q⟩ := h
 refine ⟨_, (zH (ps_fld (pv 0) (pv 1) rfl)), ?_⟩
 exact ⟨_, rfl, _, rfl, p, _, dx, _, rfl, hp, cl, na, by decide, q⟩
theorem ok_ask_init (T : Txt K mg A) : FnOk P w K mg base CX0 3 A.f_c_Ask___init A.d_c_Ask___init ["self", "name", "kind", "when"] (spAskI A) := by
 have G_c_Row___init := ok_row_init (P := P) (w := w) (base := base) T
 refine T.F_c_Ask___init.ok sc_c_Ask___init (fun vs H Q E h => ?_) (fun cdv A0 outer s H vs Q E hr h => ?_)
 · obtain ⟨p, dx, u1, u2, u3, rfl, _⟩ := h
   rfl
 obtain ⟨p, dx, u1, u2, u3, rfl, hp, q⟩ := h
 refine ⟨_, (zF (yT (pe_clsfn T.cf_Row_init G_c_Row___init (hr.mono (by first | decide | omega)) rfl T.m_Row T.b_c_Row___init zP (zA (pv 0) (zA (pv 1) zC))))
     (zF (ps_fld (pv 0) (pv 2) rfl)
     (zH (ps_fld (pv 0) (pv 3) rfl)))), ?_⟩
 refine ⟨_, rfl, _, rfl, p, _, dx, u1, rfl, hp, T.cl_Ask, T.no_Ask_name, ?_⟩
 refine ⟨_, rfl, _, rfl, p, _, dx, _, rfl, zB, T.cl_Ask, T.no_Ask_kind, (by show 1 < 1000; decide), ?_⟩
 refine ⟨_, rfl, _, rfl, p, _, dx, _, rfl, zB, T.cl_Ask, T.no_Ask_when, (by show 2 < 1000; decide), ?_⟩
 rw [yY, yY]
 exact q
theorem ok_sheet_init (T : Txt K mg A) : FnOk P w K mg base CX0 1 A.f_c_Sheet___init A.d_c_Sheet___init ["self", "name", "each", "rows", "ways"] (spSheetI A K) := by
 refine T.F_c_Sheet___init.ok sc_c_Sheet___init (fun vs H Q E h => ?_) (fun cdv A0 outer s H vs Q E hr h => ?_)
 · obtain ⟨p, dx, u1, u2, l1, l2, xs, ys, rfl, _⟩ := h
   rfl
 obtain ⟨p, dx, u1, u2, l1, l2, xs, ys, rfl, hp, h1, h2, q⟩ := h
 refine ⟨_, (zF (ps_fld (pv 0) (pv 1) rfl)
     (zF (ps_fld (pv 0) (pv 2) rfl)
     (zF (ps_fld (pv 0) (yO yW (by rfl) T.n_list Bt.list (zA (pv 3) zC)) rfl)
     (zH (ps_fld (pv 0) (yO yW (by rfl) T.n_list Bt.list (zA (pv 4) zC)) rfl))))), ?_⟩
 have n1 : l1 ≠ p := ne_of h1 hp (by intro z; cases z)
 have n2 : l2 ≠ p := ne_of h2 hp (by intro z; cases z)
 refine ⟨_, rfl, _, rfl, p, _, dx, _, rfl, hp, T.cl_Sheet, T.no_Sheet_name, by decide, ?_⟩
 refine ⟨_, rfl, _, rfl, p, _, dx, _, rfl, zB, T.cl_Sheet, T.no_Sheet_each, (by show 1 < 1000; decide), ?_⟩
 rw [yY]
 refine ⟨_, rfl, l1, xs, rfl, .inl (SqL.of (by rw [zJ n1]; exact h1)), fun q1 hq1 => ?_⟩
 obtain ⟨e1, f1⟩ := yQ hq1
 refine ⟨_, rfl, p, _, dx, _, rfl, (by rw [zJ (Ne.symm e1)]; exact zB), T.cl_Sheet, T.no_Sheet_rows, (by show 2 < 1000; decide), ?_⟩
 refine ⟨_, rfl, l2, ys, rfl, .inl (SqL.of (by rw [zJ n2, zJ (zG h2 f1), zJ n2]; exact h2)), fun q2 hq2 => ?_⟩
 obtain ⟨e2, g2⟩ := yQ hq2
 obtain ⟨e3, g3⟩ := yQ g2
 obtain ⟨e4, f2⟩ := yQ g3
 refine ⟨_, rfl, p, _, dx, _, rfl, (by rw [zJ (Ne.symm e2)]; exact zB), T.cl_Sheet, T.no_Sheet_ways, (by show 3 < 1000; decide), ?_⟩
 refine q q1 q2 _ (Ne.symm e3) f1 f2 (fun b o hb hn => ?_) zB ?_ ?_
 · have nb : b ≠ p := fun e => hn (by rw [e]; exact List.mem_singleton.mpr rfl)
   rw [zJ nb, zJ (zG hb f2), zJ nb, zJ (zG hb f1), zJ nb]; exact hb
 · rw [zJ e1, zJ (Ne.symm e3), zJ e1]; exact zB
 · rw [zJ e2]; exact zB
theorem ok_paper_init (T : Txt K mg A) : FnOk P w K mg base CX0 1 A.f_c_Paper___init A.d_c_Paper___init ["self", "name", "sheets", "totals"] (spPaperI A K) := by
 refine T.F_c_Paper___init.ok sc_c_Paper___init (fun vs H Q E h => ?_) (fun cdv A0 outer s H vs Q E hr h => ?_)
 · obtain ⟨p, dx, u1, l1, l2, xs, ts, rfl, _⟩ := h
   rfl
 obtain ⟨p, dx, u1, l1, l2, xs, ts, rfl, hp, h1, ht, hz, q⟩ := h
 obtain ⟨ys, h2, hys⟩ := id ht
 refine ⟨_, (zF (ps_fld (pv 0) (pv 1) rfl)
     (zF (ps_fld (pv 0) (yO yW (by rfl) T.n_list Bt.list (zA (pv 2) zC)) rfl)
     (zH (ps_fld (pv 0) (pe_compT (compOk2_of (yF (x := "total") (M := ["self", "name", "sheets", "totals"]) rfl (by rfl)) (by rfl) (by symm)) rfl (yJ (pv 3)) (fun _ _ _ _ => pifs_nil) (fun _ _ _ _ => pe_eqv (by exact (pe_tup (zA (pv 0) (zA (yO yW (by rfl) T.n_list Bt.list (zA (pv 1) zC)) zC)))) (by dsimp only [compCx2] <;> rfl))) rfl)))), ?_⟩
 have n1 : l1 ≠ p := ne_of h1 hp (by intro z; cases z)
 have n2 : l2 ≠ p := ne_of h2 hp (by intro z; cases z)
 refine ⟨_, rfl, _, rfl, p, _, dx, _, rfl, hp, T.cl_Paper, T.no_Paper_name, by decide, ?_⟩
 refine ⟨_, rfl, l1, xs, rfl, .inl (SqL.of (by rw [zJ n1]; exact h1)), fun q1 hq1 => ?_⟩
 obtain ⟨e1, f1⟩ := yQ hq1
 refine ⟨_, rfl, p, _, dx, _, rfl, (by rw [zJ (Ne.symm e1)]; exact zB), T.cl_Paper, T.no_Paper_sheets, (by show 1 < 1000; decide), ?_⟩
 generalize hG : upd (upd (upd H p (.ins A.c_Paper dx (putF (Str.ofString "name") u1 []))) q1 (.lst xs)) p (.ins A.c_Paper dx (putF (Str.ofString "sheets") (V.ref q1) (putF (Str.ofString "name") u1 []))) = H1
 have F1 : Fr [p] H H1 := by rw [← hG]; exact (((Fr.of (Same.refl _)).upd (List.mem_singleton.mpr rfl) _).new hq1 _).upd (List.mem_singleton.mpr rfl) _
 have hp1 : H1 p = some (.ins A.c_Paper dx [("name", u1), ("sheets", .ref q1)]) := by rw [← hG]; exact zB
 have hq1' : H1 q1 = some (.lst xs) := by rw [← hG, zJ e1]; exact zB
 have hl2 : H1 l2 = some (.lst ys) := F1 _ _ h2 (ni1 n2)
 have K1 : Kp H H1 := F1.kp hp
 have lys : ys.length ≤ 100 := by rw [zN hys]; exact hz
 refine ⟨_, rfl, l2, rfl, ⟨_, SqL.of hl2⟩, ?_⟩
 refine comp_listT (xs := ys) (zL (m := 100) lys) (fun i zs H' => Same H1 H' ∧ Paired (TtR H') zs (ts.take i)) ⟨Same.refl _, .nil⟩ (fun i zs H' hw => SqL.of (hw.1 _ _ hl2)) (fun i x zs H' hx hlen hw => ?_) (fun zs H' hw p2 hp2 => ?_)
 · obtain ⟨s1, hp'⟩ := hw
   obtain ⟨t, ht', a, l, rfl, ha, us, hus, hpu⟩ := zS hys hx
   have k2 : Kp H H' := fun b o h k => s1 _ _ (K1 b o h k)
   refine ⟨a, .str t.1, .ref l, rfl, SqT.of (k2 _ _ ha (.inl ⟨_, rfl⟩)), tt_true ?_⟩
   refine ⟨_, rfl, _, rfl, l, us, rfl, .inl (SqL.of (k2 _ _ hus (.inr ⟨_, rfl⟩))), fun l' hl' => ?_⟩
   have s2 := zI hl' (.lst us)
   refine ⟨(by show 2 ≤ sizeLine; decide), fun a' ha' => ?_⟩
   have s3 := zI ha' (.tup [.str t.1, .ref l'])
   refine ⟨(s1.trans s2).trans s3, ?_⟩
   rw [zX ht']
   exact yG (zD hp' fun _ _ r => r.kp (.of (s2.trans s3))) (.cons ⟨a', l', rfl, zB, us, s3 _ _ zB, zD hpu fun _ _ r => (r.kp k2).kp (.of (s2.trans s3))⟩ .nil)
 obtain ⟨s1, hp'⟩ := hw
 rw [zN hys, List.take_length] at hp'
 have s2 := s1.trans (zI hp2 (.lst zs))
 have np2 : p2 ≠ p := fun e => by rw [e, s1 _ _ hp1] at hp2; cases hp2
 refine ⟨_, rfl, p, _, dx, _, rfl, s2 _ _ hp1, T.cl_Paper, T.no_Paper_totals, (by show 2 < 1000; decide), ?_⟩
 have F2 : Fr [p] H1 (upd (upd H' p2 (.lst zs)) p (oPa A dx u1 q1 p2)) := (Fr.of s2).upd (List.mem_singleton.mpr rfl) _
 have K3 : Kp (upd H' p2 (.lst zs)) (upd (upd H' p2 (.lst zs)) p (oPa A dx u1 q1 p2)) := ((Fr.of (Same.refl _)).upd (List.mem_singleton.mpr rfl) _ : Fr [p] _ _).kp (s2 _ _ hp1)
 refine q q1 p2 _ (F1.trans F2) zB (F2 _ _ hq1' (ni1 e1)) ?_
 refine TsR.kp K3 ⟨zs, zB, zD hp' fun _ _ r => r.kp (.of (zI hp2 (.lst zs)))⟩
def spYesI (A : Adr) : Sp := fun vs H Q _ => ∃ p dx, vs = [.ref p] ∧ H p = some (.ins A.c_YesNo dx []) ∧ Q .non (upd H p (.ins A.c_YesNo dx [("low", .int 0), ("high", .int 1)]))
def spNamesI (A : Adr) : Sp := fun vs H Q _ => ∃ p dx u, vs = [.ref p, u] ∧ H p = some (.ins A.c_Names dx []) ∧ Q .non (upd H p (.ins A.c_Names dx [("low", .int 0), ("high", u)]))
def spPickI (A : Adr) : Sp := fun vs H Q _ => ∃ (p dx l : Addr) (ws : List Str), vs = [.ref p, .ref l] ∧ H p = some (.ins A.c_Pick dx []) ∧ H l = some (.lst (ws.map V.str)) ∧ ws.length ≤ 100 ∧ ∀ q H', Fr [p] H H' → H' p = some (.ins A.c_Pick dx [("low", .int 0), ("high", .int (ws.length - 1)), ("words", .ref q)]) → H' q = some (.lst (ws.map V.str)) → Q .non H'
theorem ok_names_init (T : Txt K mg A) : FnOk P w K mg base CX0 3 A.f_c_Names___init A.d_c_Names___init ["self", "most"] (spNamesI A) := by
 have G_c_Kind___init := ok_kind_init (P := P) (w := w) (base := base) T
 refine T.F_c_Names___init.ok sc_c_Names___init (fun vs H Q E h => ?_) (fun cdv A0 outer s H vs Q E hr h => ?_)
 · obtain ⟨p, dx, u, rfl, _⟩ := h
   rfl
 obtain ⟨p, dx, u, rfl, hp, q⟩ := h
 refine ⟨_, (zH (yT (pe_clsfn T.cf_Kind_init G_c_Kind___init (hr.mono (by first | decide | omega)) rfl T.m_Kind T.b_c_Kind___init zP (zA (pv 0) (zA zE (zA (pv 1) zC)))))), ?_⟩
 exact ⟨_, rfl, _, rfl, p, _, dx, _, _, rfl, hp, T.cl_Names, T.no_Names_low, T.no_Names_high, q⟩
theorem ok_yes_init (T : Txt K mg A) : FnOk P w K mg base CX0 3 A.f_c_YesNo___init A.d_c_YesNo___init ["self"] (spYesI A) := by
 have G_c_Kind___init := ok_kind_init (P := P) (w := w) (base := base) T
 refine T.F_c_YesNo___init.ok sc_c_YesNo___init (fun vs H Q E h => ?_) (fun cdv A0 outer s H vs Q E hr h => ?_)
 · obtain ⟨p, dx, rfl, _⟩ := h
   rfl
 obtain ⟨p, dx, rfl, hp, q⟩ := h
 refine ⟨_, (zH (yT (pe_clsfn T.cf_Kind_init G_c_Kind___init (hr.mono (by first | decide | omega)) rfl T.m_Kind T.b_c_Kind___init zP (zA (pv 0) (zA zE (zA zE zC)))))), ?_⟩
 exact ⟨_, rfl, p, _, dx, _, _, rfl, hp, T.cl_YesNo, T.no_YesNo_low, T.no_YesNo_high, q⟩
theorem ok_pick_init (T : Txt K mg A) : FnOk P w K mg base CX0 3 A.f_c_Pick___init A.d_c_Pick___init ["self", "words"] (spPickI A) := by
 have G_c_Kind___init := ok_kind_init (P := P) (w := w) (base := base) T
 refine T.F_c_Pick___init.ok sc_c_Pick___init (fun vs H Q E h => ?_) (fun cdv A0 outer s H vs Q E hr h => ?_)
 · obtain ⟨p, dx, l, ws, rfl, _⟩ := h
   rfl
 obtain ⟨p, dx, l, ws, rfl, hp, hl, hz, q⟩ := h
 have nl : l ≠ p := ne_of hl hp (by intro z; cases z)
 have lw : (ws.map V.str).length = ws.length := List.length_map ..
 refine ⟨_, (zF (yT (pe_clsfn T.cf_Kind_init G_c_Kind___init (hr.mono (by first | decide | omega)) rfl T.m_Kind T.b_c_Kind___init zP (zA (pv 0) (zA zE (zA (zK op_sub (zZ yL (by rfl) T.n_len PySem.boot_len (zA (pv 1) zC)) zE) zC)))))
     (zH (ps_fld (pv 0) (yO yW (by rfl) T.n_list Bt.list (zA (pv 1) zC)) rfl))), ?_⟩
 refine ⟨_, rfl, _, rfl, l, _, rfl, .inl (SqL.of hl), _, _, rfl, rfl, p, _, dx, _, _, rfl, hp, T.cl_Pick, T.no_Pick_low, T.no_Pick_high, ?_⟩
 rw [lw]
 refine ⟨_, rfl, l, _, rfl, .inl (SqL.of (by rw [zJ nl]; exact hl)), fun q1 hq1 => ?_⟩
 obtain ⟨e1, f1⟩ := yQ hq1
 refine ⟨_, rfl, p, _, dx, _, rfl, (by rw [zJ (Ne.symm e1)]; exact zB), T.cl_Pick, T.no_Pick_words, (by show 2 < 1000; decide), ?_⟩
 refine q q1 _ (((Fr.of (Same.refl _)).upd (List.mem_singleton.mpr rfl) _).new hq1 _ |>.upd (List.mem_singleton.mpr rfl) _) zB (by rw [zJ e1]; exact zB)
end
end K31
set_option maxHeartbeats 4000000
namespace K31
open PySem L2
seal PE PT PW PA PS PSs PG PGs PI PO PSet OpR UnR CallR TruR IxR SlR PC PPs
local macro_rules | `(tactic| walk_at "rd1") => `(tactic| first
 | (refine And.intro rfl ?_)
 | (refine And.intro (by assumption) ?_)
 | (refine And.intro (fun _ e => e) ?_)
 | (refine And.intro (TyOf.str _) ?_) | (refine And.intro (TyOf.int _) ?_) | (refine And.intro (TyOf.bl _) ?_) | (refine And.intro TyOf.non ?_)
 | (refine iteT ?_) | (refine iteF ?_)
 | (apply Exists.intro))
local macro_rules | `(tactic| walk_at "rd") => `(tactic| repeat (walk_at "rd1"))
theorem zfill_dig (m : Nat) : Txt.zfill (S (dig m)) 3 = S (pad3 (dig m)) := by
 unfold Txt.zfill pad3
 rw [len_S]
 split
 · rename_i h
   rw [show 3 - (dig m).length = 0 by omega]; rfl
 · rename_i h
   have hz : zfilled (S (dig m)) ((3 : Int).toNat - (dig m).length) = Builtin.Str.padded (S (dig m)) ((3 : Int).toNat - (dig m).length) 0 48 := by
     unfold zfilled
     split
     · rename_i e
       have : 43 ∈ dig m := by
         have e' : (dig m)[0]? = some 43 := by simpa [S] using e
         exact List.mem_of_getElem? e'
       have := dig_fig this; omega
     · rename_i e
       have : 45 ∈ dig m := by
         have e' : (dig m)[0]? = some 45 := by simpa [S] using e
         exact List.mem_of_getElem? e'
       have := dig_fig this; omega
     · rfl
   rw [hz]
   unfold Builtin.Str.padded
   refine cd_inj ?_
   rw [cd_S]
   show (Array.replicate _ 48 ++ (S (dig m)).cps ++ Array.replicate 0 48).toList = _
   rw [Array.toList_append, Array.toList_append]
   simp [S]
theorem cut_lo {f : List Nat} (h : 2 ≤ f.length) : cutN f none (some (-2)) = f.take (f.length - 2) := by
 unfold cutN
 have e1 : HT.sIx f.length 0 none = 0 := rfl
 have e2 : HT.sIx f.length f.length (some (-2)) = f.length - 2 := by
   show (if (-2 : Int) < 0 then ((-2 : Int) + f.length).toNat else min (-2 : Int).toNat f.length) = _
   rw [if_pos (by decide)]; omega
 rw [e1, e2, List.drop_zero, Nat.sub_zero]
theorem cut_hi {f : List Nat} (h : 2 ≤ f.length) : cutN f (some (-2)) none = f.drop (f.length - 2) := by
 unfold cutN
 have e1 : HT.sIx f.length f.length none = f.length := rfl
 have e2 : HT.sIx f.length 0 (some (-2)) = f.length - 2 := by
   show (if (-2 : Int) < 0 then ((-2 : Int) + f.length).toNat else min (-2 : Int).toNat f.length) = _
   rw [if_pos (by decide)]; omega
 rw [e1, e2, List.take_of_length_le (by rw [List.length_drop]; omega)]
theorem abs_is (n : Int) : (if n < 0 then -n else n) = ((n.natAbs : Nat) : Int) := by split <;> omega
theorem num_dig (m : Nat) : ((toString ((m : Nat) : Int) : String) : Str) = S (dig m) := by
 rw [str_is]; unfold numL; rw [if_neg (by omega)]; rfl
def spMon : Sp := fun vs H Q _ => ∃ n : Int, vs = [.int n] ∧ n.natAbs < 10 ^ 60 ∧ ∀ H', Same H H' → Q (.str (S (monL n))) H'
section
variable {P : Program} {w : World} {K : W.Frag} {mg : Str → Option Value} {base : Heap} {A : Adr}
theorem ok_money_shown (T : Txt K mg A) : FnOk P w K mg base CX0 1 A.f_money_shown A.d_money_shown ["hundredths"] spMon := by
 refine T.F_money_shown.ok sc_money_shown (fun vs H Q E h => ?_) (fun cdv A0 outer s H vs Q E hr h => ?_)
 · obtain ⟨n, rfl, _⟩ := h
   rfl
 obtain ⟨n, rfl, hn, q⟩ := h
 refine ⟨_, (zF (zW (i := 1) sc_money_shown.nd rfl (by first | exact Or.inl rfl | exact Or.inr rfl) (pe_bm PySem.F.plainAttrs_str PySem.F.slot_str_zfill PySem.F.type_str_zfill mt_zfill (yO call_str_int (by rfl) T.n_str Bt.str (zA (zZ call_abs (by rfl) T.n_abs Bt.abs (zA (pv 0) zC)) zC)) (zA zE zC)))
     (zF (zW (i := 2) sc_money_shown.nd rfl (by first | exact Or.inl rfl | exact Or.inr rfl) (pe_ifExp (zO op_lt (pv 0) zE (zY _)) yK yK))
     (zH (zR (zK yA (zK yA (zK yA (pv 2) (pe_slice sl_str (pv 1) po_none (po_some (pe_un un_neg zE)))) yK) (pe_slice sl_str (pv 1) (po_some (pe_un un_neg zE)) po_none)))))), ?_⟩
 have hl := pad3_len (dig n.natAbs)
 have hd := dig_len (k := 60) (by decide) hn
 have q := q _ (Same.refl _)
 have ef : (figM n).length = (pad3 (dig n.natAbs)).length := rfl
 refine ⟨_, rfl, n, rfl, ?_⟩
 rw [abs_is]
 refine ⟨_, rfl, logOk (Nat.lt_trans (show (((n.natAbs : Nat) : Int)).natAbs < 10 ^ 60 by omega) (by symm)), ?_⟩
 rw [num_dig]
 refine ⟨rfl, _, _, rfl, rfl, (by symm), ?_⟩
 rw [zfill_dig]
 have sz : (S (figM n)).length ≤ sizeLine := zL (m := 1000) (by rw [len_S]; omega)
 have fin : ∀ sg : List Nat, sg.length ≤ 1 → Q (.str (S (sg ++ ((figM n).take ((figM n).length - 2) ++ 46 :: (figM n).drop ((figM n).length - 2))))) H → tRet (tOp (fun x y H Q => ∃ i j, x = V.str i ∧ y = V.str j ∧ i.length + j.length ≤ sizeLine ∧ Q (V.str (i ++ j)) H) (tOp (fun x y H Q => ∃ i j, x = V.str i ∧ y = V.str j ∧ i.length + j.length ≤ sizeLine ∧ Q (V.str (i ++ j)) H) (tOp (fun x y H Q => ∃ i j, x = V.str i ∧ y = V.str j ∧ i.length + j.length ≤ sizeLine ∧ Q (V.str (i ++ j)) H) (tVar 2) (tSl (fun x lo hi H Q => ∃ z, x = V.str z ∧ z.length ≤ sizeLine ∧ Q (V.str (S (cutN (cd z) lo hi))) H) (tVar 1) tNoPart (tPart (tUn (rU fun i => .int (-i)) (tC (V.int 2)))))) (tC (V.str (Str.ofString ".")))) (tSl (fun x lo hi H Q => ∃ z, x = V.str z ∧ z.length ≤ sizeLine ∧ Q (V.str (S (cutN (cd z) lo hi))) H) (tVar 1) (tPart (tUn (rU fun i => .int (-i)) (tC (V.int 2)))) tNoPart)) { nx := fun _ H' => Q .non H', rt := Q } [some (.int n), some (.str (S (figM n))), some (.str (S sg))] H := fun sg hs qq => by
   refine ⟨_, rfl, _, rfl, _, rfl, _, rfl, _, rfl, sz, ?_⟩
   rw [cd_S, cut_lo (by omega)]
   refine ⟨_, _, rfl, rfl, zL (m := 1000) (by rw [len_S, len_S, List.length_take]; omega), _, _, rfl, rfl, zL (m := 1000) (by rw [len_cd, cd_app, List.length_append, cd_S, cd_S, List.length_take]; show _ + 1 ≤ 1000; omega), ?_⟩
   refine ⟨_, rfl, _, rfl, _, rfl, _, rfl, sz, ?_⟩
   rw [cd_S, cut_hi (by omega), show Str.ofString "." = S [46] by symm, S_app, S_app]
   refine ⟨_, _, rfl, rfl, zL (m := 1000) (by rw [len_S, len_S, List.length_append, List.length_append, List.length_take, List.length_drop]; show _ + _ + 1 + _ ≤ 1000; omega), ?_⟩
   rw [S_app, List.append_assoc, List.append_assoc]
   exact qq
 unfold monL sgn at q
 refine ⟨_, rfl, _, _, rfl, rfl, _, rfl, ite2 (fun c => ?_) (fun c => ?_)⟩
 · rw [if_pos (of_decide_eq_true c)] at q
   have := fin [45] (by decide) q
   rw [show S [45] = Str.ofString "-" by symm] at this
   exact this
 · rw [if_neg (fun z => c (decide_eq_true z))] at q
   have := fin [] (by decide) q
   rw [show S [] = Str.ofString "" by symm] at this
   exact this
theorem ok_wshown (T : Txt K mg A) : FnOk P w K mg base CX0 1 A.f_c_Whole_shown A.d_c_Whole_shown ["self", "answer"] (fun vs H Q _ => ∃ p n, vs = [p, .int n] ∧ n.natAbs < 10 ^ 60 ∧ ∀ H', Same H H' → Q (.str (S (numL n))) H') := by
 refine T.F_c_Whole_shown.ok sc_c_Whole_shown (fun vs H Q E h => ?_) (fun cdv A0 outer s H vs Q E hr h => ?_)
 · obtain ⟨p, z, rfl, _⟩ := h
   rfl
 obtain ⟨p, n, rfl, hn, q⟩ := h
 refine ⟨_, (zH (zR (yO call_str_int (by rfl) T.n_str Bt.str (zA (pv 1) zC)))), ?_⟩
 refine ⟨_, rfl, n, rfl, logOk (Nat.lt_trans hn (by symm)), ?_⟩
 rw [str_is]
 exact q _ (Same.refl _)
theorem ok_mshown (T : Txt K mg A) : FnOk P w K mg base CX0 2 A.f_c_Money_shown A.d_c_Money_shown ["self", "answer"] (fun vs H Q _ => ∃ p n, vs = [p, .int n] ∧ n.natAbs < 10 ^ 60 ∧ ∀ H', Same H H' → Q (.str (S (monL n))) H') := by
 have G_money_shown := ok_money_shown (P := P) (w := w) (base := base) T
 refine T.F_c_Money_shown.ok sc_c_Money_shown (fun vs H Q E h => ?_) (fun cdv A0 outer s H vs Q E hr h => ?_)
 · obtain ⟨p, z, rfl, _⟩ := h
   rfl
 obtain ⟨p, n, rfl, hn, q⟩ := h
 refine ⟨_, (zH (zR (zM G_money_shown (hr.mono (by first | decide | omega)) rfl T.m_money_shown T.k_money_shown T.b_money_shown .nil zP (zA (pv 1) zC)))), ?_⟩
 exact ⟨_, rfl, n, rfl, hn, fun H' s1 => q H' s1⟩
end
end K31
set_option maxHeartbeats 4000000
namespace K31
open PySem L2
seal PE PT PW PA PS PSs PG PGs PI PO PSet OpR UnR CallR TruR IxR SlR PC PPs
local macro_rules | `(tactic| walk_at "rd1") => `(tactic| first
 | (refine And.intro rfl ?_)
 | (refine And.intro (by assumption) ?_)
 | (refine And.intro (fun _ e => e) ?_)
 | (refine And.intro (TyOf.str _) ?_) | (refine And.intro (TyOf.int _) ?_) | (refine And.intro (TyOf.bl _) ?_) | (refine And.intro TyOf.non ?_)
 | (refine iteT ?_) | (refine iteF ?_)
 | (apply Exists.intro))
local macro_rules | `(tactic| walk_at "rd") => `(tactic| repeat (walk_at "rd1"))
inductive Kx where
 | yn
 | wh (m : Bool) (lo hi : Int)
 | nm (n : Int)
 | pk
def cW (A : Adr) (m : Bool) : Addr := if m then A.c_Money else A.c_Whole
def shW (m : Bool) (n : Int) : List Nat := if m then monL n else numL n
def wds : List Str := [Str.ofString "red", Str.ofString "green"]
def KxR (A : Adr) (H : Hp) (k : Addr) : Kx → Prop
 | .yn => ∃ dk, H k = some (.ins A.c_YesNo dk [("low", .int 0), ("high", .int 1)])
 | .wh m lo hi => ∃ dk, H k = some (.ins (cW A m) dk [("low", .int lo), ("high", .int hi)])
 | .nm n => ∃ dk, H k = some (.ins A.c_Names dk [("low", .int 0), ("high", .int n)])
 | .pk => ∃ dk q, H k = some (.ins A.c_Pick dk [("low", .int 0), ("high", .int 1), ("words", .ref q)]) ∧ H q = some (.lst (wds.map V.str))
theorem KxR.same {A : Adr} {H H' : Hp} (s : Same H H') {k : Addr} {x : Kx} (h : KxR A H k x) : KxR A H' k x := by
 cases x with
 | yn => obtain ⟨d, h⟩ := h; exact ⟨d, s _ _ h⟩
 | wh m lo hi => obtain ⟨d, h⟩ := h; exact ⟨d, s _ _ h⟩
 | nm n => obtain ⟨d, h⟩ := h; exact ⟨d, s _ _ h⟩
 | pk => obtain ⟨d, q, h, h2⟩ := h; exact ⟨d, q, s _ _ h, s _ _ h2⟩
def Kx.G : Kx → Prop
 | .wh _ lo hi => lo.natAbs < 10 ^ 60 ∧ hi.natAbs < 10 ^ 60
 | .nm n => n.natAbs < 10 ^ 60
 | _ => True
def tlK : Kx → Str
 | .yn => Str.ofString "yesno"
 | .wh m lo hi => Str.ofString (if m then "money " else "whole ") ++ (S (shW m lo) ++ Str.ofString " " ++ S (shW m hi))
 | .nm n => Str.ofString "names " ++ S (numL n)
 | .pk => Str.ofString "pick " ++ joinS (Str.ofString " ") wds
theorem numL_le {n : Int} (h : n.natAbs < 10 ^ 60) : (numL n).length ≤ 61 := by
 have := dig_len (k := 60) (by decide) h
 unfold numL
 split
 · rw [List.length_cons]; omega
 · omega
theorem shW_le {m : Bool} {n : Int} (h : n.natAbs < 10 ^ 60) : (S (shW m n)).length ≤ 100 := by
 cases m with
 | true => have := (mon_fine h).len; exact Nat.le_trans this (by decide)
 | false => rw [len_S]; have := numL_le h; show (numL n).length ≤ 100; omega
def spTl (A : Adr) (P : Kx → Prop) : Sp := fun vs H Q _ => ∃ k x, vs = [.ref k] ∧ KxR A H k x ∧ x.G ∧ P x ∧ ∀ H', Same H H' → Q (.str (tlK x)) H'
section
variable {P : Program} {w : World} {K : W.Frag} {mg : Str → Option Value} {base : Heap} {A : Adr}
def JWs (T : Txt K mg A) : MethJ P w K mg base CX0 3 A.c_Whole "shown" := ⟨_, _, _, _, [], [], T.cl_Whole, T.me_Whole_shown, (ok_wshown T).mono (by decide), T.b_c_Whole_shown, .nil⟩
def JMs (T : Txt K mg A) : MethJ P w K mg base CX0 3 A.c_Money "shown" := ⟨_, _, _, _, [], [], T.cl_Money, T.me_Money_shown, (ok_mshown T).mono (by decide), T.b_c_Money_shown, .nil⟩
theorem ok_bounds (T : Txt K mg A) : FnOk P w K mg base CX0 4 A.f_c_Whole_bounds A.d_c_Whole_bounds ["self"] (fun vs H Q _ => ∃ k dk m lo hi, vs = [.ref k] ∧ H k = some (.ins (cW A m) dk [("low", .int lo), ("high", .int hi)]) ∧ lo.natAbs < 10 ^ 60 ∧ hi.natAbs < 10 ^ 60 ∧ ∀ H', Same H H' → Q (.str (S (shW m lo) ++ Str.ofString " " ++ S (shW m hi))) H') := by
 refine T.F_c_Whole_bounds.ok sc_c_Whole_bounds (fun vs H Q E h => ?_) (fun cdv A0 outer s H vs Q E hr h => ?_)
 · obtain ⟨k, dk, m, lo, hi, rfl, _⟩ := h
   rfl
 obtain ⟨k, dk, m, lo, hi, rfl, hk, b1, b2, q⟩ := h
 have z1 := shW_le (m := m) b1
 have z2 := shW_le (m := m) b2
 have z0 : (Str.ofString " ").length = 1 := by symm
 refine ⟨_, (zH (zR (zK yA (zK yA (pe_methG (CX := CX0) (k := 3) (hr.mono (by first | decide | omega)) zP (pv 0) (zA (pe_fld (pv 0) rfl) zC)) yK) (pe_methG (CX := CX0) (k := 3) (hr.mono (by first | decide | omega)) zP (pv 0) (zA (pe_fld (pv 0) rfl) zC))))), ?_⟩
 cases m with
 | false =>
   have z1 : (S (numL lo)).length ≤ 100 := z1
   have z2 : (S (numL hi)).length ≤ 100 := z2
   refine ⟨_, rfl, k, _, dk, _, JWs T, rfl, hk, rfl, _, rfl, k, _, dk, _, _, rfl, hk, T.cl_Whole, T.no_Whole_low, rfl, _, lo, rfl, b1, fun H1 s1 => ?_⟩
   refine ⟨_, _, rfl, rfl, zL (m := 1000) (by omega), ?_⟩
   refine ⟨_, rfl, k, _, dk, _, JWs T, rfl, s1 _ _ hk, rfl, _, rfl, k, _, dk, _, _, rfl, s1 _ _ hk, T.cl_Whole, T.no_Whole_high, rfl, _, hi, rfl, b2, fun H2 s2 => ?_⟩
   exact ⟨_, _, rfl, rfl, zL (m := 1000) (by rw [len_app]; omega), q _ (s1.trans s2)⟩
 | true =>
   have z1 : (S (monL lo)).length ≤ 100 := z1
   have z2 : (S (monL hi)).length ≤ 100 := z2
   refine ⟨_, rfl, k, _, dk, _, JMs T, rfl, hk, rfl, _, rfl, k, _, dk, _, _, rfl, hk, T.cl_Money, T.no_Money_low, rfl, _, lo, rfl, b1, fun H1 s1 => ?_⟩
   refine ⟨_, _, rfl, rfl, zL (m := 1000) (by omega), ?_⟩
   refine ⟨_, rfl, k, _, dk, _, JMs T, rfl, s1 _ _ hk, rfl, _, rfl, k, _, dk, _, _, rfl, s1 _ _ hk, T.cl_Money, T.no_Money_high, rfl, _, hi, rfl, b2, fun H2 s2 => ?_⟩
   exact ⟨_, _, rfl, rfl, zL (m := 1000) (by rw [len_app]; omega), q _ (s1.trans s2)⟩
def JWb (T : Txt K mg A) : MethJ P w K mg base CX0 4 A.c_Whole "bounds" := ⟨_, _, _, _, [], [], T.cl_Whole, T.me_Whole_bounds, (ok_bounds T).mono (by decide), T.b_c_Whole_bounds, .nil⟩
def JMb (T : Txt K mg A) : MethJ P w K mg base CX0 4 A.c_Money "bounds" := ⟨_, _, _, _, [], [], T.cl_Money, T.me_Money_bounds, (ok_bounds T).mono (by decide), T.b_c_Whole_bounds, .nil⟩
theorem ok_ytold (T : Txt K mg A) : FnOk P w K mg base CX0 1 A.f_c_YesNo_told A.d_c_YesNo_told ["self"] (spTl A (· = .yn)) := by
 refine T.F_c_YesNo_told.ok sc_c_YesNo_told (fun vs H Q E h => ?_) (fun cdv A0 outer s H vs Q E hr h => ?_)
 · obtain ⟨k, x, rfl, _⟩ := h
   rfl
 obtain ⟨k, x, rfl, hk, g, rfl, q⟩ := h
 refine ⟨_, (zH (zR yK)), ?_⟩
 exact q _ (Same.refl _)
theorem bn_le {m : Bool} {lo hi : Int} (b1 : lo.natAbs < 10 ^ 60) (b2 : hi.natAbs < 10 ^ 60) : (S (shW m lo) ++ Str.ofString " " ++ S (shW m hi)).length ≤ 300 := by
 have z1 := shW_le (m := m) b1
 have z2 := shW_le (m := m) b2
 have z0 : (Str.ofString " ").length = 1 := by symm
 rw [len_app, len_app]; omega
theorem ok_wtold (T : Txt K mg A) : FnOk P w K mg base CX0 5 A.f_c_Whole_told A.d_c_Whole_told ["self"] (spTl A (fun x => ∃ lo hi, x = .wh false lo hi)) := by
 refine T.F_c_Whole_told.ok sc_c_Whole_told (fun vs H Q E h => ?_) (fun cdv A0 outer s H vs Q E hr h => ?_)
 · obtain ⟨k, x, rfl, _⟩ := h
   rfl
 obtain ⟨k, x, rfl, hk, g, ⟨lo, hi, rfl⟩, q⟩ := h
 obtain ⟨dk, hk⟩ := hk
 refine ⟨_, (zH (zR (zK yA yK (pe_methG0 (CX := CX0) (k := 4) (hr.mono (by first | decide | omega)) zP (pv 0))))), ?_⟩
 refine ⟨_, rfl, k, _, dk, _, JWb T, rfl, hk, rfl, k, dk, false, lo, hi, rfl, hk, g.1, g.2, fun H1 s1 => ?_⟩
 have z := bn_le (m := false) g.1 g.2
 have z0 : (Str.ofString "whole ").length = 6 := by symm
 exact ⟨_, _, rfl, rfl, zL (m := 1000) (by omega), q _ s1⟩
theorem ok_mtold (T : Txt K mg A) : FnOk P w K mg base CX0 5 A.f_c_Money_told A.d_c_Money_told ["self"] (spTl A (fun x => ∃ lo hi, x = .wh true lo hi)) := by
 refine T.F_c_Money_told.ok sc_c_Money_told (fun vs H Q E h => ?_) (fun cdv A0 outer s H vs Q E hr h => ?_)
 · obtain ⟨k, x, rfl, _⟩ := h
   rfl
 obtain ⟨k, x, rfl, hk, g, ⟨lo, hi, rfl⟩, q⟩ := h
 obtain ⟨dk, hk⟩ := hk
 refine ⟨_, (zH (zR (zK yA yK (pe_methG0 (CX := CX0) (k := 4) (hr.mono (by first | decide | omega)) zP (pv 0))))), ?_⟩
 refine ⟨_, rfl, k, _, dk, _, JMb T, rfl, hk, rfl, k, dk, true, lo, hi, rfl, hk, g.1, g.2, fun H1 s1 => ?_⟩
 have z := bn_le (m := true) g.1 g.2
 have z0 : (Str.ofString "money ").length = 6 := by symm
 exact ⟨_, _, rfl, rfl, zL (m := 1000) (by omega), q _ s1⟩
theorem ok_ntold (T : Txt K mg A) : FnOk P w K mg base CX0 1 A.f_c_Names_told A.d_c_Names_told ["self"] (spTl A (fun x => ∃ n, x = .nm n)) := by
 refine T.F_c_Names_told.ok sc_c_Names_told (fun vs H Q E h => ?_) (fun cdv A0 outer s H vs Q E hr h => ?_)
 · obtain ⟨k, x, rfl, _⟩ := h
   rfl
 obtain ⟨k, x, rfl, hk, g, ⟨n, rfl⟩, q⟩ := h
 obtain ⟨dk, hk⟩ := hk
 have g : n.natAbs < 10 ^ 60 := g
 refine ⟨_, (zH (zR (zK yA yK (yO call_str_int (by rfl) T.n_str Bt.str (zA (pe_fld (pv 0) rfl) zC))))), ?_⟩
 refine ⟨_, rfl, k, _, dk, _, _, rfl, hk, T.cl_Names, T.no_Names_high, rfl, n, rfl, logOk (Nat.lt_trans g (by symm)), ?_⟩
 rw [str_is]
 have z := shW_le (m := false) g
 have z : (S (numL n)).length ≤ 100 := z
 have z0 : (Str.ofString "names ").length = 6 := by symm
 exact ⟨_, _, rfl, rfl, zL (m := 1000) (by omega), q _ (Same.refl _)⟩
theorem ok_ptold (T : Txt K mg A) : FnOk P w K mg base CX0 1 A.f_c_Pick_told A.d_c_Pick_told ["self"] (spTl A (· = .pk)) := by
 refine T.F_c_Pick_told.ok sc_c_Pick_told (fun vs H Q E h => ?_) (fun cdv A0 outer s H vs Q E hr h => ?_)
 · obtain ⟨k, x, rfl, _⟩ := h
   rfl
 obtain ⟨k, x, rfl, hk, g, rfl, q⟩ := h
 obtain ⟨dk, qa, hk, hq⟩ := hk
 refine ⟨_, (zH (zR (zK yA yK (pe_bm PySem.F.plainAttrs_str PySem.F.slot_str_join PySem.F.type_str_join mt_join yK (zA (pe_fld (pv 0) rfl) zC))))), ?_⟩
 refine ⟨rfl, _, rfl, k, _, dk, _, _, rfl, hk, T.cl_Pick, T.no_Pick_words, rfl, _, qa, wds, rfl, rfl, .inl (SqL.of hq), (by symm), ?_⟩
 exact ⟨_, _, rfl, rfl, zL (m := 1000) (by symm), q _ (Same.refl _)⟩
def cls (A : Adr) : Kx → Addr
 | .yn => A.c_YesNo
 | .wh m _ _ => cW A m
 | .nm _ => A.c_Names
 | .pk => A.c_Pick
end
end K31
set_option maxHeartbeats 4000000
namespace K31
open PySem L2
seal PE PT PW PA PS PSs PG PGs PI PO PSet OpR UnR CallR TruR IxR SlR PC PPs
local macro_rules | `(tactic| walk_at "rd1") => `(tactic| first
 | (refine And.intro rfl ?_)
 | (refine And.intro (by assumption) ?_)
 | (refine And.intro (fun _ e => e) ?_)
 | (refine And.intro (TyOf.str _) ?_) | (refine And.intro (TyOf.int _) ?_) | (refine And.intro (TyOf.bl _) ?_) | (refine And.intro TyOf.non ?_)
 | (refine iteT ?_) | (refine iteF ?_)
 | (apply Exists.intro))
local macro_rules | `(tactic| walk_at "rd") => `(tactic| repeat (walk_at "rd1"))
abbrev OT := List (Option Str × Int)
def kO : Option Str → Option Key
 | none => none
 | some z => some (.inr z)
theorem kO_inj {a b : Option Str} (h : kO a = kO b) : a = b := by
 cases a with
 | none =>
   cases b with
   | none => rfl
   | some _ => cases h
 | some x =>
   cases b with
   | none => cases h
   | some y => exact congrArg some (Sum.inr.inj (Option.some.inj h))
def kvO (t : OT) : List (Option Key × V) := t.map fun p => (kO p.1, .int p.2)
def gtO (t : OT) (q : Option Str) : Int := ((t.find? fun p => decide (p.1 = q)).map (·.2)).getD 0
def ptO (t : OT) (q : Option Str) (x : Int) : OT := if t.any (fun p => decide (p.1 = q)) then t.map (fun p => if p.1 = q then (p.1, x) else p) else t ++ [(q, x)]
def adO (m : Int) (t : OT) (p : Option Str × Int) : OT := ptO t p.1 (gtO t p.1 + m * p.2)
def mgO (t : OT) (m : Int) (inner : OT) : OT := inner.foldl (adO m) t
theorem kO_dec (a b : Option Str) : decide (kO a = kO b) = decide (a = b) := by
 by_cases e : a = b
 · rw [e, decide_eq_true rfl, decide_eq_true rfl]
 · rw [decide_eq_false e, decide_eq_false fun h => e (kO_inj h)]
theorem kvO_val (q : Option Str) : ∀ t : OT, valV (kvO t) (kO q) = ((t.find? fun p => decide (p.1 = q)).map (·.2)).map V.int
 | [] => rfl
 | a :: r => by
   by_cases e : a.1 = q
   · have : kvO (a :: r) = (kO a.1, V.int a.2) :: kvO r := rfl
     rw [this, yN (by rw [e]), List.find?_cons, decide_eq_true e]; rfl
   · have : kvO (a :: r) = (kO a.1, V.int a.2) :: kvO r := rfl
     rw [this, yM (fun h => e (kO_inj h)), kvO_val q r, List.find?_cons, decide_eq_false e]
theorem kvO_get (t : OT) (q : Option Str) : (valV (kvO t) (kO q)).getD (.int 0) = .int (gtO t q) := by
 rw [kvO_val]
 unfold gtO
 cases (t.find? fun p => decide (p.1 = q)).map (·.2) <;> rfl
theorem kvO_put (t : OT) (q : Option Str) (x : Int) : putK (kvO t) (kO q) (.int x) = kvO (ptO t q x) := by
 unfold putK ptO
 have e : ((kvO t).any fun kv => decide (kv.1 = kO q)) = t.any fun p => decide (p.1 = q) := by
   unfold kvO
   rw [List.any_map]
   congr 1
   funext p
   exact kO_dec p.1 q
 rw [e]
 split
 · unfold kvO
   rw [List.map_map, List.map_map]
   refine List.map_congr_left fun p _ => ?_
   show (if kO p.1 = kO q then (kO p.1, V.int x) else (kO p.1, V.int p.2)) = _
   by_cases c : p.1 = q
   · rw [if_pos (by rw [c])]
     show _ = (kO (if p.1 = q then (p.1, x) else p).1, V.int (if p.1 = q then (p.1, x) else p).2)
     rw [if_pos c]
   · rw [if_neg (fun h => c (kO_inj h))]
     show _ = (kO (if p.1 = q then (p.1, x) else p).1, V.int (if p.1 = q then (p.1, x) else p).2)
     rw [if_neg c]
 · unfold kvO
   rw [List.map_append]; rfl
def OB (t : OT) (c b : Nat) : Prop := t.length ≤ c ∧ ∀ p ∈ t, p.2.natAbs ≤ b
theorem OB.get {t : OT} {c b : Nat} (h : OB t c b) (q : Option Str) : (gtO t q).natAbs ≤ b := by
 unfold gtO
 cases e : t.find? fun p => decide (p.1 = q) with
 | none => exact Nat.zero_le _
 | some p => exact h.2 p (List.mem_of_find?_eq_some e)
theorem OB.put {t : OT} {c b b' : Nat} (h : OB t c b) {q : Option Str} {x : Int} (hx : x.natAbs ≤ b') (hb : b ≤ b') : OB (ptO t q x) (c + 1) b' := by
 unfold ptO
 split
 · refine ⟨by rw [List.length_map]; have := h.1; omega, fun p hp => ?_⟩
   obtain ⟨y, hy, rfl⟩ := List.mem_map.mp hp
   split
   · exact hx
   · exact Nat.le_trans (h.2 y hy) hb
 · refine ⟨by rw [List.length_append]; have := h.1; show t.length + 1 ≤ _; omega, fun p hp => ?_⟩
   rcases List.mem_append.mp hp with hp | hp
   · exact Nat.le_trans (h.2 p hp) hb
   · rw [List.mem_singleton.mp hp]; exact hx
def bO : Nat → Nat
 | 0 => 1
 | n + 1 => 6 ^ (n + 1) * (2 * 10 ^ 18 * bO n)
theorem bO_pos : ∀ n, 1 ≤ bO n
 | 0 => Nat.le_refl _
 | n + 1 => Nat.mul_pos (Nat.pow_pos (by decide)) (Nat.mul_pos (by decide) (bO_pos n))
def Gz (ts : List Tot) : Nat → Str → OT → Prop
 | 0, _, _ => False
 | n + 1, z, t => ∃ tt, tt ∈ ts ∧ tt.1 = z ∧ ∃ Ls : List OT, Paired (fun (p : Part) (l : OT) => (p.2 = none ∧ l = [(none, 1)]) ∨ ∃ y, p.2 = some y ∧ ((y ∉ ts.map (·.1) ∧ l = [(some y, 1)]) ∨ (y ∈ ts.map (·.1) ∧ Gz ts n y l ∧ OB l (6 ^ n) (bO n)))) tt.2 Ls ∧ t = (tt.2.zip Ls).foldl (fun a pl => mgO a pl.1.1 pl.2) []
theorem tot_uniq {ts : List Tot} (nd : (ts.map (·.1)).Nodup) {a b : Tot} (ha : a ∈ ts) (hb : b ∈ ts) (e : a.1 = b.1) : a = b := by
 obtain ⟨i, hi⟩ := List.mem_iff_getElem?.mp ha
 obtain ⟨j, hj⟩ := List.mem_iff_getElem?.mp hb
 have li := (List.getElem?_eq_some_iff.mp hi).1
 have : i = j := (List.getElem?_inj (l := ts.map (·.1)) (i := i) (j := j) (by rw [List.length_map]; exact li) nd).mp (by rw [List.getElem?_map, List.getElem?_map, hi, hj]; exact congrArg some e)
 subst this
 rw [hi] at hj
 exact Option.some.inj hj
theorem Gz.uniq {ts : List Tot} (nd : (ts.map (·.1)).Nodup) : ∀ {n m : Nat} {z : Str} {t u : OT}, Gz ts n z t → Gz ts m z u → t = u
 | 0, _, _, _, _, h, _ => h.elim
 | _ + 1, 0, _, _, _, _, k => k.elim
 | n + 1, m + 1, z, t, u, h, k => by
   obtain ⟨a, ha, ea, La, pa, rfl⟩ := h
   obtain ⟨b, hb, eb, Lb, pb, rfl⟩ := k
   cases tot_uniq nd ha hb (ea.trans eb.symm)
   have key : ∀ {ps : List Part} {L M : List OT}, Paired (fun (p : Part) (l : OT) => (p.2 = none ∧ l = [(none, 1)]) ∨ ∃ y, p.2 = some y ∧ ((y ∉ ts.map (·.1) ∧ l = [(some y, 1)]) ∨ (y ∈ ts.map (·.1) ∧ Gz ts n y l ∧ OB l (6 ^ n) (bO n)))) ps L → Paired (fun (p : Part) (l : OT) => (p.2 = none ∧ l = [(none, 1)]) ∨ ∃ y, p.2 = some y ∧ ((y ∉ ts.map (·.1) ∧ l = [(some y, 1)]) ∨ (y ∈ ts.map (·.1) ∧ Gz ts m y l ∧ OB l (6 ^ m) (bO m)))) ps M → L = M := by
     intro ps L M hL
     induction hL generalizing M with
     | nil => intro hM; cases hM; rfl
     | @cons p l ps Ls r _ ih =>
       intro hM
       cases hM with
       | @cons _ l' _ Ms r' t' =>
         rw [ih t']
         congr 1
         rcases r with ⟨e, rfl⟩ | ⟨y, e, r⟩ <;> rcases r' with ⟨e', rfl⟩ | ⟨y', e', r'⟩
         · rfl
         · rw [e] at e'; cases e'
         · rw [e] at e'; cases e'
         · rw [e] at e'
           cases Option.some.inj e'
           rcases r with ⟨n1, rfl⟩ | ⟨n1, g1, _⟩ <;> rcases r' with ⟨n2, rfl⟩ | ⟨n2, g2, _⟩
           · rfl
           · exact absurd n2 n1
           · exact absurd n1 n2
           · exact Gz.uniq nd g1 g2
   rw [key pa pb]
theorem rd_uniq {P : Program} {w : World} {H : Hp} {b : Addr} {k l : List (Option Key × V)} (h : Rd H b (dO P w b k)) (g : Rd H b (dO P w b l)) : dO P w b k = dO P w b l := by
 rcases h with h | ⟨o, h⟩ <;> rcases g with g | ⟨o', g⟩
 · rw [h] at g; exact Option.some.inj g
 · rw [h] at g; cases g
 · rw [h] at g; cases g
 · rw [h] at g; exact (HO.frz.inj (Option.some.inj g)).2
def Go (P : Program) (w : World) (H0 : Hp) (M : List Addr) (H H' : Hp) : Prop := ∀ b o, H b = some o → b ∉ M → H' b = some o ∨ (H0 b = none ∧ ∃ kvs, Rd H b (dO P w b kvs) ∧ Rd H' b (dO P w b kvs))
theorem Go.of {P : Program} {w : World} {H0 : Hp} {M : List Addr} {H H' : Hp} (s : Same H H') : Go P w H0 M H H' := fun b o h _ => .inl (s b o h)
theorem Go.trans {P : Program} {w : World} {H0 : Hp} {M : List Addr} {H H1 H2 : Hp} (a : Go P w H0 M H H1) (c : Go P w H0 M H1 H2) : Go P w H0 M H H2 := fun b o h n => by
 rcases a b o h n with h1 | ⟨z, k, r0, r1⟩
 · rcases c b o h1 n with h2 | ⟨z, k, r1, r2⟩
   · exact .inl h2
   · refine .inr ⟨z, k, ?_, r2⟩
     rcases r1 with r1 | ⟨ob, r1⟩
     · rw [h1] at r1; rw [Option.some.inj r1] at h; exact .inl h
     · rw [h1] at r1; rw [Option.some.inj r1] at h; exact .inr ⟨ob, h⟩
 · have : ∃ o1, H1 b = some o1 := by
     rcases r1 with r1 | ⟨ob, r1⟩
     · exact ⟨_, r1⟩
     · exact ⟨_, r1⟩
   obtain ⟨o1, h1⟩ := this
   refine .inr ⟨z, k, r0, ?_⟩
   rcases c b o1 h1 n with h2 | ⟨_, k2, q1, q2⟩
   · rcases r1 with r1 | ⟨ob, r1⟩
     · rw [h1] at r1; rw [Option.some.inj r1] at h2; exact .inl h2
     · rw [h1] at r1; rw [Option.some.inj r1] at h2; exact .inr ⟨ob, h2⟩
   · rw [rd_uniq r1 q1]; exact q2
theorem Go.upd {P : Program} {w : World} {H0 : Hp} {M : List Addr} {H H' : Hp} (a : Go P w H0 M H H') {m : Addr} (hm : m ∈ M) (u : HO) : Go P w H0 M H (L2.upd H' m u) := fun b o h n => by
 have nb : b ≠ m := fun e => n (by rw [e]; exact hm)
 rcases a b o h n with h1 | ⟨z, k, r0, r1⟩
 · exact .inl (by rw [zJ nb]; exact h1)
 · refine .inr ⟨z, k, r0, ?_⟩
   rcases r1 with r1 | ⟨ob, r1⟩
   · exact .inl (by rw [zJ nb]; exact r1)
   · exact .inr ⟨ob, by rw [zJ nb]; exact r1⟩
theorem Go.frz {P : Program} {w : World} {H0 : Hp} {M : List Addr} {H : Hp} {d : Addr} {kvs : List (Option Key × V)} (hd : Rd H d (dO P w d kvs)) (h0 : H0 d = none) (ob : Obj) : Go P w H0 M H (L2.upd H d (.frz ob (dO P w d kvs))) := fun b o h n => by
 by_cases e : b = d
 · subst e
   exact .inr ⟨h0, kvs, hd, .inr ⟨ob, zB⟩⟩
 · exact .inl (by rw [zJ e]; exact h)
theorem Go.rd {P : Program} {w : World} {H0 : Hp} {M : List Addr} {H H' : Hp} (a : Go P w H0 M H H') {d : Addr} {kvs : List (Option Key × V)} (hd : Rd H d (dO P w d kvs)) (n : d ∉ M) : Rd H' d (dO P w d kvs) := by
 have : ∃ o1, H d = some o1 := by
   rcases hd with r1 | ⟨ob, r1⟩
   · exact ⟨_, r1⟩
   · exact ⟨_, r1⟩
 obtain ⟨o, ho⟩ := this
 rcases a d o ho n with h | ⟨_, k, r0, r1⟩
 · rcases hd with r | ⟨ob, r⟩
   · rw [ho] at r; rw [Option.some.inj r] at h; exact .inl h
   · rw [ho] at r; rw [Option.some.inj r] at h; exact .inr ⟨ob, h⟩
 · rw [rd_uniq hd r0]; exact r1
theorem Go.stay {P : Program} {w : World} {H0 : Hp} {M : List Addr} {H H' : Hp} (a : Go P w H0 M H H') {b : Addr} {o : HO} (h : H b = some o) (n : b ∉ M) (h1 : ∀ φ, o ≠ .ext φ) (h2 : ∀ ob u, o ≠ .frz ob u) : H' b = some o := by
 rcases a b o h n with h3 | ⟨_, k, r0, _⟩
 · exact h3
 · rcases r0 with r | ⟨ob, r⟩
   · rw [h] at r; exact absurd (Option.some.inj r) (h1 _)
   · rw [h] at r; exact absurd (Option.some.inj r) (h2 _ _)
end K31
set_option maxHeartbeats 4000000
namespace K31
open PySem L2
seal PE PT PW PA PS PSs PG PGs PI PO PSet OpR UnR CallR TruR IxR SlR PC PPs
local macro_rules | `(tactic| walk_at "rd1") => `(tactic| first
 | (refine And.intro rfl ?_)
 | (refine And.intro (by assumption) ?_)
 | (refine And.intro (fun _ e => e) ?_)
 | (refine And.intro (TyOf.str _) ?_) | (refine And.intro (TyOf.int _) ?_) | (refine And.intro (TyOf.bl _) ?_) | (refine And.intro TyOf.non ?_)
 | (refine iteT ?_) | (refine iteF ?_)
 | (apply Exists.intro))
local macro_rules | `(tactic| walk_at "rd") => `(tactic| repeat (walk_at "rd1"))
theorem valV_out {kvs : List (Key × V)} {k : Key} (h : k ∉ kvs.map (·.1)) : valV kvs k = none := by
 cases e : valV kvs k with
 | none => rfl
 | some v => exact absurd (valV_in e) h
theorem merge_app : ∀ (rows acc : List (Key × V)), ((acc ++ rows).map (·.1)).Nodup → mergeK acc rows = acc ++ rows
 | [], acc, _ => by rw [List.append_nil]; rfl
 | r :: rs, acc, h => by
   have h1 : r.1 ∉ acc.map (·.1) := fun hm => by
     rw [List.map_append, List.nodup_append] at h
     exact h.2.2 _ hm _ (List.mem_cons_self ..) rfl
   show mergeK (putK acc r.1 r.2) rs = _
   rw [putK_new _ (valV_out h1), merge_app rs (acc ++ [(r.1, r.2)]) (by rw [List.append_assoc]; exact h), List.append_assoc]
   rfl
theorem mkD_nd {rows : List (Key × V)} (h : (rows.map (·.1)).Nodup) : mkD rows = rows := by
 show mergeK [] rows = rows
 rw [merge_app rows [] (by simpa using h)]; rfl
def RwD (H : Hp) (r : Key × V) (t : Tot) : Prop := r.1 = .inr t.1 ∧ ∃ l, r.2 = .ref l ∧ PsR H l t.2
theorem RwD.kp {H H' : Hp} (s : Kp H H') {r : Key × V} {t : Tot} (h : RwD H r t) : RwD H' r t := by
 obtain ⟨e, l, e2, h1⟩ := h
 exact ⟨e, l, e2, h1.kp s⟩
theorem rows_mk {H : Hp} : ∀ {xs : List V} {ts : List Tot}, Paired (TtR H) xs ts → ∃ rows, Paired (PrR H) xs rows ∧ Paired (RwD H) rows ts
 | _, _, .nil => ⟨[], .nil, .nil⟩
 | _, _, .cons r rs => by
   obtain ⟨rows, h1, h2⟩ := rows_mk rs
   obtain ⟨a, l, rfl, ha, hl⟩ := r
   exact ⟨(.inr _, .ref l) :: rows, .cons ⟨a, rfl, ha⟩ h1, .cons ⟨rfl, l, rfl, hl⟩ h2⟩
theorem rw_keys {H : Hp} {rows : List (Key × V)} {ts : List Tot} (h : Paired (RwD H) rows ts) : rows.map (·.1) = (ts.map (·.1)).map Sum.inr := by
 induction h with
 | nil => rfl
 | cons r _ ih => rw [List.map_cons, List.map_cons, List.map_cons, ih, r.1]
theorem rw_nd {H : Hp} {rows : List (Key × V)} {ts : List Tot} (h : Paired (RwD H) rows ts) (n : (ts.map (·.1)).Nodup) : (rows.map (·.1)).Nodup := by
 rw [rw_keys h]
 exact List.Pairwise.map _ (fun a b ne e => ne (Sum.inr.inj e)) n
theorem rw_in {H : Hp} {rows : List (Key × V)} {ts : List Tot} (h : Paired (RwD H) rows ts) (z : Str) : (valV rows (.inr z)).isSome = decide (z ∈ ts.map (·.1)) := by
 cases e : valV rows (.inr z) with
 | none =>
   have := valV_not e
   rw [rw_keys h] at this
   exact (decide_eq_false fun hz => this (List.mem_map_of_mem hz)).symm
 | some v =>
   have := valV_in e
   rw [rw_keys h] at this
   obtain ⟨y, hy, ey⟩ := List.mem_map.mp this
   cases ey
   exact (decide_eq_true hy).symm
theorem valV_mem {kvs : List (Key × V)} {k : Key} {v : V} (h : valV kvs k = some v) : (k, v) ∈ kvs := by
 unfold valV at h
 obtain ⟨kv, h1, rfl⟩ := Option.map_eq_some_iff.mp h
 have h2 := List.find?_some h1
 have h3 : kv.1 = k := of_decide_eq_true h2
 rw [← h3]
 exact List.mem_of_find?_eq_some h1
theorem rwd_at {H : Hp} {kvs : List (Key × V)} {L : List Tot} (h : Paired (RwD H) kvs L) (nd : (L.map (·.1)).Nodup) {t : Tot} (ht : t ∈ L) : ∃ l, valV kvs (.inr t.1) = some (.ref l) ∧ PsR H l t.2 := by
 obtain ⟨i, hi⟩ := List.getElem?_of_mem ht
 obtain ⟨kv, hkv, e1, l, e2, hl⟩ := paired_at2 h hi
 have hin := rw_in h t.1
 rw [decide_eq_true (List.mem_map_of_mem ht)] at hin
 obtain ⟨v, hv⟩ := Option.isSome_iff_exists.mp hin
 obtain ⟨j, hj⟩ := List.getElem?_of_mem (valV_mem hv)
 obtain ⟨t2, ht2, f1, l2, f2, hl2⟩ := zS h hj
 have e3 : t2.1 = t.1 := (Sum.inr.inj f1).symm
 have lj := (List.getElem?_eq_some_iff.mp ht2).1
 have : i = j := by
   have li := (List.getElem?_eq_some_iff.mp hi).1
   exact (List.getElem?_inj (by rw [List.length_map]; exact li) nd).mp (by rw [List.getElem?_map, List.getElem?_map, hi, ht2]; show some t.1 = some t2.1; rw [e3])
 subst this
 rw [hi] at ht2
 cases ht2
 exact ⟨l2, by rw [hv]; exact congrArg some f2, hl2⟩
theorem mem_putK {kvs : List (Key × V)} {k : Key} {v : V} {kv : Key × V} (h : kv ∈ putK kvs k v) : kv ∈ kvs ∨ kv = (k, v) := by
 unfold putK at h
 split at h
 · obtain ⟨x, hx, e⟩ := List.mem_map.mp h
   split at e
   · rename_i c; exact .inr (by rw [← e, c])
   · exact .inl (by rw [← e]; exact hx)
 · rcases List.mem_append.mp h with h | h
   · exact .inl h
   · exact .inr (List.mem_singleton.mp h)
def cG : Nat → Nat
 | 0 => 0
 | n + 1 => 1 + 6 * cG n
def GTs (ts : List Tot) : Prop := (ts.map (·.1)).Nodup ∧ ∀ t ∈ ts, t.2.length ≤ 6 ∧ ∀ p ∈ t.2, p.1.natAbs ≤ 2 * 10 ^ 18
def Fz (H0 H : Hp) : Prop := ∀ b, H b = none → H0 b = none
def KnO (P : Program) (w : World) (ts : List Tot) (H0 H : Hp) (kk : List (Key × V)) : Prop := ∀ kv ∈ kk, ∃ z d t n, kv = (Sum.inr z, V.ref d) ∧ H0 d = none ∧ Rd H d (dO P w d (kvO t)) ∧ Gz ts n z t
theorem KnO.mono {P : Program} {w : World} {ts : List Tot} {H0 H H' : Hp} {kk : List (Key × V)} (h : KnO P w ts H0 H kk) (f : ∀ d kvs, H0 d = none → Rd H d (dO P w d kvs) → Rd H' d (dO P w d kvs)) : KnO P w ts H0 H' kk := fun kv hk => by
 obtain ⟨z, d, t, n, e, h0, r, g⟩ := h kv hk
 exact ⟨z, d, t, n, e, h0, f _ _ h0 r, g⟩
theorem KnO.less {P : Program} {w : World} {ts : List Tot} {H0 H1 H : Hp} {kk : List (Key × V)} (h : KnO P w ts H1 H kk) (f : ∀ d, H1 d = none → H0 d = none) : KnO P w ts H0 H kk := fun kv hk => by
 obtain ⟨z, d, t, n, e, h0, r, g⟩ := h kv hk
 exact ⟨z, d, t, n, e, f _ h0, r, g⟩
theorem KnO.dn {P : Program} {w : World} {ts : List Tot} {H0 H : Hp} {kk : List (Key × V)} (h : KnO P w ts H0 H kk) {a : Addr} (hn : H a = none) : KnO P w ts (upd H0 a (.lst [])) H kk := fun kv hk => by
 obtain ⟨z, d, t, n, e, h0, r, g⟩ := h kv hk
 refine ⟨z, d, t, n, e, ?_, r, g⟩
 have : d ≠ a := fun e => by
   subst e
   rcases r with r | ⟨o, r⟩ <;> (rw [r] at hn; cases hn)
 rw [zJ this]; exact h0
theorem Go.less {P : Program} {w : World} {H0 H1 : Hp} {M : List Addr} {H H' : Hp} (a : Go P w H1 M H H') (f : ∀ d, H1 d = none → H0 d = none) : Go P w H0 M H H' := fun b o h n => by
 rcases a b o h n with h1 | ⟨z, r⟩
 · exact .inl h1
 · exact .inr ⟨f _ z, r⟩
theorem Go.fr {P : Program} {w : World} {H0 : Hp} {M : List Addr} {H H' H2 : Hp} (a : Go P w H0 M H H') {d : Addr} (F : Fr [d] H' H2) (hd : H d = none) : Go P w H0 M H H2 := fun b o h n => by
 have nb : b ∉ [d] := ni1 (zG h hd)
 rcases a b o h n with h1 | ⟨z, k, r0, r1⟩
 · exact .inl (F _ _ h1 nb)
 · refine .inr ⟨z, k, r0, ?_⟩
   rcases r1 with r1 | ⟨o, r1⟩
   · exact .inl (F _ _ r1 nb)
   · exact .inr ⟨o, F _ _ r1 nb⟩
theorem rd_fr {M : List Addr} {H H' : Hp} (F : Fr M H H') {d : Addr} {u : HO} (n : d ∉ M) (r : Rd H d u) : Rd H' d u := by
 rcases r with r | ⟨o, r⟩
 · exact .inl (F _ _ r n)
 · exact .inr ⟨o, F _ _ r n⟩
theorem Go.none {P : Program} {w : World} {H0 : Hp} {M : List Addr} {H H' : Hp} (a : Go P w H0 M H H') {b : Addr} (n : b ∉ M) (h : H' b = none) : H b = none := by
 cases e : H b with
 | none => rfl
 | some o =>
   rcases a b o e n with h1 | ⟨_, k, _, r1⟩
   · rw [h1] at h; cases h
   · rcases r1 with r1 | ⟨o, r1⟩ <;> (rw [r1] at h; cases h)
theorem Go.fz {P : Program} {w : World} {H0 : Hp} {m : Addr} {H H' : Hp} (a : Go P w H0 [m] H H') {o : HO} (hm : H' m = some o) (f : Fz H0 H) : Fz H0 H' := fun b h => f b (a.none (ni1 fun e => by rw [e, hm] at h; cases h) h)
theorem Go.kp {P : Program} {w : World} {H0 : Hp} {m : Addr} {H H' : Hp} (a : Go P w H0 [m] H H') {kk : List (Key × V)} (hm : H m = some (.dK kk)) : Kp H H' := fun b o h k => by
 rcases k with ⟨t, rfl⟩ | ⟨l, rfl⟩
 · exact a.stay h (ni1 (ne_of h hm (by intro z; cases z))) (by intro φ z; cases z) (by intro ob u z; cases z)
 · exact a.stay h (ni1 (ne_of h hm (by intro z; cases z))) (by intro φ z; cases z) (by intro ob u z; cases z)
theorem rd_ne {P : Program} {w : World} {H : Hp} {d dk : Addr} {kvs : List (Option Key × V)} {kk : List (Key × V)} (r : Rd H d (dO P w d kvs)) (h : H dk = some (.dK kk)) : d ≠ dk := fun e => by
 subst e
 rcases r with r | ⟨o, r⟩ <;> (rw [r] at h; cases h)
theorem bO_le {n : Nat} (h : n ≤ 6) : bO n ≤ bO 6 := by
 rcases (by omega : n = 0 ∨ n = 1 ∨ n = 2 ∨ n = 3 ∨ n = 4 ∨ n = 5 ∨ n = 6) with rfl | rfl | rfl | rfl | rfl | rfl | rfl <;> decide +kernel
theorem p6_le {n : Nat} (h : n ≤ 6) : 6 ^ n ≤ 46656 := Nat.le_trans (Nat.pow_le_pow_right (by decide) h) (by decide)
theorem ibq {x : Int} (h : x.natAbs ≤ bO 6) : ib x ≤ 60000000 := Nat.le_trans (ib_big (m := 1000) (Nat.lt_of_le_of_lt h (by symm))) (by decide)
theorem OB.le {t : OT} {c b c' b' : Nat} (h : OB t c b) (hc : c ≤ c') (hb : b ≤ b') : OB t c' b' := ⟨Nat.le_trans h.1 hc, fun p hp => Nat.le_trans (h.2 p hp) hb⟩
theorem kv_at {l : OT} {i : Nat} {x : Option Key × V} (h : (kvO l)[i]? = some x) : ∃ q, l[i]? = some q ∧ x = (kO q.1, V.int q.2) := by
 unfold kvO at h
 rw [List.getElem?_map] at h
 obtain ⟨q, e, h⟩ := Option.map_eq_some_iff.mp h
 exact ⟨q, e, h.symm⟩
def spG (P : Program) (w : World) (n : Nat) : Sp := fun vs H Q _ => ∃ (dt dk : Addr) (z : Str) (rows : List (Key × V)) (ts : List Tot) (t : OT) (kk : List (Key × V)) (H0 : Hp), vs = [.ref dt, .str z, .ref dk] ∧ n ≤ 6 ∧ dt ≠ dk ∧ H dt = some (.dK rows) ∧ Paired (RwD H) rows ts ∧ GTs ts ∧ Gz ts n z t ∧ H dk = some (.dK kk) ∧ KnO P w ts H0 H kk ∧ kk.length + cG n ≤ 60000 ∧ Fz H0 H ∧
 ∀ d kk' H', Go P w H0 [dk] H H' → H0 d = none → Rd H' d (dO P w d (kvO t)) → H' dk = some (.dK kk') → KnO P w ts H0 H' kk' → kk'.length ≤ kk.length + cG n → Q (.ref d) H'
section
variable {P : Program} {w : World} {K : W.Frag} {mg : Str → Option Value} {base : Heap} {A : Adr}
theorem ok_gathered (T : Txt K mg A) : ∀ n : Nat, FnOk P w K mg base CX0 (n + 1) A.f_gathered A.d_gathered ["totals", "name", "known"] (spG P w n)
 | 0 => by
   refine ⟨fun vs H Q E h => ?_, fun _ _ _ _ _ _ _ _ _ _ _ _ _ h => ?_⟩
   · obtain ⟨dt, dk, z, rows, ts, t, kk, H0, rfl, _, _, _, _, _, hf, _⟩ := h
     exact hf.elim
   · obtain ⟨dt, dk, z, rows, ts, t, kk, H0, rfl, _, _, _, _, _, hf, _⟩ := h
     exact hf.elim
 | n + 1 => by
   have G_gathered := ok_gathered T n
   refine T.F_gathered.ok sc_gathered (fun vs H Q E h => ?_) (fun cdv A0 outer s H vs Q E hr h => ?_)
   · obtain ⟨dt, dk, z, rows, ts, t, kk, H0, rfl, _⟩ := h
     rfl
   obtain ⟨dt, dk, z, rows, ts, t, kk, H0, rfl, hn6, ntk, hdt, hrw, hG, hgz, hdk, hkn, hkl, hfz, q⟩ := h
   refine ⟨_, (zF (xB (zO (op_notIn_d (hu_of hr)) (pv 1) (pv 2) (by rfl)) (zF (zW (i := 3) sc_gathered.nd rfl (by first | exact Or.inl rfl | exact Or.inr rfl) (pe_dnewP (P := P) (w := w) rfl rfl))
     (zF (yS PassesOwn.never rfl (yJ (pe_dget (hu_of hr) (pv 0) (pv 1) (fun _ _ => rfl))) (pg_tup rfl (yC (zV (i := 4) sc_gathered.nd rfl (by first | exact Or.inl rfl | exact Or.inr rfl)) (yC (zV (i := 5) sc_gathered.nd rfl (by first | exact Or.inl rfl | exact Or.inr rfl)) pgs_nil))) (zF (zW (i := 6) sc_gathered.nd rfl (by first | exact Or.inl rfl | exact Or.inr rfl) (pe_ifExp (zO (op_inO (hu_of hr)) (pv 5) (pv 0) (by rfl)) (zM G_gathered (hr.mono (by first | decide | omega)) rfl T.m_gathered T.k_gathered T.b_gathered .nil zP (zA (pv 0) (zA (pv 5) (zA (pv 2) zC)))) (pe_disp1P (P := P) (w := w) rfl rfl (pv 5) zE)))
     (zH (yS PassesOwn.never rfl (pi_itemsP (P := P) (w := w) rfl rfl (pv 6)) (pg_tup rfl (yC (zV (i := 7) sc_gathered.nd rfl (by first | exact Or.inl rfl | exact Or.inr rfl)) (yC (zV (i := 8) sc_gathered.nd rfl (by first | exact Or.inl rfl | exact Or.inr rfl)) pgs_nil))) (zH (ps_dputP (P := P) (w := w) rfl rfl (pv 3) (pv 7) (zK yH (pe_dget2P (P := P) (w := w) rfl rfl (pv 3) (pv 7) zE ⟨rfl, rfl, rfl, rfl⟩) (zK yU (pv 4) (pv 8))) rfl))))))
     (zH (ps_dput (hu_of hr) (pv 2) (pv 1) (pv 3) rfl)))) yI)
     (zH (zR (pe_dget (hu_of hr) (pv 2) (pv 1) (fun _ _ => rfl))))), ?_⟩
   have hget := DGet.k (k := .inr z) hdk
   refine yR (fun σ' G => ∃ u3 u4 u5 u6 u7 u8 d kk', σ' = [some (.ref dt), some (.str z), some (.ref dk), u3, u4, u5, u6, u7, u8] ∧ Go P w H0 [dk] H G ∧ H0 d = none ∧ Rd G d (dO P w d (kvO t)) ∧ G dk = some (.dK kk') ∧ KnO P w ts H0 G kk' ∧ valV kk' (.inr z) = some (.ref d) ∧ kk'.length ≤ kk.length + cG (n + 1)) (fun σ' G hR => ?_) (fun _ hkk => ?_)
   · obtain ⟨u3, u4, u5, u6, u7, u8, d, kk', rfl, F, hd, hd', hkd, hK, hv, hl⟩ := hR
     have hg := DGet.k (k := .inr z) hkd
     rw [hv] at hg
     exact ⟨_, rfl, _, rfl, dk, _, rfl, hg, q d kk' G F hd hd' hkd hK hl⟩
   have hgz0 := id hgz
   obtain ⟨tt, ht, rfl, Ls, hLs, rfl⟩ := hgz
   refine ⟨_, rfl, _, rfl, dk, _, rfl, hget, _, rfl, ite2 (fun c => ?_) (fun c => ?_)⟩
   rotate_left
   · cases hv : valV kk (.inr tt.1) with
     | none => rw [hv] at c; exact absurd rfl c
     | some v =>
       obtain ⟨z', d, t', m, e, h0, r, g⟩ := hkn _ (valV_mem hv)
       cases e
       have e := Gz.uniq hG.1 g hgz0
       rw [e] at r
       exact hkk _ _ ⟨_, _, _, _, _, _, d, kk, rfl, Go.of (Same.refl _), h0, r, hdk, hkn, hv, Nat.le_add_right ..⟩
   obtain ⟨g1, g2⟩ := hG.2 tt ht
   obtain ⟨lp, hlp, xs, hl, hxs⟩ := rwd_at hrw hG.1 ht
   have lxs := zN hxs
   have lLs := zN hLs
   have nlk : lp ≠ dk := ne_of hl hdk (by intro z; cases z)
   intro dn hdn
   have s0 := zI hdn (dO P w dn [])
   have hdtG := s0 _ _ hdt
   have hgt := DGet.k (k := .inr tt.1) hdtG
   rw [hlp] at hgt
   dsimp only [gName, List.set_cons_succ, List.set_cons_zero]
   refine ⟨_, rfl, _, rfl, dt, _, rfl, hgt, lp, rfl, ⟨_, SqL.of (s0 _ _ hl)⟩, ?_⟩
   have hd1 : (upd H dn (dO P w dn [])) dn = some (dO P w dn (kvO [])) := zB
   have hfz1 : Fz (upd H0 dn (.lst [])) (upd H dn (dO P w dn [])) := fun b h => by
     obtain ⟨e, h⟩ := yQ h
     rw [zJ e]; exact hfz b h
   have hkn1 : KnO P w ts (upd H0 dn (.lst [])) (upd H dn (dO P w dn [])) kk := (hkn.dn hdn).mono fun d kvs _ r => rd_fr (Fr.of (M := []) s0) (by intro e; cases e) r
   have h0n : H0 dn = none := hfz dn hdn
   have less : ∀ d, (upd H0 dn (.lst [])) d = none → H0 d = none := fun d h => (yQ h).2
   have h0d : (upd H0 dn (.lst [])) dn ≠ none := by rw [zB]; intro z; cases z
   generalize upd H dn (dO P w dn []) = H1 at s0 hd1 hdtG hgt hfz1 hkn1
   generalize upd H0 dn (.lst []) = H00 at hfz1 hkn1 less h0d
   have ndk : dn ≠ dk := Ne.symm (zG hdk hdn)
   have hbn := bO_pos n
   have h6 := p6_le (n := n) (by omega)
   have hcg : cG (n + 1) = 1 + 6 * cG n := rfl
   refine for_listR (xs := xs) (fun i σ G => ∃ u4 u5 u6 u7 u8 ac kk', σ = [some (.ref dt), some (.str tt.1), some (.ref dk), some (.ref dn), u4, u5, u6, u7, u8] ∧ Go P w H0 [dk] H G ∧ G dn = some (dO P w dn (kvO ac)) ∧ ac = ((tt.2.zip Ls).take i).foldl (fun a pl => mgO a pl.1.1 pl.2) [] ∧ OB ac (i * 6 ^ n) (i * 6 ^ n * (2 * 10 ^ 18 * bO n)) ∧ G dk = some (.dK kk') ∧ KnO P w ts H00 G kk' ∧ kk'.length ≤ kk.length + i * cG n ∧ Fz H00 G) ⟨_, _, _, _, _, [], kk, rfl, Go.of s0, hd1, rfl, ⟨Nat.zero_le _, fun p hp => by cases hp⟩, s0 _ _ hdk, hkn1, Nat.le_add_right .., hfz1⟩ (fun i σ G _ hw => ?_) (fun i x σ G hxi hw => ?_) (fun σ G hw => ?_)
   · obtain ⟨_, _, _, _, _, ac, kk', rfl, F, _⟩ := hw
     exact SqL.of (F.stay hl (ni1 nlk) (by intro φ z; cases z) (by intro ob u z; cases z))
   · obtain ⟨u4, u5, u6, u7, u8, ac, kk', rfl, F, hko, hac, hob, hkd, hknG, hklG, hfzG⟩ := hw
     obtain ⟨p, hpi, tq, rfl, htq⟩ := zS hxs hxi
     obtain ⟨l, hli, hcase⟩ := zS hLs hpi
     have hi : i < tt.2.length := (List.getElem?_eq_some_iff.mp hpi).1
     have hp1 := g2 p (List.mem_of_getElem? hpi)
     have kpG : Kp H G := F.kp hdk
     have hdtG2 : G dt = some (.dK rows) := F.stay hdt (ni1 ntk) (by intro φ z; cases z) (by intro ob u z; cases z)
     have hzi : (tt.2.zip Ls)[i]? = some (p, l) := by rw [List.getElem?_zip_eq_some]; exact ⟨hpi, hli⟩
     have hic : i * cG n + cG n ≤ 6 * cG n := by
       have := Nat.mul_le_mul_right (cG n) (show i + 1 ≤ 6 by omega)
       rw [Nat.succ_mul] at this; exact this
     have hOl : OB l (6 ^ n) (bO n) := by
       rcases hcase with ⟨_, rfl⟩ | ⟨y, _, ⟨_, rfl⟩ | ⟨_, _, h⟩⟩
       · exact ⟨Nat.pow_pos (by decide), fun p hp => by rw [List.mem_singleton.mp hp]; exact hbn⟩
       · exact ⟨Nat.pow_pos (by decide), fun p hp => by rw [List.mem_singleton.mp hp]; exact hbn⟩
       · exact h
     refine ⟨tq, _, rfl, SqT.of (kpG _ _ htq (.inl ⟨_, rfl⟩)), rfl, _, _, rfl, _, _, rfl, rfl, ?_⟩
     dsimp only [gName, List.set_cons_succ, List.set_cons_zero]
     refine yR (fun σ' G' => ∃ d kk2, σ' = [some (.ref dt), some (.str tt.1), some (.ref dk), some (.ref dn), some (.int p.1), some (nv p.2), some (.ref d), u7, u8] ∧ Go P w H0 [dk] H G' ∧ G' dn = some (dO P w dn (kvO ac)) ∧ d ≠ dn ∧ H00 d = none ∧ Rd G' d (dO P w d (kvO l)) ∧ G' dk = some (.dK kk2) ∧ KnO P w ts H00 G' kk2 ∧ kk2.length ≤ kk.length + (i + 1) * cG n ∧ Fz H00 G') (fun σ' G' hR => ?_) (fun _ hkR => ?_)
     · obtain ⟨d, kk2, rfl, F', hko', ndd, hdH, hd', hkd', hkn', hkl', hfz'⟩ := hR
       refine ⟨_, rfl, d, _, rfl, hd', fun o en => ?_⟩
       have ndk2 : d ≠ dk := rd_ne hd' hkd'
       have gf := Go.frz (M := []) hd' hdH o
       have F2 : Go P w H0 [dk] H (upd G' d (.frz o (dO P w d (kvO l)))) := F'.trans (Go.less (Go.frz hd' hdH o) less)
       have hko2 : (upd G' d (.frz o (dO P w d (kvO l)))) dn = some (dO P w dn (kvO ac)) := by rw [zJ (Ne.symm ndd)]; exact hko'
       have hkd2 : (upd G' d (.frz o (dO P w d (kvO l)))) dk = some (.dK kk2) := by rw [zJ (Ne.symm ndk2)]; exact hkd'
       have hkn2 : KnO P w ts H00 (upd G' d (.frz o (dO P w d (kvO l)))) kk2 := hkn'.mono fun b kvs h0 r => gf.rd r (by intro e; cases e)
       have hfz2 : Fz H00 (upd G' d (.frz o (dO P w d (kvO l)))) := fun b h => hfz' b (yQ h).2
       have hF : (upd G' d (.frz o (dO P w d (kvO l)))) d = some (.frz o (dO P w d (kvO l))) := zB
       generalize upd G' d (.frz o (dO P w d (kvO l))) = G2 at F2 hko2 hkd2 hF hkn2 hfz2
       refine for_itemsO (kvs := kvO l) en (fun j σ G3 => ∃ u7 u8 ac', σ = [some (.ref dt), some (.str tt.1), some (.ref dk), some (.ref dn), some (.int p.1), some (nv p.2), some (.ref d), u7, u8] ∧ Fr [dn] G2 G3 ∧ G3 dn = some (dO P w dn (kvO ac')) ∧ ac' = (l.take j).foldl (adO p.1) ac ∧ OB ac' (i * 6 ^ n + j) ((i * 6 ^ n + j) * (2 * 10 ^ 18 * bO n))) ⟨_, _, ac, rfl, Fr.of (Same.refl _), hko2, rfl, hob⟩ (fun j σ G3 _ hw => ?_) (fun j kv σ G3 hkj hw Tt hT => ?_) (fun σ G3 hw => ?_)
       · obtain ⟨_, _, ac', rfl, F3, _⟩ := hw
         exact F3 _ _ hF (ni1 ndd)
       · obtain ⟨u7', u8', ac', rfl, F3, hko3, hac', hob'⟩ := hw
         obtain ⟨qt, hqj, rfl⟩ := kv_at hkj
         have sT := zI hT (.tup [oV (kO qt.1), V.int qt.2])
         have hko4 := sT _ _ hko3
         have F4 := F3.trans (Fr.of sT)
         refine ⟨Tt, _, rfl, SqT.of zB, rfl, _, _, rfl, _, _, rfl, rfl, ?_⟩
         dsimp only
         generalize upd G3 Tt (.tup [oV (kO qt.1), V.int qt.2]) = G4 at F4 hko4
         have hjl : j < l.length := (List.getElem?_eq_some_iff.mp hqj).1
         have hOl1 := hOl.1
         have hq2 := hOl.2 qt (List.mem_of_getElem? hqj)
         have e7 : (p.1 * qt.2).natAbs ≤ 2 * 10 ^ 18 * bO n := by
           rw [Int.natAbs_mul]
           exact Nat.mul_le_mul hp1 hq2
         have hm := hob'.get qt.1
         have hi6 : i * 6 ^ n + j + 1 ≤ 6 ^ (n + 1) := by
           have := Nat.mul_le_mul_right (6 ^ n) (show i + 1 ≤ 6 by omega)
           rw [Nat.succ_mul] at this
           rw [Nat.pow_succ]; omega
         have hb6 : bO (n + 1) ≤ bO 6 := bO_le hn6
         have hbs : (i * 6 ^ n + j + 1) * (2 * 10 ^ 18 * bO n) ≤ bO (n + 1) := Nat.mul_le_mul_right _ hi6
         have hsm : (i * 6 ^ n + j + 1) * (2 * 10 ^ 18 * bO n) = (i * 6 ^ n + j) * (2 * 10 ^ 18 * bO n) + 2 * 10 ^ 18 * bO n := Nat.succ_mul _ _
         have hpow : 6 ^ (n + 1) ≤ 46656 := p6_le hn6
         have hbn6 : bO n ≤ bO 6 := bO_le (by omega)
         have hsum := Int.natAbs_add_le (gtO ac' qt.1) (p.1 * qt.2)
         generalize 2 * 10 ^ 18 * bO n = cc at hsm hbs e7 hm hob' hob
         dsimp only [gName, List.set_cons_succ, List.set_cons_zero]
         refine ⟨_, rfl, dn, _, rfl, .inl hko4, _, rfl, _, kO qt.1, .inl hko4, rfl, ?_⟩
         rw [kvO_get]
         refine ⟨_, rfl, _, rfl, _, _, rfl, rfl, ⟨ibq (Nat.le_trans hp1 (by symm)), ibq (by omega)⟩, _, _, rfl, rfl, ?_⟩
         have hlen : (kvO ac').length < sizeLine := by
           unfold kvO
           rw [List.length_map, sizeLine_eq]
           have := hob'.1
           omega
         refine ⟨_, rfl, _, rfl, dn, _, kO qt.1, rfl, rfl, hko4, hlen, ?_⟩
         rw [kvO_put]
         refine ⟨_, _, adO p.1 ac' qt, rfl, F4.upd (List.mem_singleton.mpr rfl) _, zB, ?_, ?_⟩
         · rw [zX hqj, List.foldl_append, hac']; rfl
         · refine hob'.put ?_ ?_
           · show _ ≤ (i * 6 ^ n + (j + 1)) * cc
             rw [← Nat.add_assoc, hsm]
             omega
           · exact Nat.mul_le_mul_right _ (by omega)
       · obtain ⟨u7', u8', ac', rfl, F3, hko3, hac', hob'⟩ := hw
         have hkl : (kvO l).length = l.length := List.length_map ..
         rw [hkl] at hac' hob'
         rw [List.take_length] at hac'
         have F5 : Go P w H0 [dk] H G3 := F2.fr F3 hdn
         refine ⟨_, _, _, _, _, ac', kk2, rfl, F5, hko3, ?_, ?_, F3 _ _ hkd2 (ni1 (Ne.symm ndk)), ?_, hkl', ?_⟩
         · rw [zX hzi, List.foldl_append, ← hac, hac']; rfl
         · refine hob'.le ?_ (Nat.mul_le_mul_right _ ?_)
           · rw [Nat.succ_mul]; have := hOl.1; omega
           · rw [Nat.succ_mul]; have := hOl.1; omega
         · exact hkn2.mono fun b kvs h0 r => rd_fr F3 (ni1 fun e => h0d (by rw [← e]; exact h0)) r
         · intro b hb
           by_cases e : b = dn
           · subst e; rw [hko3] at hb; cases hb
           · exact hfz2 b (fr_none F3 (ni1 e) hb)
     · have hyes : ∀ y, p.2 = some y → (valV rows (.inr y)).isSome = decide (y ∈ ts.map (·.1)) := fun y _ => rw_in hrw y
       have alone : l = [(p.2, 1)] → ∀ pd, G pd = none → ∀ k, nv p.2 = oV k → ∃ d kk2, [some (.ref dt), some (.str tt.1), some (.ref dk), some (.ref dn), some (.int p.1), some (nv p.2), some (.ref pd), u7, u8] = [some (V.ref dt), some (.str tt.1), some (.ref dk), some (.ref dn), some (.int p.1), some (nv p.2), some (.ref d), u7, u8] ∧ Go P w H0 [dk] H (upd G pd (dO P w pd [(kO p.2, .int 1)])) ∧ (upd G pd (dO P w pd [(kO p.2, .int 1)])) dn = some (dO P w dn (kvO ac)) ∧ d ≠ dn ∧ H00 d = none ∧ Rd (upd G pd (dO P w pd [(kO p.2, .int 1)])) d (dO P w d (kvO l)) ∧ (upd G pd (dO P w pd [(kO p.2, .int 1)])) dk = some (.dK kk2) ∧ KnO P w ts H00 (upd G pd (dO P w pd [(kO p.2, .int 1)])) kk2 ∧ kk2.length ≤ kk.length + (i + 1) * cG n ∧ Fz H00 (upd G pd (dO P w pd [(kO p.2, .int 1)])) := fun el pd hpd k _ => by
         have sP := zI hpd (dO P w pd [(kO p.2, .int 1)])
         refine ⟨pd, kk', rfl, F.trans (Go.of sP), sP _ _ hko, Ne.symm (zG hko hpd), hfzG _ hpd, ?_, sP _ _ hkd, hknG.mono fun b kvs _ r => rd_fr (Fr.of (M := []) sP) (by intro e; cases e) r, ?_, fun b h => hfzG b (yQ h).2⟩
         · rw [el]; exact .inl zB
         · rw [Nat.succ_mul]; omega
       rcases hcase with ⟨ey, el⟩ | ⟨y, ey, ⟨hnot, el⟩ | ⟨hin, hgy, hoy⟩⟩
       · have al := alone (by rw [ey]; exact el)
         rw [ey] at al hkR ⊢
         refine ⟨_, rfl, _, rfl, .inr ⟨dt, _, rfl, rfl, .inl hdtG2, _, rfl, iteF fun pd hpd => ⟨_, rfl, zB, none, rfl, ?_⟩⟩⟩
         rw [yY]
         exact hkR _ _ (al pd hpd none rfl)
       · have al := alone (by rw [ey]; exact el)
         have hy2 := hyes y ey
         rw [decide_eq_false hnot] at hy2
         rw [ey] at al hkR ⊢
         refine ⟨_, rfl, _, rfl, .inl ⟨dt, _, rfl, DGet.k (k := .inr y) hdtG2, _, rfl, ?_⟩⟩
         rw [hy2]
         refine iteF fun pd hpd => ⟨_, rfl, zB, some (.inr y), rfl, ?_⟩
         rw [yY]
         exact hkR _ _ (al pd hpd (some (.inr y)) rfl)
       · have hy2 := hyes y ey
         rw [decide_eq_true hin] at hy2
         rw [ey]
         rw [ey] at hkR
         refine ⟨_, rfl, _, rfl, .inl ⟨dt, _, rfl, DGet.k (k := .inr y) hdtG2, _, rfl, ?_⟩⟩
         rw [hy2]
         refine iteT ⟨_, rfl, _, rfl, _, rfl, dt, dk, y, rows, ts, l, kk', H00, rfl, by omega, ntk, hdtG2, zD hrw fun _ _ r => r.kp kpG, hG, hgy, hkd, hknG, by omega, hfzG, fun d kk2 G' F' hd hd' hkd' hkn' hkl' => ?_⟩
         have hko' : G' dn = some (dO P w dn (kvO ac)) := by
           rcases F' _ _ hko (ni1 ndk) with h | ⟨h, _⟩
           · exact h
           · exact absurd h h0d
         refine hkR _ _ ⟨d, kk2, rfl, F.trans (F'.less less), hko', fun e => h0d (by rw [← e]; exact hd), hd, hd', hkd', hkn', ?_, F'.fz hkd' hfzG⟩
         rw [Nat.succ_mul]; omega
   · obtain ⟨u4, u5, u6, u7, u8, ac, kk', rfl, F, hko, hac, hob, hkd, hknG, hklG, hfzG⟩ := hw
     have hz : (tt.2.zip Ls).take xs.length = tt.2.zip Ls := List.take_of_length_le (by rw [List.length_zip]; omega)
     rw [hz] at hac
     have h6c : xs.length * cG n ≤ 6 * cG n := Nat.mul_le_mul_right _ (by omega)
     refine ⟨_, rfl, _, rfl, _, rfl, dk, _, rfl, DPut.k (k := .inr tt.1) hkd (by rw [sizeLine_eq]; omega), ?_⟩
     have gu : Go P w H0 [dk] G (upd G dk (.dK (putK kk' (.inr tt.1) (.ref dn)))) := (Go.of (Same.refl _)).upd (List.mem_singleton.mpr rfl) _
     have hdn' : (upd G dk (.dK (putK kk' (.inr tt.1) (.ref dn)))) dn = some (dO P w dn (kvO ac)) := by rw [zJ ndk]; exact hko
     refine hkk _ _ ⟨_, _, _, _, _, _, dn, _, rfl, F.trans gu, h0n, ?_, zB, ?_, (by rw [valV_put, if_pos rfl]), Nat.le_trans (length_putK ..) (by omega)⟩
     · rw [← hac]; exact .inl hdn'
     · intro kv hkv
       rcases mem_putK hkv with h | rfl
       · obtain ⟨z, d, t, m, e, h0, r, g⟩ := hknG kv h
         exact ⟨z, d, t, m, e, less _ h0, gu.rd r (ni1 (rd_ne r hkd)), g⟩
       · exact ⟨tt.1, dn, ac, n + 1, rfl, h0n, .inl hdn', by rw [hac]; exact hgz0⟩
end
end K31
set_option maxHeartbeats 4000000
namespace K31
open PySem L2
seal PE PT PW PA PS PSs PG PGs PI PO PSet OpR UnR CallR TruR IxR SlR PC PPs
local macro_rules | `(tactic| walk_at "rd1") => `(tactic| first
 | (refine And.intro rfl ?_)
 | (refine And.intro (by assumption) ?_)
 | (refine And.intro (fun _ e => e) ?_)
 | (refine And.intro (TyOf.str _) ?_) | (refine And.intro (TyOf.int _) ?_) | (refine And.intro (TyOf.bl _) ?_) | (refine And.intro TyOf.non ?_)
 | (refine iteT ?_) | (refine iteF ?_)
 | (apply Exists.intro))
local macro_rules | `(tactic| walk_at "rd") => `(tactic| repeat (walk_at "rd1"))
def trF (p : Option Str × Int) : Option Part := match p.1 with
 | some y => if p.2 = 0 then none else some (p.2, some y)
 | none => none
def trm (t : OT) : List Part := t.filterMap trF
def qsO (t : OT) : List Str := t.filterMap (·.1)
def spPut (A : Adr) : Sp := fun vs H Q _ => ∃ a da u q1 q2 ts z t, vs = [.ref a, .str z] ∧ H a = some (oPa A da u q1 q2) ∧ TsR H q2 ts ∧ GTs ts ∧ Gz ts 6 z t ∧ t.length ≤ 46656 ∧
 ∀ T l xs H', Same H H' → H T = none → H l = none → T ≠ l → H' T = some (.tup [.ref l, .int (gtO t none)]) → H' l = some (.lst xs) → Paired (PtR H') xs (trm t) → Q (.ref T) H'
def spQO (A : Adr) : Sp := fun vs H Q _ => ∃ a da u q1 q2 ts z t, vs = [.ref a, .str z] ∧ H a = some (oPa A da u q1 q2) ∧ TsR H q2 ts ∧ GTs ts ∧ Gz ts 6 z t ∧ t.length ≤ 46656 ∧
 ∀ l H', Same H H' → H l = none → H' l = some (.lst ((qsO t).map V.str)) → Q (.ref l) H'
section
variable {P : Program} {w : World} {K : W.Frag} {mg : Str → Option Value} {base : Heap} {A : Adr}
theorem ok_put_together (T : Txt K mg A) : FnOk P w K mg base CX0 8 A.f_put_together A.d_put_together ["paper", "name"] (spPut A) := by
 have G_gathered := ok_gathered (P := P) (w := w) (base := base) T 6
 refine T.F_put_together.ok sc_put_together (fun vs H Q E h => ?_) (fun cdv A0 outer s H vs Q E hr h => ?_)
 · obtain ⟨a, da, u, q1, q2, ts, z, t, rfl, _⟩ := h
   rfl
 obtain ⟨a, da, u, q1, q2, ts, z, t, rfl, ha, ⟨tx, hx, hxt⟩, hG, hgz, hz, q⟩ := h
 refine ⟨_, (zF (zW (i := 2) sc_put_together.nd rfl (by first | exact Or.inl rfl | exact Or.inr rfl) (zM G_gathered (hr.mono (by first | decide | omega)) rfl T.m_gathered T.k_gathered T.b_gathered .nil zP (zA (yO (call_dict_pairs rfl) (by rfl) T.n_dict Bt.dict (zA (pe_fld (pv 0) rfl) zC)) (zA (pv 1) (zA pe_dnewK zC)))))
     (zF (ps_compT (i := 3) sc_put_together.nd rfl (by first | exact Or.inl rfl | exact Or.inr rfl) (compOk2_of (yF (x := "question") (M := ["paper", "name", "often", "terms"]) rfl (by rfl)) (by rfl) (by symm)) rfl (pi_itemsP (P := P) (w := w) rfl rfl (pv 2)) (fun _ _ _ _ => (pifs_one (PW.pt (pw_and (zO op_notN (pv 0) yV (zY _)) (pw_and1 (zO op_ne (pv 1) zE (zY _))))))) (fun _ _ _ _ => (pe_tup (zA (pv 1) (zA (pv 0) zC)))))
     (zH (zR (pe_tup (zA (pv 3) (zA (pe_dget2P (P := P) (w := w) rfl rfl (pv 2) yV zE ⟨rfl, rfl, rfl, rfl⟩) zC))))))), ?_⟩
 obtain ⟨rows, hpr, hrw⟩ := rows_mk hxt
 refine ⟨_, rfl, a, _, da, _, _, rfl, ha, T.cl_Paper, T.no_Paper_totals, rfl, q2, tx, rows, rfl, hx, hpr, fun dt hdt => ?_⟩
 rw [mkD_nd (rw_nd hrw hG.1)]
 have s0 := zI hdt (.dK rows)
 refine ⟨_, rfl, fun dk hdk => ?_⟩
 have s1 := zI hdk (.dK [])
 have s2 := s0.trans s1
 have hdkN : H dk = none := yP s0 hdk
 have ntk : dt ≠ dk := fun e => by rw [← e, zB] at hdk; cases hdk
 refine ⟨dt, dk, z, rows, ts, t, [], H, rfl, Nat.le_refl _, ntk, s1 _ _ zB, zD hrw fun _ _ r => r.kp (.of s2), hG, hgz, zB, (fun kv h => by cases h), by decide, (fun b h => yP s2 h), fun d kk H1 F hd hd1 hkd hkn hkl => ?_⟩
 have sH : Same H H1 := fun b o hb => by
   rcases F _ _ (s2 _ _ hb) (ni1 (zG hb hdkN)) with h | ⟨h, _⟩
   · exact h
   · rw [hb] at h; cases h
 dsimp only [gName, List.set_cons_succ, List.set_cons_zero]
 refine ⟨_, rfl, d, _, rfl, hd1, fun o en => ?_⟩
 have sF : Same H (upd H1 d (.frz o (dO P w d (kvO t)))) := fun b ob hb => by rw [zJ (zG hb hd)]; exact sH _ _ hb
 have hF : (upd H1 d (.frz o (dO P w d (kvO t)))) d = some (.frz o (dO P w d (kvO t))) := zB
 generalize upd H1 d (.frz o (dO P w d (kvO t))) = G1 at sF hF
 have kl : (kvO t).length = t.length := List.length_map ..
 refine comp_itemsO (kvs := kvO t) en (zL (m := 46656) (by omega)) (fun i ys G' => Same G1 G' ∧ Paired (PtR G') ys (trm (t.take i))) ⟨Same.refl _, .nil⟩ (fun i ys G' hw => hw.1 _ _ hF) (fun i kv ys G' hki _ hw Tt hT => ?_) (fun ys G' hw p hp => ?_)
 · obtain ⟨sG, hys⟩ := hw
   obtain ⟨qt, hqi, rfl⟩ := kv_at hki
   have sT := zI hT (.tup [oV (kO qt.1), V.int qt.2])
   have s3 := sG.trans sT
   dsimp only
   generalize upd G' Tt (.tup [oV (kO qt.1), V.int qt.2]) = G2 at sT s3
   have e0 : trm (t.take (i + 1)) = trm (t.take i) ++ (trF qt).toList := by
     unfold trm
     rw [zX hqi, List.filterMap_append, List.filterMap_cons]
     cases trF qt <;> rfl
   have hys2 : Paired (PtR G2) ys (trm (t.take i)) := zD hys fun _ _ r => r.kp (.of sT)
   rw [e0]
   obtain ⟨y, x⟩ := qt
   cases y with
   | none =>
     refine ⟨_, rfl, rfl, _, rfl, iteF ?_⟩
     exact iteO rfl ⟨s3, by rw [show trF (none, x) = none from rfl]; simpa using hys2⟩
   | some y =>
     refine ⟨_, rfl, rfl, _, rfl, iteT ⟨_, rfl, rfl, _, rfl, ?_⟩⟩
     by_cases c : x = 0
     · subst c
       refine iteO rfl ⟨s3, by rw [show trF (some y, 0) = none from rfl]; simpa using hys2⟩
     · refine iteB (by rw [decide_eq_false (fun z => c (V.int.inj z))]; rfl) ⟨_, rfl, _, rfl, (by show 2 ≤ sizeLine; decide), fun a2 ha2 => ?_⟩
       have s4 := zI ha2 (.tup [.int x, .str y])
       refine ⟨s3.trans s4, ?_⟩
       rw [show trF (some y, x) = some (x, some y) from if_neg c]
       exact yG (zD hys2 fun _ _ r => r.kp (.of s4)) (.cons ⟨a2, rfl, zB⟩ .nil)
 · obtain ⟨sG, hys⟩ := hw
   rw [kl, List.take_length] at hys
   have s5 := zI hp (.lst ys)
   have hd5 := s5 _ _ (sG _ _ hF)
   dsimp only [gName, List.set_cons_succ, List.set_cons_zero]
   refine ⟨_, rfl, _, rfl, d, _, rfl, .inr ⟨o, hd5⟩, _, none, .inr ⟨o, hd5⟩, rfl, ?_⟩
   rw [show (none : Option Key) = kO none from rfl, kvO_get]
   refine ⟨(by show 2 ≤ sizeLine; decide), fun T2 hT2 => ?_⟩
   have s6 := zI hT2 (.tup [.ref p, .int (gtO t none)])
   have sHG := sF.trans sG
   refine q T2 p ys _ ((sHG.trans s5).trans s6) (yP (sHG.trans s5) hT2) (yP sHG hp) (fun e => by rw [e, zB] at hT2; cases hT2) zB (s6 _ _ zB) (zD hys fun _ _ r => r.kp (.of (s5.trans s6)))
theorem ok_questions_of (T : Txt K mg A) : FnOk P w K mg base CX0 8 A.f_questions_of A.d_questions_of ["paper", "name"] (spQO A) := by
 have G_gathered := ok_gathered (P := P) (w := w) (base := base) T 6
 refine T.F_questions_of.ok sc_questions_of (fun vs H Q E h => ?_) (fun cdv A0 outer s H vs Q E hr h => ?_)
 · obtain ⟨a, da, u, q1, q2, ts, z, t, rfl, _⟩ := h
   rfl
 obtain ⟨a, da, u, q1, q2, ts, z, t, rfl, ha, ⟨tx, hx, hxt⟩, hG, hgz, hz, q⟩ := h
 refine ⟨_, (zH (zR (pe_compF (yF (x := "question") (M := ["paper", "name"]) rfl (by rfl)) rfl (pi_dictP (P := P) (w := w) rfl rfl (zM G_gathered (hr.mono (by first | decide | omega)) rfl T.m_gathered T.k_gathered T.b_gathered .nil zP (zA (yO (call_dict_pairs rfl) (by rfl) T.n_dict Bt.dict (zA (pe_fld (pv 0) rfl) zC)) (zA (pv 1) (zA pe_dnewK zC))))) (fun _ _ _ _ => pifs_eqv (by exact (pifs_one (zO op_notN (pv 0) yV (zY _)))) (by dsimp only [compCx] <;> rfl)) (fun _ _ _ _ => pe_eqv (by exact (pv 0)) (by dsimp only [compCx] <;> rfl))))), ?_⟩
 obtain ⟨rows, hpr, hrw⟩ := rows_mk hxt
 refine ⟨_, rfl, a, _, da, _, _, rfl, ha, T.cl_Paper, T.no_Paper_totals, rfl, q2, tx, rows, rfl, hx, hpr, fun dt hdt => ?_⟩
 rw [mkD_nd (rw_nd hrw hG.1)]
 have s0 := zI hdt (.dK rows)
 refine ⟨_, rfl, fun dk hdk => ?_⟩
 have s1 := zI hdk (.dK [])
 have s2 := s0.trans s1
 have hdkN : H dk = none := yP s0 hdk
 have ntk : dt ≠ dk := fun e => by rw [← e, zB] at hdk; cases hdk
 refine ⟨dt, dk, z, rows, ts, t, [], H, rfl, Nat.le_refl _, ntk, s1 _ _ zB, zD hrw fun _ _ r => r.kp (.of s2), hG, hgz, zB, (fun kv h => by cases h), by decide, (fun b h => yP s2 h), fun d kk H1 F hd hd1 hkd hkn hkl => ?_⟩
 have sH : Same H H1 := fun b o hb => by
   rcases F _ _ (s2 _ _ hb) (ni1 (zG hb hdkN)) with h | ⟨h, _⟩
   · exact h
   · rw [hb] at h; cases h
 refine ⟨d, _, rfl, hd1, fun o en => ?_⟩
 have sF : Same H (upd H1 d (.frz o (dO P w d (kvO t)))) := fun b ob hb => by rw [zJ (zG hb hd)]; exact sH _ _ hb
 have hF : (upd H1 d (.frz o (dO P w d (kvO t)))) d = some (.frz o (dO P w d (kvO t))) := zB
 generalize upd H1 d (.frz o (dO P w d (kvO t))) = G1 at sF hF
 have kl : (kvO t).length = t.length := List.length_map ..
 refine comp_dictO (kvs := kvO t) en (zL (m := 46656) (by omega)) (fun i ys G' => G1 = G' ∧ ys = (qsO (t.take i)).map V.str) ⟨rfl, rfl⟩ (fun i ys G' hw => hw.1 ▸ hF) (fun i kv ys G' hki _ hw => ?_) (fun ys G' hw p hp => ?_)
 · obtain ⟨rfl, rfl⟩ := hw
   obtain ⟨qt, hqi, rfl⟩ := kv_at hki
   have e0 : qsO (t.take (i + 1)) = qsO (t.take i) ++ qt.1.toList := by
     unfold qsO
     rw [zX hqi, List.filterMap_append, List.filterMap_cons]
     cases qt.1 <;> rfl
   rw [e0]
   obtain ⟨y, x⟩ := qt
   cases y with
   | none =>
     refine ⟨_, rfl, rfl, _, rfl, iteF ⟨rfl, ?_⟩⟩
     simp
   | some y =>
     refine ⟨_, rfl, rfl, _, rfl, iteT ⟨_, rfl, rfl, ?_⟩⟩
     rw [List.map_append]; rfl
 · obtain ⟨rfl, rfl⟩ := hw
   rw [kl, List.take_length]
   exact q p _ (sF.trans (zI hp _)) (yP sF hp) zB
end
end K31
set_option maxHeartbeats 4000000
namespace K31
open PySem L2
seal PE PT PW PA PS PSs PG PGs PI PO PSet OpR UnR CallR TruR IxR SlR PC PPs
local macro_rules | `(tactic| walk_at "rd1") => `(tactic| first
 | (refine And.intro rfl ?_)
 | (refine And.intro (by assumption) ?_)
 | (refine And.intro (fun _ e => e) ?_)
 | (refine And.intro (TyOf.str _) ?_) | (refine And.intro (TyOf.int _) ?_) | (refine And.intro (TyOf.bl _) ?_) | (refine And.intro TyOf.non ?_)
 | (refine iteT ?_) | (refine iteF ?_)
 | (apply Exists.intro))
local macro_rules | `(tactic| walk_at "rd") => `(tactic| repeat (walk_at "rd1"))
def kyO (t : OT) : List (Option Str) := t.map (·.1)
theorem any_ky (t : OT) (q : Option Str) : (t.any fun p => decide (p.1 = q)) = decide (q ∈ kyO t) := by
 rw [Bool.eq_iff_iff, List.any_eq_true, decide_eq_true_iff]
 unfold kyO
 rw [List.mem_map]
 exact ⟨fun ⟨p, h, e⟩ => ⟨p, h, of_decide_eq_true e⟩, fun ⟨p, h, e⟩ => ⟨p, h, decide_eq_true e⟩⟩
theorem ky_put (t : OT) (q : Option Str) (x : Int) : kyO (ptO t q x) = if q ∈ kyO t then kyO t else kyO t ++ [q] := by
 unfold ptO
 rw [any_ky]
 by_cases c : q ∈ kyO t
 · rw [if_pos (decide_eq_true c), if_pos c]
   unfold kyO
   rw [List.map_map]
   refine List.map_congr_left fun p _ => ?_
   show (if p.1 = q then (p.1, x) else p).1 = p.1
   split <;> rfl
 · rw [if_neg (by rw [decide_eq_false c]; decide), if_neg c]
   unfold kyO
   rw [List.map_append]; rfl
theorem yZ (a : Option Str × Int) (r : OT) (q : Option Str) : gtO (a :: r) q = if a.1 = q then a.2 else gtO r q := by
 unfold gtO
 rw [List.find?_cons]
 by_cases c : a.1 = q
 · rw [decide_eq_true c, if_pos c]; rfl
 · rw [decide_eq_false c, if_neg c]
theorem gt_out {t : OT} {q : Option Str} (h : q ∉ kyO t) : gtO t q = 0 := by
 induction t with
 | nil => rfl
 | cons a r ih =>
   have h1 : ¬ a.1 = q := fun e => h (by rw [← e]; exact List.mem_cons_self ..)
   rw [yZ, if_neg h1]
   exact ih fun e => h (List.mem_cons_of_mem _ e)
theorem gt_app (t : OT) (a : Option Str × Int) (q : Option Str) (h : a.1 ∉ kyO t) : gtO (t ++ [a]) q = if q = a.1 then a.2 else gtO t q := by
 induction t with
 | nil =>
   show gtO [a] q = _
   rw [yZ]
   by_cases c : a.1 = q
   · rw [if_pos c, if_pos c.symm]
   · rw [if_neg c, if_neg (Ne.symm c)]
 | cons b r ih =>
   have h1 : ¬ b.1 = a.1 := fun e => h (by rw [← e]; exact List.mem_cons_self ..)
   rw [List.cons_append, yZ, yZ, ih fun e => h (List.mem_cons_of_mem _ e)]
   by_cases c : b.1 = q
   · rw [if_pos c, if_pos c, if_neg (fun e => h1 (c.trans e))]
   · rw [if_neg c, if_neg c]
theorem gt_map (q : Option Str) (x : Int) (q' : Option Str) : ∀ t : OT, q ∈ kyO t → gtO (t.map fun p => if p.1 = q then (p.1, x) else p) q' = if q' = q then x else gtO t q'
 | [], h => by cases h
 | a :: r, h => by
   rw [List.map_cons, yZ, yZ]
   by_cases c : a.1 = q
   · rw [if_pos c]
     by_cases d : a.1 = q'
     · rw [if_pos d, if_pos (d.symm.trans c)]
     · rw [if_neg d, if_neg d]
       have ne : ¬ q' = q := fun e => d (c.trans e.symm)
       rw [if_neg ne]
       by_cases hm : q ∈ kyO r
       · rw [gt_map q x q' r hm, if_neg ne]
       · congr 1
         have : ∀ p ∈ r, (if p.1 = q then (p.1, x) else p) = p := fun p hp => if_neg fun e => hm (List.mem_map.mpr ⟨p, hp, e⟩)
         rw [List.map_congr_left this, List.map_id']
   · rw [if_neg c]
     have hm : q ∈ kyO r := by
       rcases List.mem_cons.mp h with e | e
       · exact absurd e.symm c
       · exact e
     by_cases d : a.1 = q'
     · rw [if_pos d, if_pos d, if_neg (fun e => c (d.trans e))]
     · rw [if_neg d, if_neg d, gt_map q x q' r hm]
theorem gt_put (t : OT) (q : Option Str) (x : Int) (q' : Option Str) : gtO (ptO t q x) q' = if q' = q then x else gtO t q' := by
 unfold ptO
 rw [any_ky]
 by_cases c : q ∈ kyO t
 · rw [if_pos (decide_eq_true c), gt_map q x q' t c]
 · rw [if_neg (by rw [decide_eq_false c]; decide), gt_app t (q, x) q' c]
theorem nd_put {t : OT} (h : (kyO t).Nodup) (q : Option Str) (x : Int) : (kyO (ptO t q x)).Nodup := by
 rw [ky_put]
 split
 · exact h
 · rename_i c
   rw [List.nodup_append]
   exact ⟨h, List.nodup_cons.mpr ⟨by simp, List.nodup_nil⟩, fun a ha b hb e => c (by rw [← List.mem_singleton.mp hb, ← e]; exact ha)⟩
theorem nd_mg (m : Int) : ∀ {l t : OT}, (kyO t).Nodup → (kyO (mgO t m l)).Nodup
 | [], _, h => h
 | a :: l, t, h => nd_mg m (l := l) (t := adO m t a) (nd_put h _ _)
theorem gt_mg (m : Int) (q : Option Str) : ∀ {l t : OT}, (kyO l).Nodup → gtO (mgO t m l) q = gtO t q + m * gtO l q
 | [], t, _ => by
   show gtO t q = gtO t q + m * gtO [] q
   rw [show gtO [] q = 0 from rfl, Int.mul_zero, Int.add_zero]
 | a :: l, t, h => by
   obtain ⟨h1, h2⟩ := List.nodup_cons.mp (show (a.1 :: kyO l).Nodup from h)
   show gtO (mgO (adO m t a) m l) q = _
   rw [gt_mg m q h2, yZ]
   unfold adO
   rw [gt_put]
   by_cases c : a.1 = q
   · rw [if_pos c.symm, if_pos c]
     rw [c] at h1 ⊢
     rw [gt_out h1, Int.mul_zero, Int.add_zero]
   · rw [if_neg (Ne.symm c), if_neg c]
theorem filt_add (l s : List (Option Str)) (a : Option Str) (h : a ∉ l) : l.filter (fun x => decide (x ∉ s ++ [a])) = l.filter (fun x => decide (x ∉ s)) := by
 refine List.filter_congr fun x hx => ?_
 rw [Bool.eq_iff_iff, decide_eq_true_iff, decide_eq_true_iff]
 exact ⟨fun k e => k (List.mem_append.mpr (.inl e)), fun k e => (List.mem_append.mp e).elim k fun e => h (by rw [← List.mem_singleton.mp e]; exact hx)⟩
theorem ky_mg (m : Int) : ∀ {l t : OT}, (kyO l).Nodup → kyO (mgO t m l) = kyO t ++ (kyO l).filter fun x => decide (x ∉ kyO t)
 | [], t, _ => by
   show kyO t = kyO t ++ []
   rw [List.append_nil]
 | a :: l, t, h => by
   obtain ⟨h1, h2⟩ := List.nodup_cons.mp (show (a.1 :: kyO l).Nodup from h)
   show kyO (mgO (adO m t a) m l) = _
   rw [ky_mg m h2]
   have e1 : kyO (adO m t a) = if a.1 ∈ kyO t then kyO t else kyO t ++ [a.1] := ky_put ..
   have e2 : kyO (a :: l) = a.1 :: kyO l := rfl
   rw [e1, e2, List.filter_cons]
   by_cases c : a.1 ∈ kyO t
   · rw [if_pos c, if_neg (by rw [decide_eq_true_iff]; exact fun k => k c)]
   · rw [if_neg c, if_pos (decide_eq_true c), filt_add _ _ _ h1, List.append_assoc]; rfl
theorem qs_ky (t : OT) : qsO t = (kyO t).filterMap id := by
 unfold qsO kyO
 rw [List.filterMap_map]; rfl
theorem fm_some {l : List (Option Str)} {y : Str} : y ∈ l.filterMap id ↔ some y ∈ l := by
 rw [List.mem_filterMap]
 exact ⟨fun ⟨a, h, e⟩ => by cases (show a = some y from e); exact h, fun h => ⟨some y, h, rfl⟩⟩
theorem fm_filter (s : List (Option Str)) : ∀ l : List (Option Str), (l.filter fun x => decide (x ∉ s)).filterMap id = (l.filterMap id).filter fun y => decide (y ∉ s.filterMap id)
 | [] => rfl
 | none :: l => by
   rw [List.filter_cons]
   split
   · rw [List.filterMap_cons, List.filterMap_cons]; exact fm_filter s l
   · rw [List.filterMap_cons]; exact fm_filter s l
 | some y :: l => by
   rw [List.filter_cons, List.filterMap_cons]
   show _ = (y :: l.filterMap id).filter _
   rw [List.filter_cons]
   have e : decide (some y ∉ s) = decide (y ∉ s.filterMap id) := by
     rw [Bool.eq_iff_iff, decide_eq_true_iff, decide_eq_true_iff]
     exact ⟨fun k e => k (fm_some.mp e), fun k e => k (fm_some.mpr e)⟩
   rw [e]
   split
   · rw [List.filterMap_cons]
     show y :: _ = _
     rw [fm_filter s l]
   · exact fm_filter s l
theorem qs_mg (m : Int) {l t : OT} (h : (kyO l).Nodup) : qsO (mgO t m l) = qsO t ++ (qsO l).filter fun y => decide (y ∉ qsO t) := by
 rw [qs_ky, ky_mg m h, List.filterMap_append, fm_filter, ← qs_ky, ← qs_ky]
theorem come_step {F0 a l : List Str} : (F0 ++ a.filter fun y => decide (y ∉ F0)) ++ (l.filter fun y => decide (y ∉ F0 ++ a.filter fun y => decide (y ∉ F0))) = F0 ++ (a ++ l.filter fun y => decide (y ∉ a)).filter fun y => decide (y ∉ F0) := by
 rw [List.append_assoc, List.filter_append, List.filter_filter]
 congr 2
 refine List.filter_congr fun y _ => ?_
 rw [Bool.eq_iff_iff, decide_eq_true_iff, Bool.and_eq_true, decide_eq_true_iff, decide_eq_true_iff]
 constructor
 · intro h
   have h0 : y ∉ F0 := fun e => h (List.mem_append.mpr (.inl e))
   exact ⟨h0, fun e => h (List.mem_append.mpr (.inr (List.mem_filter.mpr ⟨e, decide_eq_true h0⟩)))⟩
 · intro ⟨h0, ha⟩ e
   rcases List.mem_append.mp e with e | e
   · exact h0 e
   · exact ha (List.mem_filter.mp e).1
theorem OB.mg {X b' : Nat} {m : Int} (hX : m.natAbs * b' ≤ X) : ∀ {l t : OT} {c : Nat}, OB t c (c * X) → (∀ p ∈ l, p.2.natAbs ≤ b') → OB (mgO t m l) (c + l.length) ((c + l.length) * X)
 | [], _, _, h, _ => h
 | a :: l, t, c, h, hl => by
   have h1 : OB (adO m t a) (c + 1) ((c + 1) * X) := by
     refine h.put ?_ (Nat.mul_le_mul_right _ (Nat.le_succ _))
     have h2 := h.get a.1
     have h3 := Int.natAbs_add_le (gtO t a.1) (m * a.2)
     have h4 : (m * a.2).natAbs ≤ X := by
       rw [Int.natAbs_mul]
       exact Nat.le_trans (Nat.mul_le_mul_left _ (hl a (List.mem_cons_self ..))) hX
     rw [Nat.succ_mul]; omega
   have := OB.mg hX (l := l) h1 fun p hp => hl p (List.mem_cons_of_mem _ hp)
   rw [List.length_cons, show c + (l.length + 1) = c + 1 + l.length by omega]
   exact this
abbrev Mp := Int × Option Nat
abbrev Mad := List (List Mp)
def inn (nm : Nat → Str) (f : Nat → OT) (x : Mp) : OT := match x.2 with
 | none => [(none, 1)]
 | some k => if k < 20 then [(some (nm k), 1)] else f (k - 20)
def tb (nm : Nat → Str) (M : Mad) : Nat → Nat → OT
 | 0, _ => []
 | n + 1, own => (M.getD own []).foldl (fun a x => mgO a x.1 (inn nm (tb nm M n) x)) []
structure MG (m : Nat) (M : Mad) : Prop where
 few : m ≤ 8
 len : M.length ≤ 6
 row : ∀ own r, M[own]? = some r → r.length ≤ 6 ∧ ∀ x ∈ r, x.1.natAbs ≤ 2 * 10 ^ 18 ∧ ∀ k, x.2 = some k → k < m ∨ (20 + own < k ∧ k < 20 + M.length)
def Inj (nm : Nat → Str) : Prop := ∀ j k, j < 26 → k < 26 → nm j = nm k → j = k
def tsM (nm : Nat → Str) (M : Mad) : List Tot := M.zipIdx.map fun r => (nm (20 + r.2), r.1.map fun x => (x.1, x.2.map nm))
theorem tsM_at (nm : Nat → Str) (M : Mad) (i : Nat) : (tsM nm M)[i]? = (M[i]?).map fun r => (nm (20 + i), r.map fun x => (x.1, x.2.map nm)) := by
 unfold tsM
 rw [List.getElem?_map, List.getElem?_zipIdx]
 cases M[i]? with
 | none => rfl
 | some r => show some _ = some _; rw [Nat.zero_add]
theorem tsM_len (nm : Nat → Str) (M : Mad) : (tsM nm M).length = M.length := by unfold tsM; rw [List.length_map, List.length_zipIdx]
theorem tsM_in {nm : Nat → Str} (hi : Inj nm) {M : Mad} (hl : M.length ≤ 6) {k : Nat} (hk : k < 26) : nm k ∈ (tsM nm M).map (·.1) ↔ 20 ≤ k ∧ k < 20 + M.length := by
 constructor
 · intro h
   obtain ⟨t, ht, e⟩ := List.mem_map.mp h
   obtain ⟨i, h1⟩ := List.mem_iff_getElem?.mp ht
   rw [tsM_at] at h1
   obtain ⟨r, hr, rfl⟩ := Option.map_eq_some_iff.mp h1
   have li := (List.getElem?_eq_some_iff.mp hr).1
   have := hi _ _ (by omega) hk e
   omega
 · intro ⟨h1, h2⟩
   have hr : M[k - 20]? = some M[k - 20] := List.getElem?_eq_getElem (by omega)
   refine List.mem_map.mpr ⟨_, List.mem_of_getElem? (i := k - 20) (by rw [tsM_at, hr]; rfl), ?_⟩
   show nm (20 + (k - 20)) = nm k
   rw [show 20 + (k - 20) = k by omega]
theorem tsM_good {nm : Nat → Str} (hi : Inj nm) {m : Nat} {M : Mad} (g : MG m M) : GTs (tsM nm M) := by
 refine ⟨?_, fun t ht => ?_⟩
 · rw [List.nodup_iff_pairwise_ne, List.pairwise_iff_getElem]
   intro i j h1 h2 lt e
   rw [List.length_map, tsM_len] at h1 h2
   rw [List.getElem_map, List.getElem_map] at e
   have a1 : (tsM nm M)[i]? = some ((tsM nm M)[i]'(by rw [tsM_len]; exact h1)) := List.getElem?_eq_getElem _
   have a2 : (tsM nm M)[j]? = some ((tsM nm M)[j]'(by rw [tsM_len]; exact h2)) := List.getElem?_eq_getElem _
   rw [tsM_at, List.getElem?_eq_getElem h1] at a1
   rw [tsM_at, List.getElem?_eq_getElem h2] at a2
   rw [← Option.some.inj a1, ← Option.some.inj a2] at e
   have gl := g.len
   have := hi _ _ (by omega) (by omega) e
   omega
 · obtain ⟨i, h1⟩ := List.mem_iff_getElem?.mp ht
   rw [tsM_at] at h1
   obtain ⟨r, hr, rfl⟩ := Option.map_eq_some_iff.mp h1
   obtain ⟨g1, g2⟩ := g.row i r hr
   refine ⟨by rw [List.length_map]; exact g1, fun p hp => ?_⟩
   obtain ⟨x, hx, rfl⟩ := List.mem_map.mp hp
   exact (g2 x hx).1
theorem paired_map {α β γ : Type} {R : β → γ → Prop} {f : α → β} {g : α → γ} : ∀ {r : List α}, (∀ x ∈ r, R (f x) (g x)) → Paired R (r.map f) (r.map g)
 | [], _ => .nil
 | a :: r, h => .cons (h a (List.mem_cons_self ..)) (paired_map fun x hx => h x (List.mem_cons_of_mem _ hx))
theorem zip_maps {α β γ : Type} (f : α → β) (g : α → γ) : ∀ r : List α, (r.map f).zip (r.map g) = r.map fun a => (f a, g a)
 | [] => rfl
 | a :: r => by rw [List.map_cons, List.map_cons, List.zip_cons_cons, zip_maps f g r]; rfl
theorem nd_fold {nm : Nat → Str} {f : Nat → OT} : ∀ {r : List Mp} {a : OT}, (kyO a).Nodup → (kyO (r.foldl (fun a x => mgO a x.1 (inn nm f x)) a)).Nodup
 | [], _, h => h
 | x :: r, a, h => nd_fold (r := r) (nd_mg _ h)
theorem nd_tb (nm : Nat → Str) (M : Mad) : ∀ n own, (kyO (tb nm M n own)).Nodup
 | 0, _ => List.nodup_nil
 | n + 1, own => nd_fold List.nodup_nil
theorem nd_inn (nm : Nat → Str) (M : Mad) (n : Nat) (x : Mp) : (kyO (inn nm (tb nm M n) x)).Nodup := by
 unfold inn
 split
 · exact List.nodup_cons.mpr ⟨by simp, List.nodup_nil⟩
 · split
   · exact List.nodup_cons.mpr ⟨by simp, List.nodup_nil⟩
   · exact nd_tb ..
theorem ob_fold {nm : Nat → Str} {f : Nat → OT} {c b : Nat} : ∀ {r : List Mp} {a : OT} {i : Nat}, (∀ x ∈ r, x.1.natAbs ≤ 2 * 10 ^ 18 ∧ OB (inn nm f x) c b) → OB a (i * c) (i * c * (2 * 10 ^ 18 * b)) → OB (r.foldl (fun a x => mgO a x.1 (inn nm f x)) a) ((i + r.length) * c) ((i + r.length) * c * (2 * 10 ^ 18 * b))
 | [], _, _, _, h => h
 | x :: r, a, i, hr, h => by
   obtain ⟨h1, h2⟩ := hr x (List.mem_cons_self ..)
   have h3 := OB.mg (X := 2 * 10 ^ 18 * b) (b' := b) (m := x.1) (Nat.mul_le_mul_right _ h1) h h2.2
   have h4 : i * c + (inn nm f x).length ≤ (i + 1) * c := by rw [Nat.succ_mul]; have := h2.1; omega
   have h5 : OB (mgO a x.1 (inn nm f x)) ((i + 1) * c) ((i + 1) * c * (2 * 10 ^ 18 * b)) := h3.le h4 (Nat.mul_le_mul_right _ h4)
   have h6 := ob_fold (r := r) (fun y hy => hr y (List.mem_cons_of_mem _ hy)) h5
   rw [List.length_cons, show i + (r.length + 1) = i + 1 + r.length by omega]
   exact h6
theorem ob_inn {nm : Nat → Str} {M : Mad} {n : Nat} {x : Mp} (h : ∀ k, x.2 = some k → 20 ≤ k → OB (tb nm M n (k - 20)) (6 ^ n) (bO n)) : OB (inn nm (tb nm M n) x) (6 ^ n) (bO n) := by
 have one : ∀ q : Option Str, OB [(q, 1)] (6 ^ n) (bO n) := fun q => ⟨Nat.pow_pos (by decide), fun p hp => by rw [List.mem_singleton.mp hp]; exact bO_pos n⟩
 unfold inn
 split
 · exact one _
 · rename_i k hk
   split
   · exact one _
   · rename_i c
     exact h k hk (by omega)
theorem ob_tb {nm : Nat → Str} {m : Nat} {M : Mad} (g : MG m M) : ∀ n own, own < M.length → M.length ≤ own + n → OB (tb nm M n own) (6 ^ n) (bO n)
 | 0, own, h1, h2 => by omega
 | n + 1, own, h1, h2 => by
   have hr : M[own]? = some M[own] := List.getElem?_eq_getElem h1
   obtain ⟨g1, g2⟩ := g.row own _ hr
   have gf := g.few
   have e : M.getD own [] = M[own] := by rw [List.getD_eq_getElem?_getD, hr]; rfl
   have h3 := ob_fold (nm := nm) (f := tb nm M n) (c := 6 ^ n) (b := bO n) (r := M[own]) (a := []) (i := 0) (fun x hx => ⟨(g2 x hx).1, ob_inn fun k hk h20 => ?_⟩) ⟨Nat.zero_le _, fun p hp => by cases hp⟩
   · show OB ((M.getD own []).foldl _ []) _ _
     rw [e]
     have h4 : (0 + M[own].length) * 6 ^ n ≤ 6 ^ (n + 1) := by
       rw [Nat.pow_succ, Nat.mul_comm (6 ^ n)]
       exact Nat.mul_le_mul_right _ (by omega)
     exact h3.le h4 (Nat.mul_le_mul_right _ h4)
   · rcases (g2 x hx).2 k hk with h5 | h5
     · omega
     · exact ob_tb g n (k - 20) (by omega) (by omega)
theorem gz_tb {nm : Nat → Str} (hi : Inj nm) {m : Nat} {M : Mad} (g : MG m M) : ∀ n own, own < M.length → M.length ≤ own + n → Gz (tsM nm M) n (nm (20 + own)) (tb nm M n own)
 | 0, own, h1, h2 => by omega
 | n + 1, own, h1, h2 => by
   have hr : M[own]? = some M[own] := List.getElem?_eq_getElem h1
   obtain ⟨g1, g2⟩ := g.row own _ hr
   have gf := g.few
   have gl := g.len
   have e : M.getD own [] = M[own] := by rw [List.getD_eq_getElem?_getD, hr]; rfl
   refine ⟨(nm (20 + own), M[own].map fun x => (x.1, x.2.map nm)), List.mem_of_getElem? (i := own) (by rw [tsM_at, hr]; rfl), rfl, M[own].map (inn nm (tb nm M n)), paired_map fun x hx => ?_, ?_⟩
   · obtain ⟨_, g3⟩ := g2 x hx
     obtain ⟨x1, x2⟩ := x
     cases x2 with
     | none => exact .inl ⟨rfl, rfl⟩
     | some k =>
       refine .inr ⟨nm k, rfl, ?_⟩
       rcases g3 k rfl with h5 | h5
       · refine .inl ⟨fun hm => ?_, ?_⟩
         · have := (tsM_in hi gl (by omega)).mp hm
           omega
         · show (if k < 20 then _ else _) = _
           rw [if_pos (by omega)]
       · refine .inr ⟨(tsM_in hi gl (by omega)).mpr (by omega), ?_⟩
         have e2 : inn nm (tb nm M n) (x1, some k) = tb nm M n (k - 20) := if_neg (by omega)
         rw [e2]
         have := gz_tb hi g n (k - 20) (by omega) (by omega)
         rw [show 20 + (k - 20) = k by omega] at this
         exact ⟨this, ob_tb g n (k - 20) (by omega) (by omega)⟩
   · show (M.getD own []).foldl _ [] = _
     rw [e]
     show _ = ((M[own].map fun x : Mp => (x.1, x.2.map nm)).zip (M[own].map (inn nm (tb nm M n)))).foldl _ []
     rw [zip_maps, List.foldl_map]
theorem trm_is : ∀ {t : OT}, (kyO t).Nodup → trm t = ((qsO t).map fun y => (gtO t (some y), some y)).filter fun p : Part => decide (p.1 ≠ 0)
 | [], _ => rfl
 | (none, x) :: r, h => by
   obtain ⟨h1, h2⟩ := List.nodup_cons.mp (show (none :: kyO r).Nodup from h)
   have ih := trm_is h2
   show trm r = _
   rw [ih]
   show _ = ((qsO r).map fun y => (gtO ((none, x) :: r) (some y), some y)).filter _
   rw [List.map_congr_left (g := fun y => (gtO ((none, x) :: r) (some y), some y)) fun y _ => by rw [yZ, if_neg (by intro z; cases z)]]
 | (some z, x) :: r, h => by
   obtain ⟨h1, h2⟩ := List.nodup_cons.mp (show (some z :: kyO r).Nodup from h)
   have ih := trm_is h2
   have e1 : ((qsO r).map fun y => (gtO ((some z, x) :: r) (some y), some y)) = (qsO r).map fun y => (gtO r (some y), some y) := by
     refine List.map_congr_left fun y hy => ?_
     rw [yZ, if_neg (fun e => h1 ?_)]
     rw [show some z = some y from e, ← fm_some, ← qs_ky]; exact hy
   have e2 : qsO ((some z, x) :: r) = z :: qsO r := rfl
   rw [e2, List.map_cons, e1, yZ, if_pos rfl, List.filter_cons, ← ih]
   have e3 : trm ((some z, x) :: r) = (trF (some z, x)).toList ++ trm r := by
     unfold trm
     rw [List.filterMap_cons]
     cases trF (some z, x) <;> rfl
   rw [e3]
   by_cases c : x = 0
   · subst c
     rw [if_neg (fun h => absurd rfl (of_decide_eq_true h))]; rfl
   · rw [if_pos (decide_eq_true c), show trF (some z, x) = some (x, some z) from if_neg c]; rfl
end K31
set_option maxHeartbeats 4000000
namespace K31
open PySem L2
seal PE PT PW PA PS PSs PG PGs PI PO PSet OpR UnR CallR TruR IxR SlR PC PPs
local macro_rules | `(tactic| walk_at "rd1") => `(tactic| first
 | (refine And.intro rfl ?_)
 | (refine And.intro (by assumption) ?_)
 | (refine And.intro (fun _ e => e) ?_)
 | (refine And.intro (TyOf.str _) ?_) | (refine And.intro (TyOf.int _) ?_) | (refine And.intro (TyOf.bl _) ?_) | (refine And.intro TyOf.non ?_)
 | (refine iteT ?_) | (refine iteF ?_)
 | (apply Exists.intro))
local macro_rules | `(tactic| walk_at "rd") => `(tactic| repeat (walk_at "rd1"))
def spWhole (K : W.Frag) : Sp := fun vs H Q _ => ∃ n : Int, vs = [.int n] ∧ Q (.bl true) H
def spKd (A : Adr) : Sp := fun vs H Q _ => ∃ c : Int, vs = [.int c] ∧ 0 ≤ c ∧ c < 10 ^ 40 ∧ ∀ k x H', Same H H' → KxR A H' k x → x.G → Q (.ref k) H'
def mv : Option Nat → V
 | none => .non
 | some k => .int (k : Nat)
def PaG (own many sums : Nat) (x : Mp) : Prop := x.1.natAbs ≤ 2 * 10 ^ 18 ∧ ∀ k, x.2 = some k → k < many ∨ (20 + own < k ∧ k < 20 + sums)
def spPart : Sp := fun vs H Q _ => ∃ (c : Int) (own many sums : Nat), vs = [.int c, .int (own : Nat), .int (many : Nat), .int (sums : Nat)] ∧ 0 ≤ c ∧ c < 10 ^ 40 ∧ own < sums ∧ sums ≤ 6 ∧ 0 < many ∧ many ≤ 8 ∧
 ∀ T H' x, Same H H' → H' T = some (.tup [.int x.1, mv x.2]) → PaG own many sums x → Q (.ref T) H'
section
variable {P : Program} {w : World} {K : W.Frag} {mg : Str → Option Value} {base : Heap} {A : Adr}
theorem ok_law_whole (T : Txt K mg A) : FnOk P w K mg base CX0 1 A.f_law_whole A.d_law_whole ["_law_found"] (spWhole K) := by
 refine T.F_law_whole.ok sc_law_whole (fun vs H Q E h => ?_) (fun cdv A0 outer s H vs Q E hr h => ?_)
 · obtain ⟨x, rfl, _⟩ := h
   rfl
 obtain ⟨n, rfl, q⟩ := h
 refine ⟨_, (zH (zR (pe_and (zZ call_isi (by rfl) T.n_isinstance Bt.isinstance (zA (pv 0) (zA (pe_bltn (v := .ty "int") rfl T.n_int Bt.int rfl) zC))) (pe_one (pe_not (zZ call_isi (by rfl) T.n_isinstance Bt.isinstance (zA (pv 0) (zA (pe_bltn (v := .ty "bool") rfl T.n_bool Bt.bool rfl) zC)))))))), ?_⟩
 refine ⟨_, rfl, _, _, _, _, rfl, rfl, .old (.int _), T.i_int_int, _, rfl, iteT ?_⟩
 exact ⟨_, rfl, _, _, _, _, rfl, rfl, .old (.int _), T.i_int_bool, _, rfl, q⟩
theorem mk_same {H : Hp} {a dx : Addr} (o : HO) (nx : H a = none) (nd : H dx = none) : Same H (upd (upd H dx (.own a)) a o) := fun b u e => by
 rw [zJ (zG e nx), zJ (zG e nd)]; exact e
theorem p40 : (10 : Int) ^ 40 < 2 ^ 200 := by symm
theorem ok_law_kind (T : Txt K mg A) : FnOk P w K mg base CX0 5 A.f_law_kind A.d_law_kind ["_law_number"] (spKd A) := by
 have G_c_Kind___init := ok_kind_init (P := P) (w := w) (base := base) T
 have G_c_YesNo___init := ok_yes_init (P := P) (w := w) (base := base) T
 have G_c_Names___init := ok_names_init (P := P) (w := w) (base := base) T
 refine T.F_law_kind.ok sc_law_kind (fun vs H Q E h => ?_) (fun cdv A0 outer s H vs Q E hr h => ?_)
 · obtain ⟨c, rfl, _⟩ := h
   rfl
 obtain ⟨c, rfl, c0, c1, q⟩ := h
 refine ⟨_, (zF (zW (i := 1) sc_law_kind.nd rfl (by first | exact Or.inl rfl | exact Or.inr rfl) (zK op_sub (zK yD (zK yU (pv 0) zE) (zK yU zE (zK op_pow zE zE))) (zK op_pow zE zE)))
     (zH (zR (pe_ix ix_list (pe_lst (zA (pe_make0 T.mk_YesNo G_c_YesNo___init (hr.mono (by first | decide | omega)) rfl T.m_YesNo T.b_c_YesNo___init .nil zP) (zA (pe_make T.mk_Whole G_c_Kind___init (hr.mono (by first | decide | omega)) rfl T.m_Whole T.b_c_Kind___init .nil zP (zA (pv 1) (zA (zK yH (pv 1) (zK yD (pv 0) zE)) zC))) (zA (pe_make T.mk_Money G_c_Kind___init (hr.mono (by first | decide | omega)) rfl T.m_Money T.b_c_Kind___init .nil zP (zA (pv 1) (zA (zK yH (pv 1) (zK yD (pv 0) zE)) zC))) (zA (pe_make T.mk_Names G_c_Names___init (hr.mono (by first | decide | omega)) rfl T.m_Names T.b_c_Names___init .nil zP (zA (zK yH zE (zK yD (pv 0) zE)) zC)) zC))))) (zK yD (pv 0) zE) (fun _ _ => rfl))))), ?_⟩
 have hp := p40
 have ic : ib c ≤ 60000000 := ibc (by omega)
 refine ⟨_, rfl, _, _, rfl, rfl, ⟨ic, by decide⟩, _, _, rfl, rfl, ⟨by decide, by decide⟩, _, _, rfl, rfl, ⟨by decide, by decide⟩, _, _, rfl, rfl, (show (0 : Int) < 2 * 10 ^ 18 by decide), _, _, rfl, rfl, ⟨by decide, by decide⟩, _, _, rfl, rfl, ?_⟩
 dsimp only [gName, List.set_cons_succ, List.set_cons_zero]
 generalize hlo : (c * 48271 % (2 * 10 ^ Int.toNat 18) - 10 ^ Int.toNat 18 : Int) = lo
 have hlo : c * 48271 % (2 * 10 ^ 18) - 10 ^ 18 = lo := hlo
 have l1 : lo.natAbs ≤ 10 ^ 18 := by
   have := Int.emod_nonneg (c * 48271) (show (2 * 10 ^ 18 : Int) ≠ 0 by decide)
   have := Int.emod_lt_of_pos (c * 48271) (show (0 : Int) < 2 * 10 ^ 18 by decide)
   omega
 intro x1 d1 nx1 nd1 ne1
 refine ⟨x1, d1, rfl, zB, rfl, ?_⟩
 rw [yY]
 dsimp only
 have s1 := mk_same (.ins A.c_YesNo d1 [("low", .int 0), ("high", .int 1)]) nx1 nd1
 have k1 : KxR A _ x1 .yn := ⟨d1, zB (H := upd H d1 (.own x1)) (a := x1) (o := .ins A.c_YesNo d1 [("low", .int 0), ("high", .int 1)])⟩
 generalize upd (upd H d1 (.own x1)) x1 (.ins A.c_YesNo d1 [("low", .int 0), ("high", .int 1)]) = H1 at s1 k1
 refine ⟨_, rfl, _, rfl, _, rfl, _, _, rfl, rfl, (show (0 : Int) < 1000 by decide), _, _, rfl, rfl, ?_⟩
 intro x2 d2 nx2 nd2 ne2
 refine ⟨x2, A.c_Whole, d2, _, _, rfl, zB, T.cl_Whole, T.no_Whole_low, T.no_Whole_high, rfl, ?_⟩
 rw [yY]
 dsimp only
 have s2 := mk_same (.ins A.c_Whole d2 [("low", .int lo), ("high", .int (lo + c % 1000))]) nx2 nd2
 have k2 : KxR A _ x2 (.wh false lo (lo + c % 1000)) := ⟨d2, zB (H := upd H1 d2 (.own x2)) (a := x2) (o := .ins A.c_Whole d2 [("low", .int lo), ("high", .int (lo + c % 1000))])⟩
 generalize upd (upd H1 d2 (.own x2)) x2 (.ins A.c_Whole d2 [("low", .int lo), ("high", .int (lo + c % 1000))]) = H2 at s2 k2
 refine ⟨_, rfl, _, rfl, _, rfl, _, _, rfl, rfl, (show (0 : Int) < 7 by decide), _, _, rfl, rfl, ?_⟩
 intro x3 d3 nx3 nd3 ne3
 refine ⟨x3, A.c_Money, d3, _, _, rfl, zB, T.cl_Money, T.no_Money_low, T.no_Money_high, rfl, ?_⟩
 rw [yY]
 dsimp only
 have s3 := mk_same (.ins A.c_Money d3 [("low", .int lo), ("high", .int (lo + c % 7))]) nx3 nd3
 have k3 : KxR A _ x3 (.wh true lo (lo + c % 7)) := ⟨d3, zB (H := upd H2 d3 (.own x3)) (a := x3) (o := .ins A.c_Money d3 [("low", .int lo), ("high", .int (lo + c % 7))])⟩
 generalize upd (upd H2 d3 (.own x3)) x3 (.ins A.c_Money d3 [("low", .int lo), ("high", .int (lo + c % 7))]) = H3 at s3 k3
 refine ⟨_, rfl, _, _, rfl, rfl, (show (0 : Int) < 6 by decide), _, _, rfl, rfl, ?_⟩
 intro x4 d4 nx4 nd4 ne4
 refine ⟨x4, d4, _, rfl, zB, rfl, ?_⟩
 rw [yY]
 dsimp only
 have s4 := mk_same (.ins A.c_Names d4 [("low", .int 0), ("high", .int (1 + c % 6))]) nx4 nd4
 have k4 : KxR A _ x4 (.nm (1 + c % 6)) := ⟨d4, zB (H := upd H3 d4 (.own x4)) (a := x4) (o := .ins A.c_Names d4 [("low", .int 0), ("high", .int (1 + c % 6))])⟩
 generalize upd (upd H3 d4 (.own x4)) x4 (.ins A.c_Names d4 [("low", .int 0), ("high", .int (1 + c % 6))]) = H4 at s4 k4
 refine ⟨(by show 4 ≤ sizeLine; decide), fun l hl => ?_⟩
 have s5 := zI hl (.lst [.ref x1, .ref x2, .ref x3, .ref x4])
 have sA := (((s1.trans s2).trans s3).trans s4).trans s5
 refine ⟨_, rfl, _, _, rfl, rfl, (show (0 : Int) < 4 by decide), l, [.ref x1, .ref x2, .ref x3, .ref x4], c % 4, ?_⟩
 have h0 := Int.emod_nonneg c (show (4 : Int) ≠ 0 by decide)
 have h4 := Int.emod_lt_of_pos c (show (0 : Int) < 4 by decide)
 have b60 : (10 : Nat) ^ 18 + 1000 < 10 ^ 60 := by symm
 have m1 := Int.emod_nonneg c (show (1000 : Int) ≠ 0 by decide)
 have m2 := Int.emod_lt_of_pos c (show (0 : Int) < 1000 by decide)
 have m3 := Int.emod_nonneg c (show (7 : Int) ≠ 0 by decide)
 have m4 := Int.emod_lt_of_pos c (show (0 : Int) < 7 by decide)
 have m5 := Int.emod_nonneg c (show (6 : Int) ≠ 0 by decide)
 have m6 := Int.emod_lt_of_pos c (show (0 : Int) < 6 by decide)
 rcases (by omega : c % 4 = 0 ∨ c % 4 = 1 ∨ c % 4 = 2 ∨ c % 4 = 3) with e | e | e | e
 · exact ⟨.ref x1, rfl, rfl, SqL.of zB, (by rw [e]; rfl), q x1 .yn _ sA (k1.same (((s2.trans s3).trans s4).trans s5)) trivial⟩
 · exact ⟨.ref x2, rfl, rfl, SqL.of zB, (by rw [e]; rfl), q x2 _ _ sA (k2.same ((s3.trans s4).trans s5)) ⟨by omega, by omega⟩⟩
 · exact ⟨.ref x3, rfl, rfl, SqL.of zB, (by rw [e]; rfl), q x3 _ _ sA (k3.same (s4.trans s5)) ⟨by omega, by omega⟩⟩
 · exact ⟨.ref x4, rfl, rfl, SqL.of zB, (by rw [e]; rfl), q x4 _ _ sA (k4.same s5) (show (1 + c % 6).natAbs < 10 ^ 60 by omega)⟩
theorem ok_law_part (T : Txt K mg A) : FnOk P w K mg base CX0 1 A.f_law_part A.d_law_part ["_law_number", "_law_own", "_law_many", "_law_sums_here"] spPart := by
 refine T.F_law_part.ok sc_law_part (fun vs H Q E h => ?_) (fun cdv A0 outer s H vs Q E hr h => ?_)
 · obtain ⟨c, own, many, sums, rfl, _⟩ := h
   rfl
 obtain ⟨c, own, many, sums, rfl, c0, c1, ho, hs6, hm0, hm8, q⟩ := h
 refine ⟨_, (zF (zW (i := 4) sc_law_part.nd rfl (by first | exact Or.inl rfl | exact Or.inr rfl) (zK op_sub (zK yD (zK yU (pv 0) zE) (zK yH (zK yU zE (zK op_pow zE zE)) zE)) (zK op_pow zE zE)))
     (zF (zW (i := 5) sc_law_part.nd rfl (by first | exact Or.inl rfl | exact Or.inr rfl) (pe_ix ix_list (pe_lst (zA zE (zA (pe_un un_neg zE) (zA zE (zA (pe_un un_neg zE) zC))))) (zK yD (zK op_fdiv (pv 0) zE) zE) (fun _ _ => rfl)))
     (zF (xB (PW.pt (pw_and (zO op_eq (zK yD (zK op_fdiv (pv 0) zE) zE) zE (zY _)) (pw_and1 (zO op_ne (pv 4) zE (zY _))))) (zH (zW (i := 5) sc_law_part.nd rfl (by first | exact Or.inl rfl | exact Or.inr rfl) (pv 4))) yI)
     (zF (xB (zO op_eq (zK yD (pv 0) zE) zE (zY _)) (zH (zR (pe_tup (zA (pv 5) (zA yV zC))))) yI)
     (zF (xB (PW.pt (pw_and (zO op_eq (zK yD (pv 0) zE) zE (zY _)) (pw_and1 (zO op_lt (zK yH (pv 1) zE) (pv 3) (zY _))))) (zH (zR (pe_tup (zA (pv 5) (zA (zK yH (zK yH (zK yH zE (pv 1)) zE) (zK yD (zK op_fdiv (pv 0) zE) (zK op_sub (zK op_sub (pv 3) (pv 1)) zE))) zC))))) yI)
     (zH (zR (pe_tup (zA (pv 5) (zA (zK yD (zK op_fdiv (pv 0) zE) (pv 2)) zC)))))))))), ?_⟩
 have hp := p40
 have ic : ib c ≤ 60000000 := ibc (by omega)
 refine ⟨_, rfl, _, _, rfl, rfl, ⟨ic, by decide⟩, _, _, rfl, rfl, ⟨by decide, by decide⟩, _, _, rfl, rfl, ⟨by decide, by decide⟩, _, _, rfl, rfl, _, _, rfl, rfl, (show (0 : Int) < 2 * 10 ^ 18 + 1 by decide), _, _, rfl, rfl, ⟨by decide, by decide⟩, _, _, rfl, rfl, ?_⟩
 dsimp only [gName, List.set_cons_succ, List.set_cons_zero]
 generalize hbg : (c * 4611686014132420609 % (2 * 10 ^ Int.toNat 18 + 1) - 10 ^ Int.toNat 18 : Int) = bg
 have hbg : c * 4611686014132420609 % (2 * 10 ^ 18 + 1) - 10 ^ 18 = bg := hbg
 have l1 : bg.natAbs ≤ 10 ^ 18 := by
   have := Int.emod_nonneg (c * 4611686014132420609) (show (2 * 10 ^ 18 + 1 : Int) ≠ 0 by decide)
   have := Int.emod_lt_of_pos (c * 4611686014132420609) (show (0 : Int) < 2 * 10 ^ 18 + 1 by decide)
   omega
 refine ⟨_, rfl, _, rfl, (by show 4 ≤ sizeLine; decide), fun l hl => ?_⟩
 have s1 := zI hl (.lst [.int 1, .int (-1), .int 2, .int (-3)])
 refine ⟨_, rfl, _, _, rfl, rfl, ⟨(show (0 : Int) < 3 by decide), (show (3 : Int) < 1073741824 by decide)⟩, _, _, rfl, rfl, (show (0 : Int) < 4 by decide), l, [.int 1, .int (-1), .int 2, .int (-3)], c / 3 % 4, ?_⟩
 have h0 := Int.emod_nonneg (c / 3) (show (4 : Int) ≠ 0 by decide)
 have h4 := Int.emod_lt_of_pos (c / 3) (show (0 : Int) < 4 by decide)
 obtain ⟨t0, ht0, hat⟩ : ∃ t0 : Int, t0.natAbs ≤ 3 ∧ atI [V.int 1, .int (-1), .int 2, .int (-3)] (c / 3 % 4) = some (.int t0) := by
   rcases (by omega : c / 3 % 4 = 0 ∨ c / 3 % 4 = 1 ∨ c / 3 % 4 = 2 ∨ c / 3 % 4 = 3) with e | e | e | e <;> rw [e]
   · exact ⟨1, by decide, rfl⟩
   · exact ⟨-1, by decide, rfl⟩
   · exact ⟨2, by decide, rfl⟩
   · exact ⟨-3, by decide, rfl⟩
 refine ⟨_, rfl, rfl, SqL.of zB, hat, ?_⟩
 generalize upd H l (.lst [.int 1, .int (-1), .int 2, .int (-3)]) = H1 at s1
 dsimp only [gName, List.set_cons_succ, List.set_cons_zero]
 refine yR (fun σ' G => ∃ t : Int, σ' = [some (.int c), some (.int (own : Nat)), some (.int (many : Nat)), some (.int (sums : Nat)), some (.int bg), some (.int t)] ∧ G = H1 ∧ t.natAbs ≤ 2 * 10 ^ 18) (fun σ' G hR => ?_) (fun _ hk => ?_)
 rotate_left
 · refine ⟨_, rfl, _, _, rfl, rfl, ⟨(show (0 : Int) < 12 by decide), (show (12 : Int) < 1073741824 by decide)⟩, _, _, rfl, rfl, (show (0 : Int) < 2 by decide), rfl, _, rfl, ite2 (fun _ => ⟨_, rfl, rfl, _, rfl, ite2 (fun _ => ?_) (fun _ => ?_)⟩) (fun _ => iteO rfl ?_)⟩
   · exact ⟨_, rfl, hk _ _ ⟨bg, rfl, rfl, by omega⟩⟩
   · exact hk _ _ ⟨t0, rfl, rfl, by omega⟩
   · exact hk _ _ ⟨t0, rfl, rfl, by omega⟩
 obtain ⟨t, rfl, rfl, ht⟩ := hR
 have e24 : 0 ≤ c / 24 := Int.ediv_nonneg c0 (by decide)
 have done : ∀ o : Option Nat, (∀ k, o = some k → k < many ∨ (20 + own < k ∧ k < 20 + sums)) → ∀ a, G a = none → Q (.ref a) (upd G a (.tup [.int t, mv o])) := fun o ho a ha => q a _ (t, o) (s1.trans (zI ha _)) zB ⟨ht, ho⟩
 refine ⟨_, rfl, _, _, rfl, rfl, (show (0 : Int) < 3 by decide), rfl, _, rfl, ite2 (fun _ => ?_) (fun _ => ?_)⟩
 · exact ⟨_, rfl, (by show 2 ≤ sizeLine; decide), fun a ha => done none (fun k e => by cases e) a ha⟩
 refine ⟨_, rfl, _, _, rfl, rfl, (show (0 : Int) < 3 by decide), rfl, _, rfl, ?_⟩
 have hmany : (0 : Int) < (many : Nat) := by omega
 have last : ∀ a, G a = none → Q (.ref a) (upd G a (.tup [.int t, .int (c / 24 % (many : Nat))])) := fun a ha => by
   have h1 := Int.emod_nonneg (c / 24) (show ((many : Nat) : Int) ≠ 0 by omega)
   have h2 := Int.emod_lt_of_pos (c / 24) hmany
   have := done (some (c / 24 % (many : Nat)).toNat) (fun k e => by cases e; exact .inl (by omega)) a ha
   rw [show mv (some (c / 24 % (many : Nat)).toNat) = .int (c / 24 % (many : Nat)) from congrArg V.int (by omega)] at this
   exact this
 have d24 : CDiv c 24 := ⟨(show (0 : Int) < 24 by decide), (show (24 : Int) < 1073741824 by decide)⟩
 refine ite2 (fun _ => ⟨_, rfl, _, _, rfl, rfl, _, rfl, _, _, rfl, rfl, _, rfl, ite2 (fun c2 => ?_) (fun _ => ?_)⟩) (fun _ => iteO rfl ?_)
 · have c3 : ((own : Nat) : Int) + 1 < (sums : Nat) := of_decide_eq_true c2
   refine ⟨_, rfl, _, rfl, _, _, rfl, rfl, _, _, rfl, rfl, _, rfl, _, _, rfl, rfl, d24, _, rfl, _, rfl, _, _, rfl, rfl, _, _, rfl, rfl, _, _, rfl, rfl, (show (0 : Int) < (sums : Nat) - (own : Nat) - 1 by omega), _, _, rfl, rfl, (by show 2 ≤ sizeLine; decide), fun a ha => ?_⟩
   have h1 := Int.emod_nonneg (c / 24) (show (((sums : Nat) : Int) - (own : Nat) - 1) ≠ 0 by omega)
   have h2 := Int.emod_lt_of_pos (c / 24) (show (0 : Int) < (sums : Nat) - (own : Nat) - 1 by omega)
   have := done (some (20 + own + 1 + (c / 24 % ((sums : Nat) - (own : Nat) - 1)).toNat)) (fun k e => by cases e; exact .inr (by omega)) a ha
   rw [show mv (some (20 + own + 1 + (c / 24 % ((sums : Nat) - (own : Nat) - 1)).toNat)) = .int (20 + (own : Nat) + 1 + c / 24 % ((sums : Nat) - (own : Nat) - 1)) from congrArg V.int (by omega)] at this
   exact this
 · exact ⟨_, rfl, _, rfl, _, _, rfl, rfl, d24, _, rfl, _, _, rfl, rfl, hmany, (by show 2 ≤ sizeLine; decide), last⟩
 · exact ⟨_, rfl, _, rfl, _, _, rfl, rfl, d24, _, rfl, _, _, rfl, rfl, hmany, (by show 2 ≤ sizeLine; decide), last⟩
end
end K31
set_option maxHeartbeats 4000000
namespace K31
open PySem L2
seal PE PT PW PA PS PSs PG PGs PI PO PSet OpR UnR CallR TruR IxR SlR PC PPs
local macro_rules | `(tactic| walk_at "rd1") => `(tactic| first
 | (refine And.intro rfl ?_)
 | (refine And.intro (by assumption) ?_)
 | (refine And.intro (fun _ e => e) ?_)
 | (refine And.intro (TyOf.str _) ?_) | (refine And.intro (TyOf.int _) ?_) | (refine And.intro (TyOf.bl _) ?_) | (refine And.intro TyOf.non ?_)
 | (refine iteT ?_) | (refine iteF ?_)
 | (apply Exists.intro))
local macro_rules | `(tactic| walk_at "rd") => `(tactic| repeat (walk_at "rd1"))
def MpR (H : Hp) (y : V) (x : Mp) : Prop := ∃ T, y = .ref T ∧ H T = some (.tup [.int x.1, mv x.2])
theorem MpR.kp {H H' : Hp} (s : Kp H H') {y : V} {x : Mp} (h : MpR H y x) : MpR H' y x := by
 obtain ⟨T, e, h⟩ := h
 exact ⟨T, e, s _ _ h (.inl ⟨_, rfl⟩)⟩
def RwR (lm : Addr) (H : Hp) (y : V) (r : List Mp) : Prop := ∃ t us, y = .ref t ∧ t ≠ lm ∧ H t = some (.lst us) ∧ Paired (MpR H) us r
theorem fr_tup {m : Addr} {H H' : Hp} {us : List V} (F : Fr [m] H H') (hm : H m = some (.lst us)) {y : V} {x : Mp} (h : MpR H y x) : MpR H' y x := by
 obtain ⟨T, e, h⟩ := h
 exact ⟨T, e, F _ _ h (ni1 (ne_of h hm (by intro z; cases z)))⟩
theorem RwR.fr {lm : Addr} {H H' : Hp} {us : List V} (F : Fr [lm] H H') (hm : H lm = some (.lst us)) {y : V} {r : List Mp} (h : RwR lm H y r) : RwR lm H' y r := by
 obtain ⟨t, vs, e, n, h1, h2⟩ := h
 exact ⟨t, vs, e, n, F _ _ h1 (ni1 n), zD h2 fun _ _ r => fr_tup F hm r⟩
theorem RwR.same {lm : Addr} {H H' : Hp} (s : Same H H') {y : V} {r : List Mp} (h : RwR lm H y r) : RwR lm H' y r := by
 obtain ⟨t, vs, e, n, h1, h2⟩ := h
 exact ⟨t, vs, e, n, s _ _ h1, zD h2 fun _ _ r => r.kp (.of s)⟩
def MdR (H : Hp) (l : Addr) (M : Mad) : Prop := ∃ xs, H l = some (.lst xs) ∧ Paired (RwR l H) xs M
theorem MdR.same {H H' : Hp} (s : Same H H') {l : Addr} {M : Mad} (h : MdR H l M) : MdR H' l M := by
 obtain ⟨xs, h1, h2⟩ := h
 exact ⟨xs, s _ _ h1, zD h2 fun _ _ r => r.same s⟩
def spSums (K : W.Frag) : Sp := fun vs H Q _ => ∃ (a : Addr) (ns : List Int) (many : Nat), vs = [.ref a, .int (many : Nat)] ∧ SqL K H a (ns.map V.int) ∧ ns.length ≤ 1000 ∧ Ns ns ∧ 0 < many ∧ many ≤ 8 ∧
 ∀ l M H', Same H H' → MdR H' l M → MG many M → Q (.ref l) H'
def SuI (a lm ld : Addr) (many N i : Nat) (G1 : Hp) (j : Nat) (σ : St) (G' : Hp) : Prop := ∃ u6 u7 u8 us r, σ = [some (.ref a), some (.int (many : Nat)), some (.int (N : Nat)), some (.ref lm), some (.int (0 + (i : Nat))), some (.ref ld), u6, u7, u8] ∧ Fr [ld] G1 G' ∧ G' ld = some (.lst us) ∧ Paired (MpR G') us r ∧ r.length ≤ j ∧ ∀ x ∈ r, PaG i many N x
theorem mv_flat (o : Option Nat) : flatV (mv o) = true := by cases o <;> rfl
section
variable {P : Program} {w : World} {K : W.Frag} {mg : Str → Option Value} {base : Heap} {A : Adr}
theorem ok_law_sums (T : Txt K mg A) : FnOk P w K mg base CX0 2 A.f_law_sums A.d_law_sums ["_law_script", "_law_many"] (spSums K) := by
 have G_law_cell := ok_law_cell (P := P) (w := w) (base := base) T
 have G_law_part := ok_law_part (P := P) (w := w) (base := base) T
 refine T.F_law_sums.ok sc_law_sums (fun vs H Q E h => ?_) (fun cdv A0 outer s H vs Q E hr h => ?_)
 · obtain ⟨a, ns, many, rfl, _⟩ := h
   rfl
 obtain ⟨a, ns, many, rfl, hS, hl, hb, hm0, hm8, q⟩ := h
 refine ⟨_, (zF (zW (i := 2) sc_law_sums.nd rfl (by first | exact Or.inl rfl | exact Or.inr rfl) (zK yH zE (zK yD (zM G_law_cell (hr.mono (by first | decide | omega)) rfl T.m_law_cell T.k_law_cell T.b_law_cell .nil zP (zA (pv 0) (zA zE zC))) zE)))
     (zF (zW (i := 3) sc_law_sums.nd rfl (by first | exact Or.inl rfl | exact Or.inr rfl) (pe_lst zC))
     (zF (yS PassesOwn.never rfl (pi_range1 rfl T.n_range (zA (pv 2) zC)) (zV (i := 4) sc_law_sums.nd rfl (by first | exact Or.inl rfl | exact Or.inr rfl)) (zF (zW (i := 5) sc_law_sums.nd rfl (by first | exact Or.inl rfl | exact Or.inr rfl) (pe_lst zC))
     (zF (yS PassesOwn.never rfl (pi_range1 rfl T.n_range (zA (zK yH zE (zK yD (zM G_law_cell (hr.mono (by first | decide | omega)) rfl T.m_law_cell T.k_law_cell T.b_law_cell .nil zP (zA (pv 0) (zA (zK yH zE (zK yU zE (pv 4))) zC))) zE)) zC)) (zV (i := 6) sc_law_sums.nd rfl (by first | exact Or.inl rfl | exact Or.inr rfl)) (zF (ps_asg (zM G_law_part (hr.mono (by first | decide | omega)) rfl T.m_law_part T.k_law_part T.b_law_part .nil zP (zA (zK yD (zM G_law_cell (hr.mono (by first | decide | omega)) rfl T.m_law_cell T.k_law_cell T.b_law_cell .nil zP (zA (pv 0) (zA (zK yH (zK yH zE (zK yU zE (pv 4))) (pv 6)) zC))) (zK op_pow zE zE)) (zA (pv 4) (zA (pv 1) (zA (pv 2) zC))))) (pg_tup rfl (yC (zV (i := 7) sc_law_sums.nd rfl (by first | exact Or.inl rfl | exact Or.inr rfl)) (yC (zV (i := 8) sc_law_sums.nd rfl (by first | exact Or.inl rfl | exact Or.inr rfl)) pgs_nil))))
     (zH (xB (PW.pt (pw_or (zO op_isN (pv 8) yV (zY _)) (pw_or1 (zO op_notIn_seq (pv 8) (pe_compT (compOk2_of (yF (x := "_law_twice") (M := ["_law_script", "_law_many", "_law_sums_here", "_law_made", "_law_own", "_law_parts", "_law_k", "_law_times_here", "_law_part_here"]) rfl (by rfl)) (by rfl) (by symm)) rfl (yJ (pv 5)) (fun _ _ _ _ => pifs_nil) (fun _ _ _ _ => (pv 1))) (by rfl))))) (zH (yT (pe_bm PySem.F.plainAttrs_list PySem.F.slot_list_append PySem.F.type_list_append mt_append (pv 5) (zA (pe_tup (zA (pv 7) (zA (pv 8) zC))) zC)))) yI))))
     (zH (yT (pe_bm PySem.F.plainAttrs_list PySem.F.slot_list_append PySem.F.type_list_append mt_append (pv 3) (zA (pv 5) zC)))))))
     (zH (zR (pv 3)))))), ?_⟩
 have d0 := Int.emod_nonneg (cellF ns 1) (b := 6) (by decide)
 have d1 := Int.emod_lt_of_pos (cellF ns 1) (b := 6) (by decide)
 refine ⟨_, rfl, a, ns, 1, rfl, hS, by decide, hl, hb, _, _, rfl, rfl, (show (0 : Int) < 6 by decide), _, _, rfl, rfl, ?_⟩
 obtain ⟨N, hN, hN1, hN6⟩ : ∃ N : Nat, 1 + cellF ns 1 % 6 = (N : Nat) ∧ 1 ≤ N ∧ N ≤ 6 := ⟨(1 + cellF ns 1 % 6).toNat, by omega, by omega, by omega⟩
 dsimp only [gName, List.set_cons_succ, List.set_cons_zero]
 rw [hN]
 refine ⟨(by show 0 ≤ sizeLine; decide), fun lm hlm => ?_⟩
 have s0 := zI hlm (.lst [])
 have e0 : (upd H lm (.lst [])) lm = some (.lst []) := zB
 generalize upd H lm (.lst []) = H1 at s0 e0
 dsimp only [gName, List.set_cons_succ, List.set_cons_zero]
 refine ⟨_, rfl, _, rfl, (by omega), (by omega), ?_⟩
 rw [show ((N : Nat) : Int).toNat = N by omega]
 refine for_rangeR (fun i σ G => ∃ u4 u5 u6 u7 u8 ys ms, σ = [some (.ref a), some (.int (many : Nat)), some (.int (N : Nat)), some (.ref lm), u4, u5, u6, u7, u8] ∧ Same H G ∧ G lm = some (.lst ys) ∧ Paired (RwR lm G) ys ms ∧ ms.length = i ∧ ∀ k r, ms[k]? = some r → r.length ≤ 6 ∧ ∀ x ∈ r, PaG k many N x) ⟨_, _, _, _, _, [], [], rfl, s0, e0, .nil, rfl, fun k r h => by simp at h⟩ (fun i σ G hi hw => ?_) (fun σ G hw => ?_)
 rotate_left
 · obtain ⟨u4, u5, u6, u7, u8, ys, ms, rfl, sG, hG, hp, hm, hB⟩ := hw
   exact ⟨_, rfl, q lm ms G sG ⟨ys, hG, hp⟩ ⟨hm8, by omega, fun own r hr => by
     obtain ⟨h1, h2⟩ := hB own r hr
     exact ⟨h1, fun x hx => ⟨(h2 x hx).1, by rw [hm]; exact (h2 x hx).2⟩⟩⟩⟩
 obtain ⟨u4, u5, u6, u7, u8, ys, ms, rfl, sG, hG, hp, hm, hB⟩ := hw
 have lys := zN hp
 refine ⟨(by show 0 ≤ sizeLine; decide), fun ld hld => ?_⟩
 have s2 := zI hld (.lst [])
 have hldN : H ld = none := yP sG hld
 have ndm : ld ≠ lm := Ne.symm (zG hG hld)
 have hld1 : (upd G ld (.lst [])) ld = some (.lst []) := zB
 generalize upd G ld (.lst []) = G1 at s2 hld1
 dsimp only [gName, List.set_cons_succ, List.set_cons_zero]
 have sG1 := sG.trans s2
 refine yR (fun σ' G' => ∃ u6 u7 u8 us r, σ' = [some (.ref a), some (.int (many : Nat)), some (.int (N : Nat)), some (.ref lm), some (.int (0 + (i : Nat))), some (.ref ld), u6, u7, u8] ∧ Fr [ld] G1 G' ∧ G' ld = some (.lst us) ∧ Paired (MpR G') us r ∧ r.length ≤ 6 ∧ ∀ x ∈ r, PaG i many N x) (fun σ' G' hR => ?_) (fun _ hk2 => ?_)
 · obtain ⟨u6', u7', u8', us, r, rfl, F, hld2, hus, hr6, hrG⟩ := hR
   have sF : Same G G' := fun b o hb' => F _ _ (s2 _ _ hb') (ni1 (zG hb' hld))
   refine ⟨_, rfl, .inl ⟨rfl, _, SqL.of (sF _ _ hG)⟩, _, rfl, lm, _, _, rfl, rfl, sF _ _ hG, zL (m := 100) (by omega), ?_⟩
   have Fu : Fr [lm] G' (upd G' lm (.lst (ys ++ [.ref ld]))) := (Fr.of (Same.refl _)).upd (List.mem_singleton.mpr rfl) _
   refine ⟨_, _, _, _, _, ys ++ [.ref ld], ms ++ [r], rfl, fun b o hb' => by rw [zJ (zG hb' hlm)]; exact sF _ _ (sG _ _ hb'), zB, yG (zD hp fun _ _ x => (x.same sF).fr Fu (sF _ _ hG)) (.cons ⟨ld, us, rfl, ndm, by rw [zJ ndm]; exact hld2, zD hus fun _ _ x => fr_tup Fu (sF _ _ hG) x⟩ .nil), by rw [List.length_append, hm]; rfl, fun k r' hk => ?_⟩
   by_cases c : k < ms.length
   · rw [List.getElem?_append_left c] at hk
     exact hB k r' hk
   · rw [List.getElem?_append_right (by omega)] at hk
     have lk := (List.getElem?_eq_some_iff.mp hk).1
     rw [List.length_singleton] at lk
     have ek : k = i := by omega
     subst ek
     rw [show k - ms.length = 0 by omega] at hk
     cases Option.some.inj hk
     exact ⟨hr6, hrG⟩
 have d0 := Int.emod_nonneg (cellF ns (3 + 7 * i)) (b := 6) (by decide)
 have d1 := Int.emod_lt_of_pos (cellF ns (3 + 7 * i)) (b := 6) (by decide)
 refine ⟨_, rfl, _, rfl, _, _, rfl, rfl, ⟨ib_e (by omega) (by omega), ib_e (by omega) (by omega)⟩, _, _, rfl, rfl, a, ns, 3 + 7 * i, (by dsimp only; rw [show ((3 : Int) + 7 * (0 + (i : Nat))) = ((3 + 7 * i : Nat) : Int) by omega]; rfl), sG1.seq hS, (by omega), hl, hb, _, _, rfl, rfl, (show (0 : Int) < 6 by decide), _, _, rfl, rfl, _, rfl, (by omega), (by omega), ?_⟩
 obtain ⟨nk, hnk, hnk1, hnk2⟩ : ∃ nk : Nat, (1 + cellF ns (3 + 7 * i) % 6).toNat = nk ∧ 1 ≤ nk ∧ nk ≤ 6 := ⟨_, rfl, by omega, by omega⟩
 rw [hnk]
 refine for_rangeR (SuI a lm ld many N i G1) ⟨_, _, _, [], [], rfl, Fr.of (Same.refl _), hld1, .nil, Nat.le_refl _, fun x h => by cases h⟩ (fun j σ G' hj hw => ?_) (fun σ G' hw => ?_)
 · obtain ⟨u6', u7', u8', us, r, rfl, F, hld2, hus, hrj, hrG⟩ := hw
   have lus := zN hus
   have sF : Same H G' := fun b o hb' => F _ _ (sG1 _ _ hb') (ni1 (zG hb' hldN))
   have f0 := Int.emod_nonneg (cellF ns (4 + 7 * i + j)) (b := 10 ^ 40) (by decide)
   have f1 := Int.emod_lt_of_pos (cellF ns (4 + 7 * i + j)) (b := 10 ^ 40) (by decide)
   refine ⟨_, rfl, _, rfl, _, _, rfl, rfl, ⟨ib_e (by omega) (by omega), ib_e (by omega) (by omega)⟩, _, _, rfl, rfl, _, rfl, _, _, rfl, rfl, a, ns, 4 + 7 * i + j, (by dsimp only; rw [show ((4 : Int) + 7 * (0 + (i : Nat)) + (0 + (j : Nat))) = ((4 + 7 * i + j : Nat) : Int) by omega]; rfl), sF.seq hS, (by omega), hl, hb, _, _, rfl, rfl, ⟨by decide, by decide⟩, _, _, rfl, rfl, (show (0 : Int) < 10 ^ 40 by decide), _, rfl, _, rfl, _, rfl, ?_⟩
   refine ⟨cellF ns (4 + 7 * i + j) % 10 ^ 40, i, many, N, (by show [V.int (cellF ns (4 + 7 * i + j) % 10 ^ 40), V.int (0 + (i : Int)), V.int (many : Nat), V.int (N : Nat)] = _; rw [Int.zero_add]), f0, f1, hi, hN6, hm0, hm8, fun Tp G2 x s3 hT hx => ?_⟩
   refine ⟨Tp, _, rfl, SqT.of hT, rfl, _, _, rfl, _, _, rfl, rfl, ?_⟩
   dsimp only [gName, List.set_cons_succ, List.set_cons_zero]
   have F2 : Fr [ld] G1 G2 := F.trans (Fr.of s3)
   have hld3 := s3 _ _ hld2
   have hus2 : Paired (MpR G2) us r := zD hus fun _ _ x => x.kp (.of s3)
   have app : ∀ G3, Same G2 G3 → ∀ T2, G3 T2 = none → SuI a lm ld many N i G1 (j + 1) [some (.ref a), some (.int (many : Nat)), some (.int (N : Nat)), some (.ref lm), some (.int (0 + (i : Nat))), some (.ref ld), some (.int (0 + (j : Nat))), some (.int x.1), some (mv x.2)] (upd (upd G3 T2 (.tup [.int x.1, mv x.2])) ld (.lst (us ++ [.ref T2]))) := fun G3 s4 T2 hT2 => by
     have s5 := zI hT2 (.tup [.int x.1, mv x.2])
     have h5 := s5 _ _ (s4 _ _ hld3)
     have e5 : (upd G3 T2 (.tup [.int x.1, mv x.2])) T2 = some (.tup [.int x.1, mv x.2]) := zB
     generalize upd G3 T2 (.tup [.int x.1, mv x.2]) = G4 at s5 h5 e5
     have Fu : Fr [ld] G4 (upd G4 ld (.lst (us ++ [.ref T2]))) := (Fr.of (Same.refl _)).upd (List.mem_singleton.mpr rfl) _
     refine ⟨_, _, _, us ++ [.ref T2], r ++ [x], rfl, (F2.trans (Fr.of (s4.trans s5))).trans Fu, zB, yG (zD hus2 fun _ _ y => fr_tup Fu h5 (y.kp (.of (s4.trans s5)))) (.cons (fr_tup Fu h5 ⟨T2, rfl, e5⟩) .nil), by rw [List.length_append, List.length_singleton]; omega, fun y hy => ?_⟩
     rcases List.mem_append.mp hy with h | h
     · exact hrG y h
     · rw [List.mem_singleton.mp h]; exact hx
   have stay : ∀ G3, Same G2 G3 → SuI a lm ld many N i G1 (j + 1) [some (.ref a), some (.int (many : Nat)), some (.int (N : Nat)), some (.ref lm), some (.int (0 + (i : Nat))), some (.ref ld), some (.int (0 + (j : Nat))), some (.int x.1), some (mv x.2)] G3 := fun G3 s4 => ⟨_, _, _, us, r, rfl, F2.trans (Fr.of s4), s4 _ _ hld3, zD hus2 fun _ _ y => y.kp (.of s4), by omega, hrG⟩
   cases ho : x.2 with
   | none =>
     rw [ho] at app
     refine ⟨_, rfl, rfl, _, rfl, iteT (iteT ?_)⟩
     exact ⟨_, rfl, .inl ⟨rfl, _, SqL.of hld3⟩, _, rfl, _, rfl, (by show 2 ≤ sizeLine; decide), fun T2 hT2 => ⟨ld, _, _, rfl, rfl, (zI hT2 _) _ _ hld3, zL (m := 100) (by omega), app G2 (Same.refl _) T2 hT2⟩⟩
   | some k =>
     rw [ho] at app stay
     refine ⟨_, rfl, rfl, _, rfl, iteF ⟨_, rfl, _, rfl, ld, rfl, ⟨_, SqL.of hld3⟩, ?_⟩⟩
     refine comp_listT (xs := us) (zL (m := 100) (by omega)) (fun n ys G3 => G2 = G3 ∧ ys.all flatV = true) ⟨rfl, rfl⟩ (fun n ys G3 hw => hw.1 ▸ SqL.of hld3) (fun n y ys G3 hy _ hw => ?_) (fun ys G3 hw p hp => ?_)
     · obtain ⟨rfl, hf⟩ := hw
       obtain ⟨x', hx', T', rfl, hT'⟩ := zS hus2 hy
       refine ⟨T', _, _, rfl, SqT.of hT', tt_true ⟨_, rfl, rfl, ?_⟩⟩
       rw [List.all_append, hf]
       show (true && (flatV (mv x'.2) && true)) = true
       rw [mv_flat]; rfl
     · obtain ⟨rfl, hf⟩ := hw
       have s4 := zI hp (.lst ys)
       refine ⟨p, ys, rfl, .inl (SqL.of zB), rfl, hf, _, rfl, ite2 (fun _ => ?_) (fun _ => stay _ s4)⟩
       exact ⟨_, rfl, .inl ⟨rfl, _, SqL.of (s4 _ _ hld3)⟩, _, rfl, _, rfl, (by show 2 ≤ sizeLine; decide), fun T2 hT2 => ⟨ld, _, _, rfl, rfl, (zI hT2 _) _ _ (s4 _ _ hld3), zL (m := 100) (by omega), app _ s4 T2 hT2⟩⟩
 · obtain ⟨u6', u7', u8', us, r, rfl, F, hld2, hus, hrj, hrG⟩ := hw
   exact hk2 _ _ ⟨_, _, _, us, r, rfl, F, hld2, hus, by omega, hrG⟩
end
end K31
set_option maxHeartbeats 4000000
namespace K31
open PySem L2
seal PE PT PW PA PS PSs PG PGs PI PO PSet OpR UnR CallR TruR IxR SlR PC PPs
local macro_rules | `(tactic| walk_at "rd1") => `(tactic| first
 | (refine And.intro rfl ?_)
 | (refine And.intro (by assumption) ?_)
 | (refine And.intro (fun _ e => e) ?_)
 | (refine And.intro (TyOf.str _) ?_) | (refine And.intro (TyOf.int _) ?_) | (refine And.intro (TyOf.bl _) ?_) | (refine And.intro TyOf.non ?_)
 | (refine iteT ?_) | (refine iteF ?_)
 | (apply Exists.intro))
local macro_rules | `(tactic| walk_at "rd") => `(tactic| repeat (walk_at "rd1"))
def iN (M : List Nat) : List V := M.map fun k => V.int (k : Nat)
theorem iN_len (M : List Nat) : (iN M).length = M.length := List.length_map ..
theorem iN_app (a b : List Nat) : iN (a ++ b) = iN a ++ iN b := List.map_append
theorem iN_flat (b : List Nat) : (iN b).all flatV = true := List.all_eq_true.mpr fun x hx => by
 obtain ⟨k, _, rfl⟩ := List.mem_map.mp hx
 rfl
theorem inV_iN (k : Nat) (M : List Nat) : inV (.int (k : Nat)) (iN M) = decide (k ∈ M) := by
 unfold inV iN
 rw [List.any_map, Bool.eq_iff_iff, List.any_eq_true, decide_eq_true_iff]
 constructor
 · rintro ⟨y, hy, e⟩
   have : y = k := by have : ((y : Nat) : Int) = (k : Nat) := eq_of_beq e; omega
   rw [← this]; exact hy
 · intro h; exact ⟨k, h, by show (((k : Nat) : Int) == (k : Nat)) = true; exact beq_self_eq_true _⟩
def MdX (lf : Addr) (H : Hp) (l : Addr) (M : Mad) : Prop := l ≠ lf ∧ ∃ xs, H l = some (.lst xs) ∧ Paired (RwR lf H) xs M
theorem MdX.fr {lf : Addr} {H H' : Hp} {us : List V} (F : Fr [lf] H H') (hm : H lf = some (.lst us)) {l : Addr} {M : Mad} (h : MdX lf H l M) : MdX lf H' l M := by
 obtain ⟨n, xs, h1, h2⟩ := h
 exact ⟨n, xs, F _ _ h1 (ni1 n), zD h2 fun _ _ r => r.fr F hm⟩
theorem MdR.x {H H' : Hp} (s : Same H H') {lf : Addr} (hn : H lf = none) {l : Addr} {M : Mad} (h : MdR H l M) : MdX lf H' l M := by
 obtain ⟨xs, h1, h2⟩ := h
 refine ⟨zG h1 hn, xs, s _ _ h1, zD h2 fun _ _ r => ?_⟩
 obtain ⟨t, vs, e, n, h3, h4⟩ := r
 exact ⟨t, vs, e, zG h3 hn, s _ _ h3, zD h4 fun _ _ r => r.kp (.of s)⟩
def acM (nm : Nat → Str) (M : Mad) (n : Nat) (r : List Mp) : OT := r.foldl (fun a x => mgO a x.1 (inn nm (tb nm M n) x)) []
theorem acM_snoc (nm : Nat → Str) (M : Mad) (n : Nat) {r : List Mp} {i : Nat} {x : Mp} (h : r[i]? = some x) : acM nm M n (r.take (i + 1)) = mgO (acM nm M n (r.take i)) x.1 (inn nm (tb nm M n) x) := by
 unfold acM
 rw [zX h, List.foldl_append]; rfl
theorem tb_ac (nm : Nat → Str) {M : Mad} (n : Nat) {own : Nat} {r : List Mp} (h : M[own]? = some r) : tb nm M (n + 1) own = acM nm M n r := by
 show (M.getD own []).foldl _ [] = _
 rw [List.getD_eq_getElem?_getD, h]; rfl
theorem step_all {nm : Nat → Str} {f1 f2 : List Nat} {F0 : List Str} {acc l : OT} {m : Int} (h1 : f1.map nm = F0 ++ (qsO acc).filter fun y => decide (y ∉ F0)) (h2 : f2.map nm = f1.map nm ++ (qsO l).filter fun y => decide (y ∉ f1.map nm)) (nd : (kyO l).Nodup) : f2.map nm = F0 ++ (qsO (mgO acc m l)).filter fun y => decide (y ∉ F0) := by
 rw [h2, h1, come_step, ← qs_mg m nd]
theorem mem_nm {nm : Nat → Str} (hi : Inj nm) {f : List Nat} (hf : ∀ k ∈ f, k < 26) {k : Nat} (hk : k < 26) : nm k ∈ f.map nm ↔ k ∈ f := by
 rw [List.mem_map]
 exact ⟨fun ⟨j, hj, e⟩ => by rw [← hi j k (hf j hj) hk e]; exact hj, fun h => ⟨k, h, rfl⟩⟩
def spCome (n : Nat) : Sp := fun vs H Q _ => ∃ (lm lf : Addr) (own m : Nat) (M : Mad) (f : List Nat) (nm : Nat → Str), vs = [.ref lm, .int (own : Nat), .ref lf] ∧ MdX lf H lm M ∧ MG m M ∧ Inj nm ∧ n ≤ 6 ∧ own < M.length ∧ M.length ≤ own + n ∧ H lf = some (.lst (iN f)) ∧ (∀ k ∈ f, k < m) ∧ f.length + 6 ^ n ≤ 100000 ∧
 ∀ f' H', Fr [lf] H H' → H' lf = some (.lst (iN f')) → (∀ k ∈ f', k < m) → f'.length ≤ f.length + 6 ^ n → (f'.map nm = f.map nm ++ (qsO (tb nm M n own)).filter fun y => decide (y ∉ f.map nm)) → Q .non H'
def spTimes (n : Nat) : Sp := fun vs H Q _ => ∃ (lm : Addr) (own m : Nat) (M : Mad) (aim : Option Nat) (nm : Nat → Str), vs = [.ref lm, .int (own : Nat), mv aim] ∧ MdR H lm M ∧ MG m M ∧ Inj nm ∧ n ≤ 6 ∧ own < M.length ∧ M.length ≤ own + n ∧ (∀ k, aim = some k → k < 20) ∧ Q (.int (gtO (tb nm M n own) (aim.map nm))) H
def spNamed (K : W.Frag) : Sp := fun vs H Q _ => ∃ (a : Addr) (ns : List Int) (o : Option Nat), vs = [.ref a, mv o] ∧ SqL K H a (ns.map V.int) ∧ (∀ k, o = some k → k < 26) ∧ ns.length ≤ 1000 ∧ Ns ns ∧ Q (nv (o.map (nmF (cellF ns 0)))) H
section
variable {P : Program} {w : World} {K : W.Frag} {mg : Str → Option Value} {base : Heap} {A : Adr}
theorem ok_law_named (T : Txt K mg A) : FnOk P w K mg base CX0 3 A.f_law_named A.d_law_named ["_law_script", "_law_part_here"] (spNamed K) := by
 have G_law_name := ok_law_name (P := P) (w := w) (base := base) T
 refine T.F_law_named.ok sc_law_named (fun vs H Q E h => ?_) (fun cdv A0 outer s H vs Q E hr h => ?_)
 · obtain ⟨a, ns, o, rfl, _⟩ := h
   rfl
 obtain ⟨a, ns, o, rfl, hS, hk, hl, hb, q⟩ := h
 refine ⟨_, (zF (xB (zO op_isN (pv 1) yV (zY _)) (zH (zR yV)) yI)
     (zH (zR (zM G_law_name (hr.mono (by first | decide | omega)) rfl T.m_law_name T.k_law_name T.b_law_name .nil zP (zA (pv 0) (zA (pv 1) zC)))))), ?_⟩
 cases o with
 | none => exact ⟨_, rfl, rfl, _, rfl, iteT q⟩
 | some k => exact ⟨_, rfl, rfl, _, rfl, iteF ⟨_, rfl, _, rfl, a, ns, k, rfl, hS, hk k rfl, hl, hb, q⟩⟩
theorem ok_law_come (T : Txt K mg A) : ∀ n : Nat, FnOk P w K mg base CX0 (n + 1) A.f_law_come A.d_law_come ["_law_made", "_law_own", "_law_found"] (spCome n)
 | 0 => by
   refine ⟨fun vs H Q E h => ?_, fun _ _ _ _ _ _ _ _ _ _ _ _ _ h => ?_⟩
   · obtain ⟨lm, lf, own, m, M, f, nm, rfl, _, _, _, _, h1, h2, _⟩ := h
     omega
   · obtain ⟨lm, lf, own, m, M, f, nm, rfl, _, _, _, _, h1, h2, _⟩ := h
     omega
 | n + 1 => by
   have G_law_come := ok_law_come T n
   refine T.F_law_come.ok sc_law_come (fun vs H Q E h => ?_) (fun cdv A0 outer s H vs Q E hr h => ?_)
   · obtain ⟨lm, lf, own, m, M, f, nm, rfl, _⟩ := h
     rfl
   obtain ⟨lm, lf, own, m, M, f, nm, rfl, hX, g, hi, hn, ho, hon, hlf, hf, hfl, q⟩ := h
   refine ⟨_, (zH (yS PassesOwn.never rfl (yJ (pe_ix ix_list (pv 0) (pv 1) (fun _ _ => rfl))) (pg_tup rfl (yC (zV (i := 3) sc_law_come.nd rfl (by first | exact Or.inl rfl | exact Or.inr rfl)) (yC (zV (i := 4) sc_law_come.nd rfl (by first | exact Or.inl rfl | exact Or.inr rfl)) pgs_nil))) (zH (xB (PW.pt (pw_and (zO op_notN (pv 4) yV (zY _)) (pw_and1 (zO op_ge (pv 4) zE (zY _))))) (zH (yT (zM G_law_come (hr.mono (by first | decide | omega)) rfl T.m_law_come T.k_law_come T.b_law_come .nil zP (zA (pv 0) (zA (zK op_sub (pv 4) zE) (zA (pv 2) zC)))))) (zH (xB (PW.pt (pw_and (zO op_notN (pv 4) yV (zY _)) (pw_and1 (zO op_notIn_seq (pv 4) (pv 2) (by rfl))))) (zH (yT (pe_bm PySem.F.plainAttrs_list PySem.F.slot_list_append PySem.F.type_list_append mt_append (pv 2) (zA (pv 4) zC)))) yI)))))), ?_⟩
   obtain ⟨nlf, xs, hlm, hxs⟩ := id hX
   have hr0 : M[own]? = some M[own] := List.getElem?_eq_getElem ho
   obtain ⟨g1, g2⟩ := g.row own _ hr0
   have gf := g.few
   have gl := g.len
   obtain ⟨y, hy, t, us, rfl, ntf, ht, hus⟩ := paired_at2 hxs hr0
   have lus := zN hus
   have e1 : tb nm M (n + 1) own = acM nm M n M[own] := tb_ac nm n hr0
   have h6 : 6 ^ (n + 1) = 6 * 6 ^ n := by rw [Nat.pow_succ, Nat.mul_comm]
   refine ⟨_, rfl, _, rfl, lm, _, _, _, rfl, rfl, SqL.of hlm, atI_nat hy, t, rfl, ⟨_, SqL.of ht⟩, ?_⟩
   refine for_listR (xs := us) (fun i σ G => ∃ u3 u4 f1, σ = [some (.ref lm), some (.int (own : Nat)), some (.ref lf), u3, u4] ∧ Fr [lf] H G ∧ G lf = some (.lst (iN f1)) ∧ (∀ k ∈ f1, k < m) ∧ f1.length ≤ f.length + i * 6 ^ n ∧ (f1.map nm = f.map nm ++ (qsO (acM nm M n (M[own].take i))).filter fun y => decide (y ∉ f.map nm))) ⟨_, _, f, rfl, Fr.of (Same.refl _), hlf, hf, (by omega), (by show _ = f.map nm ++ []; rw [List.append_nil])⟩ (fun i σ G _ hw => ?_) (fun i x σ G hxi hw => ?_) (fun σ G hw => ?_)
   · obtain ⟨_, _, _, rfl, F, _⟩ := hw
     exact SqL.of (F _ _ ht (ni1 ntf))
   · obtain ⟨u3, u4, f1, rfl, F, hl1, hf1, hz1, hq1⟩ := hw
     obtain ⟨x, hxr, Tx, rfl, hTx⟩ := zS hus hxi
     have li : i < M[own].length := (List.getElem?_eq_some_iff.mp hxr).1
     have hTG := F _ _ hTx (ni1 (ne_of hTx hlf (by intro z; cases z)))
     have hi6 : i * 6 ^ n + 6 ^ n ≤ 6 * 6 ^ n := by
       have := Nat.mul_le_mul_right (6 ^ n) (show i + 1 ≤ 6 by omega)
       rw [Nat.succ_mul] at this; exact this
     have h61 : 1 ≤ 6 ^ n := Nat.pow_pos (by decide)
     refine ⟨Tx, _, rfl, SqT.of hTG, rfl, _, _, rfl, _, _, rfl, rfl, ?_⟩
     dsimp only [gName, List.set_cons_succ, List.set_cons_zero]
     have fin : ∀ f2 G2, Fr [lf] G G2 → G2 lf = some (.lst (iN f2)) → (∀ k ∈ f2, k < m) → f2.length ≤ f1.length + 6 ^ n → (f2.map nm = f1.map nm ++ (qsO (inn nm (tb nm M n) x)).filter fun y => decide (y ∉ f1.map nm)) → ∃ u3 u4 f1, ([some (.ref lm), some (.int (own : Nat)), some (.ref lf), some (.int x.1), some (mv x.2)] : St) = [some (.ref lm), some (.int (own : Nat)), some (.ref lf), u3, u4] ∧ Fr [lf] H G2 ∧ G2 lf = some (.lst (iN f1)) ∧ (∀ k ∈ f1, k < m) ∧ f1.length ≤ f.length + (i + 1) * 6 ^ n ∧ (f1.map nm = f.map nm ++ (qsO (acM nm M n (M[own].take (i + 1)))).filter fun y => decide (y ∉ f.map nm)) := fun f2 G2 F2 hl2 hf2 hz2 hq2 => by
       refine ⟨_, _, f2, rfl, F.trans F2, hl2, hf2, (by rw [Nat.succ_mul]; omega), ?_⟩
       rw [acM_snoc nm M n hxr]
       exact step_all hq1 hq2 (nd_inn ..)
     obtain ⟨_, g3⟩ := g2 x (List.mem_of_getElem? hxr)
     obtain ⟨x1, x2⟩ := x
     cases x2 with
     | none =>
       refine ⟨_, rfl, rfl, _, rfl, iteF (iteO rfl ⟨_, rfl, rfl, _, rfl, iteF (iteO rfl ?_)⟩)⟩
       exact fin f1 G (Fr.of (Same.refl _)) hl1 hf1 (by omega) (by show _ = f1.map nm ++ []; rw [List.append_nil])
     | some k =>
       refine ⟨_, rfl, rfl, _, rfl, iteT ⟨_, rfl, _, _, rfl, rfl, _, rfl, ?_⟩⟩
       rcases g3 k rfl with h5 | h5
       · refine iteO (decide_eq_false (by show ¬ ((20 : Int) ≤ (k : Nat)); omega)) ?_
         have e2 : inn nm (tb nm M n) (x1, some k) = [(some (nm k), 1)] := if_pos (by omega)
         rw [e2] at fin
         refine ⟨_, rfl, rfl, _, rfl, iteT ⟨_, rfl, _, rfl, lf, _, rfl, .inl (SqL.of hl1), rfl, iN_flat f1, _, rfl, ?_⟩⟩
         show if (!inV (.int (k : Nat)) (iN f1)) = true then _ else _
         rw [inV_iN]
         have hmn := mem_nm hi (fun j hj => by have := hf1 j hj; omega) (show k < 26 by omega)
         by_cases c : k ∈ f1
         · rw [decide_eq_true c]
           refine iteF (fin f1 G (Fr.of (Same.refl _)) hl1 hf1 (by omega) ?_)
           show _ = f1.map nm ++ [nm k].filter _
           rw [List.filter_cons, if_neg (by rw [decide_eq_true_iff]; exact fun z => z (hmn.mpr c))]
           show _ = f1.map nm ++ []
           rw [List.append_nil]
         · rw [decide_eq_false c]
           refine iteT ⟨_, rfl, .inl ⟨rfl, _, SqL.of hl1⟩, _, rfl, lf, _, _, rfl, rfl, hl1, zL (m := 100000) (by rw [iN_len]; omega), ?_⟩
           refine fin (f1 ++ [k]) _ ((Fr.of (Same.refl _)).upd (List.mem_singleton.mpr rfl) _) (by rw [zB, iN_app]; rfl) (fun j hj => ?_) (by rw [List.length_append, List.length_singleton]; omega) ?_
           · rcases List.mem_append.mp hj with h | h
             · exact hf1 j h
             · rw [List.mem_singleton.mp h]; exact h5
           · rw [List.map_append]
             show f1.map nm ++ [nm k] = f1.map nm ++ [nm k].filter _
             have hno : nm k ∉ f1.map nm := fun z => c (hmn.mp z)
             rw [List.filter_cons, if_pos (decide_eq_true hno)]; rfl
       · refine iteB (decide_eq_true (by show (20 : Int) ≤ (k : Nat); omega)) ?_
         have e2 : inn nm (tb nm M n) (x1, some k) = tb nm M n (k - 20) := if_neg (by omega)
         rw [e2] at fin
         refine ⟨_, rfl, _, rfl, _, _, rfl, rfl, _, rfl, lm, lf, k - 20, m, M, f1, nm, (by show [V.ref lm, V.int ((k : Nat) - 20 : Int), V.ref lf] = _; rw [show ((k : Nat) : Int) - 20 = ((k - 20 : Nat) : Int) by omega]), hX.fr F hlf, g, hi, by omega, by omega, by omega, hl1, hf1, by omega, fun f2 G2 F2 hl2 hf2 hz2 hq2 => fin f2 G2 F2 hl2 hf2 hz2 hq2⟩
   · obtain ⟨u3, u4, f1, rfl, F, hl1, hf1, hz1, hq1⟩ := hw
     rw [lus] at hq1 hz1
     rw [List.take_length] at hq1
     have := Nat.mul_le_mul_right (6 ^ n) g1
     exact q f1 G F hl1 hf1 (by omega) (by rw [e1]; exact hq1)
theorem gt_one (y : Option Str) (q : Option Str) : gtO [(y, 1)] q = if y = q then 1 else 0 := yZ ..
theorem ok_law_times (T : Txt K mg A) : ∀ n : Nat, FnOk P w K mg base CX0 (n + 1) A.f_law_times A.d_law_times ["_law_made", "_law_own", "_law_aim"] (spTimes n)
 | 0 => by
   refine ⟨fun vs H Q E h => ?_, fun _ _ _ _ _ _ _ _ _ _ _ _ _ h => ?_⟩
   · obtain ⟨lm, own, m, M, aim, nm, rfl, _, _, _, _, h1, h2, _⟩ := h
     omega
   · obtain ⟨lm, own, m, M, aim, nm, rfl, _, _, _, _, h1, h2, _⟩ := h
     omega
 | n + 1 => by
   have G_law_times := ok_law_times T n
   refine T.F_law_times.ok sc_law_times (fun vs H Q E h => ?_) (fun cdv A0 outer s H vs Q E hr h => ?_)
   · obtain ⟨lm, own, m, M, aim, nm, rfl, _⟩ := h
     rfl
   obtain ⟨lm, own, m, M, aim, nm, rfl, hX, g, hi, hn, ho, hon, ha, q⟩ := h
   refine ⟨_, (zF (zW (i := 3) sc_law_times.nd rfl (by first | exact Or.inl rfl | exact Or.inr rfl) zE)
     (zF (yS PassesOwn.never rfl (yJ (pe_ix ix_list (pv 0) (pv 1) (fun _ _ => rfl))) (pg_tup rfl (yC (zV (i := 4) sc_law_times.nd rfl (by first | exact Or.inl rfl | exact Or.inr rfl)) (yC (zV (i := 5) sc_law_times.nd rfl (by first | exact Or.inl rfl | exact Or.inr rfl)) pgs_nil))) (zH (xB (zO op_eq (pv 5) (pv 2) (zY _)) (zH (zW (i := 3) sc_law_times.nd rfl (by first | exact Or.inl rfl | exact Or.inr rfl) (zK yH (pv 3) (pv 4)))) (zH (xB (PW.pt (pw_and (zO op_notN (pv 5) yV (zY _)) (pw_and1 (zO op_ge (pv 5) zE (zY _))))) (zH (zW (i := 3) sc_law_times.nd rfl (by first | exact Or.inl rfl | exact Or.inr rfl) (zK yH (pv 3) (zK yU (pv 4) (zM G_law_times (hr.mono (by first | decide | omega)) rfl T.m_law_times T.k_law_times T.b_law_times .nil zP (zA (pv 0) (zA (zK op_sub (pv 5) zE) (zA (pv 2) zC)))))))) yI)))))
     (zH (zR (pv 3))))), ?_⟩
   obtain ⟨xs, hlm, hxs⟩ := id hX
   have hr0 : M[own]? = some M[own] := List.getElem?_eq_getElem ho
   obtain ⟨g1, g2⟩ := g.row own _ hr0
   have gf := g.few
   have gl := g.len
   obtain ⟨y, hy, t, us, rfl, ntf, ht, hus⟩ := paired_at2 hxs hr0
   have lus := zN hus
   have e1 : tb nm M (n + 1) own = acM nm M n M[own] := tb_ac nm n hr0
   dsimp only [gName, List.set_cons_succ, List.set_cons_zero]
   refine ⟨_, rfl, _, rfl, lm, _, _, _, rfl, rfl, SqL.of hlm, atI_nat hy, t, rfl, ⟨_, SqL.of ht⟩, ?_⟩
   refine for_listR (xs := us) (fun i σ G => ∃ u4 u5, σ = [some (.ref lm), some (.int (own : Nat)), some (mv aim), some (.int (gtO (acM nm M n (M[own].take i)) (aim.map nm))), u4, u5] ∧ H = G) ⟨_, _, rfl, rfl⟩ (fun i σ G _ hw => ?_) (fun i x σ G hxi hw => ?_) (fun σ G hw => ?_)
   · obtain ⟨_, _, rfl, rfl⟩ := hw
     exact SqL.of ht
   · obtain ⟨u4, u5, rfl, rfl⟩ := hw
     obtain ⟨x, hxr, Tx, rfl, hTx⟩ := zS hus hxi
     obtain ⟨hx1, g3⟩ := g2 x (List.mem_of_getElem? hxr)
     refine ⟨Tx, _, rfl, SqT.of hTx, rfl, _, _, rfl, _, _, rfl, rfl, ?_⟩
     dsimp only [gName, List.set_cons_succ, List.set_cons_zero]
     rw [acM_snoc nm M n hxr, gt_mg x.1 (aim.map nm) (nd_inn ..)]
     generalize gtO (acM nm M n (M[own].take i)) (aim.map nm) = s0
     obtain ⟨x1, x2⟩ := x
     have hx1 : x1.natAbs ≤ 2 * 10 ^ 18 := hx1
     have hz : ∀ v, v = gtO (inn nm (tb nm M n) (x1, x2)) (aim.map nm) → v = 0 → ∃ u4 u5, ([some (.ref lm), some (.int (own : Nat)), some (mv aim), some (.int s0), some (.int x1), some (mv x2)] : St) = [some (.ref lm), some (.int (own : Nat)), some (mv aim), some (.int (s0 + x1 * v)), u4, u5] ∧ H = H := fun v _ e => ⟨some (.int x1), some (mv x2), by rw [e, Int.mul_zero, Int.add_zero], rfl⟩
     cases x2 with
     | none =>
       have e2 : gtO (inn nm (tb nm M n) (x1, none)) (aim.map nm) = if none = aim.map nm then 1 else 0 := gt_one ..
       rw [e2] at hz ⊢
       cases aim with
       | none =>
         rw [show (if (none : Option Str) = Option.map nm none then (1 : Int) else 0) = 1 from if_pos rfl, Int.mul_one]
         exact ⟨_, rfl, _, rfl, rfl, _, rfl, iteT ⟨_, rfl, _, rfl, _, _, rfl, rfl, _, _, rfl, rfl⟩⟩
       | some k =>
         have e3 : (if (none : Option Str) = Option.map nm (some k) then (1 : Int) else 0) = 0 := if_neg (by intro z; cases z)
         refine ⟨_, rfl, _, rfl, rfl, _, rfl, iteF ⟨_, rfl, rfl, _, rfl, iteF (iteO rfl ?_)⟩⟩
         exact hz _ rfl e3
     | some k =>
       rcases g3 k rfl with h5 | h5
       · have e2 : gtO (inn nm (tb nm M n) (x1, some k)) (aim.map nm) = if some (nm k) = aim.map nm then 1 else 0 := by
           show gtO (if k < 20 then _ else _) _ = _
           rw [if_pos (by omega)]; exact gt_one ..
         rw [e2] at hz ⊢
         have nge : decide ((20 : Int) ≤ ((k : Nat) : Int)) = false := decide_eq_false (by omega)
         cases aim with
         | none =>
           have e3 : (if some (nm k) = Option.map nm none then (1 : Int) else 0) = 0 := if_neg (by intro z; cases z)
           refine ⟨_, rfl, _, rfl, rfl, _, rfl, iteF ⟨_, rfl, rfl, _, rfl, iteT ⟨_, rfl, _, _, rfl, rfl, _, rfl, iteO nge ?_⟩⟩⟩
           exact hz _ rfl e3
         | some j =>
           have hj := ha j rfl
           refine ⟨_, rfl, _, rfl, rfl, _, rfl, ?_⟩
           by_cases c : k = j
           · subst c
             rw [show (if some (nm k) = Option.map nm (some k) then (1 : Int) else 0) = 1 from if_pos rfl, Int.mul_one]
             exact iteB (decide_eq_true rfl) ⟨_, rfl, _, rfl, _, _, rfl, rfl, _, _, rfl, rfl⟩
           · have e3 : (if some (nm k) = Option.map nm (some j) then (1 : Int) else 0) = 0 := if_neg fun z => c (hi k j (by omega) (by omega) (Option.some.inj z))
             refine iteO (decide_eq_false fun z => c (by have := V.int.inj z; omega)) ⟨_, rfl, rfl, _, rfl, iteT ⟨_, rfl, _, _, rfl, rfl, _, rfl, iteO nge ?_⟩⟩
             exact hz _ rfl e3
       · have e2 : inn nm (tb nm M n) (x1, some k) = tb nm M n (k - 20) := if_neg (by omega)
         rw [e2]
         have hb := (ob_tb (nm := nm) g n (k - 20) (by omega) (by omega)).get (aim.map nm)
         have hb6 := bO_le (n := n) (by omega)
         have sc : scal (mv (some k)) (mv aim) = true := by cases aim <;> rfl
         have ne : ¬ mv (some k) = mv aim := fun z => by
           cases aim with
           | none => cases z
           | some j => have := ha j rfl; have := V.int.inj z; omega
         refine ⟨_, rfl, _, rfl, sc, _, rfl, iteO (decide_eq_false ne) ⟨_, rfl, rfl, _, rfl, iteT ⟨_, rfl, _, _, rfl, rfl, _, rfl, iteB (decide_eq_true (by show (20 : Int) ≤ (k : Nat); omega)) ?_⟩⟩⟩
         refine ⟨_, rfl, _, rfl, _, rfl, _, rfl, _, _, rfl, rfl, _, rfl, lm, k - 20, m, M, aim, nm, (by show [V.ref lm, V.int ((k : Nat) - 20 : Int), mv aim] = _; rw [show ((k : Nat) : Int) - 20 = ((k - 20 : Nat) : Int) by omega]), hX, g, hi, by omega, by omega, by omega, ha, ?_⟩
         exact ⟨_, _, rfl, rfl, ⟨ibq (Nat.le_trans hx1 (by symm)), ibq (Nat.le_trans hb hb6)⟩, _, _, rfl, rfl, _, _, rfl, rfl⟩
   · obtain ⟨u4, u5, rfl, rfl⟩ := hw
     rw [lus, List.take_length, ← e1]
     exact ⟨_, rfl, q⟩
end
end K31
set_option maxHeartbeats 4000000
namespace K31
open PySem L2
seal PE PT PW PA PS PSs PG PGs PI PO PSet OpR UnR CallR TruR IxR SlR PC PPs
local macro_rules | `(tactic| walk_at "rd1") => `(tactic| first
 | (refine And.intro rfl ?_)
 | (refine And.intro (by assumption) ?_)
 | (refine And.intro (fun _ e => e) ?_)
 | (refine And.intro (TyOf.str _) ?_) | (refine And.intro (TyOf.int _) ?_) | (refine And.intro (TyOf.bl _) ?_) | (refine And.intro TyOf.non ?_)
 | (refine iteT ?_) | (refine iteF ?_)
 | (apply Exists.intro))
local macro_rules | `(tactic| walk_at "rd") => `(tactic| repeat (walk_at "rd1"))
def nmN (ns : List Int) : Nat → Str := nmF (cellF ns 0)
theorem nmN_inj (ns : List Int) : Inj (nmN ns) := fun j k hj hk e => nm_inj hj hk e
def spTerms (K : W.Frag) : Sp := fun vs H Q _ => ∃ (lm a : Addr) (own m : Nat) (M : Mad) (ns : List Int), vs = [.ref lm, .int (own : Nat), .ref a] ∧ MdR H lm M ∧ MG m M ∧ own < M.length ∧ SqL K H a (ns.map V.int) ∧ ns.length ≤ 1000 ∧ Ns ns ∧
 ∀ T l1 l2 xs H', Same H H' → H' T = some (.tup [.ref l1, .ref l2]) → H' l1 = some (.lst ((qsO (tb (nmN ns) M 6 own)).map V.str)) → H' l2 = some (.lst xs) → Paired (PtR H') xs (trm (tb (nmN ns) M 6 own)) → Q (.ref T) H'
def AskR (A : Adr) (H : Hp) (x : V) (zk : Str × Addr) : Prop := ∃ r dr u3, x = .ref r ∧ H r = some (oAsk A dr (.str zk.1) (.ref zk.2) u3)
theorem AskR.same {A : Adr} {H H' : Hp} (s : Same H H') {x : V} {zk : Str × Addr} (h : AskR A H x zk) : AskR A H' x zk := by
 obtain ⟨r, dr, u3, e, h⟩ := h
 exact ⟨r, dr, u3, e, s _ _ h⟩
def kvA (L : List (Str × Addr)) : List (Key × V) := L.map fun zk => (.inr zk.1, .ref zk.2)
def spKinds (A : Adr) : Sp := fun vs H Q _ => ∃ a da u q1 q2 sh ds u1 u2 qr qw xs L, vs = [.ref a] ∧ H a = some (oPa A da u q1 q2) ∧ H q1 = some (.lst [.ref sh]) ∧ H sh = some (oSh A ds u1 u2 qr qw) ∧ H qr = some (.lst xs) ∧ Paired (AskR A H) xs L ∧ (L.map (·.1)).Nodup ∧ L.length ≤ 100 ∧
 ∀ d H', Same H H' → H d = none → H' d = some (.dK (kvA L)) → Q (.ref d) H'
theorem kvA_snoc {L : List (Str × Addr)} {i : Nat} {x : Str × Addr} (h : L[i]? = some x) (nd : (L.map (·.1)).Nodup) : putK (kvA (L.take i)) (.inr x.1) (.ref x.2) = kvA (L.take (i + 1)) := by
 have e : kvA (L.take (i + 1)) = kvA (L.take i) ++ [(.inr x.1, .ref x.2)] := by
   unfold kvA
   rw [zX h, List.map_append]; rfl
 rw [e]
 refine putK_new _ (valV_out fun hm => ?_)
 unfold kvA at hm
 rw [List.map_map] at hm
 obtain ⟨y, hy, ey⟩ := List.mem_map.mp hm
 have ey : y.1 = x.1 := Sum.inr.inj ey
 obtain ⟨j, hj⟩ := List.getElem?_of_mem hy
 have lj := (List.getElem?_eq_some_iff.mp hj).1
 rw [List.length_take] at lj
 rw [List.getElem?_take_of_lt (by omega)] at hj
 have li := (List.getElem?_eq_some_iff.mp h).1
 have := (List.getElem?_inj (l := L.map (·.1)) (i := j) (j := i) (by rw [List.length_map]; omega) nd).mp (by rw [List.getElem?_map, List.getElem?_map, hj, h]; exact congrArg some ey)
 omega
section
variable {P : Program} {w : World} {K : W.Frag} {mg : Str → Option Value} {base : Heap} {A : Adr}
theorem ok_kinds_of (T : Txt K mg A) : FnOk P w K mg base CX0 1 A.f_kinds_of A.d_kinds_of ["paper"] (spKinds A) := by
 refine T.F_kinds_of.ok sc_kinds_of (fun vs H Q E h => ?_) (fun cdv A0 outer s H vs Q E hr h => ?_)
 · obtain ⟨a, da, u, q1, q2, sh, ds, u1, u2, qr, qw, xs, L, rfl, _⟩ := h
   rfl
 obtain ⟨a, da, u, q1, q2, sh, ds, u1, u2, qr, qw, xs, L, rfl, ha, hq1, hsh, hqr, hxs, nd, hL, q⟩ := h
 refine ⟨_, (zF (zW (i := 1) sc_kinds_of.nd rfl (by first | exact Or.inl rfl | exact Or.inr rfl) pe_dnewK)
     (zF (yS PassesOwn.never rfl (yJ (pe_fld (pv 0) rfl)) (zV (i := 2) sc_kinds_of.nd rfl (by first | exact Or.inl rfl | exact Or.inr rfl)) (zH (yS PassesOwn.never rfl (yJ (pe_fld (pv 2) rfl)) (zV (i := 3) sc_kinds_of.nd rfl (by first | exact Or.inl rfl | exact Or.inr rfl)) (zH (xB (pt_val (zZ call_isi (by rfl) T.n_isinstance Bt.isinstance (zA (pv 3) (zA (pe_gv rfl T.v_Ask) zC)))) (zH (ps_dput (hu_of hr) (pv 1) (pe_fld (pv 3) rfl) (pe_fld (pv 3) rfl) rfl)) yI)))))
     (zH (zR (pv 1))))), ?_⟩
 intro d hd
 have s0 := zI hd (.dK [])
 have lxs := zN hxs
 have nd1 : ∀ {b : Addr} {o : HO} {G : Hp}, Fr [d] (upd H d (.dK [])) G → H b = some o → G b = some o := fun {b o G} F hb => F _ _ (s0 _ _ hb) (ni1 (zG hb hd))
 refine ⟨_, rfl, a, _, da, _, _, rfl, s0 _ _ ha, T.cl_Paper, T.no_Paper_sheets, rfl, q1, rfl, ⟨_, SqL.of (s0 _ _ hq1)⟩, ?_⟩
 refine for_listR (xs := [.ref sh]) (fun i σ G => ∃ u v, σ = [some (.ref a), some (.ref d), u, v] ∧ Fr [d] (upd H d (.dK [])) G ∧ G d = some (.dK (if i = 0 then [] else kvA L))) ⟨_, _, rfl, Fr.of (Same.refl _), zB⟩ (fun i σ G hi hw => ?_) (fun i x σ G hx hw => ?_) (fun σ G hw => ?_)
 · obtain ⟨u, v, rfl, F, _⟩ := hw
   exact SqL.of (nd1 F hq1)
 · obtain ⟨u, v, rfl, F, hd'⟩ := hw
   have hi : i = 0 := by have := (List.getElem?_eq_some_iff.mp hx).1; rw [List.length_singleton] at this; omega
   subst hi
   cases Option.some.inj hx
   rw [if_pos rfl] at hd'
   refine ⟨_, rfl, sh, _, ds, _, _, rfl, nd1 F hsh, T.cl_Sheet, T.no_Sheet_rows, rfl, qr, rfl, ⟨_, SqL.of (nd1 F hqr)⟩, ?_⟩
   refine for_listR (xs := xs) (fun j σ G => ∃ v, σ = [some (.ref a), some (.ref d), some (.ref sh), v] ∧ Fr [d] (upd H d (.dK [])) G ∧ G d = some (.dK (kvA (L.take j)))) ⟨_, rfl, F, hd'⟩ (fun j σ G2 hj hw => ?_) (fun j x σ G2 hx2 hw => ?_) (fun σ G2 hw => ?_)
   · obtain ⟨v, rfl, F, _⟩ := hw
     exact SqL.of (nd1 F hqr)
   · obtain ⟨v, rfl, F, hd'⟩ := hw
     obtain ⟨zk, hzk, ra, rdx, u3, rfl, hr⟩ := zS hxs hx2
     have lj := (List.getElem?_eq_some_iff.mp hzk).1
     have hr2 := nd1 F hr
     refine ⟨_, rfl, _, _, _, _, rfl, rfl, .old (T.ty_Ask G2 ra rdx _ hr2), T.kr_Ask_Ask, _, rfl, iteT ?_⟩
     refine ⟨_, rfl, ra, _, rdx, _, _, rfl, hr2, T.cl_Ask, T.no_Ask_kind, rfl, _, rfl, _, rfl, ra, _, rdx, _, _, rfl, hr2, T.cl_Ask, T.no_Ask_name, rfl, d, _, rfl, DPut.k (k := .inr zk.1) hd' (zL (m := 1000) (by unfold kvA; rw [List.length_map, List.length_take]; omega)), ?_⟩
     rw [kvA_snoc hzk nd]
     exact ⟨_, rfl, F.upd (List.mem_singleton.mpr rfl) _, zB⟩
   · obtain ⟨v, rfl, F, hd'⟩ := hw
     rw [lxs, List.take_length] at hd'
     exact ⟨_, _, rfl, F, hd'⟩
 · obtain ⟨u, v, rfl, F, hd'⟩ := hw
   exact ⟨_, rfl, q d G (fun b o hb => nd1 F hb) hd hd'⟩
theorem ok_law_told (T : Txt K mg A) : FnOk P w K mg base CX0 9 A.f_law_told A.d_law_told ["_law_paper", "_law_name_here"] (spPut A) := by
 have G_put_together := ok_put_together (P := P) (w := w) (base := base) T
 have G_law_whole := ok_law_whole (P := P) (w := w) (base := base) T
 refine T.F_law_told.ok sc_law_told (fun vs H Q E h => ?_) (fun cdv A0 outer s H vs Q E hr h => ?_)
 · obtain ⟨a, da, u, q1, q2, ts, z, t, rfl, _⟩ := h
   rfl
 obtain ⟨a, da, u, q1, q2, ts, z, t, rfl, ha, hts, hG, hgz, hz, q⟩ := h
 refine ⟨_, (zF (zW (i := 2) sc_law_told.nd rfl (by first | exact Or.inl rfl | exact Or.inr rfl) (zM G_put_together (hr.mono (by first | decide | omega)) rfl T.m_put_together T.k_put_together T.b_put_together .nil zP (zA (pv 0) (zA (pv 1) zC))))
     (zF (xB (PW.pt (pw_or (pt_not (pt_val (zZ call_isi (by rfl) T.n_isinstance Bt.isinstance (zA (pv 2) (zA (pe_bltn (v := .ty "tuple") rfl T.n_tuple Bt.tuple rfl) zC))))) (pw_or (zO op_ne (zZ yL (by rfl) T.n_len PySem.boot_len (zA (pv 2) zC)) zE (zY _)) (pw_or (pt_not (pt_val (zZ call_isi (by rfl) T.n_isinstance Bt.isinstance (zA (pe_ix ix_tup (pv 2) zE (fun _ _ => rfl)) (zA (pe_bltn (v := .ty "list") rfl T.n_list Bt.list rfl) zC))))) (pw_or1 (pt_not (pt_val (zM G_law_whole (hr.mono (by first | decide | omega)) rfl T.m_law_whole T.k_law_whole T.b_law_whole .nil zP (zA (pe_ix ix_tup (pv 2) zE (fun _ _ => rfl)) zC))))))))) (zH (zR yV)) yI)
     (zF (yS PassesOwn.never rfl (yJ (pe_ix ix_tup (pv 2) zE (fun _ _ => rfl))) (zV (i := 3) sc_law_told.nd rfl (by first | exact Or.inl rfl | exact Or.inr rfl)) (zH (xB (PW.pt (pw_or (pt_not (pt_val (zZ call_isi (by rfl) T.n_isinstance Bt.isinstance (zA (pv 3) (zA (pe_bltn (v := .ty "tuple") rfl T.n_tuple Bt.tuple rfl) zC))))) (pw_or (zO op_ne (zZ yL (by rfl) T.n_len PySem.boot_len (zA (pv 3) zC)) zE (zY _)) (pw_or (pt_not (pt_val (zM G_law_whole (hr.mono (by first | decide | omega)) rfl T.m_law_whole T.k_law_whole T.b_law_whole .nil zP (zA (pe_ix ix_tup (pv 3) zE (fun _ _ => rfl)) zC)))) (pw_or1 (pt_not (pt_val (zZ call_isi (by rfl) T.n_isinstance Bt.isinstance (zA (pe_ix ix_tup (pv 3) zE (fun _ _ => rfl)) (zA (pe_bltn (v := .ty "str") rfl T.n_str Bt.str rfl) zC)))))))))) (zH (zR yV)) yI)))
     (zH (zR (pv 2)))))), ?_⟩
 refine ⟨_, rfl, _, rfl, a, da, u, q1, q2, ts, z, t, rfl, ha, hts, hG, hgz, hz, fun T1 l xs H1 s1 nT nl nTl hT hl hxs => ?_⟩
 dsimp only [gName, List.set_cons_succ, List.set_cons_zero]
 have hq := q T1 l xs H1 s1 nT nl nTl hT hl hxs
 have lxs := zN hxs
 refine ⟨_, rfl, _, _, _, _, rfl, rfl, .tpl (SqT.of hT), T.i_tuple_tuple, _, rfl, iteF ?_⟩
 refine ⟨_, rfl, T1, _, rfl, .inr (SqT.of hT), rfl, _, rfl, iteF ?_⟩
 refine ⟨_, rfl, T1, _, _, _, rfl, rfl, SqT.of hT, rfl, _, _, _, _, rfl, rfl, .old (.lst hl), T.i_list_list, _, rfl, iteF ?_⟩
 refine ⟨_, rfl, T1, _, _, _, rfl, rfl, SqT.of hT, rfl, _, rfl, _, rfl, iteF ?_⟩
 refine ⟨_, rfl, T1, _, _, _, rfl, rfl, SqT.of hT, rfl, l, rfl, ⟨_, SqL.of hl⟩, ?_⟩
 refine for_listR (xs := xs) (fun i σ G => ∃ u, σ = [some (.ref a), some (.str z), some (.ref T1), u] ∧ H1 = G) ⟨_, rfl, rfl⟩ (fun i σ G hi hw => ?_) (fun i x σ G hx hw => ?_) (fun σ G hw => ?_)
 · obtain ⟨u, rfl, rfl⟩ := hw
   exact SqL.of hl
 · obtain ⟨u, rfl, rfl⟩ := hw
   obtain ⟨p, hp, Tp, rfl, hTp⟩ := zS hxs hx
   obtain ⟨pq, hpq, hpe⟩ := List.mem_filterMap.mp (List.mem_of_getElem? hp)
   obtain ⟨y, hy⟩ : ∃ y, p.2 = some y := by
     unfold trF at hpe
     split at hpe
     · split at hpe
       · cases hpe
       · cases hpe; exact ⟨_, rfl⟩
     · cases hpe
   rw [hy] at hTp
   refine ⟨_, rfl, _, _, _, _, rfl, rfl, .tpl (SqT.of hTp), T.i_tuple_tuple, _, rfl, iteF ?_⟩
   refine ⟨_, rfl, Tp, _, rfl, .inr (SqT.of hTp), rfl, _, rfl, iteF ?_⟩
   refine ⟨_, rfl, Tp, _, _, _, rfl, rfl, SqT.of hTp, rfl, _, rfl, _, rfl, iteF ?_⟩
   refine ⟨_, rfl, Tp, _, _, _, rfl, rfl, SqT.of hTp, rfl, _, _, _, _, rfl, rfl, .old (.str _), T.i_str_str, _, rfl, iteF ?_⟩
   exact ⟨_, rfl, rfl⟩
 · obtain ⟨u, rfl, rfl⟩ := hw
   exact ⟨_, rfl, hq⟩
theorem ok_law_terms (T : Txt K mg A) : FnOk P w K mg base CX0 8 A.f_law_terms A.d_law_terms ["_law_made", "_law_own", "_law_script"] (spTerms K) := by
 have G_law_come := ok_law_come (P := P) (w := w) (base := base) T 6
 have G_law_times := ok_law_times (P := P) (w := w) (base := base) T 6
 have G_law_name := ok_law_name (P := P) (w := w) (base := base) T
 refine T.F_law_terms.ok sc_law_terms (fun vs H Q E h => ?_) (fun cdv A0 outer s H vs Q E hr h => ?_)
 · obtain ⟨lm, a, own, m, M, ns, rfl, _⟩ := h
   rfl
 obtain ⟨lm, a, own, m, M, ns, rfl, hM, g, ho, hS, hl, hb, q⟩ := h
 refine ⟨_, (zF (zW (i := 3) sc_law_terms.nd rfl (by first | exact Or.inl rfl | exact Or.inr rfl) (pe_lst zC))
     (zF (yT (zM G_law_come (hr.mono (by first | decide | omega)) rfl T.m_law_come T.k_law_come T.b_law_come .nil zP (zA (pv 0) (zA (pv 1) (zA (pv 3) zC)))))
     (zF (ps_compR (i := 4) sc_law_terms.nd rfl (by first | exact Or.inl rfl | exact Or.inr rfl) (yF (x := "_law_part_here") (M := ["_law_made", "_law_own", "_law_script", "_law_come_here", "_law_terms_here"]) rfl (by rfl)) rfl (yJ (pv 3)) (fun _ _ _ _ => (pe_tup (zA (zM G_law_times (hr.mono (by first | decide | omega)) rfl T.m_law_times T.k_law_times T.b_law_times .nil zP (zA (pv 1) (zA (pv 2) (zA (pv 0) zC)))) (zA (zM G_law_name (hr.mono (by first | decide | omega)) rfl T.m_law_name T.k_law_name T.b_law_name .nil zP (zA (pv 3) (zA (pv 0) zC))) zC)))))
     (zH (zR (pe_tup (zA (pe_compR (yF (x := "_law_part_here") (M := ["_law_made", "_law_own", "_law_script", "_law_come_here", "_law_terms_here"]) rfl (by rfl)) rfl (yJ (pv 3)) (fun _ _ _ _ => (zM G_law_name (hr.mono (by first | decide | omega)) rfl T.m_law_name T.k_law_name T.b_law_name .nil zP (zA (pv 3) (zA (pv 0) zC))))) (zA (pe_compF (yF (x := "_law_row") (M := ["_law_made", "_law_own", "_law_script", "_law_come_here", "_law_terms_here"]) rfl (by rfl)) rfl (yJ (pv 4)) (fun _ _ _ _ => pifs_eqv (by exact (pifs_one (zO op_ne (pe_ix ix_tup (pv 0) zE (fun _ _ => rfl)) zE (zY _)))) (by dsimp only [compCx] <;> rfl)) (fun _ _ _ _ => pe_eqv (by exact (pv 0)) (by dsimp only [compCx] <;> rfl))) zC)))))))), ?_⟩
 have gl := g.len
 have gf := g.few
 refine ⟨(by show 0 ≤ sizeLine; decide), fun lf hlf => ?_⟩
 have s0 := zI hlf (.lst [])
 dsimp only [gName, List.set_cons_succ, List.set_cons_zero]
 refine ⟨_, rfl, _, rfl, _, rfl, lm, lf, own, m, M, [], nmN ns, rfl, hM.x s0 hlf, g, nmN_inj ns, Nat.le_refl _, ho, by omega, zB, (fun k h => by cases h), by decide, fun f H1 F hl1 hf hz hq => ?_⟩
 have s1 : Same H H1 := fun b o hb' => F _ _ (s0 _ _ hb') (ni1 (zG hb' hlf))
 have hq : f.map (nmN ns) = qsO (tb (nmN ns) M 6 own) := by
   rw [hq]
   show [] ++ _ = _
   rw [List.nil_append]
   exact List.filter_eq_self.mpr fun y _ => decide_eq_true (by intro z; cases z)
 have hz : f.length ≤ 46656 := by rw [List.length_nil, Nat.zero_add] at hz; exact hz
 have hnd := nd_tb (nmN ns) M 6 own
 generalize ht : tb (nmN ns) M 6 own = t at hq hnd q
 refine ⟨_, rfl, lf, rfl, ⟨_, SqL.of hl1⟩, ?_⟩
 refine comp_listR (xs := iN f) (zL (m := 46656) (by rw [iN_len]; exact hz)) (fun i ys G => Same H1 G ∧ Paired (PtR G) ys ((f.take i).map fun k => (gtO t (some (nmN ns k)), some (nmN ns k)))) ⟨Same.refl _, .nil⟩ (fun i ys G hw => SqL.of (hw.1 _ _ hl1)) (fun i x ys G hx _ hw => ?_) (fun ys G _ hw p hp => ?_)
 · obtain ⟨sG, hys⟩ := hw
   obtain ⟨k, hk, rfl⟩ := map_get hx
   have hkm := hf k (List.mem_of_getElem? hk)
   refine ⟨_, rfl, _, rfl, _, rfl, lm, own, m, M, some k, nmN ns, rfl, hM.same (s1.trans sG), g, nmN_inj ns, Nat.le_refl _, ho, by omega, (fun j e => by cases e; omega), ?_⟩
   rw [ht]
   refine ⟨_, rfl, _, rfl, a, ns, k, rfl, (s1.trans sG).seq hS, by omega, hl, hb, (by show 2 ≤ sizeLine; decide), fun a2 ha2 => ?_⟩
   have s4 := zI ha2 (.tup [.int (gtO t (some (nmN ns k))), .str (nmN ns k)])
   refine ⟨sG.trans s4, ?_⟩
   rw [zX hk, List.map_append]
   exact yG (zD hys fun _ _ r => r.kp (.of s4)) (.cons ⟨a2, rfl, zB⟩ .nil)
 obtain ⟨sG, hys⟩ := hw
 rw [iN_len, List.take_length] at hys
 have s5 := zI hp (.lst ys)
 have e5 : (upd G p (.lst ys)) p = some (.lst ys) := zB
 have hys5 : Paired (PtR (upd G p (.lst ys))) ys (f.map fun k => (gtO t (some (nmN ns k)), some (nmN ns k))) := zD hys fun _ _ r => r.kp (.of s5)
 have sA := (s1.trans sG).trans s5
 have hl5 := s5 _ _ (sG _ _ hl1)
 generalize upd G p (.lst ys) = G5 at s5 e5 hys5 sA hl5
 dsimp only [gName, List.set_cons_succ, List.set_cons_zero]
 refine ⟨_, rfl, lf, rfl, ⟨_, SqL.of hl5⟩, ?_⟩
 refine comp_listR (xs := iN f) (zL (m := 46656) (by rw [iN_len]; exact hz)) (fun i zs G => G5 = G ∧ zs = ((f.take i).map (nmN ns)).map V.str) ⟨rfl, rfl⟩ (fun i ys G hw => hw.1 ▸ SqL.of hl5) (fun i x zs G hx _ hw => ?_) (fun zs G _ hw l1 hp1 => ?_)
 · obtain ⟨rfl, rfl⟩ := hw
   obtain ⟨k, hk, rfl⟩ := map_get hx
   have hkm := hf k (List.mem_of_getElem? hk)
   refine ⟨_, rfl, _, rfl, a, ns, k, rfl, sA.seq hS, by omega, hl, hb, rfl, ?_⟩
   rw [zX hk, List.map_append, List.map_append]; rfl
 obtain ⟨rfl, rfl⟩ := hw
 rw [iN_len, List.take_length, hq]
 have s6 := zI hp1 (.lst ((qsO t).map V.str))
 have e6 : (upd G5 l1 (.lst ((qsO t).map V.str))) l1 = some (.lst ((qsO t).map V.str)) := zB
 have hys6 : Paired (PtR (upd G5 l1 (.lst ((qsO t).map V.str)))) ys (f.map fun k => (gtO t (some (nmN ns k)), some (nmN ns k))) := zD hys5 fun _ _ r => r.kp (.of s6)
 have sB := sA.trans s6
 have h56 := s6 _ _ e5
 generalize upd G5 l1 (.lst ((qsO t).map V.str)) = G6 at s6 e6 hys6 sB h56
 have lys := zN hys6
 rw [List.length_map] at lys
 refine ⟨_, rfl, p, rfl, ⟨_, SqL.of h56⟩, ?_⟩
 refine comp_listF (xs := ys) (zL (m := 46656) (by omega)) (fun i zs G => G6 = G ∧ Paired (PtR G6) zs (((f.map fun k => (gtO t (some (nmN ns k)), some (nmN ns k))).take i).filter fun p : Part => decide (p.1 ≠ 0))) ⟨rfl, .nil⟩ (fun i ys G hw => hw.1 ▸ SqL.of h56) (fun i x zs G hx _ hw => ?_) (fun zs G hw l2 hp2 => ?_)
 · obtain ⟨rfl, hzs⟩ := hw
   obtain ⟨pt, hpt, Tp, rfl, hTp⟩ := zS hys6 hx
   rw [zX hpt, List.filter_append, List.filter_cons]
   refine ⟨_, rfl, Tp, _, _, _, rfl, rfl, SqT.of hTp, rfl, rfl, _, rfl, ?_⟩
   by_cases c : pt.1 = 0
   · rw [if_neg (fun h => absurd c (of_decide_eq_true h))]
     refine iteO (by rw [c]; rfl) ⟨rfl, ?_⟩
     show Paired _ zs (_ ++ [])
     rw [List.append_nil]; exact hzs
   · rw [if_pos (decide_eq_true c)]
     refine iteB (by rw [decide_eq_false (fun z => c (V.int.inj z))]; rfl) ⟨_, rfl, rfl, ?_⟩
     exact yG hzs (.cons ⟨Tp, rfl, hTp⟩ .nil)
 obtain ⟨rfl, hzs⟩ := hw
 rw [lys, ← List.length_map (as := f) (fun k => (gtO t (some (nmN ns k)), some (nmN ns k))), List.take_length] at hzs
 have e7 : ((f.map fun k => (gtO t (some (nmN ns k)), some (nmN ns k))).filter fun p : Part => decide (p.1 ≠ 0)) = trm t := by
   rw [trm_is hnd, ← hq, List.map_map]; rfl
 rw [e7] at hzs
 have s7 := zI hp2 (.lst zs)
 refine ⟨(by show 2 ≤ sizeLine; decide), fun T2 hT2 => ?_⟩
 have s8 := zI hT2 (.tup [.ref l1, .ref l2])
 exact q T2 l1 l2 zs _ ((sB.trans s7).trans s8) zB (s8 _ _ (s7 _ _ e6)) (s8 _ _ zB) (zD hzs fun _ _ r => r.kp (.of (s7.trans s8)))
end
end K31
set_option maxHeartbeats 4000000
namespace K31
open PySem L2
seal PE PT PW PA PS PSs PG PGs PI PO PSet OpR UnR CallR TruR IxR SlR PC PPs
local macro_rules | `(tactic| walk_at "rd1") => `(tactic| first
 | (refine And.intro rfl ?_)
 | (refine And.intro (by assumption) ?_)
 | (refine And.intro (fun _ e => e) ?_)
 | (refine And.intro (TyOf.str _) ?_) | (refine And.intro (TyOf.int _) ?_) | (refine And.intro (TyOf.bl _) ?_) | (refine And.intro TyOf.non ?_)
 | (refine iteT ?_) | (refine iteF ?_)
 | (apply Exists.intro))
local macro_rules | `(tactic| walk_at "rd") => `(tactic| repeat (walk_at "rd1"))
theorem yX {t u : TS} {D : Ends} {σ : St} {H : Hp} (hm : ∀ N : St → Hp → Prop, (∀ σ' H', u D σ' H' → N σ' H') → t { D with nx := N } σ H) : tSeq t u D σ H := hm _ fun _ _ h => h
def KdR (A : Adr) (H : Hp) (k : Addr) (x : Kx) : Prop := KxR A H k x ∧ x.G
theorem KdR.same {A : Adr} {H H' : Hp} (s : Same H H') {k : Addr} {x : Kx} (h : KdR A H k x) : KdR A H' k x := ⟨h.1.same s, h.2⟩
def nmA (ns : List Int) (ka : List Addr) : List (Str × Addr) := ka.zipIdx.map fun p => (nmN ns p.2, p.1)
theorem nmA_at (ns : List Int) (ka : List Addr) (i : Nat) : (nmA ns ka)[i]? = (ka[i]?).map fun k => (nmN ns i, k) := by
 unfold nmA
 rw [List.getElem?_map, List.getElem?_zipIdx]
 cases ka[i]? with
 | none => rfl
 | some r => show some _ = some _; rw [Nat.zero_add]
theorem nmA_len (ns : List Int) (ka : List Addr) : (nmA ns ka).length = ka.length := by unfold nmA; rw [List.length_map, List.length_zipIdx]
theorem nmA_nd (ns : List Int) {ka : List Addr} (h : ka.length ≤ 20) : ((nmA ns ka).map (·.1)).Nodup := by
 rw [List.nodup_iff_pairwise_ne, List.pairwise_iff_getElem]
 intro i j h1 h2 lt e
 rw [List.length_map, nmA_len] at h1 h2
 rw [List.getElem_map, List.getElem_map] at e
 have a1 : (nmA ns ka)[i]? = some ((nmA ns ka)[i]'(by rw [nmA_len]; exact h1)) := List.getElem?_eq_getElem _
 have a2 : (nmA ns ka)[j]? = some ((nmA ns ka)[j]'(by rw [nmA_len]; exact h2)) := List.getElem?_eq_getElem _
 rw [nmA_at, List.getElem?_eq_getElem h1] at a1
 rw [nmA_at, List.getElem?_eq_getElem h2] at a2
 rw [← Option.some.inj a1, ← Option.some.inj a2] at e
 have := nmN_inj ns _ _ (by omega) (by omega) e
 omega
theorem kvA_get {L : List (Str × Addr)} {i : Nat} {x : Str × Addr} (h : L[i]? = some x) (nd : (L.map (·.1)).Nodup) : valV (kvA L) (.inr x.1) = some (.ref x.2) := by
 cases e : valV (kvA L) (.inr x.1) with
 | none =>
   refine absurd ?_ (valV_not e)
   unfold kvA
   rw [List.map_map]
   exact List.mem_map.mpr ⟨x, List.mem_of_getElem? h, rfl⟩
 | some v =>
   obtain ⟨y, hy, ey⟩ := List.mem_map.mp (valV_mem e)
   obtain ⟨j, hj⟩ := List.getElem?_of_mem hy
   have e1 : y.1 = x.1 := Sum.inr.inj (congrArg Prod.fst ey)
   have lj := (List.getElem?_eq_some_iff.mp hj).1
   have := (List.getElem?_inj (l := L.map (·.1)) (i := j) (j := i) (by rw [List.length_map]; omega) nd).mp (by rw [List.getElem?_map, List.getElem?_map, hj, h]; exact congrArg some e1)
   subst this
   rw [h] at hj
   cases hj
   exact congrArg some (congrArg Prod.snd ey).symm
def TtX (lt : Addr) (H : Hp) (x : V) (t : Tot) : Prop := ∃ a l us, x = .ref a ∧ H a = some (.tup [.str t.1, .ref l]) ∧ l ≠ lt ∧ H l = some (.lst us) ∧ Paired (PtR H) us t.2
theorem TtX.fr {lt : Addr} {H H' : Hp} {vs : List V} (F : Fr [lt] H H') (hm : H lt = some (.lst vs)) {x : V} {t : Tot} (h : TtX lt H x t) : TtX lt H' x t := by
 obtain ⟨a, l, us, e, h1, n, h2, h3⟩ := h
 refine ⟨a, l, us, e, F _ _ h1 (ni1 (ne_of h1 hm (by intro z; cases z))), n, F _ _ h2 (ni1 n), zD h3 fun _ _ r => ?_⟩
 obtain ⟨b, e, h⟩ := r
 exact ⟨b, e, F _ _ h (ni1 (ne_of h hm (by intro z; cases z)))⟩
theorem TtX.r {lt : Addr} {H : Hp} {x : V} {t : Tot} (h : TtX lt H x t) : TtR H x t := by
 obtain ⟨a, l, us, e, h1, n, h2, h3⟩ := h
 exact ⟨a, l, e, h1, us, h2, h3⟩
theorem pt_eq {X : Cx} {H : Hp} {x y : V} {p : Part} (hx : PtR H x p) (hy : PtR H y p) : EqJi X H 17 x y true := by
 obtain ⟨a, rfl, ha⟩ := hx
 obtain ⟨b, rfl, hb⟩ := hy
 have fl : ([V.int p.1, nv p.2] : List V).all flatV = true := by cases p.2 <;> rfl
 have := eqi_ftups (X := X) (n := 16) (SqT.of ha) (SqT.of hb) fl fl (fun _ => rfl)
 rw [eqL_self fl] at this
 exact this
theorem told_eq {X : Cx} {H : Hp} {T1 T2 l1 l2 : Addr} {n : Int} {xs ys : List V} {ps : List Part} (h1 : H T1 = some (.tup [.ref l1, .int n])) (h2 : H T2 = some (.tup [.ref l2, .int n])) (k1 : H l1 = some (.lst xs)) (k2 : H l2 = some (.lst ys)) (p1 : Paired (PtR H) xs ps) (p2 : Paired (PtR H) ys ps) (ne : l1 ≠ l2) : EqJ X H 20 (.ref T1) (.ref T2) true := by
 have key := eqj_tups (X := X) (n := 19) (e := fun _ => true) (SqT.of h1) (SqT.of h2) (fun j u v hu hv => ?_)
 · exact key
 cases j with
 | zero =>
   cases hu; cases hv
   refine eqi_refs ne ?_
   have key2 := eqj_lists (X := X) (n := 18) (e := fun _ => true) (SqL.of k1) (SqL.of k2) ((zN p1).trans (zN p2).symm) (fun j x y hx hy => ?_)
   · rw [List.all_eq_true.mpr (fun _ _ => rfl)] at key2
     exact key2
   obtain ⟨p, hp, r1⟩ := zS p1 hx
   obtain ⟨p', hp', r2⟩ := zS p2 hy
   rw [hp] at hp'
   cases hp'
   exact fun pins s σ u v A I rx ry hu => pt_eq r1 r2 pins s σ u v A I rx ry (by omega)
 | succ j =>
   cases j with
   | succ j => simp at hu
   | zero =>
     cases hu; cases hv
     have := eqi_flat (X := X) (H := H) (n := 19) (x := .int n) (y := .int n) rfl rfl
     rw [eqV_self rfl] at this
     exact this
theorem strs_eq {X : Cx} {H : Hp} {p q : Addr} {zs : List Str} (h : H p = some (.lst (zs.map V.str))) (k : H q = some (.lst (zs.map V.str))) : EqJ X H 20 (.ref p) (.ref q) true := by
 have fl : (zs.map V.str).all flatV = true := List.all_eq_true.mpr fun x hx => by
   obtain ⟨z, _, rfl⟩ := List.mem_map.mp hx
   rfl
 have := eqj_flists (X := X) (n := 19) (SqL.of h) (SqL.of k) fl fl
 rw [eqL_self fl] at this
 exact this
section
variable {P : Program} {w : World} {K : W.Frag} {mg : Str → Option Value} {base : Heap} {A : Adr}
theorem rd_told (T : Txt K mg A) {H : Hp} {k : Addr} {x : Kx} (hx : KdR A H k x) {Q : VK} {E : XK} (q : ∀ H', Same H H' → Q (.str (tlK x)) H') :
   ∃ (a C dx : Addr) (fs : List (Str × V)) (M : MethJ P w K mg base CX0 6 C "told"), V.ref k = .ref a ∧ H a = some (.ins C dx fs) ∧ fs.lookup (Str.ofString "told") = none ∧ M.sp (.ref k :: M.dvs) H Q E := by
 obtain ⟨hk, g⟩ := hx
 cases x with
 | yn =>
   obtain ⟨dk, h⟩ := id hk
   exact ⟨k, _, dk, _, ⟨_, _, _, _, [], [], T.cl_YesNo, T.me_YesNo_told, (ok_ytold T).mono (by decide), T.b_c_YesNo_told, .nil⟩, rfl, h, rfl, k, .yn, rfl, hk, g, rfl, q⟩
 | wh m lo hi =>
   obtain ⟨dk, h⟩ := id hk
   cases m with
   | false => exact ⟨k, _, dk, _, ⟨_, _, _, _, [], [], T.cl_Whole, T.me_Whole_told, (ok_wtold T).mono (by decide), T.b_c_Whole_told, .nil⟩, rfl, h, rfl, k, .wh false lo hi, rfl, hk, g, ⟨lo, hi, rfl⟩, q⟩
   | true => exact ⟨k, _, dk, _, ⟨_, _, _, _, [], [], T.cl_Money, T.me_Money_told, (ok_mtold T).mono (by decide), T.b_c_Money_told, .nil⟩, rfl, h, rfl, k, .wh true lo hi, rfl, hk, g, ⟨lo, hi, rfl⟩, q⟩
 | nm n =>
   obtain ⟨dk, h⟩ := id hk
   exact ⟨k, _, dk, _, ⟨_, _, _, _, [], [], T.cl_Names, T.me_Names_told, (ok_ntold T).mono (by decide), T.b_c_Names_told, .nil⟩, rfl, h, rfl, k, .nm n, rfl, hk, g, ⟨n, rfl⟩, q⟩
 | pk =>
   obtain ⟨dk, qa, h, _⟩ := id hk
   exact ⟨k, _, dk, _, ⟨_, _, _, _, [], [], T.cl_Pick, T.me_Pick_told, (ok_ptold T).mono (by decide), T.b_c_Pick_told, .nil⟩, rfl, h, rfl, k, .pk, rfl, hk, g, rfl, q⟩
end
end K31
set_option maxHeartbeats 4000000
namespace K31
open PySem L2
seal PE PT PW PA PS PSs PG PGs PI PO PSet OpR UnR CallR TruR IxR SlR PC PPs
local macro_rules | `(tactic| walk_at "rd1") => `(tactic| first
 | (refine And.intro rfl ?_)
 | (refine And.intro (by assumption) ?_)
 | (refine And.intro (fun _ e => e) ?_)
 | (refine And.intro (TyOf.str _) ?_) | (refine And.intro (TyOf.int _) ?_) | (refine And.intro (TyOf.bl _) ?_) | (refine And.intro TyOf.non ?_)
 | (refine iteT ?_) | (refine iteF ?_)
 | (apply Exists.intro))
local macro_rules | `(tactic| walk_at "rd") => `(tactic| repeat (walk_at "rd1"))
def sp_law (K : W.Frag) : Sp := fun vs H Q _ => ∃ (a : Addr) (ns : List Int), vs = [.ref a] ∧ SqL K H a (ns.map V.int) ∧ ns.length ≤ 63 ∧ (∀ n ∈ ns, ib n ≤ 1048576) ∧ ∀ H', Q (.bl true) H'
section
variable {P : Program} {w : World} {K : W.Frag} {mg : Str → Option Value} {base : Heap} {A : Adr}
theorem ok_law (T : Txt K mg A) : FnOk P w K mg base CX0 40 A.f_law A.d_law ["_law_script"] (sp_law K) := by
 have G_law_cell := ok_law_cell (P := P) (w := w) (base := base) T
 have G_law_name := ok_law_name (P := P) (w := w) (base := base) T
 have G_law_kind := ok_law_kind (P := P) (w := w) (base := base) T
 have G_law_sums := ok_law_sums (P := P) (w := w) (base := base) T
 have G_law_named := ok_law_named (P := P) (w := w) (base := base) T
 have G_law_terms := ok_law_terms (P := P) (w := w) (base := base) T
 have G_law_times := ok_law_times (P := P) (w := w) (base := base) T 6
 have G_law_told := ok_law_told (P := P) (w := w) (base := base) T
 have G_questions_of := ok_questions_of (P := P) (w := w) (base := base) T
 have G_kinds_of := ok_kinds_of (P := P) (w := w) (base := base) T
 have G_c_Pick___init := ok_pick_init (P := P) (w := w) (base := base) T
 have G_c_Ask___init := ok_ask_init (P := P) (w := w) (base := base) T
 have G_c_Sheet___init := ok_sheet_init (P := P) (w := w) (base := base) T
 have G_c_Paper___init := ok_paper_init (P := P) (w := w) (base := base) T
 refine T.F_law.ok sc_law (fun vs H Q E h => ?_) (fun cdv A0 outer s H vs Q E hr h => ?_)
 · obtain ⟨a, ns, rfl, _⟩ := h
   rfl
 obtain ⟨a, ns, rfl, hS, hl, hb, q⟩ := h
 have hNs : Ns ns := hb
 have hl' : ns.length ≤ 1000 := by omega
 refine ⟨_, (zF (zW (i := 1) sc_law.nd rfl (by first | exact Or.inl rfl | exact Or.inr rfl) (zK yH zE (zK yD (zM G_law_cell (hr.mono (by first | decide | omega)) rfl T.m_law_cell T.k_law_cell T.b_law_cell .nil zP (zA (pv 0) (zA zE zC))) zE)))
     (zF (zW (i := 2) sc_law.nd rfl (by first | exact Or.inl rfl | exact Or.inr rfl) (zK op_cat (pe_compR (yF (x := "_law_k") (M := ["_law_script", "_law_many", "_law_kinds", "_law_rows", "_law_made", "_law_totals", "_law_own", "_law_parts", "_law_named_here", "_law_paper", "_law_found", "_law_turn", "_law_come_here", "_law_terms_here", "_law_told_here", "_law_asked"]) rfl (by rfl)) rfl (pi_range1 rfl T.n_range (zA (pv 1) zC)) (fun _ _ _ _ => (zM G_law_kind (hr.mono (by first | decide | omega)) rfl T.m_law_kind T.k_law_kind T.b_law_kind .nil zP (zA (zK yD (zM G_law_cell (hr.mono (by first | decide | omega)) rfl T.m_law_cell T.k_law_cell T.b_law_cell .nil zP (zA (pv 1) (zA (zK yH zE (pv 0)) zC))) (zK op_pow zE zE)) zC)))) (pe_lst (zA (pe_make T.mk_Pick G_c_Pick___init (hr.mono (by first | decide | omega)) rfl T.m_Pick T.b_c_Pick___init .nil zP (zA (pe_lst (zA yK (zA yK zC))) zC)) zC))))
     (zF (ps_compT (i := 3) sc_law.nd rfl (by first | exact Or.inl rfl | exact Or.inr rfl) (compOk2_of (yF (x := "_law_k") (M := ["_law_script", "_law_many", "_law_kinds", "_law_rows", "_law_made", "_law_totals", "_law_own", "_law_parts", "_law_named_here", "_law_paper", "_law_found", "_law_turn", "_law_come_here", "_law_terms_here", "_law_told_here", "_law_asked"]) rfl (by rfl)) (by rfl) (by symm)) rfl (pi_enum rfl T.n_enumerate (zA (pv 2) zC)) (fun _ _ _ _ => pifs_nil) (fun _ _ _ _ => (pe_make T.mk_Ask G_c_Ask___init (hr.mono (by first | decide | omega)) rfl T.m_Ask T.bd_c_Ask___init T.dv_c_Ask___init zP (zA (zM G_law_name (hr.mono (by first | decide | omega)) rfl T.m_law_name T.k_law_name T.b_law_name .nil zP (zA (pv 2) (zA (pv 0) zC))) (zA (pv 1) zC)))))
     (zF (zW (i := 4) sc_law.nd rfl (by first | exact Or.inl rfl | exact Or.inr rfl) (zM G_law_sums (hr.mono (by first | decide | omega)) rfl T.m_law_sums T.k_law_sums T.b_law_sums .nil zP (zA (pv 0) (zA (pv 1) zC))))
     (zF (zW (i := 5) sc_law.nd rfl (by first | exact Or.inl rfl | exact Or.inr rfl) (pe_lst zC))
     (zF (yS PassesOwn.never rfl (pi_enum rfl T.n_enumerate (zA (pv 4) zC)) (pg_tup rfl (yC (zV (i := 6) sc_law.nd rfl (by first | exact Or.inl rfl | exact Or.inr rfl)) (yC (zV (i := 7) sc_law.nd rfl (by first | exact Or.inl rfl | exact Or.inr rfl)) pgs_nil))) (zF (ps_compT (i := 8) sc_law.nd rfl (by first | exact Or.inl rfl | exact Or.inr rfl) (compOk2_of (yF (x := "_law_times_here") (M := ["_law_script", "_law_many", "_law_kinds", "_law_rows", "_law_made", "_law_totals", "_law_own", "_law_parts", "_law_named_here", "_law_paper", "_law_found", "_law_turn", "_law_come_here", "_law_terms_here", "_law_told_here", "_law_asked"]) rfl (by rfl)) (by rfl) (by symm)) rfl (yJ (pv 7)) (fun _ _ _ _ => pifs_nil) (fun _ _ _ _ => (pe_tup (zA (pv 0) (zA (zM G_law_named (hr.mono (by first | decide | omega)) rfl T.m_law_named T.k_law_named T.b_law_named .nil zP (zA (pv 2) (zA (pv 1) zC))) zC)))))
     (zH (yT (pe_bm PySem.F.plainAttrs_list PySem.F.slot_list_append PySem.F.type_list_append mt_append (pv 5) (zA (pe_tup (zA (zM G_law_name (hr.mono (by first | decide | omega)) rfl T.m_law_name T.k_law_name T.b_law_name .nil zP (zA (pv 0) (zA (zK yH zE (pv 6)) zC))) (zA (pv 8) zC))) zC))))))
     (zF (zW (i := 9) sc_law.nd rfl (by first | exact Or.inl rfl | exact Or.inr rfl) (pe_make T.mk_Paper G_c_Paper___init (hr.mono (by first | decide | omega)) rfl T.m_Paper T.b_c_Paper___init .nil zP (zA yK (zA (pe_lst (zA (pe_make T.mk_Sheet G_c_Sheet___init (hr.mono (by first | decide | omega)) rfl T.m_Sheet T.b_c_Sheet___init .nil zP (zA yK (zA yV (zA (pv 3) (zA (pe_lst zC) zC))))) zC)) (zA (pv 5) zC)))))
     (zF (zW (i := 10) sc_law.nd rfl (by first | exact Or.inl rfl | exact Or.inr rfl) (zM G_kinds_of (hr.mono (by first | decide | omega)) rfl T.m_kinds_of T.k_kinds_of T.b_kinds_of .nil zP (zA (pv 9) zC)))
     (zF (xB (zO (op_neJ (hu20 hr)) (zZ (call_sortedS rfl) (by rfl) T.n_sorted PyProof.Rows.boot_sorted (zA (pv 10) zC)) (zZ (call_sortedS rfl) (by rfl) T.n_sorted PyProof.Rows.boot_sorted (zA (pe_compR (yF (x := "_law_row") (M := ["_law_script", "_law_many", "_law_kinds", "_law_rows", "_law_made", "_law_totals", "_law_own", "_law_parts", "_law_named_here", "_law_paper", "_law_found", "_law_turn", "_law_come_here", "_law_terms_here", "_law_told_here", "_law_asked"]) rfl (by rfl)) rfl (yJ (pv 3)) (fun _ _ _ _ => pe_eqv (by exact (pe_fld (pv 0) rfl)) (by dsimp only [compCx] <;> rfl))) zC)) (zY _)) (zH (zR pe_bl)) yI)
     (zF (xB (zO (op_neJ (hu20 hr)) (pe_compR (yF (x := "_law_row") (M := ["_law_script", "_law_many", "_law_kinds", "_law_rows", "_law_made", "_law_totals", "_law_own", "_law_parts", "_law_named_here", "_law_paper", "_law_found", "_law_turn", "_law_come_here", "_law_terms_here", "_law_told_here", "_law_asked"]) rfl (by rfl)) rfl (yJ (pv 3)) (fun _ _ _ _ => pe_eqv (by exact (pe_methQ0 (P := P) (w := w) (K := K) (mg := mg) (base := base) rfl rfl rfl rfl rfl (CX := CX0) (k := 6) (hr.mono (by first | decide | omega)) zP (pe_dget (hu_of hr) (pv 11) (pe_fld (pv 0) rfl) (fun _ _ => rfl)))) (by dsimp only [compCx] <;> rfl))) (pe_compR (yF (x := "_law_kind_here") (M := ["_law_script", "_law_many", "_law_kinds", "_law_rows", "_law_made", "_law_totals", "_law_own", "_law_parts", "_law_named_here", "_law_paper", "_law_found", "_law_turn", "_law_come_here", "_law_terms_here", "_law_told_here", "_law_asked"]) rfl (by rfl)) rfl (yJ (pv 2)) (fun _ _ _ _ => pe_eqv (by exact (pe_methQ0 (P := P) (w := w) (K := K) (mg := mg) (base := base) rfl rfl rfl rfl rfl (CX := CX0) (k := 6) (hr.mono (by first | decide | omega)) zP (pv 0))) (by dsimp only [compCx] <;> rfl))) (zY _)) (zH (zR pe_bl)) yI)
     (zF (yS PassesOwn.never rfl (pi_range1 rfl T.n_range (zA zE zC)) (zV (i := 11) sc_law.nd rfl (by first | exact Or.inl rfl | exact Or.inr rfl)) (zH (yS PassesOwn.never rfl (pi_range1 rfl T.n_range (zA (zZ yL (by rfl) T.n_len PySem.boot_len (zA (pv 4) zC)) zC)) (zV (i := 6) sc_law.nd rfl (by first | exact Or.inl rfl | exact Or.inr rfl)) (zF (ps_asg (zM G_law_terms (hr.mono (by first | decide | omega)) rfl T.m_law_terms T.k_law_terms T.b_law_terms .nil zP (zA (pv 4) (zA (pv 6) (zA (pv 0) zC)))) (pg_tup rfl (yC (zV (i := 12) sc_law.nd rfl (by first | exact Or.inl rfl | exact Or.inr rfl)) (yC (zV (i := 13) sc_law.nd rfl (by first | exact Or.inl rfl | exact Or.inr rfl)) pgs_nil))))
     (zF (zW (i := 14) sc_law.nd rfl (by first | exact Or.inl rfl | exact Or.inr rfl) (zM G_law_told (hr.mono (by first | decide | omega)) rfl T.m_law_told T.k_law_told T.b_law_told .nil zP (zA (pv 9) (zA (zM G_law_name (hr.mono (by first | decide | omega)) rfl T.m_law_name T.k_law_name T.b_law_name .nil zP (zA (pv 0) (zA (zK yH zE (pv 6)) zC))) zC))))
     (zF (xB (PW.pt (pw_or (zO op_isN (pv 14) yV (zY _)) (pw_or1 (zO (op_neJ (hu20 hr)) (pv 14) (pe_tup (zA (pv 13) (zA (zM G_law_times (hr.mono (by first | decide | omega)) rfl T.m_law_times T.k_law_times T.b_law_times .nil zP (zA (pv 4) (zA (pv 6) (zA yV zC)))) zC))) (zY _))))) (zH (zR pe_bl)) yI)
     (zF (zW (i := 15) sc_law.nd rfl (by first | exact Or.inl rfl | exact Or.inr rfl) (zM G_questions_of (hr.mono (by first | decide | omega)) rfl T.m_questions_of T.k_questions_of T.b_questions_of .nil zP (zA (pv 9) (zA (zM G_law_name (hr.mono (by first | decide | omega)) rfl T.m_law_name T.k_law_name T.b_law_name .nil zP (zA (pv 0) (zA (zK yH zE (pv 6)) zC))) zC))))
     (zF (xB (zO (op_neJ (hu20 hr)) (pv 15) (pv 12) (zY _)) (zH (zR pe_bl)) yI)
     (zF (yT (pe_bm PySem.F.plainAttrs_list PySem.F.slot_list_append PySem.F.type_list_append mt_append (pe_ix ix_tup (pv 14) zE (fun _ _ => rfl)) (zA (pe_tup (zA zE (zA yK zC))) zC)))
     (zH (yT (pe_bm PySem.F.plainAttrs_list PySem.F.slot_list_append PySem.F.type_list_append mt_append (pv 15) (zA yK zC)))))))))))))
     (zH (zR pe_bl))))))))))))), ?_⟩
 generalize h0 : L2.start _ [V.ref a] = σ0
 have h0 : σ0 = [some (.ref a), none, none, none, none, none, none, none, none, none, none, none, none, none, none, none] := by rw [← h0]; rfl
 subst h0
 refine yX fun _ hN => ?_
 have d0 := Int.emod_nonneg (cellF ns 2) (b := 6) (by decide)
 have d1 := Int.emod_lt_of_pos (cellF ns 2) (b := 6) (by decide)
 refine ⟨_, rfl, a, ns, 2, rfl, hS, by decide, hl', hNs, _, _, rfl, rfl, (show (0 : Int) < 6 by decide), _, _, rfl, rfl, ?_⟩
 obtain ⟨m, hm, hm2, hm7⟩ : ∃ m : Nat, 2 + cellF ns 2 % 6 = (m : Nat) ∧ 2 ≤ m ∧ m ≤ 7 := ⟨(2 + cellF ns 2 % 6).toNat, by omega, by omega, by omega⟩
 refine hN _ _ ?_
 dsimp only [gName, List.set_cons_succ, List.set_cons_zero]
 rw [hm]
 refine yR (fun σ' G => ∃ lk ka kx, σ' = [some (.ref a), some (.int (m : Nat)), some (.ref lk), none, none, none, none, none, none, none, none, none, none, none, none, none] ∧ Same H G ∧ G lk = some (.lst (ka.map V.ref)) ∧ Paired (KdR A G) ka kx ∧ ka.length = m + 1) (fun σ' H1 hR => ?_) (fun _ hk => ?_)
 rotate_left
 · refine ⟨_, rfl, _, rfl, (by omega), (by omega), ?_⟩
   rw [show ((m : Nat) : Int).toNat = m by omega]
   refine comp_rangeR (n := m) (zL (m := 100) (by omega)) (fun i ys G => Same H G ∧ ∃ ka kx, ys = ka.map V.ref ∧ Paired (KdR A G) ka kx ∧ ka.length = i) ⟨Same.refl _, [], [], rfl, .nil, rfl⟩ (fun i ys G hi _ hw => ?_) (fun ys G _ hw p hp => ?_)
   · obtain ⟨sG, ka, kx, rfl, hka, hki⟩ := hw
     have f0 := Int.emod_nonneg (cellF ns (46 + i)) (b := 10 ^ 40) (by decide)
     have f1 := Int.emod_lt_of_pos (cellF ns (46 + i)) (b := 10 ^ 40) (by decide)
     refine ⟨_, rfl, _, rfl, _, _, rfl, rfl, a, ns, 46 + i, (by dsimp only; rw [show ((46 : Int) + (0 + (i : Nat))) = ((46 + i : Nat) : Int) by omega]; rfl), sG.seq hS, (by omega), hl', hNs, _, _, rfl, rfl, ⟨by decide, by decide⟩, _, _, rfl, rfl, (show (0 : Int) < 10 ^ 40 by decide), cellF ns (46 + i) % 10 ^ 40, rfl, f0, f1, fun k x H' s1 hx g => ?_⟩
     exact ⟨sG.trans s1, ka ++ [k], kx ++ [x], (by rw [List.map_append]; rfl), yG (zD hka fun _ _ r => r.same s1) (.cons ⟨hx, g⟩ .nil), by rw [List.length_append, hki]; rfl⟩
   · obtain ⟨sG, ka, kx, rfl, hka, hki⟩ := hw
     have s1 := zI hp (.lst (ka.map V.ref))
     refine ⟨(by show 2 ≤ sizeLine; decide), fun lw hlw => ?_⟩
     have s2 := zI hlw (.lst [.str "red", .str "green"])
     have sB := s1.trans s2
     have hp2 := s2 _ _ (zB (H := G) (a := p) (o := .lst (ka.map V.ref)))
     have hlw2 : (upd (upd G p (.lst (ka.map V.ref))) lw (.lst [.str "red", .str "green"])) lw = some (.lst (wds.map V.str)) := zB
     generalize upd (upd G p (.lst (ka.map V.ref))) lw (.lst [.str "red", .str "green"]) = G2 at s2 sB hp2 hlw2
     intro x dx nx nd ne
     have s3 := mk_same (.ins A.c_Pick dx []) nx nd
     refine ⟨x, dx, lw, wds, rfl, zB, s3 _ _ hlw2, by decide, fun q0 H' F hx hq0 => ⟨rfl, ?_⟩⟩
     have s4 : Same G2 H' := fun b o hb' => F _ _ (s3 _ _ hb') (ni1 (zG hb' nx))
     refine ⟨(by show 1 ≤ sizeLine; decide), fun l2 hl2 => ?_⟩
     have s5 := zI hl2 (.lst [.ref x])
     refine ⟨p, l2, _, _, rfl, rfl, s5 _ _ (s4 _ _ hp2), zB, zL (m := 100) (by rw [List.length_map, hki]; show m + 1 ≤ 100; omega), fun lk hlk => ?_⟩
     have s6 := zI hlk (.lst (ka.map V.ref ++ [.ref x]))
     have sC := ((sB.trans s4).trans s5).trans s6
     have hkx : KdR A H' x .pk := ⟨⟨dx, q0, hx, hq0⟩, trivial⟩
     refine hk _ _ ⟨lk, ka ++ [x], kx ++ [.pk], rfl, sG.trans sC, (by rw [zB, List.map_append]; rfl), yG (zD hka fun _ _ r => r.same sC) (.cons (hkx.same (s5.trans s6)) .nil), by rw [List.length_append, hki]; rfl⟩
 obtain ⟨lk, ka, kx, rfl, sH1, hlk, hka, hkl⟩ := hR
 refine yR (fun σ' G => ∃ lr xs, σ' = [some (.ref a), some (.int (m : Nat)), some (.ref lk), some (.ref lr), none, none, none, none, none, none, none, none, none, none, none, none] ∧ Same H1 G ∧ G lr = some (.lst xs) ∧ Paired (AskR A G) xs (nmA ns ka)) (fun σ' H2 hR => ?_) (fun _ hk => ?_)
 rotate_left
 · refine ⟨_, rfl, lk, rfl, ⟨_, SqL.of hlk⟩, ?_⟩
   refine comp_enumT (xs := ka.map V.ref) (zL (m := 100) (by rw [List.length_map]; omega)) (fun i ys G => Same H1 G ∧ Paired (AskR A G) ys ((nmA ns ka).take i)) ⟨Same.refl _, .nil⟩ (fun i ys G hw => SqL.of (hw.1 _ _ hlk)) (fun i x ys G hx _ hw Tt hT => ?_) (fun ys G hw p hp => ?_)
   · obtain ⟨sG, hys⟩ := hw
     obtain ⟨k, hki, rfl⟩ := map_get hx
     have li := (List.getElem?_eq_some_iff.mp hki).1
     have sT := zI hT (.tup [.int (i : Nat), .ref k])
     have s1 := sG.trans sT
     have hys1 : Paired (AskR A (upd G Tt (.tup [.int (i : Nat), .ref k]))) ys ((nmA ns ka).take i) := zD hys fun _ _ r => r.same sT
     generalize upd G Tt (.tup [.int (i : Nat), .ref k]) = G1 at sT s1 hys1
     refine tt_true ⟨_, rfl, _, rfl, a, ns, i, rfl, (sH1.trans s1).seq hS, by omega, hl', hNs, _, rfl, ?_⟩
     intro x dx nx nd ne
     refine ⟨x, dx, _, _, _, rfl, zB, rfl, ?_⟩
     rw [yY]
     have s3 := mk_same (oAsk A dx (.str (nmN ns i)) (.ref k) .non) nx nd
     refine ⟨s1.trans s3, ?_⟩
     rw [zX (by rw [nmA_at, hki]; rfl)]
     exact yG (zD hys1 fun _ _ r => r.same s3) (.cons ⟨x, dx, .non, rfl, zB⟩ .nil)
   · obtain ⟨sG, hys⟩ := hw
     rw [List.length_map, ← nmA_len ns ka, List.take_length] at hys
     have s1 := zI hp (.lst ys)
     exact hk _ _ ⟨p, ys, rfl, sG.trans s1, zB, zD hys fun _ _ r => r.same s1⟩
 obtain ⟨lr, xs, rfl, sH2, hlr, hxs⟩ := hR
 have sA2 := sH1.trans sH2
 refine yX fun _ hN => ?_
 refine ⟨_, rfl, _, rfl, a, ns, m, rfl, sA2.seq hS, hl', hNs, by omega, by omega, fun lm M H3 sH3 hM g => ?_⟩
 refine hN _ _ ?_
 dsimp only [gName, List.set_cons_succ, List.set_cons_zero]
 have sA3 := sA2.trans sH3
 have gl := g.len
 have gf := g.few
 obtain ⟨rs, hlm, hrs⟩ := id hM
 have lrs := zN hrs
 refine ⟨(by show 0 ≤ sizeLine; decide), fun lt hlt => ?_⟩
 have s4 := zI hlt (.lst [])
 have e4 : (upd H3 lt (.lst [])) lt = some (.lst []) := zB
 generalize upd H3 lt (.lst []) = H4 at s4 e4
 dsimp only [gName, List.set_cons_succ, List.set_cons_zero]
 refine yR (fun σ' G => ∃ u6 u7 u8, σ' = [some (.ref a), some (.int (m : Nat)), some (.ref lk), some (.ref lr), some (.ref lm), some (.ref lt), u6, u7, u8, none, none, none, none, none, none, none] ∧ Same H3 G ∧ TsR G lt (tsM (nmN ns) M)) (fun σ' H5 hR => ?_) (fun _ hk => ?_)
 rotate_left
 · refine ⟨_, rfl, lm, rfl, ⟨_, SqL.of (s4 _ _ hlm)⟩, ?_⟩
   have sN : ∀ {G : Hp}, Fr [lt] H4 G → Same H3 G := fun {G} F b o hb' => F _ _ (s4 _ _ hb') (ni1 (zG hb' hlt))
   refine for_enumR (xs := rs) (fun i σ G => ∃ u6 u7 u8 ys, σ = [some (.ref a), some (.int (m : Nat)), some (.ref lk), some (.ref lr), some (.ref lm), some (.ref lt), u6, u7, u8, none, none, none, none, none, none, none] ∧ Fr [lt] H4 G ∧ G lt = some (.lst ys) ∧ Paired (TtX lt G) ys ((tsM (nmN ns) M).take i)) ⟨_, _, _, [], rfl, Fr.of (Same.refl _), e4, .nil⟩ (fun i σ G _ hw => ?_) (fun i x σ G hxi hw Tt hT => ?_) (fun σ G hw => ?_)
   · obtain ⟨_, _, _, _, rfl, F, _⟩ := hw
     exact SqL.of (sN F _ _ hlm)
   · obtain ⟨u6, u7, u8, ys, rfl, F, hlt2, hys⟩ := hw
     obtain ⟨r, hri, t, us, rfl, ntl, ht, hus⟩ := zS hrs hxi
     have li := (List.getElem?_eq_some_iff.mp hri).1
     obtain ⟨g1, g2⟩ := g.row i r hri
     have lus := zN hus
     have sT := zI hT (.tup [.int (i : Nat), .ref t])
     refine ⟨Tt, _, rfl, SqT.of zB, rfl, _, _, rfl, _, _, rfl, rfl, ?_⟩
     have F1 := F.trans (Fr.of sT)
     have hlt3 := sT _ _ hlt2
     have hys1 : Paired (TtX lt (upd G Tt (.tup [.int (i : Nat), .ref t]))) ys ((tsM (nmN ns) M).take i) := zD hys fun _ _ r => r.fr (Fr.of sT) hlt2
     generalize upd G Tt (.tup [.int (i : Nat), .ref t]) = G1 at sT F1 hlt3 hys1
     dsimp only [gName, List.set_cons_succ, List.set_cons_zero]
     refine yX fun _ hN => ?_
     refine ⟨_, rfl, t, rfl, ⟨_, SqL.of (sN F1 _ _ ht)⟩, ?_⟩
     refine comp_listT (xs := us) (zL (m := 100) (by omega)) (fun j zs G' => Same G1 G' ∧ Paired (PtR G') zs ((r.map fun x => (x.1, x.2.map (nmN ns))).take j)) ⟨Same.refl _, .nil⟩ (fun j zs G' hw => SqL.of (hw.1 _ _ (sN F1 _ _ ht))) (fun j y zs G' hy _ hw => ?_) (fun zs G' hw p hp => ?_)
     · obtain ⟨sG, hzs⟩ := hw
       obtain ⟨x, hxj, Tx, rfl, hTx⟩ := zS hus hy
       refine ⟨Tx, _, _, rfl, SqT.of (sG _ _ (sN F1 _ _ hTx)), tt_true ⟨_, rfl, _, rfl, _, rfl, a, ns, x.2, rfl, ((sA3.trans (sN F1)).trans sG).seq hS, (fun k e => by rcases (g2 x (List.mem_of_getElem? hxj)).2 k e with h | h <;> omega), hl', hNs, (by show 2 ≤ sizeLine; decide), fun a2 ha2 => ?_⟩⟩
       have s6 := zI ha2 (.tup [.int x.1, nv (x.2.map (nmF (cellF ns 0)))])
       refine ⟨sG.trans s6, ?_⟩
       rw [zX (x := (x.1, x.2.map (nmN ns))) (by rw [List.getElem?_map, hxj]; rfl)]
       exact yG (zD hzs fun _ _ r => r.kp (.of s6)) (.cons ⟨a2, rfl, zB⟩ .nil)
     · obtain ⟨sG, hzs⟩ := hw
       rw [lus, ← List.length_map (as := r) (fun x : Mp => (x.1, x.2.map (nmN ns))), List.take_length] at hzs
       have s6 := zI hp (.lst zs)
       have hzs6 : Paired (PtR (upd G' p (.lst zs))) zs (r.map fun x => (x.1, x.2.map (nmN ns))) := zD hzs fun _ _ r => r.kp (.of s6)
       have e6 : (upd G' p (.lst zs)) p = some (.lst zs) := zB
       have hlt6 := s6 _ _ (sG _ _ hlt3)
       have npl : p ≠ lt := Ne.symm (zG (sG _ _ hlt3) hp)
       have s16 := sG.trans s6
       generalize upd G' p (.lst zs) = G6 at s6 hzs6 e6 hlt6 s16
       refine hN _ _ ?_
       dsimp only [gName, List.set_cons_succ, List.set_cons_zero]
       have F6 := F1.trans (Fr.of s16)
       refine ⟨_, rfl, .inl ⟨rfl, _, SqL.of hlt6⟩, _, rfl, _, rfl, _, _, rfl, rfl, a, ns, 20 + i, (by dsimp only; rw [show ((20 : Int) + (i : Nat)) = ((20 + i : Nat) : Int) by omega]; rfl), (sA3.trans (sN F6)).seq hS, by omega, hl', hNs, _, rfl, (by show 2 ≤ sizeLine; decide), fun a2 ha2 => ?_⟩
       have s7 := zI ha2 (.tup [.str (nmF (cellF ns 0) (20 + i)), .ref p])
       have lys := zN hys1
       rw [List.length_take, tsM_len] at lys
       refine ⟨lt, _, _, rfl, rfl, s7 _ _ hlt6, zL (m := 100) (by omega), ?_⟩
       have Fu : Fr [lt] (upd G6 a2 (.tup [.str (nmF (cellF ns 0) (20 + i)), .ref p])) (upd (upd G6 a2 (.tup [.str (nmF (cellF ns 0) (20 + i)), .ref p])) lt (.lst (ys ++ [.ref a2]))) := (Fr.of (Same.refl _)).upd (List.mem_singleton.mpr rfl) _
       refine ⟨_, _, _, ys ++ [.ref a2], rfl, (F6.trans (Fr.of s7)).trans Fu, zB, ?_⟩
       rw [zX (x := (nmN ns (20 + i), r.map fun x => (x.1, x.2.map (nmN ns)))) (by rw [tsM_at, hri]; rfl)]
       exact yG (zD hys1 fun _ _ r => (r.fr (Fr.of (s16.trans s7)) hlt3).fr Fu (s7 _ _ hlt6)) (.cons (TtX.fr Fu (s7 _ _ hlt6) ⟨a2, p, zs, rfl, zB, npl, s7 _ _ e6, zD hzs6 fun _ _ r => r.kp (.of s7)⟩) .nil)
   · obtain ⟨u6, u7, u8, ys, rfl, F, hlt2, hys⟩ := hw
     rw [lrs, ← tsM_len (nmN ns) M, List.take_length] at hys
     exact hk _ _ ⟨_, _, _, rfl, sN F, ys, hlt2, zD hys fun _ _ r => r.r⟩
 obtain ⟨u6, u7, u8, rfl, sH5, hts⟩ := hR
 have sA5 := sA3.trans sH5
 have hr5 := sH5 _ _ (sH3 _ _ hlr)
 have hxs5 : Paired (AskR A H5) xs (nmA ns ka) := zD hxs fun _ _ r => r.same (sH3.trans sH5)
 have hnd := nmA_nd ns (ka := ka) (by omega)
 have hnl := nmA_len ns ka
 refine yR (fun σ' G => ∃ pa da u q1 q2 sh ds u1 u2 qr qw, σ' = [some (.ref a), some (.int (m : Nat)), some (.ref lk), some (.ref lr), some (.ref lm), some (.ref lt), u6, u7, u8, some (.ref pa), none, none, none, none, none, none] ∧ Same H5 G ∧ G pa = some (oPa A da u q1 q2) ∧ G q1 = some (.lst [.ref sh]) ∧ G sh = some (oSh A ds u1 u2 qr qw) ∧ G qr = some (.lst xs) ∧ TsR G q2 (tsM (nmN ns) M)) (fun σ' H6 hR => ?_) (fun _ hk => ?_)
 rotate_left
 · refine ⟨_, rfl, (by show 0 ≤ sizeLine; decide), fun lw hlw => ?_⟩
   have s1 := zI hlw (.lst [])
   have e1 : (upd H5 lw (.lst [])) lw = some (.lst []) := zB
   generalize upd H5 lw (.lst []) = G1 at s1 e1
   intro x dx nx nd ne
   have s2 := mk_same (.ins A.c_Sheet dx []) nx nd
   refine ⟨x, dx, _, _, lr, lw, xs, [], rfl, zB, s2 _ _ (s1 _ _ hr5), s2 _ _ e1, fun q1 q2 H' nq nq1 nq2 F hx hq1 hq2 => ⟨rfl, ?_⟩⟩
   have s3 : Same G1 H' := fun b o hb' => F _ _ (s2 _ _ hb') (ni1 (zG hb' nx))
   refine ⟨(by show 1 ≤ sizeLine; decide), fun l2 hl2 => ?_⟩
   have s4 := zI hl2 (.lst [.ref x])
   have e4 : (upd H' l2 (.lst [.ref x])) l2 = some (.lst [.ref x]) := zB
   have hx4 := s4 _ _ hx
   have hq4 := s4 _ _ hq1
   have sB := (s1.trans s3).trans s4
   generalize upd H' l2 (.lst [.ref x]) = G4 at s4 e4 hx4 hq4 sB
   refine ⟨_, rfl, ?_⟩
   intro x2 dx2 nx2 nd2 ne2
   have s5 := mk_same (.ins A.c_Paper dx2 []) nx2 nd2
   have hts5 := hts.kp (.of (sB.trans s5))
   refine ⟨x2, dx2, _, l2, lt, _, tsM (nmN ns) M, rfl, zB, s5 _ _ e4, hts5, (by rw [tsM_len]; omega), fun p1 p2 H7 F7 hp hp1 hp2 => ⟨rfl, ?_⟩⟩
   have s7 : Same G4 H7 := fun b o hb' => F7 _ _ (s5 _ _ hb') (ni1 (zG hb' nx2))
   exact hk _ _ ⟨x2, dx2, _, p1, p2, x, dx, _, _, q1, q2, rfl, sB.trans s7, hp, hp1, s7 _ _ hx4, s7 _ _ hq4, hp2⟩
 obtain ⟨pa, da, u, q1, q2, sh, ds, u1, u2, qr, qw, rfl, sH6, hpa, hq1, hsh, hqr, hts6⟩ := hR
 have sA6 := sA5.trans sH6
 have hxs6 : Paired (AskR A H6) xs (nmA ns ka) := zD hxs5 fun _ _ r => r.same sH6
 refine yX fun _ hN => ?_
 refine ⟨_, rfl, pa, da, u, q1, q2, sh, ds, u1, u2, qr, qw, xs, nmA ns ka, rfl, hpa, hq1, hsh, hqr, hxs6, hnd, by omega, fun d H7 sH7 _ hd => ?_⟩
 refine hN _ _ ?_
 dsimp only [gName, List.set_cons_succ, List.set_cons_zero]
 have hr7 := sH7 _ _ (sH6 _ _ hr5)
 have hxs7 : Paired (AskR A H7) xs (nmA ns ka) := zD hxs6 fun _ _ r => r.same sH7
 have lxs := zN hxs7
 have sK7 : Same H1 H7 := (((sH2.trans sH3).trans sH5).trans sH6).trans sH7
 refine yR (fun σ' G => σ' = [some (.ref a), some (.int (m : Nat)), some (.ref lk), some (.ref lr), some (.ref lm), some (.ref lt), u6, u7, u8, some (.ref pa), some (.ref d), none, none, none, none, none] ∧ Same H7 G) (fun σ' H8 hR => ?_) (fun _ hk => ?_)
 rotate_left
 · have ek : (kvA (nmA ns ka)).map (·.1) = ((nmA ns ka).map (·.1)).map Sum.inr := by
     unfold kvA
     rw [List.map_map, List.map_map]; rfl
   refine ⟨_, rfl, d, (nmA ns ka).map (·.1), rfl, .inr ⟨_, hd, ek⟩, (by rw [List.length_map]; omega), fun l1 z1 hl1 p1 t1 => ?_⟩
   have s1 := zI hl1 (.lst (z1.map V.str))
   have e1 : (upd H7 l1 (.lst (z1.map V.str))) l1 = some (.lst (z1.map V.str)) := zB
   generalize upd H7 l1 (.lst (z1.map V.str)) = G1 at s1 e1
   refine ⟨_, rfl, lr, rfl, ⟨_, SqL.of (s1 _ _ hr7)⟩, ?_⟩
   refine comp_listR (xs := xs) (zL (m := 100) (by omega)) (fun i ys G => G1 = G ∧ ys = (((nmA ns ka).take i).map (·.1)).map V.str) ⟨rfl, rfl⟩ (fun i ys G hw => hw.1 ▸ SqL.of (s1 _ _ hr7)) (fun i x ys G hx _ hw => ?_) (fun ys G _ hw p hp => ?_)
   · obtain ⟨rfl, rfl⟩ := hw
     obtain ⟨zk, hzk, ra, rdx, u3, rfl, hra⟩ := zS hxs7 hx
     refine ⟨_, rfl, ra, _, rdx, _, _, rfl, s1 _ _ hra, T.cl_Ask, T.no_Ask_name, rfl, rfl, ?_⟩
     rw [zX hzk, List.map_append, List.map_append]; rfl
   · obtain ⟨rfl, rfl⟩ := hw
     rw [lxs, List.take_length]
     have s2 := zI hp (.lst (((nmA ns ka).map (·.1)).map V.str))
     refine ⟨p, (nmA ns ka).map (·.1), rfl, .inl zB, (by rw [List.length_map]; omega), fun l2 z2 hl2 p2 t2 => ?_⟩
     have s3 := zI hl2 (.lst (z2.map V.str))
     cases sorted_uniq (p1.trans p2.symm) t1 t2
     refine ⟨true, strs_eq (s3 _ _ (s2 _ _ e1)) zB, _, rfl, iteF ?_⟩
     exact hk _ _ ⟨rfl, (s1.trans s2).trans s3⟩
 obtain ⟨rfl, sH8⟩ := hR
 have hka8 : Paired (KdR A H8) ka kx := zD hka fun _ _ r => r.same (sK7.trans sH8)
 have hr8 := sH8 _ _ hr7
 have hlk8 := sH8 _ _ (sK7 _ _ hlk)
 have hd8 := sH8 _ _ hd
 have hxs8 : Paired (AskR A H8) xs (nmA ns ka) := zD hxs7 fun _ _ r => r.same sH8
 have lka := zN hka8
 refine yR (fun σ' G => σ' = [some (.ref a), some (.int (m : Nat)), some (.ref lk), some (.ref lr), some (.ref lm), some (.ref lt), u6, u7, u8, some (.ref pa), some (.ref d), none, none, none, none, none] ∧ Same H8 G) (fun σ' H9 hR => ?_) (fun _ hk => ?_)
 rotate_left
 · refine ⟨_, rfl, lr, rfl, ⟨_, SqL.of hr8⟩, ?_⟩
   refine comp_listR (xs := xs) (zL (m := 100) (by omega)) (fun i ys G => Same H8 G ∧ ys = ((kx.take i).map tlK).map V.str) ⟨Same.refl _, rfl⟩ (fun i ys G hw => SqL.of (hw.1 _ _ hr8)) (fun i x ys G hx _ hw => ?_) (fun ys G _ hw p hp => ?_)
   · obtain ⟨sG, rfl⟩ := hw
     obtain ⟨zk, hzk, ra, rdx, u3, rfl, hra⟩ := zS hxs8 hx
     have hzk0 := id hzk
     rw [nmA_at] at hzk
     obtain ⟨k, hki, rfl⟩ := Option.map_eq_some_iff.mp hzk
     obtain ⟨xx, hxx, hkd⟩ := zS hka8 hki
     have hg := DGet.k (k := .inr (nmN ns i)) (sG _ _ hd8)
     rw [kvA_get hzk0 hnd] at hg
     refine ⟨_, rfl, _, rfl, ra, _, rdx, _, _, rfl, sG _ _ hra, T.cl_Ask, T.no_Ask_name, rfl, d, _, rfl, hg, ?_⟩
     refine rd_told T (hkd.same sG) fun G2 s2 => ⟨sG.trans s2, ?_⟩
     rw [zX hxx, List.map_append, List.map_append]; rfl
   · obtain ⟨sG, rfl⟩ := hw
     rw [show xs.length = kx.length by omega, List.take_length]
     have s2 := zI hp (.lst ((kx.map tlK).map V.str))
     have e2 : (upd G p (.lst ((kx.map tlK).map V.str))) p = some (.lst ((kx.map tlK).map V.str)) := zB
     have sG2 := sG.trans s2
     generalize upd G p (.lst ((kx.map tlK).map V.str)) = G2 at s2 e2 sG2
     refine ⟨_, rfl, lk, rfl, ⟨_, SqL.of (sG2 _ _ hlk8)⟩, ?_⟩
     refine comp_listR (xs := ka.map V.ref) (zL (m := 100) (by rw [List.length_map]; omega)) (fun i ys G => Same G2 G ∧ ys = ((kx.take i).map tlK).map V.str) ⟨Same.refl _, rfl⟩ (fun i ys G hw => SqL.of (hw.1 _ _ (sG2 _ _ hlk8))) (fun i x ys G hx _ hw => ?_) (fun ys G _ hw p2 hp2 => ?_)
     · obtain ⟨sG3, rfl⟩ := hw
       obtain ⟨k, hki, rfl⟩ := map_get hx
       obtain ⟨xx, hxx, hkd⟩ := zS hka8 hki
       refine ⟨_, rfl, ?_⟩
       refine rd_told T (hkd.same (sG2.trans sG3)) fun G2 s2 => ⟨sG3.trans s2, ?_⟩
       rw [zX hxx, List.map_append, List.map_append]; rfl
     · obtain ⟨sG3, rfl⟩ := hw
       rw [List.length_map, lka, List.take_length]
       have s3 := zI hp2 (.lst ((kx.map tlK).map V.str))
       refine ⟨true, strs_eq (s3 _ _ (sG3 _ _ e2)) zB, _, rfl, iteF ?_⟩
       exact hk _ _ ⟨rfl, (sG2.trans sG3).trans s3⟩
 obtain ⟨rfl, sH9⟩ := hR
 have sB9 := (sH7.trans sH8).trans sH9
 have sA9 := sA6.trans sB9
 have hpa9 := sB9 _ _ hpa
 have hts9 := hts6.kp (.of sB9)
 have hM9 : MdR H9 lm M := hM.same ((sH5.trans sH6).trans sB9)
 obtain ⟨rs9, hlm9, hrs9⟩ := id hM9
 have lrs9 := zN hrs9
 have hGT := tsM_good (nmN_inj ns) g
 refine yR (fun σ' G => True) (fun σ' G _ => q G) (fun _ hk => ?_)
 refine ⟨_, rfl, (by decide), (by decide), ?_⟩
 refine for_rangeR (n := 2) (fun i σ G => ∃ u6 v11 v12 v13 v14 v15, σ = [some (.ref a), some (.int (m : Nat)), some (.ref lk), some (.ref lr), some (.ref lm), some (.ref lt), u6, u7, u8, some (.ref pa), some (.ref d), v11, v12, v13, v14, v15] ∧ Same H9 G) ⟨_, _, _, _, _, _, rfl, Same.refl _⟩ (fun i σ G _ hw => ?_) (fun σ G hw => hk _ _ trivial)
 obtain ⟨u6', v11, v12, v13, v14, v15, rfl, sG⟩ := hw
 dsimp only [gName, List.set_cons_succ, List.set_cons_zero]
 refine ⟨_, rfl, lm, _, rfl, .inl (SqL.of (sG _ _ hlm9)), _, rfl, (by omega), (by omega), ?_⟩
 rw [show ((rs9.length : Nat) : Int).toNat = M.length by omega]
 refine for_rangeR (n := M.length) (fun j σ G' => ∃ u6 v12 v13 v14 v15, σ = [some (.ref a), some (.int (m : Nat)), some (.ref lk), some (.ref lr), some (.ref lm), some (.ref lt), u6, u7, u8, some (.ref pa), some (.ref d), some (.int (0 + (i : Nat))), v12, v13, v14, v15] ∧ Same H9 G') ⟨_, _, _, _, _, rfl, sG⟩ (fun j σ G' hj hw => ?_) (fun σ G' hw => ?_)
 rotate_left
 · obtain ⟨_, _, _, _, _, rfl, sG'⟩ := hw
   exact ⟨_, _, _, _, _, _, rfl, sG'⟩
 obtain ⟨w6, w12, w13, w14, w15, rfl, sG1⟩ := hw
 dsimp only [gName, List.set_cons_succ, List.set_cons_zero]
 have hgz := gz_tb (nmN_inj ns) g 6 j hj (by omega)
 have hob := ob_tb (nm := nmN ns) g 6 j hj (by omega)
 have ej : ((0 : Int) + (j : Nat)) = ((j : Nat) : Int) := Int.zero_add _
 rw [ej]
 refine yX fun _ hN => ?_
 refine ⟨_, rfl, _, rfl, _, rfl, lm, a, j, m, M, ns, rfl, hM9.same sG1, g, hj, (sA9.trans sG1).seq hS, hl', hNs, fun T1 l1 l2 us G2 s2 hT1 hl1 hl2 hus => ?_⟩
 generalize ht : tb (nmN ns) M 6 j = t at hgz hob hl1 hus
 refine ⟨T1, _, rfl, SqT.of hT1, rfl, _, _, rfl, _, _, rfl, rfl, ?_⟩
 refine hN _ _ ?_
 dsimp only [gName, List.set_cons_succ, List.set_cons_zero]
 have s92 := sG1.trans s2
 refine yX fun _ hN => ?_
 have hz : t.length ≤ 46656 := hob.1
 refine ⟨_, rfl, _, rfl, _, rfl, _, _, rfl, rfl, a, ns, 20 + j, (by dsimp only; rw [show ((20 : Int) + (j : Nat)) = ((20 + j : Nat) : Int) by omega]; rfl), (sA9.trans s92).seq hS, by omega, hl', hNs, pa, da, u, q1, q2, tsM (nmN ns) M, _, t, rfl, s92 _ _ hpa9, hts9.kp (.of s92), hGT, hgz, hz, fun T2 l3 vs G3 s3 nT2 nl3 nTl hT2 hl3 hvs => ?_⟩
 refine hN _ _ ?_
 dsimp only [gName, List.set_cons_succ, List.set_cons_zero]
 have s93 := s92.trans s3
 have hl3N : H9 l3 = none := yP s92 nl3
 refine yR (fun σ' G => σ' = [some (.ref a), some (.int (m : Nat)), some (.ref lk), some (.ref lr), some (.ref lm), some (.ref lt), some (.int (j : Nat)), u7, u8, some (.ref pa), some (.ref d), some (.int (0 + (i : Nat))), some (.ref l1), some (.ref l2), some (.ref T2), w15] ∧ Same G3 G) (fun σ' G4 hR => ?_) (fun _ hk2 => ?_)
 rotate_left
 · refine ⟨_, rfl, rfl, _, rfl, iteF ⟨_, rfl, _, rfl, _, rfl, _, rfl, lm, j, m, M, none, nmN ns, rfl, hM9.same s93, g, nmN_inj ns, Nat.le_refl _, hj, by omega, (fun k e => by cases e), ?_⟩⟩
   rw [ht]
   refine ⟨(by show 2 ≤ sizeLine; decide), fun T4 hT4 => ?_⟩
   have s4 := zI hT4 (.tup [.ref l2, .int (gtO t none)])
   have n32 : l3 ≠ l2 := Ne.symm (zG hl2 nl3)
   refine ⟨true, told_eq (s4 _ _ hT2) zB (s4 _ _ hl3) (s4 _ _ (s3 _ _ hl2)) (zD hvs fun _ _ r => r.kp (.of s4)) (zD hus fun _ _ r => r.kp (.of (s3.trans s4))) n32, _, rfl, iteF ?_⟩
   exact hk2 _ _ ⟨rfl, s4⟩
 obtain ⟨rfl, s4⟩ := hR
 have s94 := s93.trans s4
 refine yX fun _ hN => ?_
 refine ⟨_, rfl, _, rfl, _, rfl, _, _, rfl, rfl, a, ns, 20 + j, (by dsimp only; rw [show ((20 : Int) + (j : Nat)) = ((20 + j : Nat) : Int) by omega]; rfl), (sA9.trans s94).seq hS, by omega, hl', hNs, pa, da, u, q1, q2, tsM (nmN ns) M, _, t, rfl, s94 _ _ hpa9, hts9.kp (.of s94), hGT, hgz, hz, fun l5 G5 s5 nl5 hl5 => ?_⟩
 refine hN _ _ ?_
 dsimp only [gName, List.set_cons_succ, List.set_cons_zero]
 have s95 := s94.trans s5
 have hl5N : H9 l5 = none := yP s94 nl5
 refine yX fun _ hN => ?_
 refine ⟨_, rfl, _, rfl, true, strs_eq hl5 (s5 _ _ (s4 _ _ (s3 _ _ hl1))), _, rfl, iteF ?_⟩
 refine hN _ _ ?_
 have hT5 := s5 _ _ (s4 _ _ hT2)
 have hl35 := s5 _ _ (s4 _ _ hl3)
 have lvs := zN hvs
 have ltr : (trm t).length ≤ t.length := List.length_filterMap_le ..
 have lqs : (qsO t).length ≤ t.length := List.length_filterMap_le ..
 have n53 : l5 ≠ l3 := Ne.symm (zG (s4 _ _ hl3) nl5)
 refine yX fun _ hN => ?_
 refine ⟨_, rfl, T2, _, _, _, rfl, rfl, SqT.of hT5, rfl, .inl ⟨rfl, _, SqL.of hl35⟩, (by show 2 ≤ sizeLine; decide), fun T6 hT6 => ?_⟩
 have s6 := zI hT6 (.tup [.int 1, .str "x"])
 refine ⟨l3, _, _, rfl, rfl, s6 _ _ hl35, zL (m := 100000) (by omega), ?_⟩
 refine hN _ _ ?_
 have hl56 : (upd (upd G5 T6 (.tup [.int 1, .str "x"])) l3 (.lst (vs ++ [.ref T6]))) l5 = some (.lst ((qsO t).map V.str)) := by rw [zJ n53]; exact s6 _ _ hl5
 have s97 : Same H9 (upd (upd G5 T6 (.tup [.int 1, .str "x"])) l3 (.lst (vs ++ [.ref T6]))) := fun b o hb' => by
   rw [zJ (zG hb' hl3N)]; exact s6 _ _ (s95 _ _ hb')
 generalize upd (upd G5 T6 (.tup [.int 1, .str "x"])) l3 (.lst (vs ++ [.ref T6])) = G7 at hl56 s97
 refine ⟨_, rfl, .inl ⟨rfl, _, SqL.of hl56⟩, l5, _, _, rfl, rfl, hl56, zL (m := 100000) (by rw [List.length_map]; omega), ?_⟩
 exact ⟨_, _, _, _, _, rfl, fun b o hb' => by rw [zJ (zG hb' hl5N)]; exact s97 _ _ hb'⟩
end
end K31
set_option maxHeartbeats 4000000
namespace K31
open PySem L2
theorem elS {us : List Value} {n : Nat} (h : us.length = n + 1) : ∃ a r, us = a :: r ∧ r.length = n := by
 cases us with
 | nil => cases h
 | cons a r => exact ⟨a, r, rfl, Nat.succ.inj h⟩
theorem el0 {us : List Value} (h : us.length = 0) : us = [] := List.eq_nil_of_length_eq_zero h
@[elab_as_elim] theorem el1 {motive : List Value → Prop} (us : List Value) (hl : us.length = 1) (h : ∀ a, motive [a]) : motive us := by
 obtain ⟨a, r0, e0, h0⟩ := elS hl
 rw [e0, el0 h0]
 exact h a
@[elab_as_elim] theorem el2 {motive : List Value → Prop} (us : List Value) (hl : us.length = 2) (h : ∀ a b, motive [a, b]) : motive us := by
 obtain ⟨a, r0, e0, h0⟩ := elS hl
 obtain ⟨b, r1, e1, h1⟩ := elS h0
 rw [e0, e1, el0 h1]
 exact h a b
@[elab_as_elim] theorem el3 {motive : List Value → Prop} (us : List Value) (hl : us.length = 3) (h : ∀ a b c, motive [a, b, c]) : motive us := by
 obtain ⟨a, r0, e0, h0⟩ := elS hl
 obtain ⟨b, r1, e1, h1⟩ := elS h0
 obtain ⟨c, r2, e2, h2⟩ := elS h1
 rw [e0, e1, e2, el0 h2]
 exact h a b c
@[elab_as_elim] theorem el4 {motive : List Value → Prop} (us : List Value) (hl : us.length = 4) (h : ∀ a b c d, motive [a, b, c, d]) : motive us := by
 obtain ⟨a, r0, e0, h0⟩ := elS hl
 obtain ⟨b, r1, e1, h1⟩ := elS h0
 obtain ⟨c, r2, e2, h2⟩ := elS h1
 obtain ⟨d, r3, e3, h3⟩ := elS h2
 rw [e0, e1, e2, e3, el0 h3]
 exact h a b c d
@[elab_as_elim] theorem el5 {motive : List Value → Prop} (us : List Value) (hl : us.length = 5) (h : ∀ a b c d e, motive [a, b, c, d, e]) : motive us := by
 obtain ⟨a, r0, e0, h0⟩ := elS hl
 obtain ⟨b, r1, e1, h1⟩ := elS h0
 obtain ⟨c, r2, e2, h2⟩ := elS h1
 obtain ⟨d, r3, e3, h3⟩ := elS h2
 obtain ⟨e, r4, e4, h4⟩ := elS h3
 rw [e0, e1, e2, e3, e4, el0 h4]
 exact h a b c d e
theorem txt_mk {K : W.Frag} {h : Heap} {mg : Str → Option Value} (X : K.In h) (G : h.Ns mainGlobals mg)
{f0 f1 f2 f3 f4 f5 f6 f7 f8 f9 f10 f11 dT11 f12 f13 f14 dT14 f15 f16 f17 f18 f19 f20 f21 f22 f23 f24 f25 f26 f27 f28 f29 f30 f31 f32 k_Ask k_Kind k_Money k_Names k_Paper k_Pick k_Row k_Sheet k_Whole k_YesNo : Addr} {od0 an0 od1 an1 od2 an2 od3 an3 od4 an4 od5 an5 od6 an6 od7 an7 od8 an8 od9 an9 od10 an10 od11 an11 dD11 od12 an12 od13 an13 od14 an14 dD14 od15 an15 od16 an16 od17 an17 od18 an18 od19 an19 od20 an20 od21 an21 od22 an22 od23 an23 od24 an24 od25 an25 od26 an26 od27 an27 od28 an28 od29 an29 od30 an30 od31 an31 od32 an32 : Option Addr} {sl0 sl1 sl2 sl3 sl4 sl5 sl6 sl7 sl8 sl9 sl10 sl11 dS11 sl12 sl13 sl14 dS14 sl15 sl16 sl17 sl18 sl19 sl20 sl21 sl22 sl23 sl24 sl25 sl26 sl27 sl28 sl29 sl30 sl31 sl32 : Array (Option Value)} {oc0 kV0 dc0 pm0 cd0 ct0 oc1 kV1 dc1 pm1 cd1 ct1 oc2 kV2 dc2 pm2 cd2 ct2 oc3 kV3 dc3 pm3 cd3 ct3 oc4 kV4 dc4 pm4 cd4 ct4 oc5 kV5 dc5 pm5 cd5 ct5 oc6 kV6 dc6 pm6 cd6 ct6 oc7 kV7 dc7 pm7 cd7 ct7 oc8 kV8 dc8 pm8 cd8 ct8 oc9 kV9 dc9 pm9 cd9 ct9 oc10 kV10 dc10 pm10 cd10 ct10 oc11 kV11 dc11 pm11 cd11 ct11 oc12 kV12 dc12 pm12 cd12 ct12 oc13 kV13 dc13 pm13 cd13 ct13 oc14 kV14 dc14 pm14 cd14 ct14 oc15 kV15 dc15 pm15 cd15 ct15 oc16 kV16 dc16 pm16 cd16 ct16 oc17 kV17 dc17 pm17 cd17 ct17 oc18 kV18 dc18 pm18 cd18 ct18 oc19 kV19 dc19 pm19 cd19 ct19 oc20 kV20 dc20 pm20 cd20 ct20 oc21 kV21 dc21 pm21 cd21 ct21 oc22 kV22 dc22 pm22 cd22 ct22 oc23 kV23 dc23 pm23 cd23 ct23 oc24 kV24 dc24 pm24 cd24 ct24 oc25 kV25 dc25 pm25 cd25 ct25 oc26 kV26 dc26 pm26 cd26 ct26 oc27 kV27 dc27 pm27 cd27 ct27 oc28 kV28 dc28 pm28 cd28 ct28 oc29 kV29 dc29 pm29 cd29 ct29 oc30 kV30 dc30 pm30 cd30 ct30 oc31 kV31 dc31 pm31 cd31 ct31 oc32 kV32 dc32 pm32 cd32 ct32 : Value} {dN11 dN14 : Nat} {dt11_0 : Tok}
 (h42 : W.nsIn K mainGlobals "Ask" = some (some (.ref k_Ask)))
 (h43 : W.nsIn K mainGlobals "Kind" = some (some (.ref k_Kind)))
 (h44 : W.nsIn K mainGlobals "Money" = some (some (.ref k_Money)))
 (h45 : W.nsIn K mainGlobals "Names" = some (some (.ref k_Names)))
 (h46 : W.nsIn K mainGlobals "Paper" = some (some (.ref k_Paper)))
 (h47 : W.nsIn K mainGlobals "Pick" = some (some (.ref k_Pick)))
 (h48 : W.nsIn K mainGlobals "Row" = some (some (.ref k_Row)))
 (h49 : W.nsIn K mainGlobals "Sheet" = some (some (.ref k_Sheet)))
 (h4a : W.nsIn K mainGlobals "Whole" = some (some (.ref k_Whole)))
 (h4b : W.nsIn K mainGlobals "YesNo" = some (some (.ref k_YesNo)))
 (h00 : W.nsIn K mainGlobals "money_shown" = some (some (.ref f0)))
 (h01 : K.lookup f0 = some ⟨oc0, od0, .func (W.fnOf "money_shown" "money_shown" (defArgs s_money_shown) (defBody s_money_shown) (defScope s_money_shown) .none kV0 dc0 pm0 an0 cd0 ct0), sl0⟩)
 (h02 : W.codeIn K cd0 "money_shown" = true)
 (h03 : W.keepIn K (.ref f0) = true)
 (h04 : W.findIn K (.ref k_Kind) "__init__" = some (some (.ref f1)))
 (h05 : K.lookup f1 = some ⟨oc1, od1, .func (W.fnOf "__init__" "Kind.__init__" (defArgs s_c_Kind___init) (defBody s_c_Kind___init) (defScope s_c_Kind___init) .none kV1 dc1 pm1 an1 cd1 ct1), sl1⟩)
 (h06 : W.codeIn K cd1 "Kind.__init__" = true)
 (h07 : W.keepIn K (.ref f1) = true)
 (h08 : W.findIn K (.ref k_YesNo) "__init__" = some (some (.ref f2)))
 (h09 : K.lookup f2 = some ⟨oc2, od2, .func (W.fnOf "__init__" "YesNo.__init__" (defArgs s_c_YesNo___init) (defBody s_c_YesNo___init) (defScope s_c_YesNo___init) .none kV2 dc2 pm2 an2 cd2 ct2), sl2⟩)
 (h0a : W.codeIn K cd2 "YesNo.__init__" = true)
 (h0b : W.keepIn K (.ref f2) = true)
 (h0c : W.findIn K (.ref k_YesNo) "told" = some (some (.ref f3)))
 (h0d : K.lookup f3 = some ⟨oc3, od3, .func (W.fnOf "told" "YesNo.told" (defArgs s_c_YesNo_told) (defBody s_c_YesNo_told) (defScope s_c_YesNo_told) .none kV3 dc3 pm3 an3 cd3 ct3), sl3⟩)
 (h0e : W.codeIn K cd3 "YesNo.told" = true)
 (h0f : W.keepIn K (.ref f3) = true)
 (h0g : W.findIn K (.ref k_Whole) "shown" = some (some (.ref f4)))
 (h0h : K.lookup f4 = some ⟨oc4, od4, .func (W.fnOf "shown" "Whole.shown" (defArgs s_c_Whole_shown) (defBody s_c_Whole_shown) (defScope s_c_Whole_shown) .none kV4 dc4 pm4 an4 cd4 ct4), sl4⟩)
 (h0i : W.codeIn K cd4 "Whole.shown" = true)
 (h0j : W.keepIn K (.ref f4) = true)
 (h0k : W.findIn K (.ref k_Whole) "bounds" = some (some (.ref f5)))
 (h0l : K.lookup f5 = some ⟨oc5, od5, .func (W.fnOf "bounds" "Whole.bounds" (defArgs s_c_Whole_bounds) (defBody s_c_Whole_bounds) (defScope s_c_Whole_bounds) .none kV5 dc5 pm5 an5 cd5 ct5), sl5⟩)
 (h0m : W.codeIn K cd5 "Whole.bounds" = true)
 (h0n : W.keepIn K (.ref f5) = true)
 (h0o : W.findIn K (.ref k_Whole) "told" = some (some (.ref f6)))
 (h0p : K.lookup f6 = some ⟨oc6, od6, .func (W.fnOf "told" "Whole.told" (defArgs s_c_Whole_told) (defBody s_c_Whole_told) (defScope s_c_Whole_told) .none kV6 dc6 pm6 an6 cd6 ct6), sl6⟩)
 (h0q : W.codeIn K cd6 "Whole.told" = true)
 (h0r : W.keepIn K (.ref f6) = true)
 (h0s : W.findIn K (.ref k_Money) "shown" = some (some (.ref f7)))
 (h0t : K.lookup f7 = some ⟨oc7, od7, .func (W.fnOf "shown" "Money.shown" (defArgs s_c_Money_shown) (defBody s_c_Money_shown) (defScope s_c_Money_shown) .none kV7 dc7 pm7 an7 cd7 ct7), sl7⟩)
 (h0u : W.codeIn K cd7 "Money.shown" = true)
 (h0v : W.keepIn K (.ref f7) = true)
 (h0w : W.findIn K (.ref k_Money) "told" = some (some (.ref f8)))
 (h0x : K.lookup f8 = some ⟨oc8, od8, .func (W.fnOf "told" "Money.told" (defArgs s_c_Money_told) (defBody s_c_Money_told) (defScope s_c_Money_told) .none kV8 dc8 pm8 an8 cd8 ct8), sl8⟩)
 (h0y : W.codeIn K cd8 "Money.told" = true)
 (h0z : W.keepIn K (.ref f8) = true)
 (h10 : W.findIn K (.ref k_Pick) "__init__" = some (some (.ref f9)))
 (h11 : K.lookup f9 = some ⟨oc9, od9, .func (W.fnOf "__init__" "Pick.__init__" (defArgs s_c_Pick___init) (defBody s_c_Pick___init) (defScope s_c_Pick___init) .none kV9 dc9 pm9 an9 cd9 ct9), sl9⟩)
 (h12 : W.codeIn K cd9 "Pick.__init__" = true)
 (h13 : W.keepIn K (.ref f9) = true)
 (h14 : W.findIn K (.ref k_Pick) "told" = some (some (.ref f10)))
 (h15 : K.lookup f10 = some ⟨oc10, od10, .func (W.fnOf "told" "Pick.told" (defArgs s_c_Pick_told) (defBody s_c_Pick_told) (defScope s_c_Pick_told) .none kV10 dc10 pm10 an10 cd10 ct10), sl10⟩)
 (h16 : W.codeIn K cd10 "Pick.told" = true)
 (h17 : W.keepIn K (.ref f10) = true)
 (h18 : W.findIn K (.ref k_Names) "__init__" = some (some (.ref f11)))
 (h19 : K.lookup f11 = some ⟨oc11, od11, .func (W.fnOf "__init__" "Names.__init__" (defArgs s_c_Names___init) (defBody s_c_Names___init) (defScope s_c_Names___init) (.ref dT11) kV11 dc11 pm11 an11 cd11 ct11), sl11⟩)
 (h1a : W.codeIn K cd11 "Names.__init__" = true)
 (h1b : W.keepIn K (.ref f11) = true)
 (h1c : K.lookup dT11 = some ⟨.type "tuple", dD11, .seq ([(.int 3 dt11_0)] : List Value).toArray dN11, dS11⟩)
 (h1d : W.findIn K (.ref k_Names) "told" = some (some (.ref f12)))
 (h1e : K.lookup f12 = some ⟨oc12, od12, .func (W.fnOf "told" "Names.told" (defArgs s_c_Names_told) (defBody s_c_Names_told) (defScope s_c_Names_told) .none kV12 dc12 pm12 an12 cd12 ct12), sl12⟩)
 (h1f : W.codeIn K cd12 "Names.told" = true)
 (h1g : W.keepIn K (.ref f12) = true)
 (h1h : W.findIn K (.ref k_Row) "__init__" = some (some (.ref f13)))
 (h1i : K.lookup f13 = some ⟨oc13, od13, .func (W.fnOf "__init__" "Row.__init__" (defArgs s_c_Row___init) (defBody s_c_Row___init) (defScope s_c_Row___init) .none kV13 dc13 pm13 an13 cd13 ct13), sl13⟩)
 (h1j : W.codeIn K cd13 "Row.__init__" = true)
 (h1k : W.keepIn K (.ref f13) = true)
 (h1l : W.findIn K (.ref k_Ask) "__init__" = some (some (.ref f14)))
 (h1m : K.lookup f14 = some ⟨oc14, od14, .func (W.fnOf "__init__" "Ask.__init__" (defArgs s_c_Ask___init) (defBody s_c_Ask___init) (defScope s_c_Ask___init) (.ref dT14) kV14 dc14 pm14 an14 cd14 ct14), sl14⟩)
 (h1n : W.codeIn K cd14 "Ask.__init__" = true)
 (h1o : W.keepIn K (.ref f14) = true)
 (h1p : K.lookup dT14 = some ⟨.type "tuple", dD14, .seq ([.none] : List Value).toArray dN14, dS14⟩)
 (h1q : W.findIn K (.ref k_Sheet) "__init__" = some (some (.ref f15)))
 (h1r : K.lookup f15 = some ⟨oc15, od15, .func (W.fnOf "__init__" "Sheet.__init__" (defArgs s_c_Sheet___init) (defBody s_c_Sheet___init) (defScope s_c_Sheet___init) .none kV15 dc15 pm15 an15 cd15 ct15), sl15⟩)
 (h1s : W.codeIn K cd15 "Sheet.__init__" = true)
 (h1t : W.keepIn K (.ref f15) = true)
 (h1u : W.findIn K (.ref k_Paper) "__init__" = some (some (.ref f16)))
 (h1v : K.lookup f16 = some ⟨oc16, od16, .func (W.fnOf "__init__" "Paper.__init__" (defArgs s_c_Paper___init) (defBody s_c_Paper___init) (defScope s_c_Paper___init) .none kV16 dc16 pm16 an16 cd16 ct16), sl16⟩)
 (h1w : W.codeIn K cd16 "Paper.__init__" = true)
 (h1x : W.keepIn K (.ref f16) = true)
 (h1y : W.nsIn K mainGlobals "kinds_of" = some (some (.ref f17)))
 (h1z : K.lookup f17 = some ⟨oc17, od17, .func (W.fnOf "kinds_of" "kinds_of" (defArgs s_kinds_of) (defBody s_kinds_of) (defScope s_kinds_of) .none kV17 dc17 pm17 an17 cd17 ct17), sl17⟩)
 (h20 : W.codeIn K cd17 "kinds_of" = true)
 (h21 : W.keepIn K (.ref f17) = true)
 (h22 : W.nsIn K mainGlobals "gathered" = some (some (.ref f18)))
 (h23 : K.lookup f18 = some ⟨oc18, od18, .func (W.fnOf "gathered" "gathered" (defArgs s_gathered) (defBody s_gathered) (defScope s_gathered) .none kV18 dc18 pm18 an18 cd18 ct18), sl18⟩)
 (h24 : W.codeIn K cd18 "gathered" = true)
 (h25 : W.keepIn K (.ref f18) = true)
 (h26 : W.nsIn K mainGlobals "questions_of" = some (some (.ref f19)))
 (h27 : K.lookup f19 = some ⟨oc19, od19, .func (W.fnOf "questions_of" "questions_of" (defArgs s_questions_of) (defBody s_questions_of) (defScope s_questions_of) .none kV19 dc19 pm19 an19 cd19 ct19), sl19⟩)
 (h28 : W.codeIn K cd19 "questions_of" = true)
 (h29 : W.keepIn K (.ref f19) = true)
 (h2a : W.nsIn K mainGlobals "put_together" = some (some (.ref f20)))
 (h2b : K.lookup f20 = some ⟨oc20, od20, .func (W.fnOf "put_together" "put_together" (defArgs s_put_together) (defBody s_put_together) (defScope s_put_together) .none kV20 dc20 pm20 an20 cd20 ct20), sl20⟩)
 (h2c : W.codeIn K cd20 "put_together" = true)
 (h2d : W.keepIn K (.ref f20) = true)
 (h2e : W.nsIn K mainGlobals "_law_cell" = some (some (.ref f21)))
 (h2f : K.lookup f21 = some ⟨oc21, od21, .func (W.fnOf "_law_cell" "_law_cell" (defArgs s_law_cell) (defBody s_law_cell) (defScope s_law_cell) .none kV21 dc21 pm21 an21 cd21 ct21), sl21⟩)
 (h2g : W.codeIn K cd21 "_law_cell" = true)
 (h2h : W.keepIn K (.ref f21) = true)
 (h2i : W.nsIn K mainGlobals "_law_name" = some (some (.ref f22)))
 (h2j : K.lookup f22 = some ⟨oc22, od22, .func (W.fnOf "_law_name" "_law_name" (defArgs s_law_name) (defBody s_law_name) (defScope s_law_name) .none kV22 dc22 pm22 an22 cd22 ct22), sl22⟩)
 (h2k : W.codeIn K cd22 "_law_name" = true)
 (h2l : W.keepIn K (.ref f22) = true)
 (h2m : W.nsIn K mainGlobals "_law_whole" = some (some (.ref f23)))
 (h2n : K.lookup f23 = some ⟨oc23, od23, .func (W.fnOf "_law_whole" "_law_whole" (defArgs s_law_whole) (defBody s_law_whole) (defScope s_law_whole) .none kV23 dc23 pm23 an23 cd23 ct23), sl23⟩)
 (h2o : W.codeIn K cd23 "_law_whole" = true)
 (h2p : W.keepIn K (.ref f23) = true)
 (h2q : W.nsIn K mainGlobals "_law_kind" = some (some (.ref f24)))
 (h2r : K.lookup f24 = some ⟨oc24, od24, .func (W.fnOf "_law_kind" "_law_kind" (defArgs s_law_kind) (defBody s_law_kind) (defScope s_law_kind) .none kV24 dc24 pm24 an24 cd24 ct24), sl24⟩)
 (h2s : W.codeIn K cd24 "_law_kind" = true)
 (h2t : W.keepIn K (.ref f24) = true)
 (h2u : W.nsIn K mainGlobals "_law_part" = some (some (.ref f25)))
 (h2v : K.lookup f25 = some ⟨oc25, od25, .func (W.fnOf "_law_part" "_law_part" (defArgs s_law_part) (defBody s_law_part) (defScope s_law_part) .none kV25 dc25 pm25 an25 cd25 ct25), sl25⟩)
 (h2w : W.codeIn K cd25 "_law_part" = true)
 (h2x : W.keepIn K (.ref f25) = true)
 (h2y : W.nsIn K mainGlobals "_law_sums" = some (some (.ref f26)))
 (h2z : K.lookup f26 = some ⟨oc26, od26, .func (W.fnOf "_law_sums" "_law_sums" (defArgs s_law_sums) (defBody s_law_sums) (defScope s_law_sums) .none kV26 dc26 pm26 an26 cd26 ct26), sl26⟩)
 (h30 : W.codeIn K cd26 "_law_sums" = true)
 (h31 : W.keepIn K (.ref f26) = true)
 (h32 : W.nsIn K mainGlobals "_law_come" = some (some (.ref f27)))
 (h33 : K.lookup f27 = some ⟨oc27, od27, .func (W.fnOf "_law_come" "_law_come" (defArgs s_law_come) (defBody s_law_come) (defScope s_law_come) .none kV27 dc27 pm27 an27 cd27 ct27), sl27⟩)
 (h34 : W.codeIn K cd27 "_law_come" = true)
 (h35 : W.keepIn K (.ref f27) = true)
 (h36 : W.nsIn K mainGlobals "_law_times" = some (some (.ref f28)))
 (h37 : K.lookup f28 = some ⟨oc28, od28, .func (W.fnOf "_law_times" "_law_times" (defArgs s_law_times) (defBody s_law_times) (defScope s_law_times) .none kV28 dc28 pm28 an28 cd28 ct28), sl28⟩)
 (h38 : W.codeIn K cd28 "_law_times" = true)
 (h39 : W.keepIn K (.ref f28) = true)
 (h3a : W.nsIn K mainGlobals "_law_terms" = some (some (.ref f29)))
 (h3b : K.lookup f29 = some ⟨oc29, od29, .func (W.fnOf "_law_terms" "_law_terms" (defArgs s_law_terms) (defBody s_law_terms) (defScope s_law_terms) .none kV29 dc29 pm29 an29 cd29 ct29), sl29⟩)
 (h3c : W.codeIn K cd29 "_law_terms" = true)
 (h3d : W.keepIn K (.ref f29) = true)
 (h3e : W.nsIn K mainGlobals "_law_named" = some (some (.ref f30)))
 (h3f : K.lookup f30 = some ⟨oc30, od30, .func (W.fnOf "_law_named" "_law_named" (defArgs s_law_named) (defBody s_law_named) (defScope s_law_named) .none kV30 dc30 pm30 an30 cd30 ct30), sl30⟩)
 (h3g : W.codeIn K cd30 "_law_named" = true)
 (h3h : W.keepIn K (.ref f30) = true)
 (h3i : W.nsIn K mainGlobals "_law_told" = some (some (.ref f31)))
 (h3j : K.lookup f31 = some ⟨oc31, od31, .func (W.fnOf "_law_told" "_law_told" (defArgs s_law_told) (defBody s_law_told) (defScope s_law_told) .none kV31 dc31 pm31 an31 cd31 ct31), sl31⟩)
 (h3k : W.codeIn K cd31 "_law_told" = true)
 (h3l : W.keepIn K (.ref f31) = true)
 (h3m : W.nsIn K mainGlobals "law" = some (some (.ref f32)))
 (h3n : K.lookup f32 = some ⟨oc32, od32, .func (W.fnOf "law" "law" (defArgs s_law) (defBody s_law) (defScope s_law) .none kV32 dc32 pm32 an32 cd32 ct32), sl32⟩)
 (h3o : W.codeIn K cd32 "law" = true)
 (h3p : W.keepIn K (.ref f32) = true)
 (h3q : W.nsIn K mainGlobals "abs" = some none)
 (h3r : W.nsIn K mainGlobals "bool" = some none)
 (h3s : W.nsIn K mainGlobals "dict" = some none)
 (h3t : W.nsIn K mainGlobals "enumerate" = some none)
 (h3u : W.nsIn K mainGlobals "int" = some none)
 (h3v : W.nsIn K mainGlobals "isinstance" = some none)
 (h3w : W.nsIn K mainGlobals "len" = some none)
 (h3x : W.nsIn K mainGlobals "list" = some none)
 (h3y : W.nsIn K mainGlobals "range" = some none)
 (h3z : W.nsIn K mainGlobals "sorted" = some none)
 (h40 : W.nsIn K mainGlobals "str" = some none)
 (h41 : W.nsIn K mainGlobals "tuple" = some none)
 (h4c : W.plainGet K k_YesNo Str.empty = true)
 (h4d : W.hasDictIn K k_YesNo = true)
 (h4e : W.plainOver K k_YesNo = true)
 (h4f : W.findIn K (.ref k_YesNo) "__setattr__" = some (some (.builtin "object.__setattr__")))
 (h4g : W.makesIn K k_YesNo = true)
 (h4h : W.findIn K (.ref k_YesNo) "__init__" = some (some (.ref f2)))
 (h4i : W.isFn K (.ref f2) = true)
 (h4j : W.keepIn K (.ref k_YesNo) = true)
 (h4k : W.findIn K (.ref k_YesNo) "told" = some (some (.ref f3)))
 (h4l : W.isFn K (.ref f3) = true)
 (h4m : W.findIn K (.ref k_YesNo) "low" = some none)
 (h4n : W.findIn K (.ref k_YesNo) "high" = some none)
 (h4o : W.plainGet K k_Whole Str.empty = true)
 (h4p : W.hasDictIn K k_Whole = true)
 (h4q : W.plainOver K k_Whole = true)
 (h4r : W.findIn K (.ref k_Whole) "__setattr__" = some (some (.builtin "object.__setattr__")))
 (h4s : W.makesIn K k_Whole = true)
 (h4t : W.findIn K (.ref k_Whole) "__init__" = some (some (.ref f1)))
 (h4u : W.isFn K (.ref f1) = true)
 (h4v : W.keepIn K (.ref k_Whole) = true)
 (h4w : W.findIn K (.ref k_Whole) "shown" = some (some (.ref f4)))
 (h4x : W.isFn K (.ref f4) = true)
 (h4y : W.findIn K (.ref k_Whole) "told" = some (some (.ref f6)))
 (h4z : W.isFn K (.ref f6) = true)
 (h50 : W.findIn K (.ref k_Whole) "bounds" = some (some (.ref f5)))
 (h51 : W.isFn K (.ref f5) = true)
 (h52 : W.findIn K (.ref k_Whole) "low" = some none)
 (h53 : W.findIn K (.ref k_Whole) "high" = some none)
 (h54 : W.plainGet K k_Money Str.empty = true)
 (h55 : W.hasDictIn K k_Money = true)
 (h56 : W.plainOver K k_Money = true)
 (h57 : W.findIn K (.ref k_Money) "__setattr__" = some (some (.builtin "object.__setattr__")))
 (h58 : W.makesIn K k_Money = true)
 (h59 : W.findIn K (.ref k_Money) "__init__" = some (some (.ref f1)))
 (h5a : W.isFn K (.ref f1) = true)
 (h5b : W.keepIn K (.ref k_Money) = true)
 (h5c : W.findIn K (.ref k_Money) "shown" = some (some (.ref f7)))
 (h5d : W.isFn K (.ref f7) = true)
 (h5e : W.findIn K (.ref k_Money) "told" = some (some (.ref f8)))
 (h5f : W.isFn K (.ref f8) = true)
 (h5g : W.findIn K (.ref k_Money) "bounds" = some (some (.ref f5)))
 (h5h : W.isFn K (.ref f5) = true)
 (h5i : W.findIn K (.ref k_Money) "low" = some none)
 (h5j : W.findIn K (.ref k_Money) "high" = some none)
 (h5k : W.plainGet K k_Pick Str.empty = true)
 (h5l : W.hasDictIn K k_Pick = true)
 (h5m : W.plainOver K k_Pick = true)
 (h5n : W.findIn K (.ref k_Pick) "__setattr__" = some (some (.builtin "object.__setattr__")))
 (h5o : W.makesIn K k_Pick = true)
 (h5p : W.findIn K (.ref k_Pick) "__init__" = some (some (.ref f9)))
 (h5q : W.isFn K (.ref f9) = true)
 (h5r : W.keepIn K (.ref k_Pick) = true)
 (h5s : W.findIn K (.ref k_Pick) "told" = some (some (.ref f10)))
 (h5t : W.isFn K (.ref f10) = true)
 (h5u : W.findIn K (.ref k_Pick) "low" = some none)
 (h5v : W.findIn K (.ref k_Pick) "high" = some none)
 (h5w : W.findIn K (.ref k_Pick) "words" = some none)
 (h5x : W.plainGet K k_Names Str.empty = true)
 (h5y : W.hasDictIn K k_Names = true)
 (h5z : W.plainOver K k_Names = true)
 (h60 : W.findIn K (.ref k_Names) "__setattr__" = some (some (.builtin "object.__setattr__")))
 (h61 : W.makesIn K k_Names = true)
 (h62 : W.findIn K (.ref k_Names) "__init__" = some (some (.ref f11)))
 (h63 : W.isFn K (.ref f11) = true)
 (h64 : W.keepIn K (.ref k_Names) = true)
 (h65 : W.findIn K (.ref k_Names) "told" = some (some (.ref f12)))
 (h66 : W.isFn K (.ref f12) = true)
 (h67 : W.findIn K (.ref k_Names) "low" = some none)
 (h68 : W.findIn K (.ref k_Names) "high" = some none)
 (h69 : W.plainGet K k_Ask Str.empty = true)
 (h6a : W.hasDictIn K k_Ask = true)
 (h6b : W.plainOver K k_Ask = true)
 (h6c : W.findIn K (.ref k_Ask) "__setattr__" = some (some (.builtin "object.__setattr__")))
 (h6d : W.findIn K (.ref k_Ask) "__class__" = some (some (.builtin "object.__class__")))
 (h6e : W.specialIn K (.builtin "object.__class__") "__get__" = some (some (.builtin "getset_descriptor.__get__")))
 (h6f : W.takesIn K (.builtin "object.__class__") = some true)
 (h6g : W.mroIn K k_Ask (.type "object") = some true)
 (h6h : W.makesIn K k_Ask = true)
 (h6i : W.findIn K (.ref k_Ask) "__init__" = some (some (.ref f14)))
 (h6j : W.isFn K (.ref f14) = true)
 (h6k : W.keepIn K (.ref k_Ask) = true)
 (h6l : W.findIn K (.ref k_Ask) "name" = some none)
 (h6m : W.findIn K (.ref k_Ask) "kind" = some none)
 (h6n : W.findIn K (.ref k_Ask) "when" = some none)
 (h6o : W.plainGet K k_Sheet Str.empty = true)
 (h6p : W.hasDictIn K k_Sheet = true)
 (h6q : W.plainOver K k_Sheet = true)
 (h6r : W.findIn K (.ref k_Sheet) "__setattr__" = some (some (.builtin "object.__setattr__")))
 (h6s : W.makesIn K k_Sheet = true)
 (h6t : W.findIn K (.ref k_Sheet) "__init__" = some (some (.ref f15)))
 (h6u : W.isFn K (.ref f15) = true)
 (h6v : W.keepIn K (.ref k_Sheet) = true)
 (h6w : W.findIn K (.ref k_Sheet) "name" = some none)
 (h6x : W.findIn K (.ref k_Sheet) "each" = some none)
 (h6y : W.findIn K (.ref k_Sheet) "rows" = some none)
 (h6z : W.findIn K (.ref k_Sheet) "ways" = some none)
 (h70 : W.plainGet K k_Paper Str.empty = true)
 (h71 : W.hasDictIn K k_Paper = true)
 (h72 : W.plainOver K k_Paper = true)
 (h73 : W.findIn K (.ref k_Paper) "__setattr__" = some (some (.builtin "object.__setattr__")))
 (h74 : W.makesIn K k_Paper = true)
 (h75 : W.findIn K (.ref k_Paper) "__init__" = some (some (.ref f16)))
 (h76 : W.isFn K (.ref f16) = true)
 (h77 : W.keepIn K (.ref k_Paper) = true)
 (h78 : W.findIn K (.ref k_Paper) "name" = some none)
 (h79 : W.findIn K (.ref k_Paper) "sheets" = some none)
 (h7a : W.findIn K (.ref k_Paper) "totals" = some none)
 (h7b : W.readsIn K k_Kind (.type "type") = true)
 (h7c : W.findCls K (.ref k_Kind) (.type "type") "__init__" = some (.val (.ref f1)))
 (h7d : W.specialIn K (.ref k_Kind) "__getattribute__" = some (some (.builtin "type.__getattribute__")))
 (h7e : W.readsIn K k_Row (.type "type") = true)
 (h7f : W.findCls K (.ref k_Row) (.type "type") "__init__" = some (.val (.ref f13)))
 (h7g : W.specialIn K (.ref k_Row) "__getattribute__" = some (some (.builtin "type.__getattribute__"))) :
 ∃ A : Adr, Txt K mg A :=
 ⟨⟨f0,
   W.fnOf "money_shown" "money_shown" (defArgs s_money_shown) (defBody s_money_shown) (defScope s_money_shown) .none kV0 dc0 pm0 an0 cd0 ct0,
   f1,
   W.fnOf "__init__" "Kind.__init__" (defArgs s_c_Kind___init) (defBody s_c_Kind___init) (defScope s_c_Kind___init) .none kV1 dc1 pm1 an1 cd1 ct1,
   f2,
   W.fnOf "__init__" "YesNo.__init__" (defArgs s_c_YesNo___init) (defBody s_c_YesNo___init) (defScope s_c_YesNo___init) .none kV2 dc2 pm2 an2 cd2 ct2,
   f3,
   W.fnOf "told" "YesNo.told" (defArgs s_c_YesNo_told) (defBody s_c_YesNo_told) (defScope s_c_YesNo_told) .none kV3 dc3 pm3 an3 cd3 ct3,
   f4,
   W.fnOf "shown" "Whole.shown" (defArgs s_c_Whole_shown) (defBody s_c_Whole_shown) (defScope s_c_Whole_shown) .none kV4 dc4 pm4 an4 cd4 ct4,
   f5,
   W.fnOf "bounds" "Whole.bounds" (defArgs s_c_Whole_bounds) (defBody s_c_Whole_bounds) (defScope s_c_Whole_bounds) .none kV5 dc5 pm5 an5 cd5 ct5,
   f6,
   W.fnOf "told" "Whole.told" (defArgs s_c_Whole_told) (defBody s_c_Whole_told) (defScope s_c_Whole_told) .none kV6 dc6 pm6 an6 cd6 ct6,
   f7,
   W.fnOf "shown" "Money.shown" (defArgs s_c_Money_shown) (defBody s_c_Money_shown) (defScope s_c_Money_shown) .none kV7 dc7 pm7 an7 cd7 ct7,
   f8,
   W.fnOf "told" "Money.told" (defArgs s_c_Money_told) (defBody s_c_Money_told) (defScope s_c_Money_told) .none kV8 dc8 pm8 an8 cd8 ct8,
   f9,
   W.fnOf "__init__" "Pick.__init__" (defArgs s_c_Pick___init) (defBody s_c_Pick___init) (defScope s_c_Pick___init) .none kV9 dc9 pm9 an9 cd9 ct9,
   f10,
   W.fnOf "told" "Pick.told" (defArgs s_c_Pick_told) (defBody s_c_Pick_told) (defScope s_c_Pick_told) .none kV10 dc10 pm10 an10 cd10 ct10,
   f11,
   W.fnOf "__init__" "Names.__init__" (defArgs s_c_Names___init) (defBody s_c_Names___init) (defScope s_c_Names___init) (.ref dT11) kV11 dc11 pm11 an11 cd11 ct11,
   [(.int 3 dt11_0)],
   f12,
   W.fnOf "told" "Names.told" (defArgs s_c_Names_told) (defBody s_c_Names_told) (defScope s_c_Names_told) .none kV12 dc12 pm12 an12 cd12 ct12,
   f13,
   W.fnOf "__init__" "Row.__init__" (defArgs s_c_Row___init) (defBody s_c_Row___init) (defScope s_c_Row___init) .none kV13 dc13 pm13 an13 cd13 ct13,
   f14,
   W.fnOf "__init__" "Ask.__init__" (defArgs s_c_Ask___init) (defBody s_c_Ask___init) (defScope s_c_Ask___init) (.ref dT14) kV14 dc14 pm14 an14 cd14 ct14,
   [.none],
   f15,
   W.fnOf "__init__" "Sheet.__init__" (defArgs s_c_Sheet___init) (defBody s_c_Sheet___init) (defScope s_c_Sheet___init) .none kV15 dc15 pm15 an15 cd15 ct15,
   f16,
   W.fnOf "__init__" "Paper.__init__" (defArgs s_c_Paper___init) (defBody s_c_Paper___init) (defScope s_c_Paper___init) .none kV16 dc16 pm16 an16 cd16 ct16,
   f17,
   W.fnOf "kinds_of" "kinds_of" (defArgs s_kinds_of) (defBody s_kinds_of) (defScope s_kinds_of) .none kV17 dc17 pm17 an17 cd17 ct17,
   f18,
   W.fnOf "gathered" "gathered" (defArgs s_gathered) (defBody s_gathered) (defScope s_gathered) .none kV18 dc18 pm18 an18 cd18 ct18,
   f19,
   W.fnOf "questions_of" "questions_of" (defArgs s_questions_of) (defBody s_questions_of) (defScope s_questions_of) .none kV19 dc19 pm19 an19 cd19 ct19,
   f20,
   W.fnOf "put_together" "put_together" (defArgs s_put_together) (defBody s_put_together) (defScope s_put_together) .none kV20 dc20 pm20 an20 cd20 ct20,
   f21,
   W.fnOf "_law_cell" "_law_cell" (defArgs s_law_cell) (defBody s_law_cell) (defScope s_law_cell) .none kV21 dc21 pm21 an21 cd21 ct21,
   f22,
   W.fnOf "_law_name" "_law_name" (defArgs s_law_name) (defBody s_law_name) (defScope s_law_name) .none kV22 dc22 pm22 an22 cd22 ct22,
   f23,
   W.fnOf "_law_whole" "_law_whole" (defArgs s_law_whole) (defBody s_law_whole) (defScope s_law_whole) .none kV23 dc23 pm23 an23 cd23 ct23,
   f24,
   W.fnOf "_law_kind" "_law_kind" (defArgs s_law_kind) (defBody s_law_kind) (defScope s_law_kind) .none kV24 dc24 pm24 an24 cd24 ct24,
   f25,
   W.fnOf "_law_part" "_law_part" (defArgs s_law_part) (defBody s_law_part) (defScope s_law_part) .none kV25 dc25 pm25 an25 cd25 ct25,
   f26,
   W.fnOf "_law_sums" "_law_sums" (defArgs s_law_sums) (defBody s_law_sums) (defScope s_law_sums) .none kV26 dc26 pm26 an26 cd26 ct26,
   f27,
   W.fnOf "_law_come" "_law_come" (defArgs s_law_come) (defBody s_law_come) (defScope s_law_come) .none kV27 dc27 pm27 an27 cd27 ct27,
   f28,
   W.fnOf "_law_times" "_law_times" (defArgs s_law_times) (defBody s_law_times) (defScope s_law_times) .none kV28 dc28 pm28 an28 cd28 ct28,
   f29,
   W.fnOf "_law_terms" "_law_terms" (defArgs s_law_terms) (defBody s_law_terms) (defScope s_law_terms) .none kV29 dc29 pm29 an29 cd29 ct29,
   f30,
   W.fnOf "_law_named" "_law_named" (defArgs s_law_named) (defBody s_law_named) (defScope s_law_named) .none kV30 dc30 pm30 an30 cd30 ct30,
   f31,
   W.fnOf "_law_told" "_law_told" (defArgs s_law_told) (defBody s_law_told) (defScope s_law_told) .none kV31 dc31 pm31 an31 cd31 ct31,
   f32,
   W.fnOf "law" "law" (defArgs s_law) (defBody s_law) (defScope s_law) .none kV32 dc32 pm32 an32 cd32 ct32,
   k_Ask,
   k_Kind,
   k_Money,
   k_Names,
   k_Paper,
   k_Pick,
   k_Row,
   k_Sheet,
   k_Whole,
   k_YesNo⟩, ⟨fun_mk (st := s_money_shown) h01 h02 h03,
   (fun_mk (st := s_money_shown) h01 h02 h03).binds (ps := ["hundredths"]) (fun _ _ _ _ _ _ us hl => el1 us hl fun _ => rfl),
   h03,
   W.mg_of X G h00,
   fun_mk (st := s_c_Kind___init) h05 h06 h07,
   (fun_mk (st := s_c_Kind___init) h05 h06 h07).binds (ps := ["self", "low", "high"]) (fun _ _ _ _ _ _ us hl => el3 us hl fun _ _ _ => rfl),
   fun_mk (st := s_c_YesNo___init) h09 h0a h0b,
   (fun_mk (st := s_c_YesNo___init) h09 h0a h0b).binds (ps := ["self"]) (fun _ _ _ _ _ _ us hl => el1 us hl fun _ => rfl),
   fun_mk (st := s_c_YesNo_told) h0d h0e h0f,
   (fun_mk (st := s_c_YesNo_told) h0d h0e h0f).binds (ps := ["self"]) (fun _ _ _ _ _ _ us hl => el1 us hl fun _ => rfl),
   fun_mk (st := s_c_Whole_shown) h0h h0i h0j,
   (fun_mk (st := s_c_Whole_shown) h0h h0i h0j).binds (ps := ["self", "answer"]) (fun _ _ _ _ _ _ us hl => el2 us hl fun _ _ => rfl),
   fun_mk (st := s_c_Whole_bounds) h0l h0m h0n,
   (fun_mk (st := s_c_Whole_bounds) h0l h0m h0n).binds (ps := ["self"]) (fun _ _ _ _ _ _ us hl => el1 us hl fun _ => rfl),
   fun_mk (st := s_c_Whole_told) h0p h0q h0r,
   (fun_mk (st := s_c_Whole_told) h0p h0q h0r).binds (ps := ["self"]) (fun _ _ _ _ _ _ us hl => el1 us hl fun _ => rfl),
   fun_mk (st := s_c_Money_shown) h0t h0u h0v,
   (fun_mk (st := s_c_Money_shown) h0t h0u h0v).binds (ps := ["self", "answer"]) (fun _ _ _ _ _ _ us hl => el2 us hl fun _ _ => rfl),
   fun_mk (st := s_c_Money_told) h0x h0y h0z,
   (fun_mk (st := s_c_Money_told) h0x h0y h0z).binds (ps := ["self"]) (fun _ _ _ _ _ _ us hl => el1 us hl fun _ => rfl),
   fun_mk (st := s_c_Pick___init) h11 h12 h13,
   (fun_mk (st := s_c_Pick___init) h11 h12 h13).binds (ps := ["self", "words"]) (fun _ _ _ _ _ _ us hl => el2 us hl fun _ _ => rfl),
   fun_mk (st := s_c_Pick_told) h15 h16 h17,
   (fun_mk (st := s_c_Pick_told) h15 h16 h17).binds (ps := ["self"]) (fun _ _ _ _ _ _ us hl => el1 us hl fun _ => rfl),
   (funD_mk (st := s_c_Names___init) h19 h1a h1b h1c),
   (funD_mk (st := s_c_Names___init) h19 h1a h1b h1c).binds (es := []) (fun T _ _ _ _ _ _ us M A E Q s to n ht hc hd hl hq => el2 us (app_len (m := 2) hl rfl) (fun _ _ hq => BindsTo.of_defaults rfl ht hd rfl rfl M A E Q hq) hq),
   fun_mk (st := s_c_Names_told) h1e h1f h1g,
   (fun_mk (st := s_c_Names_told) h1e h1f h1g).binds (ps := ["self"]) (fun _ _ _ _ _ _ us hl => el1 us hl fun _ => rfl),
   fun_mk (st := s_c_Row___init) h1i h1j h1k,
   (fun_mk (st := s_c_Row___init) h1i h1j h1k).binds (ps := ["self", "name"]) (fun _ _ _ _ _ _ us hl => el2 us hl fun _ _ => rfl),
   (funD_mk (st := s_c_Ask___init) h1m h1n h1o h1p),
   (funD_mk (st := s_c_Ask___init) h1m h1n h1o h1p).binds (fun T _ _ _ _ _ _ us M A E Q s to n ht hc hd hl hq => el3 us (app_len (m := 3) hl rfl) (fun _ _ _ hq => BindsTo.of_defaults rfl ht hd rfl rfl M A E Q hq) hq),
   .cons rfl (.nil),
   fun_mk (st := s_c_Sheet___init) h1r h1s h1t,
   (fun_mk (st := s_c_Sheet___init) h1r h1s h1t).binds (ps := ["self", "name", "each", "rows", "ways"]) (fun _ _ _ _ _ _ us hl => el5 us hl fun _ _ _ _ _ => rfl),
   fun_mk (st := s_c_Paper___init) h1v h1w h1x,
   (fun_mk (st := s_c_Paper___init) h1v h1w h1x).binds (ps := ["self", "name", "sheets", "totals"]) (fun _ _ _ _ _ _ us hl => el4 us hl fun _ _ _ _ => rfl),
   fun_mk (st := s_kinds_of) h1z h20 h21,
   (fun_mk (st := s_kinds_of) h1z h20 h21).binds (ps := ["paper"]) (fun _ _ _ _ _ _ us hl => el1 us hl fun _ => rfl),
   h21,
   W.mg_of X G h1y,
   fun_mk (st := s_gathered) h23 h24 h25,
   (fun_mk (st := s_gathered) h23 h24 h25).binds (ps := ["totals", "name", "known"]) (fun _ _ _ _ _ _ us hl => el3 us hl fun _ _ _ => rfl),
   h25,
   W.mg_of X G h22,
   fun_mk (st := s_questions_of) h27 h28 h29,
   (fun_mk (st := s_questions_of) h27 h28 h29).binds (ps := ["paper", "name"]) (fun _ _ _ _ _ _ us hl => el2 us hl fun _ _ => rfl),
   h29,
   W.mg_of X G h26,
   fun_mk (st := s_put_together) h2b h2c h2d,
   (fun_mk (st := s_put_together) h2b h2c h2d).binds (ps := ["paper", "name"]) (fun _ _ _ _ _ _ us hl => el2 us hl fun _ _ => rfl),
   h2d,
   W.mg_of X G h2a,
   fun_mk (st := s_law_cell) h2f h2g h2h,
   (fun_mk (st := s_law_cell) h2f h2g h2h).binds (ps := ["_law_script", "_law_k"]) (fun _ _ _ _ _ _ us hl => el2 us hl fun _ _ => rfl),
   h2h,
   W.mg_of X G h2e,
   fun_mk (st := s_law_name) h2j h2k h2l,
   (fun_mk (st := s_law_name) h2j h2k h2l).binds (ps := ["_law_script", "_law_k"]) (fun _ _ _ _ _ _ us hl => el2 us hl fun _ _ => rfl),
   h2l,
   W.mg_of X G h2i,
   fun_mk (st := s_law_whole) h2n h2o h2p,
   (fun_mk (st := s_law_whole) h2n h2o h2p).binds (ps := ["_law_found"]) (fun _ _ _ _ _ _ us hl => el1 us hl fun _ => rfl),
   h2p,
   W.mg_of X G h2m,
   fun_mk (st := s_law_kind) h2r h2s h2t,
   (fun_mk (st := s_law_kind) h2r h2s h2t).binds (ps := ["_law_number"]) (fun _ _ _ _ _ _ us hl => el1 us hl fun _ => rfl),
   h2t,
   W.mg_of X G h2q,
   fun_mk (st := s_law_part) h2v h2w h2x,
   (fun_mk (st := s_law_part) h2v h2w h2x).binds (ps := ["_law_number", "_law_own", "_law_many", "_law_sums_here"]) (fun _ _ _ _ _ _ us hl => el4 us hl fun _ _ _ _ => rfl),
   h2x,
   W.mg_of X G h2u,
   fun_mk (st := s_law_sums) h2z h30 h31,
   (fun_mk (st := s_law_sums) h2z h30 h31).binds (ps := ["_law_script", "_law_many"]) (fun _ _ _ _ _ _ us hl => el2 us hl fun _ _ => rfl),
   h31,
   W.mg_of X G h2y,
   fun_mk (st := s_law_come) h33 h34 h35,
   (fun_mk (st := s_law_come) h33 h34 h35).binds (ps := ["_law_made", "_law_own", "_law_found"]) (fun _ _ _ _ _ _ us hl => el3 us hl fun _ _ _ => rfl),
   h35,
   W.mg_of X G h32,
   fun_mk (st := s_law_times) h37 h38 h39,
   (fun_mk (st := s_law_times) h37 h38 h39).binds (ps := ["_law_made", "_law_own", "_law_aim"]) (fun _ _ _ _ _ _ us hl => el3 us hl fun _ _ _ => rfl),
   h39,
   W.mg_of X G h36,
   fun_mk (st := s_law_terms) h3b h3c h3d,
   (fun_mk (st := s_law_terms) h3b h3c h3d).binds (ps := ["_law_made", "_law_own", "_law_script"]) (fun _ _ _ _ _ _ us hl => el3 us hl fun _ _ _ => rfl),
   h3d,
   W.mg_of X G h3a,
   fun_mk (st := s_law_named) h3f h3g h3h,
   (fun_mk (st := s_law_named) h3f h3g h3h).binds (ps := ["_law_script", "_law_part_here"]) (fun _ _ _ _ _ _ us hl => el2 us hl fun _ _ => rfl),
   h3h,
   W.mg_of X G h3e,
   fun_mk (st := s_law_told) h3j h3k h3l,
   (fun_mk (st := s_law_told) h3j h3k h3l).binds (ps := ["_law_paper", "_law_name_here"]) (fun _ _ _ _ _ _ us hl => el2 us hl fun _ _ => rfl),
   h3l,
   W.mg_of X G h3i,
   fun_mk (st := s_law) h3n h3o h3p,
   W.mg_of X G h3m,
   W.mg_none_of X G h3q,
   W.mg_none_of X G h3r,
   W.mg_none_of X G h3s,
   W.mg_none_of X G h3t,
   W.mg_none_of X G h3u,
   W.mg_none_of X G h3v,
   W.mg_none_of X G h3w,
   W.mg_none_of X G h3x,
   W.mg_none_of X G h3y,
   W.mg_none_of X G h3z,
   W.mg_none_of X G h40,
   W.mg_none_of X G h41,
   L2.kit_ty (by symm),
   L2.kit_ty (by symm),
   L2.kit_ty (by symm),
   L2.kit_ty (by symm),
   L2.kit_ty (by symm),
   W.mg_of X G h42,
   ⟨_, W.mg_of X G h42, rfl⟩,
   W.mg_of X G h43,
   W.mg_of X G h44,
   W.mg_of X G h45,
   W.mg_of X G h46,
   W.mg_of X G h47,
   W.mg_of X G h48,
   W.mg_of X G h49,
   W.mg_of X G h4a,
   W.mg_of X G h4b,
   kit_self,
   ⟨h4c, h4d, h4e, h4f⟩,
   ⟨h4g, h4h, h4i, h4j⟩,
   ⟨h4k, h4l, h0f⟩,
   h4m,
   h4n,
   ⟨h4o, h4p, h4q, h4r⟩,
   ⟨h4s, h4t, h4u, h4v⟩,
   ⟨h4w, h4x, h0j⟩,
   ⟨h4y, h4z, h0r⟩,
   ⟨h50, h51, h0n⟩,
   h52,
   h53,
   ⟨h54, h55, h56, h57⟩,
   ⟨h58, h59, h5a, h5b⟩,
   ⟨h5c, h5d, h0v⟩,
   ⟨h5e, h5f, h0z⟩,
   ⟨h5g, h5h, h0n⟩,
   h5i,
   h5j,
   ⟨h5k, h5l, h5m, h5n⟩,
   ⟨h5o, h5p, h5q, h5r⟩,
   ⟨h5s, h5t, h17⟩,
   h5u,
   h5v,
   h5w,
   ⟨h5x, h5y, h5z, h60⟩,
   ⟨h61, h62, h63, h64⟩,
   ⟨h65, h66, h1g⟩,
   h67,
   h68,
   ⟨h69, h6a, h6b, h6c⟩,
   fun _ _ _ _ e => .ins e ⟨h69, h6a, h6b, h6c⟩ h6d h6e h6f h6g,
   ⟨h6h, h6i, h6j, h6k⟩,
   h6l,
   h6m,
   h6n,
   ⟨h6o, h6p, h6q, h6r⟩,
   ⟨h6s, h6t, h6u, h6v⟩,
   h6w,
   h6x,
   h6y,
   h6z,
   ⟨h70, h71, h72, h73⟩,
   ⟨h74, h75, h76, h77⟩,
   h78,
   h79,
   h7a,
   ⟨h7b, h7c, h7d, h07⟩,
   ⟨h7e, h7f, h7g, h1k⟩⟩⟩
theorem walk {l : W.OpenLaw} {q : Program} {loose : List Str} {XP : (Str → Option Value) → Heap → Prop} {YP : World → Heap → Prop} {d : DefRec} {K : Params → W.Frag} (hn : l.most = some 63) (hdf : d.params.defaults = []) (hnm : d.name = "law")
   (hY : ∀ (w : World) (h : Heap), YP w h → (K w.params).In h)
   (F : ∀ (w : World) (mg : Str → Option Value) (h : Heap), (K w.params).In h → h.Ns mainGlobals mg → ∃ A : Adr, Txt (K w.params) mg A) :
   W.WalkO q loose XP YP l.row.toRowW d [] (fun f vs => PySem.call f vs) := by
 refine L2.walk_ofB (n := 63) (k := 40) (x := "_law_script") (CX := fun _ => CX0) (sp := fun w => sp_law (K w.params)) hn (by decide) hdf ⟨rfl, by decide, by decide⟩ hY (fun w mg fa h KX G hmg => ?_) (fun w H a ns hl hb _ hS => ⟨a, ns, rfl, hS, hl, hb, fun _ => rfl⟩) fun _ _ _ _ _ z => z
 obtain ⟨A, T⟩ := F w mg h KX G
 rw [hnm] at hmg
 have e := hmg.symm.trans T.m_law
 cases e
 obtain ⟨oc, od, kV, doc, pm, an, cdv, ct, osl, efd, lk, hcd⟩ := id T.F_law.ex
 exact ⟨A.d_law, fun s v => by rw [efd]; exact .of_eq rfl, fun base _ _ => ok_law T⟩
end K31
open PySem PySem.W PyProof.Rows
set_option maxRecDepth 100000 in
set_option maxHeartbeats 0 in
theorem PySem.Challenge.cw_askpaper_k31_sums_put_together_holds : PySem.Challenge.rw_askpaper_k31_sums_put_together.Holds := by
 refine PySem.Challenge.hd31 ?_
 k_fill
 refine K31.walk (l := PySem.Challenge.rw_askpaper_k31_sums_put_together) rfl rfl rfl (fun w h Y => W.kIn_of Y) ?F
 case F =>
   intro w mg h KX G
   have T : ∃ A : K31.Adr, K31.Txt (L2.KOf KX) mg A := by
     dsimp only [L2.KOf]
     refine' K31.txt_mk KX G ?h42 ?h43 ?h44 ?h45 ?h46 ?h47 ?h48 ?h49 ?h4a ?h4b ?h00 ?h01 ?h02 ?h03 ?h04 ?h05 ?h06 ?h07 ?h08 ?h09 ?h0a ?h0b ?h0c ?h0d ?h0e ?h0f ?h0g ?h0h ?h0i ?h0j ?h0k ?h0l ?h0m ?h0n ?h0o ?h0p ?h0q ?h0r ?h0s ?h0t ?h0u ?h0v ?h0w ?h0x ?h0y ?h0z ?h10 ?h11 ?h12 ?h13 ?h14 ?h15 ?h16 ?h17 ?h18 ?h19 ?h1a ?h1b ?h1c ?h1d ?h1e ?h1f ?h1g ?h1h ?h1i ?h1j ?h1k ?h1l ?h1m ?h1n ?h1o ?h1p ?h1q ?h1r ?h1s ?h1t ?h1u ?h1v ?h1w ?h1x ?h1y ?h1z ?h20 ?h21 ?h22 ?h23 ?h24 ?h25 ?h26 ?h27 ?h28 ?h29 ?h2a ?h2b ?h2c ?h2d ?h2e ?h2f ?h2g ?h2h ?h2i ?h2j ?h2k ?h2l ?h2m ?h2n ?h2o ?h2p ?h2q ?h2r ?h2s ?h2t ?h2u ?h2v ?h2w ?h2x ?h2y ?h2z ?h30 ?h31 ?h32 ?h33 ?h34 ?h35 ?h36 ?h37 ?h38 ?h39 ?h3a ?h3b ?h3c ?h3d ?h3e ?h3f ?h3g ?h3h ?h3i ?h3j ?h3k ?h3l ?h3m ?h3n ?h3o ?h3p ?h3q ?h3r ?h3s ?h3t ?h3u ?h3v ?h3w ?h3x ?h3y ?h3z ?h40 ?h41 ?h4c ?h4d ?h4e ?h4f ?h4g ?h4h ?h4i ?h4j ?h4k ?h4l ?h4m ?h4n ?h4o ?h4p ?h4q ?h4r ?h4s ?h4t ?h4u ?h4v ?h4w ?h4x ?h4y ?h4z ?h50 ?h51 ?h52 ?h53 ?h54 ?h55 ?h56 ?h57 ?h58 ?h59 ?h5a ?h5b ?h5c ?h5d ?h5e ?h5f ?h5g ?h5h ?h5i ?h5j ?h5k ?h5l ?h5m ?h5n ?h5o ?h5p ?h5q ?h5r ?h5s ?h5t ?h5u ?h5v ?h5w ?h5x ?h5y ?h5z ?h60 ?h61 ?h62 ?h63 ?h64 ?h65 ?h66 ?h67 ?h68 ?h69 ?h6a ?h6b ?h6c ?h6d ?h6e ?h6f ?h6g ?h6h ?h6i ?h6j ?h6k ?h6l ?h6m ?h6n ?h6o ?h6p ?h6q ?h6r ?h6s ?h6t ?h6u ?h6v ?h6w ?h6x ?h6y ?h6z ?h70 ?h71 ?h72 ?h73 ?h74 ?h75 ?h76 ?h77 ?h78 ?h79 ?h7a ?h7b ?h7c ?h7d ?h7e ?h7f ?h7g
     (case h42|h43|h44|h45|h46|h47|h48|h49|h4a|h4b|h00|h01|h02|h03|h04|h05|h06|h07|h08|h09|h0a|h0b|h0c|h0d|h0e|h0f|h0g|h0h|h0i|h0j|h0k|h0l|h0m|h0n|h0o|h0p|h0q|h0r|h0s|h0t|h0u|h0v|h0w|h0x|h0y|h0z|h10|h11|h12|h13|h14|h15|h16|h17|h18|h19|h1a|h1b|h1c|h1d|h1e|h1f|h1g|h1h|h1i|h1j|h1k|h1l|h1m|h1n|h1o|h1p|h1q|h1r|h1s|h1t|h1u|h1v|h1w|h1x|h1y|h1z|h20|h21|h22|h23|h24|h25|h26|h27|h28|h29|h2a|h2b|h2c|h2d|h2e|h2f|h2g|h2h|h2i|h2j|h2k|h2l|h2m|h2n|h2o|h2p|h2q|h2r|h2s|h2t|h2u|h2v|h2w|h2x|h2y|h2z|h30|h31|h32|h33|h34|h35|h36|h37|h38|h39|h3a|h3b|h3c|h3d|h3e|h3f|h3g|h3h|h3i|h3j|h3k|h3l|h3m|h3n|h3o|h3p|h3q|h3r|h3s|h3t|h3u|h3v|h3w|h3x|h3y|h3z|h40|h41|h4c|h4d|h4e|h4f|h4g|h4h|h4i|h4j|h4k|h4l|h4m|h4n|h4o|h4p|h4q|h4r|h4s|h4t|h4u|h4v|h4w|h4x|h4y|h4z|h50|h51|h52|h53|h54|h55|h56|h57|h58|h59|h5a|h5b|h5c|h5d|h5e|h5f|h5g|h5h|h5i|h5j|h5k|h5l|h5m|h5n|h5o|h5p|h5q|h5r|h5s|h5t|h5u|h5v|h5w|h5x|h5y|h5z|h60|h61|h62|h63|h64|h65|h66|h67|h68|h69|h6a|h6b|h6c|h6d|h6e|h6f|h6g|h6h|h6i|h6j|h6k|h6l|h6m|h6n|h6o|h6p|h6q|h6r|h6s|h6t|h6u|h6v|h6w|h6x|h6y|h6z|h70|h71|h72|h73|h74|h75|h76|h77|h78|h79|h7a|h7b|h7c|h7d|h7e|h7f|h7g => k_is)
   exact T
