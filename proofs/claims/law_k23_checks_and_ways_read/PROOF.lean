import PyProof.Rows.All
import OpenK.KLine
import OpenK.KWalk
import OpenK.KRaise
import Open.Line
import Wide.Line
import KE.IntBitsLaws
import KE.KIsAll
import KE.KTryMore
import KE.KNest
import KE.KLam
import Wide.FinOn
import Lean
import PyProof.EqAt
import PyProof.EqKinds
import PyProof.TupleCall
import PyProof.ZipIter
import PyProof.Rows.ZipGen
import PySem.Challenge.RW_askpaper_k23_checks_and_ways_read
set_option Elab.async false
set_option linter.all false
set_option maxRecDepth 100000
namespace PySem.W.Fast
def tw1000757905782593035 := ()
def tw10047930456253927998 := ()
def tw10085629790759520774 := ()
def tw10093315086238570082 := ()
def tw10104237564942371937 := ()
def tw10125877735185384274 := ()
def tw10145587576518384579 := ()
def tw10164127639360310280 := ()
def tw10207246341538950038 := ()
def tw10229894889489285435 := ()
def tw10273944118569200912 := ()
def tw10306946651991550876 := ()
def tw10336614802698519084 := ()
def tw10377238605743738282 := ()
def tw10385773167556811728 := ()
def tw10417246524705058938 := ()
def tw10458958702758963535 := ()
def tw10472541134112313397 := ()
def tw10558854230109193201 := ()
def tw1060732521265129321 := ()
def tw10709780568559416037 := ()
def tw10724831825652455726 := ()
def tw10804763963041591337 := ()
def tw10838049842942182737 := ()
def tw10843666220193950305 := ()
def tw10846813202588597885 := ()
def tw10877596081015717239 := ()
def tw10922071556408921503 := ()
def tw10961936477960662231 := ()
def tw11011855576797438334 := ()
def tw1105025706424008049 := ()
def tw11055280687780470699 := ()
def tw11065171319291033864 := ()
def tw11068756919135474106 := ()
def tw11104545171716648051 := ()
def tw11122585089822315943 := ()
def tw11136874765890537052 := ()
def tw11225849075976530475 := ()
def tw11233898201220066044 := ()
def tw11240667080964123241 := ()
def tw11279218823100812448 := ()
def tw11312593804904143380 := ()
def tw11354847899762912829 := ()
def tw11368957909378198306 := ()
def tw11397323415135601560 := ()
def tw11428756497048626553 := ()
def tw11442934040936906842 := ()
def tw11561462220280382607 := ()
def tw1158110967219665203 := ()
def tw11583128254910339093 := ()
def tw11701814912621968658 := ()
def tw11717368705146538861 := ()
def tw11727395232197107376 := ()
def tw11737818080759509470 := ()
def tw11741591264625289679 := ()
def tw11790785635971175586 := ()
def tw11814374000270500755 := ()
def tw11836491960548302859 := ()
def tw11903203269079998515 := ()
def tw11908711085110725956 := ()
def tw11952765930091285538 := ()
def tw11980333240455036462 := ()
def tw12000966144665398650 := ()
def tw12043364547493580278 := ()
def tw12079743591064520671 := ()
def tw12091832726348822980 := ()
def tw12100695509568508497 := ()
def tw12101283428152333228 := ()
def tw12102785575078607887 := ()
def tw12121057915362202339 := ()
def tw12180137005464038569 := ()
def tw12250340596351801781 := ()
def tw12261023693841538702 := ()
def tw12371509864092963048 := ()
def tw1251658710178214397 := ()
def tw12575493486912294566 := ()
def tw12576748358250119729 := ()
def tw12595884778171365846 := ()
def tw12644915913687056486 := ()
def tw12691997792523113863 := ()
def tw12733003774473210319 := ()
def tw12813911705172682713 := ()
def tw12817110201760635634 := ()
def tw12821926220109425713 := ()
def tw12862571211064464316 := ()
def tw12890788925456948676 := ()
def tw12895077182077241466 := ()
def tw12957328340664980543 := ()
def tw12959734342361759594 := ()
def tw13000890478744805489 := ()
def tw13009162515209758620 := ()
def tw13034949051346096531 := ()
def tw13052636429927425879 := ()
def tw13072446346425346736 := ()
def tw13076652813236224474 := ()
def tw13082443629644685906 := ()
def tw1312207188926035966 := ()
def tw1312320698025315639 := ()
def tw13128109334955260073 := ()
def tw1313104809010204122 := ()
def tw13153213554025233476 := ()
def tw13158880093417216988 := ()
def tw13171459833596293709 := ()
def tw13193489748263504207 := ()
def tw13202231181986203395 := ()
def tw13216796972390658453 := ()
def tw13219268215444240747 := ()
def tw13354683875505395423 := ()
def tw13374685897642657652 := ()
def tw13438751275969010518 := ()
def tw13490636843502411694 := ()
def tw13497680651902711115 := ()
def tw13506709028523835146 := ()
def tw13514395061128943773 := ()
def tw13609356005020443627 := ()
def tw13646779487084143656 := ()
def tw13666126955381954223 := ()
def tw13713703275374923954 := ()
def tw13769132052780860010 := ()
def tw13961250849777203329 := ()
def tw14059685327922566289 := ()
def tw14108550145771114412 := ()
def tw14116144499242817387 := ()
def tw14218390789284624558 := ()
def tw14236678519224961818 := ()
def tw14257012073259967022 := ()
def tw14263275706862436342 := ()
def tw14401151371637208917 := ()
def tw14490338224019530354 := ()
def tw14545064936523040420 := ()
def tw14557273431485102952 := ()
def tw14565383010785969394 := ()
def tw14596055870866875338 := ()
def tw14641016115714713508 := ()
def tw14661365386379654587 := ()
def tw14697665271602411797 := ()
def tw14749332643187372981 := ()
def tw14774940042522109261 := ()
def tw14784179801875533358 := ()
def tw14842296813918831155 := ()
def tw14865143267226009606 := ()
def tw14948225565424097990 := ()
def tw14952340373152503237 := ()
def tw14958319716707058101 := ()
def tw14987914212527538868 := ()
def tw15077663191492761433 := ()
def tw15128703535642963601 := ()
def tw15224484790522062211 := ()
def tw15291664722864104200 := ()
def tw15299686218103924957 := ()
def tw15338875312796696609 := ()
def tw15342649101766050707 := ()
def tw15362775573062370945 := ()
def tw15375371797354498943 := ()
def tw15389058625936593088 := ()
def tw15539123366210716515 := ()
def tw15544373901209224518 := ()
def tw1564699727940390201 := ()
def tw15695881122107360358 := ()
def tw15711578443120292478 := ()
def tw15730430581317303338 := ()
def tw15755479809980662472 := ()
def tw15756999649622008855 := ()
def tw15773547721918492496 := ()
def tw15791447383986419204 := ()
def tw15833017353762840589 := ()
def tw15875285017572544598 := ()
def tw15916597212885842991 := ()
def tw15998844498816632921 := ()
def tw16060543181296276664 := ()
def tw16089751411549087027 := ()
def tw16112106127908319234 := ()
def tw1614419908416847214 := ()
def tw16155348990156717875 := ()
def tw1617715935846007370 := ()
def tw16243597446414684365 := ()
def tw1626041344589165327 := ()
def tw1626302652273078991 := ()
def tw16300931473903302669 := ()
def tw163029970910761933 := ()
def tw16355847459804805179 := ()
def tw1636100607288070132 := ()
def tw16401918087894655895 := ()
def tw16440570258406849781 := ()
def tw1645056131331649263 := ()
def tw16488704448124893407 := ()
def tw16549122312038033452 := ()
def tw16563009669705037407 := ()
def tw16564920396597985770 := ()
def tw16616106733870329882 := ()
def tw16643194811475757669 := ()
def tw16652850519770641644 := ()
def tw16653155742233211021 := ()
def tw16658932418912212464 := ()
def tw16723168555749992620 := ()
def tw16773544743048414811 := ()
def tw16783611599090191110 := ()
def tw16794032370822867637 := ()
def tw16805168496985328278 := ()
def tw16816777453829095849 := ()
def tw16838329248094981042 := ()
def tw16888407233763156985 := ()
def tw16931488912614474523 := ()
def tw16990921418778176836 := ()
def tw17023395460796216057 := ()
def tw17057901695422975271 := ()
def tw17136960362821522714 := ()
def tw17172595258550541790 := ()
def tw17199934493067075587 := ()
def tw17218471633220578286 := ()
def tw17230960006949901580 := ()
def tw1732480143042826680 := ()
def tw17361444843486327240 := ()
def tw17528601847387170254 := ()
def tw17564234374142623464 := ()
def tw17572419827458173635 := ()
def tw17648301497743393022 := ()
def tw1767084913339810373 := ()
def tw17722002053328970077 := ()
def tw17725275606007063120 := ()
def tw17863094175294463215 := ()
def tw1786702930015738247 := ()
def tw179730277583475949 := ()
def tw17990303546334805481 := ()
def tw18029442744504598468 := ()
def tw18069145506590621650 := ()
def tw18094072854251717136 := ()
def tw18133914856376222362 := ()
def tw18161368333167329566 := ()
def tw18209493605998572380 := ()
def tw18228094001189064206 := ()
def tw1827991587402992727 := ()
def tw18300209161310586642 := ()
def tw1833540303866026263 := ()
def tw18403375474779748025 := ()
def tw1915449368951647922 := ()
def tw1948327884254941043 := ()
def tw2012940511340627947 := ()
def tw2051835181008844404 := ()
def tw2114984689963680238 := ()
def tw2145699678238271146 := ()
def tw2159491236174819432 := ()
def tw2248445245488872905 := ()
def tw2308498147134068187 := ()
def tw2316862558935480197 := ()
def tw232368940046713320 := ()
def tw2328205407107492854 := ()
def tw2344070672280511207 := ()
def tw2376101387078924330 := ()
def tw2397566462026336002 := ()
def tw244111392170520380 := ()
def tw2461803144603117084 := ()
def tw2497278159345699176 := ()
def tw2518037089124206554 := ()
def tw253146036216050355 := ()
def tw2540911328768041611 := ()
def tw2559594402656413539 := ()
def tw2567858434492073345 := ()
def tw2576422138576756973 := ()
def tw2626507564532224373 := ()
def tw263665991249757775 := ()
def tw2773376680516632190 := ()
def tw2784254503153013156 := ()
def tw2851139674205632613 := ()
def tw2852018486389130189 := ()
def tw2868316331172029888 := ()
def tw288405209634516937 := ()
def tw2909217767179897580 := ()
def tw2972825726453850774 := ()
def tw3048563075193168127 := ()
def tw3151515094809193390 := ()
def tw3170579379973632038 := ()
def tw320846562752043969 := ()
def tw33224018691909231 := ()
def tw3326005621880666332 := ()
def tw3340783538703045597 := ()
def tw3452792211389176034 := ()
def tw3473173240351825159 := ()
def tw3511756370512431814 := ()
def tw3547557409460465800 := ()
def tw3569930025407109645 := ()
def tw3574202676410348794 := ()
def tw3633851173365091814 := ()
def tw364957974596682382 := ()
def tw3669298074695237526 := ()
def tw367312349702270484 := ()
def tw3714488632287195044 := ()
def tw3723084401491186543 := ()
def tw3750023705580000365 := ()
def tw380150575058478691 := ()
def tw3811047725394541814 := ()
def tw3828420488950465430 := ()
def tw3842400169323743146 := ()
def tw3867586521233232207 := ()
def tw3923826845987950106 := ()
def tw402390879605812957 := ()
def tw4028021365359748273 := ()
def tw4037156067078714075 := ()
def tw4041642765341432966 := ()
def tw4046805872912510596 := ()
def tw4065854623648144378 := ()
def tw4128529231595533144 := ()
def tw4129707524972819152 := ()
def tw4143091348116689625 := ()
def tw4167461170476626581 := ()
def tw4188556979657207247 := ()
def tw419527285382835807 := ()
def tw4238139096907170598 := ()
def tw4266588018546884125 := ()
def tw4306924514724637093 := ()
def tw4315474332607443162 := ()
def tw4355474133314854695 := ()
def tw4371544032574318447 := ()
def tw4451067451886387700 := ()
def tw4539781487287894809 := ()
def tw4581030394789948362 := ()
def tw4613927471186005151 := ()
def tw4632685792278948923 := ()
def tw4731007996340199229 := ()
def tw4790629842172045443 := ()
def tw4792505369996133604 := ()
def tw4817932914855335074 := ()
def tw4873751274013412860 := ()
def tw4885782485013466294 := ()
def tw4899428214500005828 := ()
def tw4963784696255548762 := ()
def tw5055854008171692481 := ()
def tw5069764724632460398 := ()
def tw5099449393109346630 := ()
def tw5118642414752824838 := ()
def tw5132308705518487575 := ()
def tw5146308418675068775 := ()
def tw5165906725798556739 := ()
def tw5195478998310762129 := ()
def tw522023438143539089 := ()
def tw5224711542533245928 := ()
def tw523012783157527166 := ()
def tw5242406120723381475 := ()
def tw5245638044820257432 := ()
def tw5266049295107400579 := ()
def tw527934944283751293 := ()
def tw5290672053466292261 := ()
def tw5311017299621539943 := ()
def tw5325683348056317147 := ()
def tw5373894504296085187 := ()
def tw5440223957661192090 := ()
def tw5444917166566825617 := ()
def tw5448711664709751531 := ()
def tw5465681748625324766 := ()
def tw5468958338142216337 := ()
def tw5510184327761269707 := ()
def tw5573252419987369882 := ()
def tw5578338242739905835 := ()
def tw5615534900978126544 := ()
def tw5635370544484201603 := ()
def tw570297201283491196 := ()
def tw5780498809618557230 := ()
def tw5791423868953394365 := ()
def tw5793824977271076599 := ()
def tw5795165376966287608 := ()
def tw5799763747470680940 := ()
def tw5802778881726416814 := ()
def tw5809688747882767676 := ()
def tw5862104040667110524 := ()
def tw5869054666230373432 := ()
def tw5888738218716321965 := ()
def tw5912849159626319884 := ()
def tw5937105898631299859 := ()
def tw5937711987676470393 := ()
def tw6010330001266233508 := ()
def tw6036325758151472703 := ()
def tw6044938781064263591 := ()
def tw6056663395042436932 := ()
def tw6141054992293541551 := ()
def tw6157683914547333802 := ()
def tw6232378594596060134 := ()
def tw6242030408795521069 := ()
def tw628570231408853625 := ()
def tw6311146748713234098 := ()
def tw6320658495872442844 := ()
def tw6345988649417871713 := ()
def tw6352157921319675103 := ()
def tw6396513384523338611 := ()
def tw6404632727864923460 := ()
def tw6555042778447765852 := ()
def tw6612744460575626085 := ()
def tw6618482311390504868 := ()
def tw6618725101346311837 := ()
def tw6674201438291303484 := ()
def tw6710248653725839856 := ()
def tw6715931665679615159 := ()
def tw6862737137956016182 := ()
def tw6871946426976431488 := ()
def tw6882629304819861789 := ()
def tw6965494110077584446 := ()
def tw6979846229110059942 := ()
def tw7015795260369345030 := ()
def tw7032026587067511493 := ()
def tw7121994676143670212 := ()
def tw7132365935215131088 := ()
def tw718214883483268520 := ()
def tw7265229575073495042 := ()
def tw7277901367711897620 := ()
def tw7329459909934613228 := ()
def tw7331746165163732132 := ()
def tw7409710260934974596 := ()
def tw7467680763410015916 := ()
def tw7514989562883290531 := ()
def tw7529528922463425249 := ()
def tw7572481123673625935 := ()
def tw7595319990646585235 := ()
def tw7699209431413158752 := ()
def tw7721432354652495204 := ()
def tw7750552080256820089 := ()
def tw7864069174969251478 := ()
def tw7908308853719632095 := ()
def tw7939913576775298338 := ()
def tw798737949002799516 := ()
def tw8001771098265622823 := ()
def tw8013590489068140464 := ()
def tw8079835618974860423 := ()
def tw8097129817679690939 := ()
def tw8177605295240215092 := ()
def tw818907838639882938 := ()
def tw8223509689847224135 := ()
def tw8277561016888612605 := ()
def tw8284412161965212121 := ()
def tw828575974453157473 := ()
def tw8315927959261776326 := ()
def tw8345754948927111056 := ()
def tw8353963676524330382 := ()
def tw8359314809088575876 := ()
def tw8367371696277285065 := ()
def tw8404828226056324363 := ()
def tw8407576812373783723 := ()
def tw8410363037072998653 := ()
def tw8504356988064395952 := ()
def tw852046642846142495 := ()
def tw8570617767966077549 := ()
def tw8573859664773004540 := ()
def tw8574326149818755198 := ()
def tw8616960620434087736 := ()
def tw8682449679060742545 := ()
def tw8689650950244158382 := ()
def tw8692606532968617592 := ()
def tw8699278491631705154 := ()
def tw8757152220286041224 := ()
def tw8822947947595897560 := ()
def tw8833393891340800679 := ()
def tw8872778003654020194 := ()
def tw8903066266525331031 := ()
def tw8904497200975598690 := ()
def tw8922678210458530772 := ()
def tw8934058894588236179 := ()
def tw8937505930181143465 := ()
def tw8938397496576824699 := ()
def tw9000707227533402636 := ()
def tw9001276771865968419 := ()
def tw9008580177323121456 := ()
def tw9043460681273396307 := ()
def tw9061062517023449549 := ()
def tw9119454253348053991 := ()
def tw9156332989278132978 := ()
def tw9159439645462943677 := ()
def tw9166531424593888012 := ()
def tw9228509946601930488 := ()
def tw9260915873169820833 := ()
def tw9320949493880916537 := ()
def tw9322078449462646329 := ()
def tw933073084116912297 := ()
def tw9373437195944884660 := ()
def tw9413833721109085757 := ()
def tw9435817542944570210 := ()
def tw9468328916373329641 := ()
def tw9471247807585843197 := ()
def tw9506923847136259612 := ()
def tw9510410621870142009 := ()
def tw9535531881016637390 := ()
def tw9561449068393309370 := ()
def tw9599232570408288024 := ()
def tw9637134387386229169 := ()
def tw9679066958444759851 := ()
def tw9693558571461582263 := ()
def tw9809608809541418644 := ()
def tw9819945670163413173 := ()
def tw9848697224344897605 := ()
def tw9919653988315207331 := ()
def tw9952913000610820888 := ()
end PySem.W.Fast
section
namespace Hk
open PySem PySem.W
theorem chs {α β : Type} {f : β → α} {l : List β} {γ : Type} {g : γ → α} {l2 : List γ} {n m k : Nat} (h1 : ((l.drop n).take m).map f = ((l2.drop n).take m).map g) (hk : n + m = k) (h2 : (l.drop k).map f = (l2.drop k).map g) : (l.drop n).map f = (l2.drop n).map g := by
  subst hk
  rw [← List.take_append_drop m (l.drop n), ← List.take_append_drop m (l2.drop n), List.map_append, List.map_append, h1, List.drop_drop, List.drop_drop, h2]
theorem ch {K : Params → Frag} {as : List Addr} (e : ∀ P, as = (K P).map (·.1)) (w : World) (s : Shared) (x : ((((((as.drop 0).take 64).map s.heap.get?, ((as.drop 64).take 64).map s.heap.get?), (((as.drop 128).take 64).map s.heap.get?, ((as.drop 192).take 64).map s.heap.get?)), ((((as.drop 256).take 64).map s.heap.get?, ((as.drop 320).take 64).map s.heap.get?), (((as.drop 384).take 64).map s.heap.get?, ((as.drop 448).take 64).map s.heap.get?))), (((((as.drop 512).take 64).map s.heap.get?, ((as.drop 576).take 64).map s.heap.get?), (((as.drop 640).take 64).map s.heap.get?, ((as.drop 704).take 64).map s.heap.get?)), ((((as.drop 768).take 64).map s.heap.get?, ((as.drop 832).take 64).map s.heap.get?), (((as.drop 896).take 64).map s.heap.get?, (as.drop 960).map s.heap.get?)))) = (((((((K w.params).drop 0).take 64).map (fun p => some p.2), (((K w.params).drop 64).take 64).map (fun p => some p.2)), ((((K w.params).drop 128).take 64).map (fun p => some p.2), (((K w.params).drop 192).take 64).map (fun p => some p.2))), (((((K w.params).drop 256).take 64).map (fun p => some p.2), (((K w.params).drop 320).take 64).map (fun p => some p.2)), ((((K w.params).drop 384).take 64).map (fun p => some p.2), (((K w.params).drop 448).take 64).map (fun p => some p.2)))), ((((((K w.params).drop 512).take 64).map (fun p => some p.2), (((K w.params).drop 576).take 64).map (fun p => some p.2)), ((((K w.params).drop 640).take 64).map (fun p => some p.2), (((K w.params).drop 704).take 64).map (fun p => some p.2))), (((((K w.params).drop 768).take 64).map (fun p => some p.2), (((K w.params).drop 832).take 64).map (fun p => some p.2)), ((((K w.params).drop 896).take 64).map (fun p => some p.2), ((K w.params).drop 960).map (fun p => some p.2)))))) : InK K w s.heap := by
  simp only [Prod.mk.injEq] at x
  obtain ⟨⟨⟨⟨x0, x1⟩, ⟨x2, x3⟩⟩, ⟨⟨x4, x5⟩, ⟨x6, x7⟩⟩⟩, ⟨⟨⟨x8, x9⟩, ⟨x10, x11⟩⟩, ⟨⟨x12, x13⟩, ⟨x14, x15⟩⟩⟩⟩ := x
  have y15 := x15
  have y14 := chs x14 (by decide) y15
  have y13 := chs x13 (by decide) y14
  have y12 := chs x12 (by decide) y13
  have y11 := chs x11 (by decide) y12
  have y10 := chs x10 (by decide) y11
  have y9 := chs x9 (by decide) y10
  have y8 := chs x8 (by decide) y9
  have y7 := chs x7 (by decide) y8
  have y6 := chs x6 (by decide) y7
  have y5 := chs x5 (by decide) y6
  have y4 := chs x4 (by decide) y5
  have y3 := chs x3 (by decide) y4
  have y2 := chs x2 (by decide) y3
  have y1 := chs x1 (by decide) y2
  have y0 := chs x0 (by decide) y1
  exact InK.of e w s y0
end Hk
open Lean in
local macro_rules
  | `($f:ident $h:term) => do
    let n := f.getId.eraseMacroScopes
    unless n == `Hook.obs || n == `Hook.val || n == `Hook.of do Macro.throwUnsupported
    match h with
    | `(($g:ident $k $a $e)) =>
      unless g.getId.eraseMacroScopes == `kHook do Macro.throwUnsupported
      if n == `Hook.obs then `(fun (s : PySem.Shared) => ((((((($a).drop 0).take 64).map s.heap.get?, ((($a).drop 64).take 64).map s.heap.get?), (((($a).drop 128).take 64).map s.heap.get?, ((($a).drop 192).take 64).map s.heap.get?)), ((((($a).drop 256).take 64).map s.heap.get?, ((($a).drop 320).take 64).map s.heap.get?), (((($a).drop 384).take 64).map s.heap.get?, ((($a).drop 448).take 64).map s.heap.get?))), (((((($a).drop 512).take 64).map s.heap.get?, ((($a).drop 576).take 64).map s.heap.get?), (((($a).drop 640).take 64).map s.heap.get?, ((($a).drop 704).take 64).map s.heap.get?)), ((((($a).drop 768).take 64).map s.heap.get?, ((($a).drop 832).take 64).map s.heap.get?), (((($a).drop 896).take 64).map s.heap.get?, (($a).drop 960).map s.heap.get?)))))
      else if n == `Hook.val then `(fun (w : PySem.World) => (((((((($k) w.params).drop 0).take 64).map (fun p => some p.2), (((($k) w.params).drop 64).take 64).map (fun p => some p.2)), ((((($k) w.params).drop 128).take 64).map (fun p => some p.2), (((($k) w.params).drop 192).take 64).map (fun p => some p.2))), (((((($k) w.params).drop 256).take 64).map (fun p => some p.2), (((($k) w.params).drop 320).take 64).map (fun p => some p.2)), ((((($k) w.params).drop 384).take 64).map (fun p => some p.2), (((($k) w.params).drop 448).take 64).map (fun p => some p.2)))), ((((((($k) w.params).drop 512).take 64).map (fun p => some p.2), (((($k) w.params).drop 576).take 64).map (fun p => some p.2)), ((((($k) w.params).drop 640).take 64).map (fun p => some p.2), (((($k) w.params).drop 704).take 64).map (fun p => some p.2))), (((((($k) w.params).drop 768).take 64).map (fun p => some p.2), (((($k) w.params).drop 832).take 64).map (fun p => some p.2)), ((((($k) w.params).drop 896).take 64).map (fun p => some p.2), ((($k) w.params).drop 960).map (fun p => some p.2))))))
      else `(Hk.ch (K := $k) (as := $a) $e)
    | _ => Macro.throwUnsupported
open PySem PySem.W PyProof.Rows
set_option maxHeartbeats 0 in
open_top PySem.Challenge.hd23 for PySem.Challenge.rw_askpaper_k23_checks_and_ways_read
end
/-! THE HAND LAYER, for ints, bools, texts, own classes, LISTS and tuples (index, slices, in, append, pop ..), calls, loops. Paste it whole ahead of your own text; what your proof does not reach may be deleted. -/
namespace L2
open PySem PySem.Spec PyProof.Rows

/-- a key: an int or a str -/
abbrev Key := Sum Int Str
def keyIs : Key → Value → Bool
  | .inl k, v => Value.isInt k v
  | .inr x, v => Value.isStrOf x v
def keyH (w : World) : Key → Int
  | .inl k => hashInt k
  | .inr x => hashStr w x
theorem keyIs_shape : ∀ {k : Key} {v : Value}, keyIs k v = true → (∃ i t, k = Sum.inl i ∧ v = Value.int i t) ∨ (∃ x t, k = Sum.inr x ∧ v = Value.str x t)
  | .inl i, v, h => by
    obtain ⟨t, e⟩ := Value.isInt_shape (k := i) (v := v) h
    exact .inl ⟨i, t, rfl, e⟩
  | .inr x, v, h => by
    obtain ⟨t, e⟩ := Value.isStrOf_shape (x := x) (v := v) h
    exact .inr ⟨x, t, rfl, e⟩
theorem key_ll (a b : Int) : decide ((Sum.inl a : Key) = Sum.inl b) = (a == b) := by
  by_cases e : a = b
  · subst e; simp
  · have h : ¬ (Sum.inl a : Key) = Sum.inl b := fun q => e (Sum.inl.inj q)
    rw [decide_eq_false h]
    exact (beq_eq_false_iff_ne.mpr e).symm
theorem key_rr (a b : Str) : decide ((Sum.inr a : Key) = Sum.inr b) = decide (a = b) := by
  by_cases e : a = b
  · subst e; simp
  · have h : ¬ (Sum.inr a : Key) = Sum.inr b := fun q => e (Sum.inr.inj q)
    rw [decide_eq_false h, decide_eq_false e]
theorem key_lr (a : Int) (b : Str) : decide ((Sum.inl a : Key) = Sum.inr b) = false := decide_eq_false (fun q => nomatch q)
theorem key_rl (a : Str) (b : Int) : decide ((Sum.inr a : Key) = Sum.inl b) = false := decide_eq_false (fun q => nomatch q)

def mixKind (prog : Program) (w : World) : PySem.KeyKind prog w Key where
  is := keyIs
  hash := keyH w
  inj := fun v a b ha hb => by
    rcases keyIs_shape ha with ⟨i, t, rfl, rfl⟩ | ⟨x, t, rfl, rfl⟩
    · rcases keyIs_shape hb with ⟨j, u, rfl, e⟩ | ⟨y, u, rfl, e⟩
      · injection e with e1 _; rw [e1]
      · exact nomatch e
    · rcases keyIs_shape hb with ⟨j, u, rfl, e⟩ | ⟨y, u, rfl, e⟩
      · exact nomatch e
      · injection e with e1 _; rw [e1]
  byValue := fun k v h => by
    rcases keyIs_shape h with ⟨i, t, rfl, rfl⟩ | ⟨x, t, rfl, rfl⟩ <;> rfl
  pyHash := fun hv h => by
    rcases keyIs_shape hv with ⟨i, t, rfl, rfl⟩ | ⟨x, t, rfl, rfl⟩
    · exact wpAny_pyHash_int h
    · exact wpAny_pyHash_str h
  eqBool := fun hu hv h => by
    rcases keyIs_shape hu with ⟨i, t, rfl, rfl⟩ | ⟨x, t, rfl, rfl⟩
    · rcases keyIs_shape hv with ⟨j, u, rfl, rfl⟩ | ⟨y, u, rfl, rfl⟩
      · rw [key_ll] at h; exact wpAny_eqBool_int h
      · rw [key_lr] at h; exact SeqAt.EqAt.int_str i t y u _ _ _ _ h
    · rcases keyIs_shape hv with ⟨j, u, rfl, rfl⟩ | ⟨y, u, rfl, rfl⟩
      · rw [key_rl] at h; exact SeqAt.EqAt.str_int x t j u _ _ _ _ h
      · rw [key_rr] at h; exact wpAny_eqBool_str h
  «strs» := fun k x t v h => by
    rcases keyIs_shape h with ⟨i, u, rfl, e⟩ | ⟨y, u, rfl, e⟩
    · exact nomatch e
    · injection e with e1 _
      subst e1
      cases v <;> rfl

end L2

namespace L2
open PySem PySem.Spec PyProof.Rows

/-- a value, without the heap -/
inductive V where
  | non | bl (b : Bool) | int (i : Int) | str (x : Str) | byt (b : Array UInt8) | flt (b : UInt64) | ref (a : Addr) | ty (n : String)
  deriving DecidableEq

def RelV : V → Value → Prop
  | .non, u => u = Value.none
  | .bl b, u => u = Value.bool b
  | .int i, u => ∃ t, u = Value.int i t
  | .str x, u => ∃ t, u = Value.str x t
  | .byt b, u => ∃ t, u = Value.bytes b t
  | .flt b, u => ∃ t, u = Value.float b t
  | .ref a, u => u = Value.ref a
  | .ty n, u => u = Value.type n

abbrev Vals : List V → List Value → Prop := Paired RelV
theorem Vals.length {xs : List V} {us : List Value} (r : Vals xs us) : xs.length = us.length := Paired.length r
theorem Vals.get : ∀ {xs : List V} {us : List Value} {i : Nat} {x : V}, Vals xs us → xs[i]? = some x → ∃ u, us[i]? = some u ∧ RelV x u
  | _, _, _, _, .nil, e => by simp at e
  | _, _, 0, _, .cons r _, e => by simp at e; subst e; exact ⟨_, rfl, r⟩
  | _, _, i + 1, x, .cons _ t, e => by
    obtain ⟨u, h1, h2⟩ := Vals.get (i := i) (x := x) t (by simpa using e)
    exact ⟨u, by simpa using h1, h2⟩
theorem Vals.set {x : V} {u : Value} (r : RelV x u) : ∀ {xs : List V} {us : List Value} (i : Nat), Vals xs us → Vals (xs.set i x) (us.set i u)
  | _, _, _, .nil => .nil
  | _, _, 0, .cons _ t => .cons r t
  | _, _, i + 1, .cons q t => .cons q (Vals.set r i t)
theorem Vals.append : ∀ {xs ys : List V} {us ws : List Value}, Vals xs us → Vals ys ws → Vals (xs ++ ys) (us ++ ws)
  | _, _, _, _, .nil, s => s
  | _, _, _, _, .cons r t, s => .cons r (Vals.append t s)
theorem Vals.take : ∀ {xs : List V} {us : List Value} (n : Nat), Vals xs us → Vals (xs.take n) (us.take n)
  | _, _, 0, _ => .nil
  | _, _, _ + 1, .nil => .nil
  | _, _, n + 1, .cons r t => .cons r (Vals.take n t)
theorem Vals.drop : ∀ {xs : List V} {us : List Value} (n : Nat), Vals xs us → Vals (xs.drop n) (us.drop n)
  | _, _, 0, r => r
  | _, _, _ + 1, .nil => .nil
  | _, _, n + 1, .cons _ t => Vals.drop n t
theorem Vals.none_of : ∀ {xs : List V} {us : List Value} {i : Nat}, Vals xs us → xs[i]? = none → us[i]? = none := fun {xs us i} r e => by
  have h1 := r.length
  have h2 : xs.length ≤ i := List.getElem?_eq_none_iff.mp e
  exact List.getElem?_eq_none_iff.mpr (by omega)

def RelO : Option V → Option Value → Prop
  | some v, some u => RelV v u
  | none, none => True
  | _, _ => False
def KV {κ : Type} : List (κ × V) → List (κ × Value) → Prop := Paired fun (p : κ × V) (q : κ × Value) => p.1 = q.1 ∧ RelV p.2 q.2

/-- a key of a dict (00_mix): an int or a text -/
def kV : Key → V
  | .inl i => .int i
  | .inr x => .str x

/-- what stands at a tracked address -/
inductive HO where
  /-- a list -/
  | lst (xs : List V)
  /-- a tuple (never changes) -/
  | tup (xs : List V)
  /-- a dict whose keys are ints and texts; one whose keys are tuples of ints and texts (the empty one is both) -/
  | dK (kvs : List (Key × V)) | dT (kvs : List (List Key × V))
  /-- a set of ints: its members, its size -/
  | set (S : Int → Bool) (n : Nat)
  /-- an instance of the class at C, its dict at dx, its attributes -/
  | ins (C dx : Addr) (fs : List (Str × V))
  /-- the dict of the instance at x -/
  | own (x : Addr)
  /-- the dict of an exception -/
  | xd (fs : List (Str × V))
  /-- a bound method, f of x -/
  | met (f x : Addr)
  /-- a range object lo, lo + 1, .. below hi -/
  | rng (lo hi : Int)
  /-- a thing that is known to the object (the script; a dict while a loop walks it): read, never written while it is so -/
  | frz (o : Obj) (u : HO)
  /-- a code object's table -/
  | tbl (ps : Array Value)
  /-- any other thing, by what is true of its one object (a def of one's own: SetO a S n := HO.ext fun h => ..) -/
  | ext (φ : Heap → Prop)

abbrev Hp := Addr → Option HO
def upd (H : Hp) (a : Addr) (o : HO) : Hp := fun b => if b = a then some o else H b
theorem upd_same {H : Hp} {a : Addr} {o : HO} : upd H a o a = some o := by unfold upd; rw [if_pos rfl]
theorem upd_ne {H : Hp} {a b : Addr} {o : HO} (h : b ≠ a) : upd H a o b = H b := by unfold upd; rw [if_neg h]
theorem upd_upd {H : Hp} {a : Addr} {o u : HO} : upd (upd H a o) a u = upd H a u := by
  funext b; unfold upd; split <;> rfl
/-- two objects of different content stand apart -/
theorem ne_of {H : Hp} {a b : Addr} {o u : HO} (h : H a = some o) (h' : H b = some u) (d : o ≠ u) : a ≠ b := by
  intro e; subst e; rw [h] at h'; exact d (Option.some.inj h')
theorem ne_of_none {H : Hp} {a b : Addr} {o : HO} (h : H a = some o) (h' : H b = none) : a ≠ b := by
  intro e; subst e; rw [h] at h'; cases h'

section
variable (P : Program) (w : World)
def ObjOk (H : Hp) (h : Heap) (a : Addr) : HO → Prop
  | .lst xs => xs.length ≤ sizeLine ∧ ∃ (its : List Value) (n : Nat), Vals xs its ∧ h.get? a = some { cls := .type "list", data := .seq its.toArray n }
  | .tup xs => xs.length ≤ sizeLine ∧ ∃ its : List Value, Vals xs its ∧ IsTup h a its.toArray
  | .dK kvs => kvs.length ≤ sizeLine ∧ (a == sysModules) = false ∧ ∃ vs, KV kvs vs ∧ h.DictOf (mixKind P w) a vs
  | .dT kvs => kvs.length ≤ sizeLine ∧ (a == sysModules) = false ∧ ∃ xs : List (List Key × Addr × Value),
      Paired (fun (p : List Key × V) (q : List Key × Addr × Value) => p.1 = q.1 ∧ H q.2.1 = some (.tup (p.1.map kV)) ∧ RelV p.2 q.2.2) kvs xs ∧
      ∃ o es ep, h.get? a = some o ∧ o.ExactDict ∧ o.data = .dict es ep ∧ es.toList = xs.map (entryOfKey (tupleKind (mixKind P w))) ∧ (xs.map (·.1)).Nodup
  | .set S n => h.SetOf (intKind P w) a S n
  | .ins C dx fs => H dx = some (.own a) ∧ fs.length ≤ 1000 ∧ dx ≠ a ∧ h.get? a = some (PySem.W.instObj C dx) ∧
      ∃ mA, h.Ns1 dx mA ∧ (∀ f, RelO (fs.lookup f) (mA f)) ∧ PySem.Within mA (fs.map (·.1))
  | .own _ => ∃ o, h.get? a = some o
  | .xd fs => ∃ mA, h.Ns1 a mA ∧ ∀ f, RelO (fs.lookup f) (mA f)
  | .rng lo hi => ∃ t u v, h.get? a = some { cls := .type "range", data := .fields #[.int lo t, .int hi u, .int 1 v] }
  | .frz o u => h.get? a = some o ∧ ObjOk H h a u
  | .tbl ps => h.get? a = some { cls := .none, data := .fields ps }
  | .met f x => h.get? a = some (PySem.W.methodObj (.ref f) (.ref x))
  | .ext φ => φ h ∧ (∃ o, h.get? a = some o) ∧ ∀ h1 h2 : Heap, φ h1 → (∀ o, h1.get? a = some o → h2.get? a = some o) → φ h2
/-- the abstract heap is held -/
def HOk (H : Hp) (h : Heap) : Prop := ∀ a o, H a = some o → ObjOk P w H h a o
end

section
variable {P : Program} {w : World} {H H' : Hp} {h h' : Heap} {a : Addr} {o : HO}
theorem ObjOk.lt (x : ObjOk P w H h a o) : a < h.objs.size := by
  cases o with
  | lst xs => obtain ⟨_, _, _, _, e⟩ := x; exact Heap.lt_size e
  | tup xs => obtain ⟨_, _, _, p⟩ := x; exact p.lt
  | dK kvs => obtain ⟨_, _, _, _, o, _, _, e, _⟩ := x; exact Heap.lt_size e
  | dT kvs => obtain ⟨_, _, _, _, o, _, _, e, _⟩ := x; exact Heap.lt_size e
  | set S n => obtain ⟨o, _, _, _, e, _⟩ := x; exact Heap.lt_size e
  | ins C dx fs => obtain ⟨_, _, _, e, _⟩ := x; exact Heap.lt_size e
  | own y => obtain ⟨_, e⟩ := x; exact Heap.lt_size e
  | xd fs => obtain ⟨_, ⟨_, _, _, e, _⟩, _⟩ := x; exact Heap.lt_size e
  | rng lo hi => obtain ⟨_, _, _, e⟩ := x; exact Heap.lt_size e
  | frz ob u => obtain ⟨e, _⟩ := x; exact Heap.lt_size e
  | tbl ps => exact Heap.lt_size (show h.get? a = some _ from x)
  | met f y => exact Heap.lt_size (show h.get? a = some _ from x)
  | ext φ => obtain ⟨_, ⟨_, e⟩, _⟩ := x; exact Heap.lt_size e
theorem Paired.mapP {α β : Type} {F G : α → β → Prop} : ∀ {l₁ : List α} {l₂ : List β}, Paired F l₁ l₂ → (∀ a b, F a b → G a b) → Paired G l₁ l₂
  | _, _, .nil, _ => .nil
  | _, _, .cons r t, f => .cons (f _ _ r) (Paired.mapP t f)
/-- what an object's description leans on: its own object, its own dict, the tuples -/
theorem ObjOk.stay (x : ObjOk P w H h a o) (k : ∀ b u, (b = a ∨ H b = some (.own a)) → h.get? b = some u → h'.get? b = some u)
    (ho : ∀ b, H b = some (.own a) → H' b = some (.own a)) (ht : ∀ b xs, H b = some (.tup xs) → H' b = some (.tup xs)) : ObjOk P w H' h' a o := by
  induction o with
  | lst xs => obtain ⟨z, its, n, r, e⟩ := x; exact ⟨z, its, n, r, k _ _ (.inl rfl) e⟩
  | tup xs => obtain ⟨z, its, r, ob, e, c⟩ := x; exact ⟨z, its, r, ob, k _ _ (.inl rfl) e, c⟩
  | dK kvs => obtain ⟨z, y, vs, r, ob, es, ep, e, c⟩ := x; exact ⟨z, y, vs, r, ob, es, ep, k _ _ (.inl rfl) e, c⟩
  | dT kvs =>
    obtain ⟨z, y, xs, r, ob, es, ep, e, c⟩ := x
    exact ⟨z, y, xs, Paired.mapP r fun p q z => ⟨z.1, ht _ _ z.2.1, z.2.2⟩, ob, es, ep, k _ _ (.inl rfl) e, c⟩
  | set S n => obtain ⟨ob, es, ep, t, e, c⟩ := x; exact ⟨ob, es, ep, t, k _ _ (.inl rfl) e, c⟩
  | ins C dx fs =>
    obtain ⟨d, z, ne, e, mA, ⟨od, es, ep, e2, c⟩, r⟩ := x
    exact ⟨ho _ d, z, ne, k _ _ (.inl rfl) e, mA, ⟨od, es, ep, k _ _ (.inr d) e2, c⟩, r⟩
  | own y => obtain ⟨ob, e⟩ := x; exact ⟨ob, k _ _ (.inl rfl) e⟩
  | xd fs => obtain ⟨mA, ⟨od, es, ep, e, c⟩, r⟩ := x; exact ⟨mA, ⟨od, es, ep, k _ _ (.inl rfl) e, c⟩, r⟩
  | rng lo hi => obtain ⟨t, u, v, e⟩ := x; exact ⟨t, u, v, k _ _ (.inl rfl) e⟩
  | frz ob u ih => obtain ⟨e, q⟩ := x; exact ⟨k _ _ (.inl rfl) e, ih q⟩
  | tbl ps =>
    have e : h.get? a = some { cls := .none, data := .fields ps } := x
    show h'.get? a = some { cls := .none, data := .fields ps }
    exact k a _ (.inl rfl) e
  | met f y =>
    have e : h.get? a = some (PySem.W.methodObj (.ref f) (.ref y)) := x
    show h'.get? a = some (PySem.W.methodObj (.ref f) (.ref y))
    exact k a _ (.inl rfl) e
  | ext φ => obtain ⟨p, ⟨o, e⟩, st⟩ := x; exact ⟨st _ _ p fun o q => k _ _ (.inl rfl) q, ⟨o, k _ _ (.inl rfl) e⟩, st⟩
theorem HOk.lt (x : HOk P w H h) (e : H a = some o) : a < h.objs.size := (x a o e).lt
theorem HOk.fresh (x : HOk P w H h) (e : h.objs.size ≤ a) : H a = none := by
  cases q : H a with
  | none => rfl
  | some u => exact absurd (Nat.lt_of_lt_of_le (x.lt q) e) (Nat.lt_irrefl _)
/-- every object of the heap is kept -/
theorem HOk.kept (x : HOk P w H h) (k : ∀ b u, h.get? b = some u → h'.get? b = some u) : HOk P w H h' := fun a o e =>
  (x a o e).stay (fun b u _ q => k b u q) (fun _ q => q) fun _ _ q => q
/-- a new object is laid and tracked -/
theorem HOk.laid (x : HOk P w H h) (k : ∀ b u, h.get? b = some u → h'.get? b = some u) (hp : h.objs.size ≤ a) (new : ObjOk P w (upd H a o) h' a o) : HOk P w (upd H a o) h' := fun b u e => by
  have hn := x.fresh hp
  by_cases hb : b = a
  · subst hb; rw [upd_same] at e; cases e; exact new
  · rw [upd_ne hb] at e
    exact (x b u e).stay (fun c v _ q => k c v q) (fun c q => by rw [upd_ne (ne_of_none q hn)]; exact q) fun c xs q => by rw [upd_ne (ne_of_none q hn)]; exact q
end

/-- what may be read as u: it is u, or a known u -/
def Rd (H : Hp) (a : Addr) (u : HO) : Prop := H a = some u ∨ ∃ o, H a = some (.frz o u)
theorem Rd.of {H : Hp} {a : Addr} {u : HO} (h : H a = some u) : Rd H a u := .inl h
theorem Rd.ok {P : Program} {w : World} {H : Hp} {h : Heap} {a : Addr} {u : HO} (r : Rd H a u) (x : HOk P w H h) : ObjOk P w H h a u := by
  rcases r with r | ⟨o, r⟩
  · exact x a u r
  · obtain ⟨_, q⟩ := x a _ r
    exact q
/-- what may be written -/
def Mut : Option HO → Prop
  | some (.lst _) => True
  | some (.dK _) => True
  | some (.dT _) => True
  | some (.set _ _) => True
  | some (.ins _ _ _) => True
  | some (.ext _) => True
  | _ => False
section
variable {P : Program} {w : World} {H : Hp} {h h' : Heap} {x e : Addr} {o' : HO}
/-- the object at e is changed: x itself, or the dict of the instance x -/
theorem HOk.write (ok : HOk P w H h) (mu : Mut (H x)) (he : e = x ∨ H e = some (.own x)) (k : ∀ b u, b ≠ e → h.get? b = some u → h'.get? b = some u) (heo : ∃ u, h'.get? e = some u)
    (new : ObjOk P w (upd H x o') h' x o') : HOk P w (upd H x o') h' := fun b u q => by
  have nown : ∀ c y, H c = some (.own y) → c ≠ x := fun c y r z => by subst z; rw [r] at mu; exact mu
  have ntup : ∀ c xs, H c = some (.tup xs) → c ≠ x := fun c xs r z => by subst z; rw [r] at mu; exact mu
  by_cases hb : b = x
  · subst hb; rw [upd_same] at q; cases q; exact new
  · rw [upd_ne hb] at q
    by_cases hbe : b = e
    · have q' : H b = some (.own x) := by
        rcases he with z | z
        · exact absurd (hbe.trans z) hb
        · rw [hbe]; exact z
      rw [q] at q'; cases q'
      obtain ⟨v, hv⟩ := heo
      exact ⟨v, by rw [hbe]; exact hv⟩
    · refine (ok b u q).stay (fun c v hc r => k c v ?_ r) (fun c r => by rw [upd_ne (nown c b r)]; exact r) fun c xs r => by rw [upd_ne (ntup c xs r)]; exact r
      rcases hc with rfl | hc
      · exact hbe
      · rintro rfl
        rcases he with z | z
        · exact nown c b hc z
        · rw [hc] at z; cases z; exact hb rfl
end

/-! ### kept unless tracked; of the frames at fs (the callers') the slots may change (an exception that passes writes there); of the records at ex (iterators) nothing is said -/
structure Un (fs ex : List Addr) (H H' : Hp) (h h' : Heap) : Prop where
  keep : ∀ b o, h.get? b = some o → H b = none → b ∉ fs → b ∉ ex → h'.get? b = some o
  slot : ∀ b o, h.get? b = some o → H b = none → b ∈ fs → b ∉ ex → ∃ sl, h'.get? b = some { o with slots := sl }
  free : ∀ b o, h.get? b = some o → H b = none → b ∉ ex → H' b = none
  there : ∀ b o, h.get? b = some o → b ∉ ex → ∃ o', h'.get? b = some o'
  tups : ∀ b xs, H b = some (.tup xs) → H' b = some (.tup xs)
  frzs : ∀ b o u, H b = some (.frz o u) → H' b = some (.frz o u)
  tbls : ∀ b ps, H b = some (.tbl ps) → ∃ more, H' b = some (.tbl (ps ++ more))
section
variable {fs fs' ex ex' : List Addr} {H H1 H2 : Hp} {h h1 h2 h' : Heap} {a x e : Addr} {o : HO}
theorem Un.any (u : Un fs ex H H1 h h1) {b : Addr} {ob : Obj} (q : h.get? b = some ob) (n : H b = none) (hx : b ∉ ex) : ∃ sl, h1.get? b = some { ob with slots := sl } := by
  by_cases hb : b ∈ fs
  · exact u.slot b ob q n hb hx
  · exact ⟨ob.slots, u.keep b ob q n hb hx⟩
theorem Un.trans (a : Un fs ex H H1 h h1) (b : Un fs ex H1 H2 h1 h2) : Un fs ex H H2 h h2 where
  keep := fun c ob q n hc hx => b.keep c ob (a.keep c ob q n hc hx) (a.free c ob q n hx) hc hx
  slot := fun c ob q n hc hx => by
    obtain ⟨sl, e1⟩ := a.slot c ob q n hc hx
    obtain ⟨sl', e2⟩ := b.slot c _ e1 (a.free c ob q n hx) hc hx
    exact ⟨sl', e2⟩
  free := fun c ob q n hx => by
    obtain ⟨o', e1⟩ := a.there c ob q hx
    exact b.free c o' e1 (a.free c ob q n hx) hx
  there := fun c ob q hx => by
    obtain ⟨o', e1⟩ := a.there c ob q hx
    exact b.there c o' e1 hx
  tups := fun c xs q => b.tups c xs (a.tups c xs q)
  frzs := fun c ob xs q => b.frzs c ob xs (a.frzs c ob xs q)
  tbls := fun c ps q => by
    obtain ⟨m1, e1⟩ := a.tbls c ps q
    obtain ⟨m2, e2⟩ := b.tbls c _ e1
    exact ⟨m1 ++ m2, by rw [e2, Array.append_assoc]⟩
theorem Un.kept (k : ∀ b u, h.get? b = some u → h'.get? b = some u) : Un fs ex H H h h' :=
  ⟨fun b ob q _ _ _ => k b ob q, fun b ob q _ _ _ => ⟨ob.slots, k b ob q⟩, fun _ _ _ n _ => n, fun b ob q _ => ⟨ob, k b ob q⟩, fun _ _ q => q, fun _ _ _ q => q, fun _ ps q => ⟨#[], by rw [q]; simp⟩⟩
theorem Un.refl : Un fs ex H H h h := Un.kept fun _ _ q => q
theorem Un.laid (k : ∀ b u, h.get? b = some u → h'.get? b = some u) (hp : h.objs.size ≤ a) (hn : H a = none) : Un fs ex H (upd H a o) h h' where
  keep := fun b u q _ _ _ => k b u q
  slot := fun b u q _ _ _ => ⟨u.slots, k b u q⟩
  free := fun b u q n _ => by rw [upd_ne (Nat.ne_of_lt (Nat.lt_of_lt_of_le (Heap.lt_size q) hp))]; exact n
  there := fun b u q _ => ⟨u, k b u q⟩
  tups := fun b xs q => by rw [upd_ne (ne_of_none q hn)]; exact q
  frzs := fun b u xs q => by rw [upd_ne (ne_of_none q hn)]; exact q
  tbls := fun b ps q => ⟨#[], by rw [upd_ne (ne_of_none q hn), q]; simp⟩
theorem Un.write (mu : Mut (H x)) (he : e = x ∨ H e = some (.own x)) (k : ∀ b u, b ≠ e → h.get? b = some u → h'.get? b = some u) (heo : ∃ u, h'.get? e = some u) : Un fs ex H (upd H x o) h h' := by
  have hx : ∀ b, H b = none → b ≠ x := fun b n z => by subst z; rw [n] at mu; exact mu
  have hb : ∀ b, H b = none → b ≠ e := fun b n z => by
    subst z
    rcases he with r | r
    · exact hx b n r
    · rw [n] at r; cases r
  have hm : ∀ b u, H b = some u → ¬ Mut (some u) → b ≠ x := fun b u q nm z => by subst z; rw [q] at mu; exact nm mu
  refine ⟨fun b u q n _ _ => k b u (hb b n) q, fun b u q n _ _ => ⟨u.slots, k b u (hb b n) q⟩, fun b u q n _ => by rw [upd_ne (hx b n)]; exact n, fun b u q _ => ?_,
    fun b xs q => by rw [upd_ne (hm b _ q fun z => z)]; exact q, fun b u xs q => by rw [upd_ne (hm b _ q fun z => z)]; exact q, fun b ps q => ⟨#[], by rw [upd_ne (hm b _ q fun z => z), q]; simp⟩⟩
  by_cases hbe : b = e
  · subst hbe; exact heo
  · exact ⟨u, k b u hbe q⟩
theorem Un.mono (u : Un fs ex H H1 h h1) (hs : ∀ b ∈ fs, b ∈ fs') (hx : ∀ b ∈ ex, b ∈ ex') : Un fs' ex' H H1 h h1 :=
  ⟨fun b ob q n hb he => u.keep b ob q n (fun z => hb (hs b z)) fun z => he (hx b z), fun _ _ q n _ he => u.any q n fun z => he (hx _ z), fun b ob q n he => u.free b ob q n fun z => he (hx b z), fun b ob q he => u.there b ob q fun z => he (hx b z), u.tups, u.frzs, u.tbls⟩
end

/-! ### the heap without what is tracked -/
def trk (h : Heap) (H : Hp) : List Addr := (List.range h.objs.size).filter fun a => (H a).isSome
def hidT (h : Heap) (H : Hp) : Heap := PySem.W.hideAll h (trk h H)
theorem hidT_size (h : Heap) (H : Hp) : (hidT h H).objs.size = h.objs.size := PySem.W.hideAll_size _ _
theorem hidT_get {h : Heap} {H : Hp} {b : Addr} {o : Obj} (e : h.get? b = some o) (n : H b = none) : (hidT h H).get? b = some o :=
  PySem.W.hideAll_get _ e fun hm => by
    have q : (H b).isSome = true := (List.mem_filter.mp hm).2
    rw [n] at q; simp at q
theorem of_hidT {h : Heap} {H : Hp} {b : Addr} {o : Obj} (e : (hidT h H).get? b = some o) : h.get? b = some o ∧ H b = none := by
  have e' : h.get? b = some o := PySem.W.of_hideAll (trk h H) e
  refine ⟨e', ?_⟩
  cases q : H b with
  | none => rfl
  | some x =>
    have hm : b ∈ trk h H := List.mem_filter.mpr ⟨List.mem_range.mpr (Heap.lt_size e'), by simp [q]⟩
    have z : (hidT h H).get? b = none := PySem.W.hideAll_none (trk h H) hm
    rw [z] at e; cases e

/-! ### OpenK's ledger, filled with every new object but one -/
def allNews (g h : Heap) (L : Addr) : List (Addr × Obj) := (List.range h.objs.size).filterMap fun a => if a = L ∨ (g.get? a).isSome = true then none else (h.get? a).map fun o => (a, o)
def rest (g h : Heap) (L d : Addr) : List (Addr × Obj) := (allNews g h L).filter fun p => decide (p.1 ≠ d)
end L2

namespace L2
open PySem PySem.Spec PyProof.Rows

/-- the module's facts, over the base: the heap at the law's entry without what is tracked there -/
structure Mod (K : PySem.W.Frag) (mg : Str → Option Value) (base : Heap) : Prop where
  kin : K.In base
  glob : base.Ns mainGlobals mg
  blt : ∃ mb, base.Ns builtinsNs mb ∧ ∀ x : Str, x ≠ "__name__" → mb x = bootBuiltins x
  nolimit : base.NoLimit

/-- the context: a def's body (or a comprehension's block) running. base: fixed through the whole law; s₀, H₀: the entry; outer: the frames whose slots others may change (a def's callers); stack: all frames that run;
   ex: iterators that were made ahead of the entry and are walked here (a comprehension's); fn: the names whose cells were made at the entry (a def: all; a comprehension's block: its own); calm: not within an except suite; pn: pins that every state bears; xe: what is wanted of an exception that leaves the code -/
structure Cx where
  prog : Program
  w : World
  K : PySem.W.Frag
  mg : Str → Option Value
  base : Heap
  A : Around
  N : List Str
  s₀ : Shared
  H₀ : Hp
  env : Env
  outer : List Env
  stack : List Env
  ex : List Addr
  fn : Str → Bool
  calm : Bool
  pn : List (Addr × Obj)
  xe : Value → Shared → Prop
/-- the callers' frames -/
def frs (l : List Env) : List Addr := l.filterMap (·.frame)
abbrev Cx.fs (X : Cx) : List Addr := frs X.outer

def Vis (sc : Scope) (x : Str) : Prop := sc.names.lookup x = some .local ∨ sc.names.lookup x = some .cell ∨ sc.names.lookup x = some .free
def Loc (sc : Scope) (x : Str) : Prop := sc.names.lookup x = some .local ∨ sc.names.lookup x = some .cell
def Look (env : Env) (h : Heap) (m : Str → Option Value) (x : Str) (u : Value) : Prop :=
  (env.kindOf x = some .local ∧ m x = some u) ∨ ((env.kindOf x = some .cell ∨ env.kindOf x = some .free) ∧ ∃ c, env.cells.lookup x = some c ∧ h.IsCell c (some u))

structure Cx.Ok (X : Cx) : Prop where
  mod : Mod X.K X.mg X.base
  kind : X.env.scope.kind = .function
  glob : X.env.globals = mainGlobals
  blt : X.env.builtins = builtinsNs
  above : X.s₀.heap.objs.size ≤ X.env.locals
  inj : ∀ x y c, X.env.cells.lookup x = some c → X.env.cells.lookup y = some c → x = y
  has : ∀ x, (X.env.kindOf x = some .cell ∨ X.env.kindOf x = some .free) → ∃ c, X.env.cells.lookup x = some c
  cab : ∀ x c, X.fn x = true → X.env.cells.lookup x = some c → X.s₀.heap.objs.size ≤ c
  hd : X.calm = true → X.A.handled = none
  frames : X.A.frames = some X.stack
  stk : X.stack = X.outer ∨ (X.stack = X.env :: X.outer ∧ X.env.frame = some X.env.locals)
  exf : ∀ b ∈ X.ex, b ≠ X.env.locals ∧ ∀ x c, X.env.cells.lookup x = some c → c ≠ b
  bs : ∀ b o, X.base.get? b = some o → X.s₀.heap.get? b = some o ∧ X.H₀ b = none
  bsz : X.base.objs.size ≤ X.s₀.heap.objs.size
  noex : ∀ b o, X.base.get? b = some o → b ∉ X.ex
  exfs : ∀ b ∈ X.ex, b ∉ X.fs
  funs : X.s₀.heap.FunFrames X.base X.outer
  frf : ∀ b ∈ X.fs, X.H₀ b = none

structure Inv (X : Cx) (pins : List (Addr × Obj)) (σ : List (Option V)) (H : Hp) (s : Shared) : Prop where
  ok : X.Ok
  os : s.os = X.s₀.os
  bare : AllBare s.gens
  base : Un X.fs X.ex X.H₀ H X.s₀.heap s.heap
  loc : ∃ m, s.heap.Ns X.env.locals m ∧ ∀ (i : Nat) (x : Str) (v : V), X.N[i]? = some x → σ[i]? = some (some v) → Vis X.env.scope x → ∃ u, RelV v u ∧ Look X.env s.heap m x u
  cell : ∀ x c, X.env.cells.lookup x = some c → ∃ v, s.heap.IsCell c v
  free : H X.env.locals = none
  freeC : ∀ x c, X.env.cells.lookup x = some c → H c = none
  pin : ∀ p ∈ X.pn ++ pins, s.heap.get? p.1 = some p.2 ∧ H p.1 = none ∧ p.1 ≠ X.env.locals ∧ p.1 ∉ X.fs ∧ ∀ v, p.2.data ≠ .cell v
  hok : HOk X.prog X.w H s.heap
  len : σ.length = X.N.length

section
variable {X : Cx} {pins : List (Addr × Obj)} {σ : List (Option V)} {H H' : Hp} {s : Shared} {h' : Heap}

theorem Cx.Ok.nofr (ok : X.Ok) {b : Addr} {o : Obj} (e : X.base.get? b = some o) : b ∉ X.fs := fun hb => by
  have := (ok.funs.mem hb).1
  rw [e] at this; cases this
theorem Inv.bs (I : Inv X pins σ H s) : ∀ b o, X.base.get? b = some o → s.heap.get? b = some o ∧ H b = none := fun b o e =>
  ⟨I.base.keep b o (I.ok.bs b o e).1 (I.ok.bs b o e).2 (I.ok.nofr e) (I.ok.noex b o e), I.base.free b o (I.ok.bs b o e).1 (I.ok.bs b o e).2 (I.ok.noex b o e)⟩
theorem Inv.bk (I : Inv X pins σ H s) : ∀ b o, X.base.get? b = some o → s.heap.get? b = some o := fun b o e => (I.bs b o e).1
theorem Inv.mod (I : Inv X pins σ H s) : Mod X.K X.mg X.base := I.ok.mod
theorem Inv.kIn (I : Inv X pins σ H s) : X.K.In s.heap := I.ok.mod.kin.keeps I.bk
theorem Inv.nolimit (I : Inv X pins σ H s) : s.heap.NoLimit := I.ok.mod.nolimit.keeps I.bk
/-- the frame over the base: for OpenK's rules (K.In X.base is I.mod.kin) -/
theorem Inv.fr (I : Inv X pins σ H s) : ∃ m, Fr X.base X.env.locals s.heap m :=
  let ⟨m, hn, _⟩ := I.loc
  ⟨m, hn, I.bk, Nat.le_trans I.ok.bsz I.ok.above⟩
theorem Inv.lt (I : Inv X pins σ H s) : X.env.locals < s.heap.objs.size := let ⟨_, hn, _⟩ := I.loc; hn.lt
theorem Inv.sz (I : Inv X pins σ H s) : X.s₀.heap.objs.size ≤ s.heap.objs.size := Nat.le_trans I.ok.above (Nat.le_of_lt I.lt)
theorem Inv.nofs (I : Inv X pins σ H s) {a : Addr} (h : s.heap.objs.size ≤ a) : a ∉ X.fs := fun hb => by
  obtain ⟨_, o, ho, _⟩ := I.ok.funs.mem hb
  exact absurd (Nat.lt_of_lt_of_le (Heap.lt_size ho) (Nat.le_trans I.sz h)) (Nat.lt_irrefl _)
theorem Inv.cne (I : Inv X pins σ H s) : ∀ x c, X.env.cells.lookup x = some c → c ≠ X.env.locals := fun x c e z => by
  obtain ⟨v, o, ho, hd⟩ := I.cell x c e
  obtain ⟨m, ⟨o', es, ep, ho', hd', _⟩, _⟩ := I.loc
  rw [z, ho'] at ho; cases ho; rw [hd'] at hd; cases hd
theorem Inv.funs (I : Inv X pins σ H s) : s.heap.FunFrames X.base X.outer := by
  have all : ∀ (l : List Env), (∀ b ∈ frs l, b ∈ X.fs) → X.s₀.heap.FunFrames X.base l → s.heap.FunFrames X.base l := by
    intro l
    induction l with
    | nil => intro _ _; trivial
    | cons env r ih =>
      intro hs hl
      obtain ⟨hk, ⟨L, o, hf, hn, ho, hd⟩, hr⟩ := hl
      have hL : L ∈ X.fs := hs L (by unfold frs; rw [List.filterMap_cons, hf]; exact List.mem_cons_self)
      obtain ⟨sl, e⟩ := I.base.slot L o ho (I.ok.frf L hL) hL fun z => I.ok.exfs L z hL
      exact ⟨hk, ⟨L, _, hf, hn, e, hd⟩, ih (fun b hb => hs b (by unfold frs; rw [List.filterMap_cons, hf]; exact List.mem_cons_of_mem _ hb)) hr⟩
  exact all X.outer (fun _ hb => hb) I.ok.funs

/-- the frames that run, for a call -/
theorem Inv.stack (I : Inv X pins σ H s) : s.heap.FunFrames X.base X.stack := by
  rcases I.ok.stk with e | ⟨e, hf⟩
  · rw [e]; exact I.funs
  · rw [e]
    obtain ⟨m, hn, _⟩ := I.loc
    refine .cons (by rw [I.ok.kind]; decide) hf hn ?_ I.funs
    exact Heap.get?_none_of_le (Nat.le_trans I.ok.bsz I.ok.above)
theorem Inv.stkSub (I : Inv X pins σ H s) : ∀ b ∈ frs X.stack, b ∈ X.env.locals :: X.fs := fun b hb => by
  rcases I.ok.stk with e | ⟨e, hf⟩
  · rw [e] at hb; exact List.mem_cons_of_mem _ hb
  · rw [e] at hb
    unfold frs at hb
    rw [List.filterMap_cons, hf] at hb
    exact hb
theorem Inv.stkFree (I : Inv X pins σ H s) : ∀ b ∈ frs X.stack, H b = none := fun b hb => by
  rcases List.mem_cons.mp (I.stkSub b hb) with e | hb
  · rw [e]; exact I.free
  · obtain ⟨_, o, ho, _⟩ := I.ok.funs.mem hb
    exact I.base.free b o ho (I.ok.frf b hb) fun z => I.ok.exfs b z hb

/-- THE STEP: the untracked objects but the frame and the records at ch are kept (the callers' frames up to slots), the frame's map is kept, the new abstract heap is held -/
theorem Inv.step {g' : Array GenState} {t' : Nat} {d' : Drawn} {ch : List Addr} (I : Inv X pins σ H s)
    (hch : ∀ b ∈ ch, (b ∈ X.ex ∨ X.s₀.heap.objs.size ≤ b) ∧ b ≠ X.env.locals ∧ (∀ x c, X.env.cells.lookup x = some c → c ≠ b) ∧ ∀ p ∈ X.pn ++ pins, p.1 ≠ b)
    (keep : ∀ b o, b ≠ X.env.locals → b ∉ X.fs → b ∉ ch → s.heap.get? b = some o → H b = none → h'.get? b = some o)
    (slot : ∀ b o, b ≠ X.env.locals → b ∈ X.fs → b ∉ ch → s.heap.get? b = some o → H b = none → ∃ sl, h'.get? b = some { o with slots := sl }) (free : ∀ b o, b ∉ ch → s.heap.get? b = some o → H b = none → H' b = none)
    (there : ∀ b o, b ∉ ch → s.heap.get? b = some o → ∃ o', h'.get? b = some o')
    (tups : ∀ b xs, H b = some (.tup xs) → H' b = some (.tup xs)) (frzs : ∀ b o u, H b = some (.frz o u) → H' b = some (.frz o u)) (tbls : ∀ b ps, H b = some (.tbl ps) → ∃ more, H' b = some (.tbl (ps ++ more)))
    (ns : ∀ m, s.heap.Ns X.env.locals m → h'.Ns X.env.locals m) (hok : HOk X.prog X.w H' h') (hg : AllBare g') :
    Inv X pins σ H' { s with heap := h', gens := g', drawn := d', toks := t' } := by
  have neL : ∀ b o, X.s₀.heap.get? b = some o → b ≠ X.env.locals := fun b o e => Nat.ne_of_lt (Nat.lt_of_lt_of_le (Heap.lt_size e) I.ok.above)
  have neC : ∀ b o, X.s₀.heap.get? b = some o → b ∉ X.ex → b ∉ ch := fun b o e hx hb => by
    rcases (hch b hb).1 with z | z
    · exact hx z
    · exact absurd (Nat.lt_of_lt_of_le (Heap.lt_size e) z) (Nat.lt_irrefl _)
  have cellK : ∀ x c, X.env.cells.lookup x = some c → ∀ v, s.heap.IsCell c v → h'.IsCell c v := fun x c e v ⟨o, ho, hd⟩ => by
    have nch : c ∉ ch := fun z => (hch c z).2.2.1 x c e rfl
    by_cases hc : c ∈ X.fs
    · obtain ⟨sl, q⟩ := slot c o (I.cne x c e) hc nch ho (I.freeC x c e)
      exact ⟨_, q, hd⟩
    · exact ⟨o, keep c o (I.cne x c e) hc nch ho (I.freeC x c e), hd⟩
  refine ⟨I.ok, I.os, hg, ⟨fun b o e n hb hx => ?_, fun b o e n hb hx => ?_, fun b o e n hx => ?_, fun b o e hx => ?_, fun b xs e => tups b xs (I.base.tups b xs e), fun b o xs e => frzs b o xs (I.base.frzs b o xs e), fun b ps e => ?_⟩, ?_, fun x c e => ?_, ?_, fun x c e => ?_, fun p hp => ?_, hok, I.len⟩
  · exact keep b o (neL b o e) hb (neC b o e hx) (I.base.keep b o e n hb hx) (I.base.free b o e n hx)
  · obtain ⟨sl, e1⟩ := I.base.slot b o e n hb hx
    obtain ⟨sl', e2⟩ := slot b _ (neL b o e) hb (neC b o e hx) e1 (I.base.free b o e n hx)
    exact ⟨sl', e2⟩
  · obtain ⟨o', e1⟩ := I.base.there b o e hx
    exact free b o' (neC b o e hx) e1 (I.base.free b o e n hx)
  · obtain ⟨o', e1⟩ := I.base.there b o e hx
    exact there b o' (neC b o e hx) e1
  · obtain ⟨m1, e1⟩ := I.base.tbls b ps e
    obtain ⟨m2, e2⟩ := tbls b _ e1
    exact ⟨m1 ++ m2, by rw [e2, Array.append_assoc]⟩
  · obtain ⟨m, hn, hl⟩ := I.loc
    refine ⟨m, ns m hn, fun i x v e1 e2 e3 => ?_⟩
    obtain ⟨u, r, l⟩ := hl i x v e1 e2 e3
    refine ⟨u, r, ?_⟩
    rcases l with l | ⟨k, c, e, z⟩
    · exact .inl l
    · exact .inr ⟨k, c, e, cellK x c e _ z⟩
  · obtain ⟨v, z⟩ := I.cell x c e
    exact ⟨v, cellK x c e v z⟩
  · obtain ⟨m, ⟨o, _, _, ho, _⟩, _⟩ := I.loc
    exact free _ o (fun z => (hch _ z).2.1 rfl) ho I.free
  · obtain ⟨v, o, ho, hd⟩ := I.cell x c e
    exact free c o (fun z => (hch c z).2.2.1 x c e rfl) ho (I.freeC x c e)
  · obtain ⟨e, n, ne, nf, d⟩ := I.pin p hp
    have nch : p.1 ∉ ch := fun z => (hch p.1 z).2.2.2 p hp rfl
    exact ⟨keep p.1 p.2 ne nf nch e n, free p.1 p.2 nch e n, ne, nf, d⟩
/-- .. where the frame's own object is kept too -/
theorem Inv.un {t' : Nat} (I : Inv X pins σ H s) (u : Un X.fs [] H H' s.heap h') (hok : HOk X.prog X.w H' h') : Inv X pins σ H' { s with heap := h', toks := t' } := by
  obtain ⟨m, ⟨o, es, ep, ho, r⟩, _⟩ := id I.loc
  obtain ⟨sl, hL⟩ := u.any ho I.free (by simp)
  exact I.step (g' := s.gens) (d' := s.drawn) (ch := []) (fun _ z => nomatch z) (fun b o _ hb _ e n => u.keep b o e n hb (by simp)) (fun b o _ hb _ e n => u.slot b o e n hb (by simp)) (fun b o _ e n => u.free b o e n (by simp)) (fun b o _ e => u.there b o e (by simp)) u.tups u.frzs u.tbls (fun m' hm => by
    obtain ⟨o', es', ep', ho', r'⟩ := hm
    rw [ho] at ho'; cases ho'
    exact ⟨_, es', ep', hL, r'⟩) hok I.bare
/-- behind a call (or a comprehension's block): the slots of this frame may have changed too, the records at ch may have turned -/
theorem Inv.call {g' : Array GenState} {t' : Nat} {d' : Drawn} {ch : List Addr} (I : Inv X pins σ H s) (u : Un (frs X.stack) ch H H' s.heap h') (hok : HOk X.prog X.w H' h') (hg : AllBare g')
    (hch : ∀ b ∈ ch, (b ∈ X.ex ∨ X.s₀.heap.objs.size ≤ b) ∧ b ≠ X.env.locals ∧ (∀ x c, X.env.cells.lookup x = some c → c ≠ b) ∧ ∀ p ∈ X.pn ++ pins, p.1 ≠ b) :
    Inv X pins σ H' { s with heap := h', gens := g', drawn := d', toks := t' } := by
  obtain ⟨m, ⟨o, es, ep, ho, r⟩, _⟩ := id I.loc
  obtain ⟨sl, hL⟩ := u.any ho I.free fun z => (hch _ z).2.1 rfl
  exact I.step (ch := ch) hch (fun b o hL hb hc e n => u.keep b o e n (fun z => (List.mem_cons.mp (I.stkSub b z)).elim hL hb) hc) (fun b o _ _ hc e n => u.any e n hc) (fun b o hc e n => u.free b o e n hc) (fun b o hc e => u.there b o e hc) u.tups u.frzs u.tbls (fun m' hm => by
    obtain ⟨o', es', ep', ho', r'⟩ := hm
    rw [ho] at ho'; cases ho'
    exact ⟨_, es', ep', hL, r'⟩) hok hg
/-- an untracked record of ours (an iterator) has turned -/
theorem Inv.turned {t' : Nat} {it : Addr} (I : Inv X pins σ H s) (k : ∀ b o, b ≠ it → s.heap.get? b = some o → h'.get? b = some o) (hn : H it = none) (hL : it ≠ X.env.locals)
    (h1 : it ∈ X.ex ∨ X.s₀.heap.objs.size ≤ it) (h2 : ∀ x c, X.env.cells.lookup x = some c → c ≠ it) (h3 : ∀ p ∈ X.pn ++ pins, p.1 ≠ it) : Inv X pins σ H { s with heap := h', toks := t' } := by
  have nit : ∀ b u, H b = some u → b ≠ it := fun b u e z => by rw [z, hn] at e; cases e
  refine I.step (g' := s.gens) (d' := s.drawn) (ch := [it]) (fun b hb => ?_) (fun b o _ _ hc e _ => k b o (fun z => hc (by simp [z])) e) (fun b o _ _ hc e _ => ⟨o.slots, k b o (fun z => hc (by simp [z])) e⟩) (fun _ _ _ _ n => n)
    (fun b o hc e => ⟨o, k b o (fun z => hc (by simp [z])) e⟩) (fun _ _ e => e) (fun _ _ _ e => e) (fun b ps e => ⟨#[], by rw [e]; simp⟩) (fun m hm => ?_) (fun b u e => ?_) I.bare
  · have e : b = it := by simpa using hb
    subst e
    exact ⟨h1, hL, h2, h3⟩
  · obtain ⟨o, es, ep, ho, r⟩ := hm
    exact ⟨o, es, ep, k _ o (Ne.symm hL) ho, r⟩
  · refine (I.hok b u e).stay (fun c v hc q => k c v ?_ q) (fun _ q => q) fun _ _ q => q
    rcases hc with z | z
    · rw [z]; exact nit b u e
    · exact nit c _ z
theorem Inv.tok (I : Inv X pins σ H s) (t : Nat) : Inv X pins σ H { s with toks := t } := I.un (h' := s.heap) (t' := t) Un.refl I.hok
/-- all objects kept -/
theorem Inv.kept {t' : Nat} (I : Inv X pins σ H s) (k : ∀ b u, s.heap.get? b = some u → h'.get? b = some u) : Inv X pins σ H { s with heap := h', toks := t' } := I.un (Un.kept k) (I.hok.kept k)
/-- a new object laid and tracked -/
theorem Inv.laid {a : Addr} {o : HO} {t' : Nat} (I : Inv X pins σ H s) (k : ∀ b u, s.heap.get? b = some u → h'.get? b = some u) (hp : s.heap.objs.size ≤ a) (new : ObjOk X.prog X.w (upd H a o) h' a o) :
    Inv X pins σ (upd H a o) { s with heap := h', toks := t' } := I.un (Un.laid k hp (I.hok.fresh hp)) (I.hok.laid k hp new)
/-- an object written -/
theorem Inv.write {x e : Addr} {o : HO} {t' : Nat} (I : Inv X pins σ H s) (mu : Mut (H x)) (he : e = x ∨ H e = some (.own x)) (k : ∀ b u, b ≠ e → s.heap.get? b = some u → h'.get? b = some u) (heo : ∃ u, h'.get? e = some u)
    (new : ObjOk X.prog X.w (upd H x o) h' x o) : Inv X pins σ (upd H x o) { s with heap := h', toks := t' } := I.un (Un.write mu he k heo) (I.hok.write mu he k heo new)
/-- forgetting slots, pins -/
theorem Inv.weak {σ' : List (Option V)} (I : Inv X pins σ H s) (hl : σ'.length = σ.length) (w : ∀ (i : Nat) v, σ'[i]? = some (some v) → σ[i]? = some (some v)) : Inv X pins σ' H s :=
  ⟨I.ok, I.os, I.bare, I.base, let ⟨m, hn, hl'⟩ := I.loc; ⟨m, hn, fun i x v e1 e2 e3 => hl' i x v e1 (w i v e2) e3⟩, I.cell, I.free, I.freeC, I.pin, I.hok, hl.trans I.len⟩
theorem Inv.pins_of {pins' : List (Addr × Obj)} (I : Inv X pins σ H s) (h : ∀ p ∈ pins', s.heap.get? p.1 = some p.2 ∧ H p.1 = none ∧ p.1 ≠ X.env.locals ∧ p.1 ∉ X.fs ∧ ∀ v, p.2.data ≠ .cell v) : Inv X pins' σ H s :=
  ⟨I.ok, I.os, I.bare, I.base, I.loc, I.cell, I.free, I.freeC, fun p hp => (List.mem_append.mp hp).elim (fun z => I.pin p (List.mem_append_left _ z)) (h p), I.hok, I.len⟩

theorem nodup_ix {N : List Str} (hN : N.Nodup) {i j : Nat} {x : Str} (a : N[i]? = some x) (b : N[j]? = some x) : i = j := by
  obtain ⟨h1, e1⟩ := List.getElem?_eq_some_iff.mp a
  obtain ⟨h2, e2⟩ := List.getElem?_eq_some_iff.mp b
  exact (List.getElem_inj hN).mp (e1.trans e2.symm)

/-- a name is stored; what changed -/
theorem store_ok2 {M : Model} {A : Around} {E : Value → Shared → Prop} {i : Nat} {x : Str} {v : V} {u : Value} {Q : Unit → Shared → Prop} (I : Inv X pins σ H s) (hN : X.N.Nodup) (hi : X.N[i]? = some x) (hx : Loc X.env.scope x) (r : RelV v u)
    (h : ∀ s', Inv X pins (σ.set i (some v)) H s' → (∃ a, Heap.SameBut a s.heap s'.heap ∧ (a = X.env.locals ∨ X.env.cells.lookup x = some a)) → Q () s') (hf : X.fn x = true ∨ X.env.scope.names.lookup x = some .local := by first | exact .inl rfl | exact .inr rfl | assumption) : wpAny M A (storeName X.env x u) Q E s := by
  obtain ⟨m, hn, hl⟩ := id I.loc
  have hcls : (X.env.scope.kind == .class || (X.env.scope.kind == .module && X.env.locals != X.env.globals)) = false := by rw [I.ok.kind]; rfl
  have hiσ : i < σ.length := by rw [I.len]; exact (List.getElem?_eq_some_iff.mp hi).1
  have cne := I.cne
  have tracked : ∀ {a : Addr} {h' : Heap}, (∃ o, s.heap.get? a = some o ∧ H a = none) → Heap.SameBut a s.heap h' → HOk X.prog X.w H h' := fun {a h'} ha hs b ob e => by
    obtain ⟨_, _, hfree⟩ := ha
    refine (I.hok b ob e).stay (fun c w' hc q => (hs.2 c ?_).trans q) (fun _ q => q) fun _ _ q => q
    rintro rfl
    rcases hc with rfl | hc
    · rw [hfree] at e; cases e
    · rw [hfree] at hc; cases hc
  rcases hx with hk | hk
  · refine wpAny_storeName_local hk hn (fun h' hn' hs => ?_) hcls
    obtain ⟨oL, _, _, hoL, _⟩ := id hn
    refine h _ ⟨I.ok, I.os, I.bare, ⟨fun b o e n hb hx => ?_, fun b o e n hb hx => ?_, I.base.free, fun b o e hx => ?_, I.base.tups, I.base.frzs, I.base.tbls⟩, ⟨_, hn', fun j y v' e1 e2 e3 => ?_⟩, fun y c e => ?_, I.free, I.freeC, fun p hp => ?_, tracked ⟨oL, hoL, I.free⟩ hs, by simpa using I.len⟩ ⟨_, hs, .inl rfl⟩
    · exact (hs.2 b (Nat.ne_of_lt (Nat.lt_of_lt_of_le (Heap.lt_size e) I.ok.above))).trans (I.base.keep b o e n hb hx)
    · obtain ⟨sl, e1⟩ := I.base.slot b o e n hb hx
      exact ⟨sl, (hs.2 b (Nat.ne_of_lt (Nat.lt_of_lt_of_le (Heap.lt_size e) I.ok.above))).trans e1⟩
    · obtain ⟨o', e1⟩ := I.base.there b o e hx
      exact ⟨o', (hs.2 b (Nat.ne_of_lt (Nat.lt_of_lt_of_le (Heap.lt_size e) I.ok.above))).trans e1⟩
    · by_cases hj : j = i
      · subst hj
        rw [hi] at e1; cases e1
        rw [List.getElem?_set_self hiσ] at e2
        cases e2
        exact ⟨u, r, .inl ⟨hk, by simp⟩⟩
      · rw [List.getElem?_set_ne (Ne.symm hj)] at e2
        obtain ⟨u', r', q⟩ := hl j y v' e1 e2 e3
        refine ⟨u', r', ?_⟩
        rcases q with ⟨k, e⟩ | ⟨k, c, e, z⟩
        · refine .inl ⟨k, ?_⟩
          have : y ≠ x := fun e => hj (nodup_ix hN e1 (e ▸ hi))
          simp [this, e]
        · exact .inr ⟨k, c, e, z.sameBut hs (cne y c e)⟩
    · obtain ⟨w', z⟩ := I.cell y c e
      exact ⟨w', z.sameBut hs (cne y c e)⟩
    · obtain ⟨e, n, ne, nf, d⟩ := I.pin p hp
      exact ⟨(hs.2 p.1 ne).trans e, n, ne, nf, d⟩
  · have hfn : X.fn x = true := by
      rcases hf with z | z
      · exact z
      · rw [z] at hk; cases hk
    obtain ⟨c, hc⟩ := I.ok.has x (.inl hk)
    obtain ⟨w', z⟩ := I.cell x c hc
    refine wpAny_storeName_cell I.ok.kind hk hc z (fun h' hc' hs => ?_)
    obtain ⟨oc, hoc, hocd⟩ := id z
    refine h { s with heap := h' } ⟨I.ok, I.os, I.bare, ⟨fun b o e n hb hx => ?_, fun b o e n hb hx => ?_, I.base.free, fun b o e hx => ?_, I.base.tups, I.base.frzs, I.base.tbls⟩, ⟨m, hn.sameBut hs (Ne.symm (cne x c hc)), fun j y v' e1 e2 e3 => ?_⟩, fun y c' e => ?_, I.free, I.freeC, fun p hp => ?_, tracked ⟨oc, hoc, I.freeC x c hc⟩ hs, by simpa using I.len⟩ ⟨c, hs, .inr hc⟩
    · exact (hs.2 b (Nat.ne_of_lt (Nat.lt_of_lt_of_le (Heap.lt_size e) (I.ok.cab x c hfn hc)))).trans (I.base.keep b o e n hb hx)
    · obtain ⟨sl, e1⟩ := I.base.slot b o e n hb hx
      exact ⟨sl, (hs.2 b (Nat.ne_of_lt (Nat.lt_of_lt_of_le (Heap.lt_size e) (I.ok.cab x c hfn hc)))).trans e1⟩
    · obtain ⟨o', e1⟩ := I.base.there b o e hx
      exact ⟨o', (hs.2 b (Nat.ne_of_lt (Nat.lt_of_lt_of_le (Heap.lt_size e) (I.ok.cab x c hfn hc)))).trans e1⟩
    · by_cases hj : j = i
      · subst hj
        rw [hi] at e1; cases e1
        rw [List.getElem?_set_self hiσ] at e2
        cases e2
        exact ⟨u, r, .inr ⟨.inl hk, c, hc, hc'⟩⟩
      · rw [List.getElem?_set_ne (Ne.symm hj)] at e2
        obtain ⟨u', r', q⟩ := hl j y v' e1 e2 e3
        refine ⟨u', r', ?_⟩
        rcases q with q | ⟨k, c', e, z'⟩
        · exact .inl q
        · refine .inr ⟨k, c', e, z'.sameBut hs ?_⟩
          rintro rfl
          exact hj (nodup_ix hN e1 (I.ok.inj _ _ _ e hc ▸ hi))
    · by_cases hcc : c' = c
      · subst hcc; exact ⟨_, hc'⟩
      · obtain ⟨w2, z2⟩ := I.cell y c' e
        exact ⟨w2, z2.sameBut hs hcc⟩
    · obtain ⟨e, n, ne, nf, d⟩ := I.pin p hp
      refine ⟨(hs.2 p.1 ?_).trans e, n, ne, nf, d⟩
      intro q
      rw [q, hoc] at e
      have q' : oc = p.2 := Option.some.inj e
      exact d w' (by rw [← q']; exact hocd)
theorem store_ok {M : Model} {A : Around} {E : Value → Shared → Prop} {i : Nat} {x : Str} {v : V} {u : Value} {Q : Unit → Shared → Prop} (I : Inv X pins σ H s) (hN : X.N.Nodup) (hi : X.N[i]? = some x) (hx : Loc X.env.scope x) (r : RelV v u)
    (h : ∀ s', Inv X pins (σ.set i (some v)) H s' → Q () s') (hf : X.fn x = true ∨ X.env.scope.names.lookup x = some .local := by first | exact .inl rfl | exact .inr rfl | assumption) : wpAny M A (storeName X.env x u) Q E s :=
  store_ok2 I hN hi hx r (fun s' I' _ => h s' I') hf
/-- behind a call or a block, the state as it is -/
theorem Inv.call' {s' : Shared} {ch : List Addr} (I : Inv X pins σ H s) (ho : s'.os = s.os) (u : Un (frs X.stack) ch H H' s.heap s'.heap) (hok : HOk X.prog X.w H' s'.heap) (hg : AllBare s'.gens)
    (hch : ∀ b ∈ ch, (b ∈ X.ex ∨ X.s₀.heap.objs.size ≤ b) ∧ b ≠ X.env.locals ∧ (∀ x c, X.env.cells.lookup x = some c → c ≠ b) ∧ ∀ p ∈ X.pn ++ pins, p.1 ≠ b) : Inv X pins σ H' s' := by
  obtain ⟨h', g', d', t', o'⟩ := s'
  have e : o' = s.os := ho
  subst e
  exact I.call (g' := g') (t' := t') (d' := d') u hok hg hch
end

/-! ### the judgements -/
/-- an exception: its class, its own dict's address (where it has one), the abstract heap behind it -/
abbrev XK := Value → Option Addr → Hp → Prop
abbrev St := List (Option V)
abbrev VK := V → Hp → Prop
/-- an expression's reading; a test's; an argument list's -/
abbrev TE := St → Hp → VK → Prop
abbrev TT := St → Hp → (Bool → Hp → Prop) → Prop
abbrev TA := St → Hp → (List V → Hp → Prop) → Prop
/-- what is wanted behind a statement -/
structure Ends where
  nx : St → Hp → Prop
  rt : VK
  bk : St → Hp → Prop := fun _ _ => False
  ct : St → Hp → Prop := fun _ _ => False
abbrev TS := Ends → St → Hp → Prop

def EP (X : Cx) (pins : List (Addr × Obj)) (σ : St) (Q : VK) (u : Value) (s' : Shared) : Prop := ∃ v H', Inv X pins σ H' s' ∧ RelV v u ∧ Q v H'
def TP (X : Cx) (pins : List (Addr × Obj)) (σ : St) (Q : Bool → Hp → Prop) (b : Bool) (s' : Shared) : Prop := ∃ H', Inv X pins σ H' s' ∧ Q b H'
def AP (X : Cx) (pins : List (Addr × Obj)) (σ : St) (Q : List V → Hp → Prop) (us : List Value) (s' : Shared) : Prop := ∃ vs H', Inv X pins σ H' s' ∧ Vals vs us ∧ Q vs H'
def SP (X : Cx) (pins : List (Addr × Obj)) (D : Ends) (f : Flow) (s' : Shared) : Prop :=
  match f with
  | .next => ∃ σ' H', Inv X pins σ' H' s' ∧ D.nx σ' H'
  | .brk => ∃ σ' H', Inv X pins σ' H' s' ∧ D.bk σ' H'
  | .cont => ∃ σ' H', Inv X pins σ' H' s' ∧ D.ct σ' H'
  | .ret u => ∃ v σ' H', Inv X pins σ' H' s' ∧ RelV v u ∧ D.rt v H'

def PE (X : Cx) (e : Expr) (t : TE) : Prop :=
  ∀ (pins : List (Addr × Obj)) (s : Shared) (σ : St) (H : Hp) (Q : VK), Inv X pins σ H s → t σ H Q → wpAny (model X.prog X.w) X.A (eval e X.env) (EP X pins σ Q) X.xe s
def PT (X : Cx) (e : Expr) (t : TT) : Prop :=
  ∀ (pins : List (Addr × Obj)) (s : Shared) (σ : St) (H : Hp) (Q : Bool → Hp → Prop), Inv X pins σ H s → t σ H Q → wpAny (model X.prog X.w) X.A (isTrue e X.env (eval e X.env)) (TP X pins σ Q) X.xe s
/-- a test whatever its 'whole' is (and, or) -/
def PW (X : Cx) (e : Expr) (t : TT) : Prop :=
  ∀ (whole : Sem Value) (pins : List (Addr × Obj)) (s : Shared) (σ : St) (H : Hp) (Q : Bool → Hp → Prop), Inv X pins σ H s → t σ H Q → wpAny (model X.prog X.w) X.A (isTrue e X.env whole) (TP X pins σ Q) X.xe s
theorem PW.pt {X : Cx} {e : Expr} {t : TT} (h : PW X e t) : PT X e t := h _
/-- an argument list (no star), from the left -/
def PA (X : Cx) (es : List Expr) (t : TA) : Prop :=
  ∀ (pos : Pos) (pins : List (Addr × Obj)) (s : Shared) (σ : St) (H : Hp) (Q : List V → Hp → Prop), Inv X pins σ H s → t σ H Q → wpAny (model X.prog X.w) X.A (spliced (backTo pos (starEach es X.env))) (AP X pins σ Q) X.xe s
def PS (X : Cx) (st : Stmt) (t : TS) : Prop :=
  ∀ (pins : List (Addr × Obj)) (s : Shared) (σ : St) (H : Hp) (D : Ends), Inv X pins σ H s → t D σ H → wpAny (model X.prog X.w) X.A (exec st X.env) (SP X pins D) X.xe s
def PSs (X : Cx) (st : List Stmt) (t : TS) : Prop :=
  ∀ (pins : List (Addr × Obj)) (s : Shared) (σ : St) (H : Hp) (D : Ends), Inv X pins σ H s → t D σ H → wpAny (model X.prog X.w) X.A (execs st X.env) (SP X pins D) X.xe s
/-- weaken the end -/
theorem thn {α : Type} {t : Sem α} {Q Q' : α → Shared → Prop} {M : Model} {A : Around} {E : Value → Shared → Prop} {s : Shared} (h : wpAny M A t Q E s) (hQ : ∀ a s, Q a s → Q' a s) : wpAny M A t Q' E s := wpAny_mono h hQ fun _ _ x => x
end L2

namespace L2
open PySem PySem.Spec PyProof.Rows
section
variable {X : Cx}

/-! ### names and constants -/
def tVar (i : Nat) : TE := fun σ H Q => ∃ v, σ[i]? = some (some v) ∧ Q v H
def tC (v : V) : TE := fun _ H Q => Q v H
theorem pe_var {i : Nat} {x : Str} {pos : Pos} (hN : X.N[i]? = some x) (hv : Vis X.env.scope x) (hd : (x == ("__debug__" : Str)) = false := by decide) (hcd : (x == ("__classdict__" : Str)) = false := by decide) : PE X (.Name x pos) (tVar i) := by
  intro pins s σ H Q I h
  obtain ⟨v, e, h⟩ := h
  obtain ⟨m, hn, hl⟩ := I.loc
  obtain ⟨u, r, l⟩ := hl i x v hN e hv
  have fin : EP X pins σ Q u s := ⟨v, H, I, r, h⟩
  rcases l with ⟨hk, hm⟩ | ⟨hk, c, hc, hcell⟩
  · exact wpAny_Name (wpAny_loadName_local I.ok.kind hk hn hm fin) hd
  · rcases hk with hk | hk
    · exact wpAny_Name (wpAny_loadName_cell I.ok.kind hk hc hcell fin) hd
    · exact wpAny_Name (wpAny_loadName_free I.ok.kind hk hc hcell fin hcd) hd
theorem pe_int {i j pos} : PE X (.Constant (.int i) j pos) (tC (.int i)) := fun _ _ _ H _ I h => wpAny_Constant_int ⟨.int i, H, I.tok _, ⟨_, rfl⟩, h⟩
theorem pe_bl {b j pos} : PE X (.Constant (.bool b) j pos) (tC (.bl b)) := fun _ _ _ H _ I h => Constant_bool ⟨.bl b, H, I, rfl, h⟩
theorem pe_non {j pos} : PE X (.Constant .none j pos) (tC .non) := fun _ _ _ H _ I h => Constant_none ⟨.non, H, I, rfl, h⟩
theorem pe_str {x j pos} : PE X (.Constant (.str x) j pos) (tC (.str x)) := fun _ _ _ H _ I h => Calls.Constant_str ⟨.str x, H, I.tok _, ⟨_, rfl⟩, h⟩

/-- a global name of the def -/
def Gl (X : Cx) (x : Str) : Prop := X.env.kindOf x = some .globalImplicit
theorem ld_glob {E : Value → Shared → Prop} {pins : List (Addr × Obj)} {s : Shared} {σ : St} {H : Hp} {x : Str} {u : Value} {pos : Pos} {Q : Value → Shared → Prop} (I : Inv X pins σ H s) (hg : Gl X x) (hm : X.mg x = some u) (h : Q u s)
    (hd : (x == ("__debug__" : Str)) = false := by decide) : wpAny (model X.prog X.w) X.A (eval (.Name x pos) X.env) Q E s :=
  Calls.Name_function_global I.ok.kind hg (Calls.loadGlobal_global (by rw [I.ok.glob]; exact I.mod.glob.keeps I.bk) hm h) hd
theorem ld_blt {E : Value → Shared → Prop} {pins : List (Addr × Obj)} {s : Shared} {σ : St} {H : Hp} {x : Str} {u : Value} {pos : Pos} {Q : Value → Shared → Prop} (I : Inv X pins σ H s) (hg : Gl X x) (hm : X.mg x = none) (hv : bootBuiltins x = some u) (h : Q u s)
    (hn : x ≠ "__name__" := by decide) (hd : (x == ("__debug__" : Str)) = false := by decide) : wpAny (model X.prog X.w) X.A (eval (.Name x pos) X.env) Q E s := by
  obtain ⟨mb, h1, h2⟩ := I.mod.blt
  exact Calls.Name_function_global I.ok.kind hg (Calls.loadGlobal_builtin (by rw [I.ok.glob]; exact I.mod.glob.keeps I.bk) hm (by rw [I.ok.blt]; exact h1.keeps I.bk) ((h2 x hn).trans hv) h) hd
/-- a module's constant, a class, a function, as a value -/
theorem pe_glob {x : Str} {v : V} {u : Value} {pos : Pos} (hg : Gl X x) (hm : X.mg x = some u) (r : RelV v u) (hd : (x == ("__debug__" : Str)) = false := by decide) : PE X (.Name x pos) (tC v) :=
  fun _ _ _ H _ I h => ld_glob I hg hm ⟨v, H, I, r, h⟩ hd
theorem pe_bltn {x : Str} {v : V} {u : Value} {pos : Pos} (hg : Gl X x) (hm : X.mg x = none) (hv : bootBuiltins x = some u) (r : RelV v u) (hn : x ≠ "__name__" := by decide) (hd : (x == ("__debug__" : Str)) = false := by decide) : PE X (.Name x pos) (tC v) :=
  fun _ _ _ H _ I h => ld_blt I hg hm hv ⟨v, H, I, r, h⟩ hn hd

/-! ### arithmetic -/
variable {a b : Expr} {ta tb : TE} {pos : Pos}
/-! ### comparisons -/
def PC (X : Cx) (op : CmpOp) (a b : Expr) (t : TE) : Prop :=
  ∀ (pins : List (Addr × Obj)) (s : Shared) (σ : St) (H : Hp) (Q : VK), Inv X pins σ H s → t σ H Q →
    wpAny (model X.prog X.w) X.A (eval a X.env) (fun v s₁ => wpAny (model X.prog X.w) X.A (eval b X.env) (fun u s₂ => wpAny (model X.prog X.w) X.A (compareOp op v u) (EP X pins σ Q) X.xe s₂) X.xe s₁) X.xe s
/-- a comparison as a value, as a test -/
def tB (t : TE) : TT := fun σ H Q => t σ H fun x H1 => ∃ c, x = .bl c ∧ Q c H1
/-- an expression whose value is a bool, as a test -/
theorem pt_val {e : Expr} {t : TE} (h : PE X e t) (he : ∀ whole, isTrue e X.env whole = (do let v ← whole; standAt e.pos; holding [v] (truthy v)) := by intro _; rfl) : PT X e (tB t) := by
  intro pins s σ H Q I hw
  refine isTrue_plain (thn (h pins s σ H _ I hw) fun v s1 ⟨x, H1, I1, r1, q1⟩ => ?_) (he _)
  obtain ⟨d, rfl, q⟩ := q1
  cases r1
  exact wpAny_truthy_bool ⟨H1, I1, q⟩

/-! ### and, or, not -/
variable {tA tB' : TT} {rest : List Expr}
def tAnd (t u : TT) : TT := fun σ H Q => t σ H fun c H1 => if c = true then u σ H1 Q else Q false H1
def tOr (t u : TT) : TT := fun σ H Q => t σ H fun c H1 => if c = true then Q true H1 else u σ H1 Q
def tNot (t : TT) : TT := fun σ H Q => t σ H fun c H1 => Q (!c) H1
theorem pw_and1 (ha : PT X a tA) : PW X (.BoolOp .And [a] pos) tA := by
  intro wh pins s σ H Q I h
  refine isTrue_and (thn (ha pins s σ H Q I h) fun c s1 e => ?_)
  cases c with
  | true => exact isTrue_and_nil e
  | false => exact e
theorem pw_or1 (ha : PT X a tA) : PW X (.BoolOp .Or [a] pos) tA := by
  intro wh pins s σ H Q I h
  refine isTrue_or (thn (ha pins s σ H Q I h) fun c s1 e => ?_)
  cases c with
  | false => exact isTrue_or_nil e
  | true => exact e
theorem pw_and (ha : PT X a tA) (hb : PW X (.BoolOp .And (b :: rest) pos) tB') : PW X (.BoolOp .And (a :: b :: rest) pos) (tAnd tA tB') := by
  intro wh pins s σ H Q I h
  refine isTrue_and (thn (ha pins s σ H _ I h) fun c s1 ⟨H1, I1, q1⟩ => ?_)
  cases c with
  | true => exact hb wh pins s1 σ H1 Q I1 q1
  | false => exact ⟨H1, I1, q1⟩
theorem pw_or (ha : PT X a tA) (hb : PW X (.BoolOp .Or (b :: rest) pos) tB') : PW X (.BoolOp .Or (a :: b :: rest) pos) (tOr tA tB') := by
  intro wh pins s σ H Q I h
  refine isTrue_or (thn (ha pins s σ H _ I h) fun c s1 ⟨H1, I1, q1⟩ => ?_)
  cases c with
  | true => exact ⟨H1, I1, q1⟩
  | false => exact hb wh pins s1 σ H1 Q I1 q1
theorem pt_not (ha : PT X a tA) : PT X (.UnaryOp .Not a pos) (tNot tA) := by
  intro pins s σ H Q I h
  exact isTrue_not (ha pins s σ H (fun c H1 => Q (!c) H1) I h)
/-- .. as values (bools) -/
def tAndV (ta tb : TE) : TE := fun σ H Q => ta σ H fun x H1 => ∃ c, x = .bl c ∧ if c = true then tb σ H1 Q else Q (.bl false) H1
def tOrV (ta tb : TE) : TE := fun σ H Q => ta σ H fun x H1 => ∃ c, x = .bl c ∧ if c = true then Q (.bl true) H1 else tb σ H1 Q
def tNotV (ta : TE) : TE := fun σ H Q => ta σ H fun x H1 => ∃ c, x = .bl c ∧ Q (.bl (!c)) H1
theorem pe_one {op} {t : TE} (h : PE X a t) : PE X (.BoolOp op [a] pos) t := fun pins s σ H Q I hw => BoolOp_one (h pins s σ H Q I hw)
theorem pe_and (ha : PE X a ta) (hb : PE X (.BoolOp .And (b :: rest) pos) tb) : PE X (.BoolOp .And (a :: b :: rest) pos) (tAndV ta tb) := by
  intro pins s σ H Q I h
  refine BoolOp_and (thn (ha pins s σ H _ I h) fun v s1 ⟨x, H1, I1, r1, q1⟩ => ?_)
  obtain ⟨c, rfl, q1⟩ := q1
  cases r1
  refine wpAny_truthy_bool ?_
  cases c with
  | true => exact hb pins s1 σ H1 Q I1 q1
  | false => exact ⟨.bl false, H1, I1, rfl, q1⟩
theorem pe_or (ha : PE X a ta) (hb : PE X (.BoolOp .Or (b :: rest) pos) tb) : PE X (.BoolOp .Or (a :: b :: rest) pos) (tOrV ta tb) := by
  intro pins s σ H Q I h
  refine BoolOp_or (thn (ha pins s σ H _ I h) fun v s1 ⟨x, H1, I1, r1, q1⟩ => ?_)
  obtain ⟨c, rfl, q1⟩ := q1
  cases r1
  refine wpAny_truthy_bool ?_
  cases c with
  | false => exact hb pins s1 σ H1 Q I1 q1
  | true => exact ⟨.bl true, H1, I1, rfl, q1⟩
theorem pe_not (ha : PE X a ta) : PE X (.UnaryOp .Not a pos) (tNotV ta) := by
  intro pins s σ H Q I h
  refine UnaryOp_ (thn (ha pins s σ H _ I h) fun v s1 ⟨x, H1, I1, r1, q1⟩ => ?_)
  obtain ⟨c, rfl, q1⟩ := q1
  cases r1
  exact not_of (wpAny_truthy_bool ⟨.bl (!c), H1, I1, rfl, q1⟩)
/-- a if t else b -/
def tIf (t : TT) (ta tb : TE) : TE := fun σ H Q => t σ H fun c H1 => if c = true then ta σ H1 Q else tb σ H1 Q
theorem pe_ifExp {c : Expr} (hc : PT X c tA) (ha : PE X a ta) (hb : PE X b tb) : PE X (.IfExp c a b pos) (tIf tA ta tb) := by
  intro pins s σ H Q I h
  refine wpAny_IfExp (thn (hc pins s σ H _ I h) fun d s1 ⟨H1, I1, q1⟩ => ?_)
  cases d with
  | true => exact ha pins s1 σ H1 Q I1 q1
  | false => exact hb pins s1 σ H1 Q I1 q1
end
end L2

namespace L2
open PySem PySem.Spec PyProof.Rows

/-! ### a list, a tuple that is read: tracked, frozen, or an object of the module -/
def SqL (K : PySem.W.Frag) (H : Hp) (a : Addr) (xs : List V) : Prop :=
  Rd H a (.lst xs) ∨
    ∃ (o : Obj) (its : Array Value) (n : Nat), K.lookup a = some o ∧ o.cls = .type "list" ∧ o.dict = none ∧ o.data = .seq its n ∧ its.size ≤ sizeLine ∧ Vals xs its.toList
def SqT (K : PySem.W.Frag) (H : Hp) (a : Addr) (xs : List V) : Prop :=
  Rd H a (.tup xs) ∨
    ∃ (o : Obj) (its : Array Value) (n : Nat), K.lookup a = some o ∧ o.cls = .type "tuple" ∧ o.data = .seq its n ∧ its.size ≤ sizeLine ∧ Vals xs its.toList
def absV : Value → Option V
  | .none => some .non
  | .bool b => some (.bl b)
  | .int i _ => some (.int i)
  | .str x _ => some (.str x)
  | .bytes b _ => some (.byt b)
  | .float b _ => some (.flt b)
  | .ref a => some (.ref a)
  | .type n => some (.ty n)
  | _ => none
theorem RelV.abs {x : V} {u : Value} (r : RelV x u) : absV u = some x := by
  cases x with
  | non => cases r; rfl
  | bl _ => cases r; rfl
  | int _ => obtain ⟨t, rfl⟩ := r; rfl
  | str _ => obtain ⟨t, rfl⟩ := r; rfl
  | byt _ => obtain ⟨t, rfl⟩ := r; rfl
  | flt _ => obtain ⟨t, rfl⟩ := r; rfl
  | ref _ => cases r; rfl
  | ty _ => cases r; rfl
theorem RelV.inj {x y : V} {u : Value} (r : RelV x u) (q : RelV y u) : x = y := Option.some.inj (r.abs.symm.trans q.abs)
theorem Vals.inj : ∀ {xs ys : List V} {us : List Value}, Vals xs us → Vals ys us → xs = ys
  | _, _, _, .nil, .nil => rfl
  | _, _, _, .cons r t, .cons r' t' => by rw [r.inj r', Vals.inj t t']
section
variable {X : Cx} {pins : List (Addr × Obj)} {σ : St} {H : Hp} {s : Shared} {a : Addr} {xs ys : List V}
theorem SqL.of {K : PySem.W.Frag} (h : H a = some (.lst xs)) : SqL K H a xs := .inl (.inl h)
theorem SqT.of {K : PySem.W.Frag} (h : H a = some (.tup xs)) : SqT K H a xs := .inl (.inl h)
theorem Inv.list (I : Inv X pins σ H s) (h : SqL X.K H a xs) : ∃ its : List Value, Vals xs its ∧ PlainL s.heap a its.toArray ∧ xs.length ≤ sizeLine := by
  rcases h with h | ⟨o, its, n, hk, hc, hd, hs, hz, r⟩
  · obtain ⟨z, its, n, r, e⟩ := h.ok I.hok
    exact ⟨its, r, ⟨_, n, e, rfl, rfl, rfl⟩, z⟩
  · refine ⟨its.toList, r, ⟨o, n, I.kIn a o hk, hc, hd, by simpa using hs⟩, ?_⟩
    have e := r.length
    simp only [Array.length_toList] at e
    omega
theorem Inv.tuple (I : Inv X pins σ H s) (h : SqT X.K H a xs) : ∃ its : List Value, Vals xs its ∧ IsTup s.heap a its.toArray ∧ xs.length ≤ sizeLine := by
  rcases h with h | ⟨o, its, n, hk, hc, hs, hz, r⟩
  · obtain ⟨z, its, r, p⟩ := h.ok I.hok
    exact ⟨its, r, p, z⟩
  · refine ⟨its.toList, r, ⟨o, I.kIn a o hk, hc, n, by simpa using hs⟩, ?_⟩
    have e := r.length
    simp only [Array.length_toList] at e
    omega
theorem Inv.list_inj (I : Inv X pins σ H s) (h : SqL X.K H a xs) (h' : SqL X.K H a ys) : xs = ys := by
  obtain ⟨its, r, ⟨o, n, e, _, _, d⟩, _⟩ := I.list h
  obtain ⟨its', r', ⟨o', n', e', _, _, d'⟩, _⟩ := I.list h'
  rw [e] at e'; cases e'
  rw [d] at d'
  injection d' with d1 _
  have : its = its' := by simpa using congrArg Array.toList d1
  subst this
  exact r.inj r'
end

/-! ### another wish about exceptions -/
abbrev Cx.wish (X : Cx) (E : Value → Shared → Prop) : Cx := { X with xe := E }
/-- no exception leaves -/
abbrev Cx.nox (X : Cx) : Cx := X.wish fun _ _ => False
theorem Cx.Ok.wish {X : Cx} (ok : X.Ok) (E : Value → Shared → Prop) : (X.wish E).Ok :=
  ⟨ok.mod, ok.kind, ok.glob, ok.blt, ok.above, ok.inj, ok.has, ok.cab, ok.hd, ok.frames, ok.stk, ok.exf, ok.bs, ok.bsz, ok.noex, ok.exfs, ok.funs, ok.frf⟩
theorem Cx.Ok.unwish {X : Cx} {E : Value → Shared → Prop} (ok : (X.wish E).Ok) : X.Ok :=
  ⟨ok.mod, ok.kind, ok.glob, ok.blt, ok.above, ok.inj, ok.has, ok.cab, ok.hd, ok.frames, ok.stk, ok.exf, ok.bs, ok.bsz, ok.noex, ok.exfs, ok.funs, ok.frf⟩
section
variable {X : Cx} {pins : List (Addr × Obj)} {σ : St} {H : Hp} {s : Shared} {E : Value → Shared → Prop}
theorem Inv.wish (I : Inv X pins σ H s) (E : Value → Shared → Prop) : Inv (X.wish E) pins σ H s := ⟨I.ok.wish E, I.os, I.bare, I.base, I.loc, I.cell, I.free, I.freeC, I.pin, I.hok, I.len⟩
theorem Inv.unwish (I : Inv (X.wish E) pins σ H s) : Inv X pins σ H s := ⟨I.ok.unwish, I.os, I.bare, I.base, I.loc, I.cell, I.free, I.freeC, I.pin, I.hok, I.len⟩
theorem SP.unwish {D : Ends} {f : Flow} {s' : Shared} (h : SP (X.wish E) pins D f s') : SP X pins D f s' := by
  cases f with
  | next => obtain ⟨σ', H', I, q⟩ := h; exact ⟨σ', H', I.unwish, q⟩
  | brk => obtain ⟨σ', H', I, q⟩ := h; exact ⟨σ', H', I.unwish, q⟩
  | cont => obtain ⟨σ', H', I, q⟩ := h; exact ⟨σ', H', I.unwish, q⟩
  | ret u => obtain ⟨v, σ', H', I, r, q⟩ := h; exact ⟨v, σ', H', I.unwish, r, q⟩
theorem PE.nox {e : Expr} {t : TE} (h : PE X.nox e t) : PE X e t := fun pins s σ H Q I hw =>
  wpAny_mono (h pins s σ H Q (I.wish _) hw) (fun _ _ ⟨v, H', I', r, q⟩ => ⟨v, H', I'.unwish, r, q⟩) fun _ _ z => False.elim z
theorem PT.nox {e : Expr} {t : TT} (h : PT X.nox e t) : PT X e t := fun pins s σ H Q I hw =>
  wpAny_mono (h pins s σ H Q (I.wish _) hw) (fun _ _ ⟨H', I', q⟩ => ⟨H', I'.unwish, q⟩) fun _ _ z => False.elim z
theorem PSs.nox {st : List Stmt} {t : TS} (h : PSs X.nox st t) : PSs X st t := fun pins s σ H D I hw =>
  wpAny_mono (h pins s σ H D (I.wish _) hw) (fun _ _ q => q.unwish) fun _ _ z => False.elim z
end

/-! ### blocks and small statements -/
section
variable {X : Cx} {st : Stmt} {rest : List Stmt} {t u : TS} {e : Expr} {te : TE} {pos : Pos}
def tNext : TS := fun D σ H => D.nx σ H
def tSeq (t u : TS) : TS := fun D σ H => t { D with nx := u D } σ H
theorem pss_nil : PSs X [] tNext := fun _ _ σ H _ I h => wpAny_execs_nil ⟨σ, H, I, h⟩
theorem pss_cons (h1 : PS X st t) (h2 : PSs X rest u) : PSs X (st :: rest) (tSeq t u) := by
  intro pins s σ H D I h
  refine wpAny_execs_cons (thn (h1 pins s σ H { D with nx := u D } I h) fun f s1 q => ?_)
  cases f with
  | next =>
    obtain ⟨σ', H', I', q⟩ := q
    exact h2 pins s1 σ' H' D I' q
  | ret v => exact q
  | brk => exact q
  | cont => exact q
theorem pss_one (h1 : PS X st t) : PSs X [st] t := by
  intro pins s σ H D I h
  refine wpAny_execs_cons (thn (h1 pins s σ H D I h) fun f s1 q => ?_)
  cases f with
  | next => exact wpAny_execs_nil q
  | ret v => exact q
  | brk => exact q
  | cont => exact q
/-- in a def's body nothing is shown -/
theorem Inv.quiet {pins : List (Addr × Obj)} {σ : St} {H : Hp} {s : Shared} (I : Inv X pins σ H s) : interactive X.env = false := by simp [interactive, I.ok.kind]
/-- an expression whose value is dropped -/
def tDrop (te : TE) : TS := fun D σ H => te σ H fun _ H1 => D.nx σ H1
theorem ps_expr (he : PE X e te) (hs : swapsWith e none pos.line X.env = pure false := by rfl) : PS X (.Expr e pos) (tDrop te) := by
  intro pins s σ H D I h
  exact wpAny_Expr_any (thn (he pins s σ H _ I h) fun v s1 ⟨x, H1, I1, r1, q1⟩ => ⟨σ, H1, I1, q1⟩) I.quiet hs
def tRet (te : TE) : TS := fun D σ H => te σ H D.rt
theorem ps_ret (he : PE X e te) : PS X (.Return (some e) pos) (tRet te) := by
  intro pins s σ H D I h
  exact wpAny_Return_some (thn (he pins s σ H _ I h) fun v s1 ⟨x, H1, I1, r1, q1⟩ => ⟨x, σ, H1, I1, r1, q1⟩)
def tIfS (c : TT) (t u : TS) : TS := fun D σ H => c σ H fun b H1 => if b = true then t D σ H1 else u D σ H1
theorem ps_if {c : Expr} {a b : List Stmt} {tc : TT} (hc : PT X c tc) (ha : PSs X a t) (hb : PSs X b u) : PS X (.If c a b pos) (tIfS tc t u) := by
  intro pins s σ H D I h
  refine wpAny_If (thn (hc pins s σ H _ I h) fun d s1 ⟨H1, I1, q1⟩ => ?_)
  cases d with
  | true => exact ha pins s1 σ H1 D I1 q1
  | false => exact hb pins s1 σ H1 D I1 q1
end

/-! ### targets -/
abbrev TG := V → St → Hp → (St → Hp → Prop) → Prop
abbrev TGs := List V → St → Hp → (St → Hp → Prop) → Prop
def PG (X : Cx) (target : Expr) (t : TG) : Prop :=
  ∀ (pins : List (Addr × Obj)) (s : Shared) (σ : St) (H : Hp) (v : V) (u : Value) (Q : St → Hp → Prop), Inv X pins σ H s → RelV v u → t v σ H Q →
    wpAny (model X.prog X.w) X.A (assign target X.env u) (fun _ s' => ∃ σ' H', Inv X pins σ' H' s' ∧ Q σ' H') X.xe s
/-- several targets, one after another -/
def PGs (X : Cx) (ts : List Expr) (t : TGs) : Prop :=
  ∀ (pins : List (Addr × Obj)) (s : Shared) (σ : St) (H : Hp) (vs : List V) (us : List Value) (Q : St → Hp → Prop), Inv X pins σ H s → Vals vs us → t vs σ H Q →
    wpAny (model X.prog X.w) X.A (assignInOrder ((assignEach ts X.env).map (·.2)) us) (fun _ s' => ∃ σ' H', Inv X pins σ' H' s' ∧ Q σ' H') X.xe s
/-- o[i] = v, by values -/
abbrev TSet := V → V → V → Hp → (Hp → Prop) → Prop
def PSet (X : Cx) (t : TSet) : Prop :=
  ∀ (pins : List (Addr × Obj)) (s : Shared) (σ : St) (H : Hp) (o i v : V) (ov iv u : Value) (Q : Hp → Prop), Inv X pins σ H s → RelV o ov → RelV i iv → RelV v u → t o i v H Q →
    wpAny (model X.prog X.w) X.A (setItem ov iv u) (fun _ s' => ∃ H', Inv X pins σ H' s' ∧ Q H') X.xe s
section
variable {X : Cx} {pos : Pos}
def gName (i : Nat) : TG := fun v σ H Q => Q (σ.set i (some v)) H
theorem pg_name {i : Nat} {x : Str} (hN : X.N.Nodup) (hi : X.N[i]? = some x) (hx : Loc X.env.scope x) (hf : X.fn x = true ∨ X.env.scope.names.lookup x = some .local := by first | exact .inl rfl | exact .inr rfl | assumption) : PG X (.Name x pos) (gName i) := by
  intro pins s σ H v u Q I r h
  exact wpAny_assign_Name (store_ok I hN hi hx r (fun s' I' => ⟨_, H, I', h⟩) hf)
def gNil : TGs := fun vs σ H Q => vs = [] ∧ Q σ H
def gCons (t : TG) (u : TGs) : TGs := fun vs σ H Q => ∃ v r, vs = v :: r ∧ t v σ H fun σ' H' => u r σ' H' Q
theorem pgs_nil : PGs X [] gNil := by
  intro pins s σ H vs us Q I r h
  obtain ⟨e, h⟩ := h
  subst e
  cases r
  exact assignInOrder_nil ⟨σ, H, I, h⟩
theorem pgs_cons {e : Expr} {es : List Expr} {t : TG} {u : TGs} (h1 : PG X e t) (h2 : PGs X es u)
    (hs : (assignEach (e :: es) X.env).map (·.2) = assign e X.env :: (assignEach es X.env).map (·.2) := by rfl) : PGs X (e :: es) (gCons t u) := by
  intro pins s σ H vs us Q I r h
  obtain ⟨v, vr, e1, h⟩ := h
  subst e1
  cases r with
  | cons r rr =>
    rw [hs]
    refine assignInOrder_cons (thn (h1 pins s σ H _ _ _ I r h) fun _ s1 ⟨σ1, H1, I1, q1⟩ => ?_)
    exact h2 pins s1 σ1 H1 _ _ Q I1 rr q1
/-- (a, b, ..) = a tuple of that length -/
def gTup (K : PySem.W.Frag) (n : Nat) (t : TGs) : TG := fun v σ H Q => ∃ a xs, v = .ref a ∧ SqT K H a xs ∧ xs.length = n ∧ t xs σ H Q
theorem pg_tup {es : List Expr} {k : Nat} {t : TGs} {n : Nat} (hc : X.calm = true) (h : PGs X es t)
    (hn : (assignEach es X.env).length = n := by rfl) (hst : (assignEach es X.env).findIdx? (·.1) = none := by rfl) : PG X (.Tuple es k pos) (gTup X.K n t) := by
  intro pins s σ H v u Q I r hw
  obtain ⟨a, xs, e1, hq, hl, hw⟩ := hw
  subst e1
  cases r
  obtain ⟨its, rv, ht, hz⟩ := I.tuple hq
  refine assign_Tuple_tuple (I.ok.hd hc) ht (by simp [hn, ← hl, rv.length]) hst fun h' hx => ?_
  have I1 : Inv X pins σ H { s with heap := h' } := I.kept (t' := s.toks) fun b o e => hx b o (Nat.ne_of_lt (Heap.lt_size e)) e
  exact h pins _ σ H xs _ Q I1 (by simpa using rv) hw
/-- target = value -/
def tAsg (te : TE) (g : TG) : TS := fun D σ H => te σ H fun x H1 => g x σ H1 D.nx
/-- name = value -/
theorem ps_set {i : Nat} {x : Str} {e : Expr} {te : TE} {pos' : Pos} (hN : X.N.Nodup) (hi : X.N[i]? = some x) (hx : Loc X.env.scope x) (he : PE X e te) (hs : swapsWith e (some (.Name x pos')) pos.line X.env = pure false := by rfl) (hf : X.fn x = true ∨ X.env.scope.names.lookup x = some .local := by first | exact .inl rfl | exact .inr rfl | assumption) :
    PS X (.Assign [.Name x pos'] e pos) (tAsg te (gName i)) := by
  intro pins s σ H D I h
  refine wpAny_Assign_Name (thn (he pins s σ H _ I h) fun v s1 ⟨y, H1, I1, r1, q1⟩ => ?_) hs
  exact store_ok I1 hN hi hx r1 (fun s2 I2 => ⟨_, H1, I2, q1⟩) hf
end

/-! ### while -/
section
variable {X : Cx} {pos : Pos}
/-- the invariant W with its measure -/
def tWhile (c : TT) (tb : TS) : TS := fun D σ H => ∃ W : Nat → St → Hp → Prop, (∃ m, W m σ H) ∧ ∀ m σ H, W m σ H →
  c σ H fun b H1 => if b = true then ∃ N : St → Hp → Prop, (∀ σ' H', N σ' H' → ∃ m', m' < m ∧ W m' σ' H') ∧ tb { D with nx := N, ct := N, bk := D.nx } σ H1 else D.nx σ H1
end

/-! ### what a loop or a comprehension walks -/
/-- at turn i: it yields x (the heap may grow), or it stops -/
structure It where
  go : Nat → Hp → Prop
  yld : Nat → Hp → V → Hp → Prop
  stop : Nat → Hp → Prop
/-- the iterator's own objects may turn: they are not the frame's, not pinned, younger than the entry (or a comprehension's own) -/
def FpOk (X : Cx) (pins : List (Addr × Obj)) (H : Hp) (b : Addr) : Prop :=
  H b = none ∧ b ≠ X.env.locals ∧ b ∉ X.fs ∧ (b ∈ X.ex ∨ X.s₀.heap.objs.size ≤ b) ∧ (∀ x c, X.env.cells.lookup x = some c → c ≠ b) ∧ ∀ p ∈ X.pn ++ pins, p.1 ≠ b
theorem Inv.fpOk {X : Cx} {pins : List (Addr × Obj)} {σ : St} {H H' : Hp} {s : Shared} {b : Addr} (I : Inv X pins σ H s) (hb : s.heap.objs.size ≤ b) (hn : H' b = none) : FpOk X pins H' b := by
  refine ⟨hn, Nat.ne_of_gt (Nat.lt_of_lt_of_le I.lt hb), I.nofs hb, .inr (Nat.le_trans I.sz hb), fun x c e z => ?_, fun p hp z => ?_⟩
  · obtain ⟨v, q⟩ := I.cell x c e
    exact absurd (Nat.lt_of_lt_of_le q.lt (by rw [z]; exact hb)) (Nat.lt_irrefl _)
  · exact absurd (Nat.lt_of_lt_of_le (Heap.lt_size (I.pin p hp).1) (by rw [z]; exact hb)) (Nat.lt_irrefl _)
structure Turn (P : Program) (w : World) (K : PySem.W.Frag) (tg : Expr) (J : It) (fp : List Addr) (it : Addr) (tn : Nat → Heap → Prop) : Prop where
  mem : it ∈ fp
  obj : ∀ i h, tn i h → ∀ b ∈ fp, ∃ o, h.get? b = some o ∧ ∀ v, o.data ≠ .cell v
  keep : ∀ i h h', tn i h → (∀ b ∈ fp, ∀ o, h.get? b = some o → h'.get? b = some o) → tn i h'
  item : ∀ (X : Cx), X.prog = P → X.w = w → X.K = K → X.calm = true → ∀ (i : Nat) (pins : List (Addr × Obj)) (s : Shared) (σ : St) (H : Hp) (E : Value → Shared → Prop), Inv X pins σ H s → (∀ b ∈ fp, FpOk X pins H b) → tn i s.heap → J.go i H →
    wpAny (model P w) X.A (pyNext (.ref it)) (fun r s1 => ∃ u, r = some u ∧
      wpAny (model P w) X.A (letOwnedTupleGo tg (.ref it) u) (fun _ s2 => ∃ x H', Inv X pins σ H' s2 ∧ RelV x u ∧ J.yld i H x H' ∧ tn (i + 1) s2.heap ∧ ∀ b ∈ fp, H' b = none) E s1) E s
  done : ∀ (X : Cx), X.prog = P → X.w = w → X.K = K → X.calm = true → ∀ (i : Nat) (pins : List (Addr × Obj)) (s : Shared) (σ : St) (H : Hp) (E : Value → Shared → Prop), Inv X pins σ H s → (∀ b ∈ fp, FpOk X pins H b) → tn i s.heap → J.stop i H →
    wpAny (model P w) X.A (pyNext (.ref it)) (fun r s1 => r = none ∧ Inv X pins σ H s1) E s
  self : ∀ (A : Around) (i : Nat) (s : Shared) (Q : Value → Shared → Prop) (E : Value → Shared → Prop), tn i s.heap → Q (.ref it) s → wpAny (model P w) A (pyIter (.ref it)) Q E s
abbrev TI := St → Hp → (It → Hp → Prop) → Prop
/-- an iterator has come -/
def PIE (X : Cx) (pins : List (Addr × Obj)) (σ : St) (tg : Expr) (R : It → Hp → Prop) (itv : Value) (s2 : Shared) : Prop :=
  ∃ (it : Addr) (fp : List Addr) (tn : Nat → Heap → Prop) (J : It) (H' : Hp), itv = .ref it ∧ Inv X pins σ H' s2 ∧ Turn X.prog X.w X.K tg J fp it tn ∧ tn 0 s2.heap ∧ (∀ b ∈ fp, FpOk X pins H' b) ∧ R J H'
def PI (X : Cx) (tg iter : Expr) (wi : TI) : Prop :=
  ∀ (pins : List (Addr × Obj)) (s : Shared) (σ : St) (H : Hp) (R : It → Hp → Prop), Inv X pins σ H s → wi σ H R →
    wpAny (model X.prog X.w) X.A (eval iter X.env) (fun v s1 => wpAny (model X.prog X.w) X.A (pyIter v) (PIE X pins σ tg R) X.xe s1) X.xe s

/-- the step ahead of the store is nothing for an iterator that keeps no tuple -/
theorem go_of {M : Model} {A : Around} {E : Value → Shared → Prop} {s : Shared} {tg : Expr} {it : Addr} {u : Value} {o : Obj} {n : String} {vs : Array Value} {Q : Unit → Shared → Prop} (ho : s.heap.get? it = some o) (hc : o.cls = .type n) (hd : o.data = .fields vs)
    (hn : ["enumerate", "zip", "dict_itemiterator", "dict_reverseitemiterator", "odict_iterator", "itertools.zip_longest", "itertools.pairwise"].contains n = false) (hQ : Q () s) : wpAny M A (letOwnedTupleGo tg (.ref it) u) Q E s := by
  unfold letOwnedTupleGo
  cases tg <;> first
    | exact wpAny_pure hQ
    | (cases u <;> first
        | exact wpAny_pure hQ
        | (refine wpAny_bind (wpAny_load ho ?_)
           rw [hc, hd]
           show wpAny M A (if (["enumerate", "zip", "dict_itemiterator", "dict_reverseitemiterator", "odict_iterator", "itertools.zip_longest", "itertools.pairwise"].contains n && vs[0]? == some (rawInt _)) = true then _ else _) Q E s
           rw [if_neg (by intro h; rw [hn, Bool.false_and] at h; cases h)]
           exact wpAny_pure hQ))

/-- the list at a, as it stands at each turn (a loop may append to it) -/
def Itl (K : PySem.W.Frag) (a : Addr) : It :=
  ⟨fun i H => ∃ xs x, SqL K H a xs ∧ xs[i]? = some x, fun i H x H' => H' = H ∧ ∀ xs, SqL K H a xs → xs[i]? = some x, fun i H => ∃ xs, SqL K H a xs ∧ xs.length ≤ i⟩
/-- lo, lo + 1, .. (n of them) -/
def Itr (lo : Int) (n : Nat) : It := ⟨fun i _ => i < n, fun i H x H' => H' = H ∧ x = .int (lo + i), fun i _ => n ≤ i⟩
theorem turn_list {P : Program} {w : World} {K : PySem.W.Frag} {tg : Expr} (a it : Addr) : Turn P w K tg (Itl K a) [it] it (fun i h => h.IsListIter it a i) where
  mem := by simp
  obj := fun i h st b hb => by
    have e : b = it := by simpa using hb
    subst e
    obtain ⟨o, e, c, d⟩ := st
    exact ⟨o, e, fun v z => by rw [d] at z; cases z⟩
  keep := fun i h h' st k => st.at fun o e => k it (by simp) o e
  item := by
    intro X hP hw hK hc i pins s σ H E I hf st hg
    subst hP hw hK
    obtain ⟨xs, x, hq, hx⟩ := hg
    obtain ⟨its, rv, p, hz⟩ := I.list hq
    obtain ⟨u, hu, ru⟩ := rv.get hx
    obtain ⟨f0, f1, f2, f3, f4, f5⟩ := hf it (by simp)
    refine wpAny_pyNext_list_item st p.isList (x := u) (by simpa using hu) fun h' st' sb => ?_
    have I1 : Inv X pins σ H { s with heap := h' } := I.turned (t' := s.toks) (fun b o hb e => (sb.2 b hb).trans e) f0 f1 f3 f4 f5
    obtain ⟨o, e, c, d⟩ := id st'
    exact ⟨u, rfl, go_of (s := { s with heap := h' }) e c d (by decide) ⟨x, H, I1, ru, ⟨rfl, fun ys hy => by rw [I.list_inj hy hq]; exact hx⟩, st', fun b hb => (hf b hb).1⟩⟩
  done := by
    intro X hP hw hK hc i pins s σ H E I hf st hg
    subst hP hw hK
    obtain ⟨xs, hq, hx⟩ := hg
    obtain ⟨its, rv, p, hz⟩ := I.list hq
    obtain ⟨f0, f1, f2, f3, f4, f5⟩ := hf it (by simp)
    have hl := rv.length
    exact wpAny_pyNext_list_end (I.ok.hd hc) st p.isList (by simp; omega) fun h' eb => ⟨rfl, I.turned (t' := s.toks) (fun b o hb e => eb b o hb e) f0 f1 f3 f4 f5⟩
  self := fun _ _ _ _ _ st h => wpAny_pyIter_listiter st h
theorem turn_range {P : Program} {w : World} {K : PySem.W.Frag} {tg : Expr} (it : Addr) (lo : Int) (n : Nat) : Turn P w K tg (Itr lo n) [it] it (fun i h => IsRangeIter h it (lo + (i : Nat) * 1) ((n : Int) - (i : Nat)) 1) where
  mem := by simp
  obj := fun i h st b hb => by
    have e : b = it := by simpa using hb
    subst e
    exact ⟨_, st, fun v z => by
      have z' : Data.fields _ = Data.cell v := z
      cases z'⟩
  keep := fun i h h' st k => k it (by simp) _ st
  item := by
    intro X hP hw hK hc i pins s σ H E I hf st hg
    subst hP hw hK
    obtain ⟨f0, f1, f2, f3, f4, f5⟩ := hf it (by simp)
    have W := Walks.range (prog := X.prog) (w := X.w) (I.ok.hd hc) it lo 1 n
    refine W.item i s _ _ hg st fun v h' tk hv st' kk => ?_
    obtain ⟨t, rfl⟩ := hv
    have I1 : Inv X pins σ H { s with heap := h', toks := tk } := I.turned (fun b o hb e => kk b o (by simpa using hb) e) f0 f1 f3 f4 f5
    refine ⟨_, rfl, go_of (s := { s with heap := h', toks := tk }) (n := "range_iterator") st' rfl rfl (by decide) ⟨.int (lo + i), H, I1, ⟨t, ?_⟩, ⟨rfl, rfl⟩, st', fun b hb => (hf b hb).1⟩⟩
    rw [Int.mul_one]
  done := by
    intro X hP hw hK hc i pins s σ H E I hf st hg
    subst hP hw hK
    obtain ⟨f0, f1, f2, f3, f4, f5⟩ := hf it (by simp)
    exact wpAny_pyNext_range_end (I.ok.hd hc) st (by have : n ≤ i := hg; omega) fun h' eb => ⟨rfl, I.turned (t' := s.toks) (fun b o hb e => eb b o hb e) f0 f1 f3 f4 f5⟩
  self := fun _ _ _ _ _ st h => wpAny_pyIter_rangeiter st h
end L2

namespace L2
open PySem PySem.Spec PyProof.Rows
section
variable {X : Cx} {tg : Expr}
def iList (K : PySem.W.Frag) (tl : TE) : TI := fun σ H R => tl σ H fun x H1 => ∃ a, x = .ref a ∧ (∃ xs, SqL K H1 a xs) ∧ R (Itl K a) H1
theorem pi_list {l : Expr} {tl : TE} (hl : PE X l tl) : PI X tg l (iList X.K tl) := by
  intro pins s σ H R I h
  refine thn (hl pins s σ H _ I h) fun v s1 ⟨x, H1, I1, r1, q1⟩ => ?_
  obtain ⟨a, e, ⟨xs, hq⟩, q⟩ := q1
  subst e
  cases r1
  obtain ⟨its, rv, p, hz⟩ := I1.list hq
  refine wpAny_pyIter_list p.isList ?_
  refine ⟨s1.heap.objs.size, [s1.heap.objs.size], _, _, H1, rfl, I1.kept (t' := s1.toks) fun b o e => Heap.get?_push_of_some _ e, turn_list a _, ⟨_, Heap.get?_push_size _ rfl, rfl, rfl⟩, fun b hb => ?_, q⟩
  have e : b = s1.heap.objs.size := by simpa using hb
  subst e
  exact I1.fpOk (Nat.le_refl _) (I1.hok.fresh (Nat.le_refl _))
/-- a range object just made, walked -/
theorem range_it {pins : List (Addr × Obj)} {σ : St} {H : Hp} {s : Shared} {R : It → Hp → Prop} {E : Value → Shared → Prop} {lo hi : Int} {t u v : Tok} {tk : Nat} (I : Inv X pins σ H s) (h1 : -(2 ^ 62) ≤ lo) (h2 : lo < 2 ^ 62) (h3 : -(2 ^ 62) ≤ hi) (h4 : hi < 2 ^ 62)
    (q : R (Itr lo (hi - lo).toNat) H) : wpAny (model X.prog X.w) X.A (pyIter (.ref s.heap.objs.size)) (PIE X pins σ tg R) E { s with heap := s.heap.push { cls := .type "range", data := .fields #[.int lo t, .int hi u, .int 1 v] }, toks := tk } := by
  refine wpAny_pyIter_range (IsRange.new ..) (small_one h1 h2 h3 h4) ?_
  have I1 : Inv X pins σ H { s with heap := s.heap.push { cls := .type "range", data := .fields #[.int lo t, .int hi u, .int 1 v] }, toks := tk } := I.kept fun b o e => Heap.get?_push_of_some _ e
  refine ⟨(s.heap.push { cls := .type "range", data := .fields #[.int lo t, .int hi u, .int 1 v] }).objs.size, [(s.heap.push { cls := .type "range", data := .fields #[.int lo t, .int hi u, .int 1 v] }).objs.size], _, _, H, rfl,
    I1.kept (t' := tk) fun b o e => Heap.get?_push_of_some _ e, turn_range _ lo (hi - lo).toNat, ?_, fun b hb => ?_, q⟩
  · have e1 : lo + ((0 : Nat) : Int) * 1 = lo := by simp
    have e2 : (((hi - lo).toNat : Nat) : Int) - ((0 : Nat) : Int) = Builtin.Range.rangeSize lo hi 1 := by rw [rangeSize_one]; split <;> omega
    show IsRangeIter _ _ (lo + ((0 : Nat) : Int) * 1) ((((hi - lo).toNat : Nat) : Int) - ((0 : Nat) : Int)) 1
    rw [e1, e2]
    exact Heap.get?_push_size _ rfl
  · have e : b = (s.heap.push { cls := .type "range", data := .fields #[.int lo t, .int hi u, .int 1 v] }).objs.size := by simpa using hb
    subst e
    exact I1.fpOk (Nat.le_refl _) (I1.hok.fresh (Nat.le_refl _))
def iRng1 (ta : TA) : TI := fun σ H R => ta σ H fun vs H1 => ∃ j : Int, vs = [.int j] ∧ -(2 ^ 62) ≤ j ∧ j < 2 ^ 62 ∧ R (Itr 0 j.toNat) H1
theorem pi_range1 {a : Expr} {ta : TA} {p pos : Pos} (hg : Gl X "range") (hm : X.mg "range" = none) (ha : PA X [a] ta) (hs : starEach [a] X.env = [(false, eval a X.env)] := by rfl) : PI X tg (.Call (.Name "range" p) [a] [] pos) (iRng1 ta) := by
  intro pins s σ H R I h
  refine Call_ (ld_blt I hg hm boot_range (PyProof.Rows.callWith_type1 (thn (ha pos pins s σ H _ I h) fun us s1 ⟨vs, H1, I1, r1, q1⟩ => ?_) hs rfl))
  obtain ⟨j, e, q1, q2, q⟩ := q1
  subst e
  cases r1 with
  | cons r rr =>
    cases rr
    obtain ⟨t, rfl⟩ := r
    exact call_range_1 (range_it I1 (by omega) (by omega) q1 q2 (by simpa using q))
/-! ### for -/
/-- W: the invariant by the turn and a measure; N: what the body is to reach -/
def tFor (wi : TI) (g : TG) (tb : TS) : TS := fun D σ H => wi σ H fun J H1 => ∃ W : Nat → Nat → St → Hp → Prop, (∃ m, W 0 m σ H1) ∧ ∀ i m σ H, W i m σ H →
  (J.stop i H ∧ D.nx σ H) ∨ (J.go i H ∧ ∃ N : St → Hp → Prop, (∀ σ' H', N σ' H' → ∃ m', m' < m ∧ W (i + 1) m' σ' H') ∧ ∀ x H', J.yld i H x H' → g x σ H' fun σ2 H2 => tb { D with nx := N, ct := N, bk := D.nx } σ2 H2)
/-- the records at fp as they stand -/
def pinsAt (fp : List Addr) (h : Heap) : List (Addr × Obj) := fp.filterMap fun b => (h.get? b).map fun o => (b, o)
theorem mem_pinsAt {fp : List Addr} {h : Heap} {b : Addr} {o : Obj} (hb : b ∈ fp) (e : h.get? b = some o) : (b, o) ∈ pinsAt fp h := List.mem_filterMap.mpr ⟨b, hb, by rw [e]; rfl⟩
theorem of_pinsAt {fp : List Addr} {h : Heap} {p : Addr × Obj} (hp : p ∈ pinsAt fp h) : p.1 ∈ fp ∧ h.get? p.1 = some p.2 := by
  obtain ⟨b, hb, e⟩ := List.mem_filterMap.mp hp
  cases q : h.get? b with
  | none => rw [q] at e; cases e
  | some o =>
    rw [q] at e
    have e' : (b, o) = p := Option.some.inj e
    subst e'
    exact ⟨hb, q⟩
theorem Inv.pinned {pins : List (Addr × Obj)} {σ : St} {H : Hp} {s : Shared} {fp : List Addr} (I : Inv X pins σ H s) (hf : ∀ b ∈ fp, FpOk X pins H b) (ho : ∀ b ∈ fp, ∃ o, s.heap.get? b = some o ∧ ∀ v, o.data ≠ .cell v) : Inv X (pins ++ pinsAt fp s.heap) σ H s :=
  I.pins_of fun p hp => (List.mem_append.mp hp).elim (fun z => I.pin p (List.mem_append_right _ z)) fun z => by
    obtain ⟨hb, e⟩ := of_pinsAt z
    obtain ⟨f0, f1, f2, _⟩ := hf p.1 hb
    obtain ⟨o, e', d⟩ := ho p.1 hb
    rw [e] at e'; cases e'
    exact ⟨e, f0, f1, f2, d⟩
theorem Inv.unpinned {pins pl : List (Addr × Obj)} {σ : St} {H : Hp} {s : Shared} (I : Inv X (pins ++ pl) σ H s) : Inv X pins σ H s := I.pins_of fun p hp => I.pin p (List.mem_append_right _ (List.mem_append_left _ hp))
theorem ps_for {iter : Expr} {body : List Stmt} {wi : TI} {g : TG} {tb : TS} {pos : Pos} (hp : PassesOwn (model X.prog X.w) X.A X.env X.xe) (hc : X.calm = true) (hi : PI X tg iter wi) (hg : PG X tg g) (hb : PSs X body tb)
    (hs : ∀ x, foldedSetIterable iter X.env x = pure x := by intro _; rfl) : PS X (.For tg iter body [] pos) (tFor wi g tb) := by
  intro pins s σ H D I h
  refine wpAny_For (thn (hi pins s σ H _ I h) fun v s1 h1 => thn h1 fun itv s2 h2 => ?_) hs
  obtain ⟨it, fp, tn, J, H2, e, I2, T, st2, f2, W, ⟨m0, w0⟩, turn⟩ := h2
  subst e
  -- what stays true of the iterator's objects through the loop
  have stat : ∀ {H' : Hp}, (∀ b ∈ fp, H' b = none) → ∀ b ∈ fp, FpOk X pins H' b := fun hn b hb => ⟨hn b hb, (f2 b hb).2⟩
  refine codeAny_forLoop_any (fun n s' => ∃ i σ' H', Inv X pins σ' H' s' ∧ tn i s'.heap ∧ (∀ b ∈ fp, H' b = none) ∧ W i n σ' H') ?_ m0 ⟨0, σ, H2, I2, st2, fun b hb => (f2 b hb).1, w0⟩
  rintro n s3 ⟨i, σ3, H3, I3, st3, fr3, w3⟩
  rcases turn i n σ3 H3 w3 with ⟨stop, qn⟩ | ⟨go, N, hN, step⟩
  · refine wpAny_passesOwn hp (thn (T.done X rfl rfl rfl hc i pins s3 σ3 H3 X.xe I3 (stat fr3) st3 stop) fun r s4 ⟨hr, I4⟩ => ?_)
    subst hr
    exact wpAny_execs_nil ⟨σ3, H3, I4, qn⟩
  · refine wpAny_passesOwn hp (thn (T.item X rfl rfl rfl hc i pins s3 σ3 H3 X.xe I3 (stat fr3) st3 go) fun r s4 ⟨u, hr, h4⟩ => ?_)
    subst hr
    refine wpAny_passesOwn hp (thn h4 fun _ s5 ⟨x, H5, I5, r5, y5, st5, fr5⟩ => ?_)
    have I5' := I5.pinned (stat fr5) (T.obj _ _ st5)
    refine wpAny_passesOwn hp (thn (hg _ s5 σ3 H5 x u _ I5' r5 (step x H5 y5)) fun _ s6 ⟨σ6, H6, I6, q6⟩ => ?_)
    refine wpAny_passesOwn hp (thn (hb _ s6 σ6 H6 _ I6 q6) fun f s7 q7 => ?_)
    have again : ∀ {σ7 : St} {H7 : Hp}, Inv X (pins ++ pinsAt fp s5.heap) σ7 H7 s7 → N σ7 H7 → ∃ m, m < n ∧ ∃ i σ' H', Inv X pins σ' H' s7 ∧ tn i s7.heap ∧ (∀ b ∈ fp, H' b = none) ∧ W i m σ' H' := fun {σ7 H7} I7 n7 => by
      obtain ⟨m', hm, w7⟩ := hN σ7 H7 n7
      refine ⟨m', hm, i + 1, σ7, H7, I7.unpinned, T.keep _ _ _ st5 fun b hb o e => (I7.pin (b, o) (List.mem_append_right _ (List.mem_append_right _ (mem_pinsAt hb e)))).1, fun b hb => ?_, w7⟩
      obtain ⟨o, e, d⟩ := T.obj _ _ st5 b hb
      exact (I7.pin (b, o) (List.mem_append_right _ (List.mem_append_right _ (mem_pinsAt hb e)))).2.1
    cases f with
    | next => obtain ⟨σ7, H7, I7, n7⟩ := q7; exact again I7 n7
    | cont => obtain ⟨σ7, H7, I7, n7⟩ := q7; exact again I7 n7
    | brk => obtain ⟨σ7, H7, I7, q7⟩ := q7; exact ⟨σ7, H7, I7.unpinned, q7⟩
    | ret v => obtain ⟨x7, σ7, H7, I7, r7, q7⟩ := q7; exact ⟨x7, σ7, H7, I7.unpinned, r7, q7⟩
end

/-! ### the forms one uses -/
/-- over a list that the body leaves as it is -/
theorem for_list {K : PySem.W.Frag} {a : Addr} {xs : List V} {g : TG} {tb : TS} {D : Ends} {σ : St} {H : Hp} (Pv : Nat → St → Hp → Prop) (h0 : Pv 0 σ H) (hl : ∀ i σ H, i ≤ xs.length → Pv i σ H → SqL K H a xs)
    (hs : ∀ i x σ H, xs[i]? = some x → Pv i σ H → g x σ H fun σ2 H2 => tb { D with nx := Pv (i + 1), ct := Pv (i + 1), bk := D.nx } σ2 H2) (hd : ∀ σ H, Pv xs.length σ H → D.nx σ H) :
    ∃ W : Nat → Nat → St → Hp → Prop, (∃ m, W 0 m σ H) ∧ ∀ i m σ H, W i m σ H →
      ((Itl K a).stop i H ∧ D.nx σ H) ∨ ((Itl K a).go i H ∧ ∃ N : St → Hp → Prop, (∀ σ' H', N σ' H' → ∃ m', m' < m ∧ W (i + 1) m' σ' H') ∧ ∀ x H', (Itl K a).yld i H x H' → g x σ H' fun σ2 H2 => tb { D with nx := N, ct := N, bk := D.nx } σ2 H2) := by
  refine ⟨fun i m σ H => m = xs.length - i ∧ i ≤ xs.length ∧ Pv i σ H, ⟨xs.length, by simp, Nat.zero_le _, h0⟩, ?_⟩
  rintro i m σ H ⟨rfl, hi, p⟩
  have q := hl i σ H hi p
  by_cases hlt : i < xs.length
  · refine .inr ⟨⟨xs, xs[i], q, by simp [hlt]⟩, Pv (i + 1), fun σ' H' p' => ⟨xs.length - (i + 1), by omega, rfl, hlt, p'⟩, fun x H' y => ?_⟩
    obtain ⟨e, y⟩ := y
    subst e
    exact hs i x σ _ (y xs q) p
  · have e : i = xs.length := by omega
    subst e
    exact .inl ⟨⟨xs, q, Nat.le_refl _⟩, hd σ H p⟩
theorem for_range {lo : Int} {n : Nat} {g : TG} {tb : TS} {D : Ends} {σ : St} {H : Hp} (Pv : Nat → St → Hp → Prop) (h0 : Pv 0 σ H)
    (hs : ∀ i σ H, i < n → Pv i σ H → g (.int (lo + i)) σ H fun σ2 H2 => tb { D with nx := Pv (i + 1), ct := Pv (i + 1), bk := D.nx } σ2 H2) (hd : ∀ σ H, Pv n σ H → D.nx σ H) :
    ∃ W : Nat → Nat → St → Hp → Prop, (∃ m, W 0 m σ H) ∧ ∀ i m σ H, W i m σ H →
      ((Itr lo n).stop i H ∧ D.nx σ H) ∨ ((Itr lo n).go i H ∧ ∃ N : St → Hp → Prop, (∀ σ' H', N σ' H' → ∃ m', m' < m ∧ W (i + 1) m' σ' H') ∧ ∀ x H', (Itr lo n).yld i H x H' → g x σ H' fun σ2 H2 => tb { D with nx := N, ct := N, bk := D.nx } σ2 H2) := by
  refine ⟨fun i m σ H => m = n - i ∧ i ≤ n ∧ Pv i σ H, ⟨n, by simp, Nat.zero_le _, h0⟩, ?_⟩
  rintro i m σ H ⟨rfl, hi, p⟩
  by_cases hlt : i < n
  · refine .inr ⟨hlt, Pv (i + 1), fun σ' H' p' => ⟨n - (i + 1), by omega, rfl, hlt, p'⟩, fun x H' y => ?_⟩
    obtain ⟨e, y⟩ := y
    subst e y
    exact hs i σ _ hlt p
  · have e : i = n := by omega
    subst e
    exact .inl ⟨Nat.le_refl _, hd σ H p⟩
end L2

namespace L2
open PySem PySem.Spec PyProof.Rows

abbrev R2 := V → V → Hp → VK → Prop
/-- a two-place operation on values: f is binaryOp op, inplaceOp op or compareOp op -/
def OpR (X : Cx) (f : Value → Value → Sem Value) (r : R2) : Prop :=
  ∀ (pins : List (Addr × Obj)) (s : Shared) (σ : St) (H : Hp) (x y : V) (v u : Value) (Q : VK), Inv X pins σ H s → RelV x v → RelV y u → r x y H Q →
    wpAny (model X.prog X.w) X.A (f v u) (EP X pins σ Q) X.xe s
/-- a one-place operation -/
def UnR (X : Cx) (f : Value → Sem Value) (r : V → Hp → VK → Prop) : Prop :=
  ∀ (pins : List (Addr × Obj)) (s : Shared) (σ : St) (H : Hp) (x : V) (v : Value) (Q : VK), Inv X pins σ H s → RelV x v → r x H Q →
    wpAny (model X.prog X.w) X.A (f v) (EP X pins σ Q) X.xe s
/-- a call of a value that is known (a builtin, a type) with values -/
def CallR (X : Cx) (f : Value) (r : List V → Hp → VK → Prop) : Prop :=
  ∀ (pins : List (Addr × Obj)) (s : Shared) (σ : St) (H : Hp) (xs : List V) (us : List Value) (Q : VK), Inv X pins σ H s → Vals xs us → r xs H Q →
    wpAny (model X.prog X.w) X.A (call f us) (EP X pins σ Q) X.xe s
/-- a value's truth -/
def TruR (X : Cx) (r : V → Hp → (Bool → Hp → Prop) → Prop) : Prop :=
  ∀ (pins : List (Addr × Obj)) (s : Shared) (σ : St) (H : Hp) (x : V) (v : Value) (Q : Bool → Hp → Prop), Inv X pins σ H s → RelV x v → r x H Q →
    wpAny (model X.prog X.w) X.A (truthy v) (TP X pins σ Q) X.xe s

def tOp (r : R2) (ta tb : TE) : TE := fun σ H Q => ta σ H fun x H1 => tb σ H1 fun y H2 => r x y H2 Q
def tUn (r : V → Hp → VK → Prop) (ta : TE) : TE := fun σ H Q => ta σ H fun x H1 => r x H1 Q
/-- ints in, under C, and a value out -/
def rI (C : Int → Int → Prop) (g : Int → Int → V) : R2 := fun x y H Q => ∃ i j, x = .int i ∧ y = .int j ∧ C i j ∧ Q (g i j) H
def rI0 (g : Int → Int → V) : R2 := fun x y H Q => ∃ i j, x = .int i ∧ y = .int j ∧ Q (g i j) H
def rU (g : Int → V) : V → Hp → VK → Prop := fun x H Q => ∃ i, x = .int i ∧ Q (g i) H

section
variable {X : Cx} {a b c : Expr} {ta tb tc : TE} {pos : Pos}

theorem binT (ha : PE X a ta) (hb : PE X b tb) {pins : List (Addr × Obj)} {s : Shared} {σ : St} {H : Hp} {R : V → V → Hp → Prop} (I : Inv X pins σ H s)
    (h : ta σ H fun x H1 => tb σ H1 fun y H2 => R x y H2) {Q : Value → Shared → Prop} {f : Value → Value → Sem Value}
    (hf : ∀ v u s2 x y H2, Inv X pins σ H2 s2 → RelV x v → RelV y u → R x y H2 → wpAny (model X.prog X.w) X.A (f v u) Q X.xe s2) :
    wpAny (model X.prog X.w) X.A (eval a X.env) (fun v s₁ => wpAny (model X.prog X.w) X.A (eval b X.env) (fun u s₂ => wpAny (model X.prog X.w) X.A (f v u) Q X.xe s₂) X.xe s₁) X.xe s := by
  refine thn (ha pins s σ H _ I h) fun v s1 ⟨x, H1, I1, r1, q1⟩ => ?_
  refine thn (hb pins s1 σ H1 _ I1 q1) fun u s2 ⟨y, H2, I2, r2, q2⟩ => ?_
  exact hf v u s2 x y H2 I2 r1 r2 q2

theorem pe_op {op : Operator} {r : R2} (ho : OpR X (binaryOp op) r) (ha : PE X a ta) (hb : PE X b tb) : PE X (.BinOp a op b pos) (tOp r ta tb) := by
  intro pins s σ H Q I h
  exact wpAny_BinOp (binT ha hb I h fun v u s2 x y H2 I2 rx ry q => ho pins s2 σ H2 x y v u Q I2 rx ry q)
theorem pe_un {op : UnaryOp} {r : V → Hp → VK → Prop} (ho : UnR X (unaryOp op) r) (ha : PE X a ta) : PE X (.UnaryOp op a pos) (tUn r ta) := by
  intro pins s σ H Q I h
  exact UnaryOp_ (thn (ha pins s σ H _ I h) fun v s1 ⟨x, H1, I1, r1, q1⟩ => ho pins s1 σ H1 x v Q I1 r1 q1)
/-! ### ints -/
theorem opI {f : Value → Value → Sem Value} {C : Int → Int → Prop} {g : Int → Int → Int}
    (rule : ∀ (i j : Int) (t u : Tok) (s : Shared) (Q : Value → Shared → Prop) (E : Value → Shared → Prop), C i j → Q (.int (g i j) s.toks) { s with toks := s.toks + 1 } → wpAny (model X.prog X.w) X.A (f (.int i t) (.int j u)) Q E s) :
    OpR X f (rI C fun i j => .int (g i j)) := by
  intro pins s σ H x y v u Q I rx ry h
  obtain ⟨i, j, rfl, rfl, hc, q⟩ := h
  obtain ⟨t, rfl⟩ := rx
  obtain ⟨t', rfl⟩ := ry
  exact rule i j t t' s _ _ hc ⟨.int (g i j), H, I.tok _, ⟨_, rfl⟩, q⟩
theorem opI0 {f : Value → Value → Sem Value} {g : Int → Int → Int}
    (rule : ∀ (i j : Int) (t u : Tok) (s : Shared) (Q : Value → Shared → Prop) (E : Value → Shared → Prop), Q (.int (g i j) s.toks) { s with toks := s.toks + 1 } → wpAny (model X.prog X.w) X.A (f (.int i t) (.int j u)) Q E s) :
    OpR X f (rI0 fun i j => .int (g i j)) := by
  intro pins s σ H x y v u Q I rx ry h
  obtain ⟨i, j, rfl, rfl, q⟩ := h
  obtain ⟨t, rfl⟩ := rx
  obtain ⟨t', rfl⟩ := ry
  exact rule i j t t' s _ _ ⟨.int (g i j), H, I.tok _, ⟨_, rfl⟩, q⟩
theorem opB0 {f : Value → Value → Sem Value} {g : Int → Int → Bool}
    (rule : ∀ (i j : Int) (t u : Tok) (s : Shared) (Q : Value → Shared → Prop) (E : Value → Shared → Prop), Q (.bool (g i j)) s → wpAny (model X.prog X.w) X.A (f (.int i t) (.int j u)) Q E s) :
    OpR X f (rI0 fun i j => .bl (g i j)) := by
  intro pins s σ H x y v u Q I rx ry h
  obtain ⟨i, j, rfl, rfl, q⟩ := h
  obtain ⟨t, rfl⟩ := rx
  obtain ⟨t', rfl⟩ := ry
  exact rule i j t t' s _ _ ⟨.bl (g i j), H, I, rfl, q⟩

def CDiv (i j : Int) : Prop := 0 < j ∧ j < 1073741824
def CPow (i j : Int) : Prop := 0 ≤ j ∧ j ≤ 1000000 ∧ i.natAbs < 2 ^ 64
def CMul (i j : Int) : Prop := (-(2 ^ 64) < i ∧ i < 2 ^ 64) ∨ (-(2 ^ 64) < j ∧ j < 2 ^ 64)
theorem CMul.ok {i j : Int} (h : CMul i j) : IntMulOk i j := by
  rcases h with ⟨h1, h2⟩ | ⟨h1, h2⟩
  · exact .of_left (intBits_le_64 h1 h2)
  · exact .of_right (intBits_le_64 h1 h2)
theorem op_add : OpR X (binaryOp .Add) (rI0 fun i j => .int (i + j)) := opI0 fun _ _ _ _ _ _ _ q => add_int q
theorem op_sub : OpR X (binaryOp .Sub) (rI0 fun i j => .int (i - j)) := opI0 fun _ _ _ _ _ _ _ q => sub_int q
/-- // by a positive divisor -/
theorem op_fdiv : OpR X (binaryOp .FloorDiv) (rI CDiv fun i j => .int (i / j)) := opI fun i j _ _ _ _ _ hc q => by
  have h1 : (0 : Int) < j := hc.1
  have h2 : j < 1073741824 := hc.2
  exact floordiv_int (by omega) (by rw [Int.fdiv_eq_ediv_of_nonneg i (by omega)]; exact q) (.inl (PyProof.noPylong_small (by omega)))
/-- % by a positive divisor of any size -/
theorem op_mod : OpR X (binaryOp .Mod) (rI (fun _ j => 0 < j) fun i j => .int (i % j)) := opI fun i j _ _ _ _ _ hc q => by
  have h1 : (0 : Int) < j := hc
  exact mod_int' (by omega) (by rw [Int.fmod_eq_emod_of_nonneg i (by omega)]; exact q)
theorem op_pow : OpR X (binaryOp .Pow) (rI CPow fun i j => .int (i ^ j.toNat)) := opI fun _ _ _ _ _ _ _ hc q => pow_int_small hc.1 hc.2.1 hc.2.2 q
theorem unI {f : Value → Sem Value} {g : Int → Int}
    (rule : ∀ (i : Int) (t : Tok) (s : Shared) (Q : Value → Shared → Prop) (E : Value → Shared → Prop), Q (.int (g i) s.toks) { s with toks := s.toks + 1 } → wpAny (model X.prog X.w) X.A (f (.int i t)) Q E s) :
    UnR X f (rU fun i => .int (g i)) := by
  intro pins s σ H x v Q I rx h
  obtain ⟨i, rfl, q⟩ := h
  obtain ⟨t, rfl⟩ := rx
  exact rule i t s _ _ ⟨.int (g i), H, I.tok _, ⟨_, rfl⟩, q⟩
theorem un_neg : UnR X (unaryOp .USub) (rU fun i => .int (-i)) := unI fun _ _ _ _ _ q => neg_int q
/-! ### bools among ints: n += (a < b) -/
end

/-! ### comparisons -/
/-- the scalars that == tells apart as data does -/
def scal : V → V → Bool
  | .non, .non => true | .non, .int _ => true | .int _, .non => true | .non, .bl _ => true | .bl _, .non => true | .non, .str _ => true | .str _, .non => true
  | .int _, .int _ => true | .bl _, .bl _ => true | .str _, .str _ => true | .byt _, .byt _ => true
  | .int _, .str _ => true | .str _, .int _ => true | .bl _, .str _ => true | .str _, .bl _ => true
  | _, _ => false
def rEq : R2 := fun x y H Q => scal x y = true ∧ Q (.bl (decide (x = y))) H
def rNe : R2 := fun x y H Q => scal x y = true ∧ Q (.bl (!decide (x = y))) H

theorem dec_int {i j : Int} : decide (V.int i = V.int j) = (i == j) := by
  rw [Bool.eq_iff_iff]
  simp
theorem dec_bl {i j : Bool} : decide (V.bl i = V.bl j) = (i == j) := by
  rw [Bool.eq_iff_iff]
  simp
theorem dec_str {i j : Str} : decide (V.str i = V.str j) = (i == j) := by
  rw [Bool.eq_iff_iff]
  simp
theorem dec_byt {i j : Array UInt8} : decide (V.byt i = V.byt j) = (i.toList == j.toList) := by
  rw [Bool.eq_iff_iff]
  cases i
  cases j
  simp

section
variable {X : Cx} {a b c : Expr} {ta tb tc : TE} {pos : Pos}
theorem fin_bl {pins : List (Addr × Obj)} {σ : St} {H : Hp} {s : Shared} {Q : VK} {k k' : Bool} (I : Inv X pins σ H s) (q : Q (.bl k) H) (e : k = k') : EP X pins σ Q (.bool k') s := by
  subst e
  exact ⟨.bl k, H, I, rfl, q⟩
theorem op_eq : OpR X (compareOp .Eq) rEq := by
  intro pins s σ H x y v u Q I rx ry h
  obtain ⟨hs, q⟩ := h
  cases x with
  | non =>
    cases rx
    cases y with
    | non => cases ry; exact PySem.EqNone.eq_none_none (fin_bl I q (by simp))
    | bl j => cases ry; exact PySem.EqNone.eq_none_bool (fin_bl I q (by simp))
    | int j => obtain ⟨t', rfl⟩ := ry; exact PySem.EqNone.eq_none_int (fin_bl I q (by simp))
    | str j => obtain ⟨t', rfl⟩ := ry; exact PySem.EqNone.eq_none_str (fin_bl I q (by simp))
    | _ => exact absurd (show false = true from hs) Bool.false_ne_true
  | bl i =>
    cases rx
    cases y with
    | non => cases ry; exact PySem.EqNone.eq_bool_none (fin_bl I q (by simp))
    | bl j => cases ry; exact eq_bool (fin_bl I q dec_bl)
    | str j => obtain ⟨t', rfl⟩ := ry; exact PySem.EqMixed.eq_bool_str (fin_bl I q (by simp))
    | _ => exact absurd (show false = true from hs) Bool.false_ne_true
  | int i =>
    obtain ⟨t, rfl⟩ := rx
    cases y with
    | non => cases ry; exact PySem.EqNone.eq_int_none (fin_bl I q (by simp))
    | int j => obtain ⟨t', rfl⟩ := ry; exact eq_int (fin_bl I q dec_int)
    | str j => obtain ⟨t', rfl⟩ := ry; exact PySem.EqMixed.eq_int_str (fin_bl I q (by simp))
    | _ => exact absurd (show false = true from hs) Bool.false_ne_true
  | str i =>
    obtain ⟨t, rfl⟩ := rx
    cases y with
    | non => cases ry; exact PySem.EqNone.eq_str_none (fin_bl I q (by simp))
    | bl j => cases ry; exact PySem.EqMixed.eq_str_bool (fin_bl I q (by simp))
    | int j => obtain ⟨t', rfl⟩ := ry; exact PySem.EqMixed.eq_str_int (fin_bl I q (by simp))
    | str j => obtain ⟨t', rfl⟩ := ry; exact eq_str (fin_bl I q dec_str)
    | _ => exact absurd (show false = true from hs) Bool.false_ne_true
  | byt i =>
    obtain ⟨t, rfl⟩ := rx
    cases y with
    | byt j => obtain ⟨t', rfl⟩ := ry; exact PySem.W.eq_bytes (fin_bl I q dec_byt)
    | _ => exact absurd (show false = true from hs) Bool.false_ne_true
  | _ => cases y <;> exact absurd (show false = true from hs) Bool.false_ne_true
theorem op_ne : OpR X (compareOp .NotEq) rNe := by
  intro pins s σ H x y v u Q I rx ry h
  obtain ⟨hs, q⟩ := h
  cases x with
  | non =>
    cases rx
    cases y with
    | non => cases ry; exact PySem.EqNone.ne_none_none (fin_bl I q (by simp))
    | bl j => cases ry; exact PySem.EqNone.ne_none_bool (fin_bl I q (by simp))
    | int j => obtain ⟨t', rfl⟩ := ry; exact PySem.EqNone.ne_none_int (fin_bl I q (by simp))
    | str j => obtain ⟨t', rfl⟩ := ry; exact PySem.EqNone.ne_none_str (fin_bl I q (by simp))
    | _ => exact absurd (show false = true from hs) Bool.false_ne_true
  | bl i =>
    cases rx
    cases y with
    | non => cases ry; exact PySem.EqNone.ne_bool_none (fin_bl I q (by simp))
    | bl j => cases ry; exact ne_bool (fin_bl I q (congrArg not dec_bl))
    | str j => obtain ⟨t', rfl⟩ := ry; exact PySem.EqMixed.ne_bool_str (fin_bl I q (by simp))
    | _ => exact absurd (show false = true from hs) Bool.false_ne_true
  | int i =>
    obtain ⟨t, rfl⟩ := rx
    cases y with
    | non => cases ry; exact PySem.EqNone.ne_int_none (fin_bl I q (by simp))
    | int j => obtain ⟨t', rfl⟩ := ry; exact ne_int (fin_bl I q (congrArg not dec_int))
    | str j => obtain ⟨t', rfl⟩ := ry; exact PySem.EqMixed.ne_int_str (fin_bl I q (by simp))
    | _ => exact absurd (show false = true from hs) Bool.false_ne_true
  | str i =>
    obtain ⟨t, rfl⟩ := rx
    cases y with
    | non => cases ry; exact PySem.EqNone.ne_str_none (fin_bl I q (by simp))
    | bl j => cases ry; exact PySem.EqMixed.ne_str_bool (fin_bl I q (by simp))
    | int j => obtain ⟨t', rfl⟩ := ry; exact PySem.EqMixed.ne_str_int (fin_bl I q (by simp))
    | str j => obtain ⟨t', rfl⟩ := ry; exact ne_str (fin_bl I q (congrArg not dec_str))
    | _ => exact absurd (show false = true from hs) Bool.false_ne_true
  | byt i =>
    obtain ⟨t, rfl⟩ := rx
    cases y with
    | byt j => obtain ⟨t', rfl⟩ := ry; exact PySem.W.ne_bytes (fin_bl I q (congrArg not dec_byt))
    | _ => exact absurd (show false = true from hs) Bool.false_ne_true
  | _ => cases y <;> exact absurd (show false = true from hs) Bool.false_ne_true

theorem op_lt : OpR X (compareOp .Lt) (rI0 fun i j => .bl (decide (i < j))) := opB0 fun _ _ _ _ _ _ _ q => lt_int q
theorem op_le : OpR X (compareOp .LtE) (rI0 fun i j => .bl (decide (i ≤ j))) := opB0 fun _ _ _ _ _ _ _ q => le_int q
theorem op_gt : OpR X (compareOp .Gt) (rI0 fun i j => .bl (decide (j < i))) := opB0 fun _ _ _ _ _ _ _ q => gt_int q
/-- the one string within the other -/
theorem op_in_str : OpR X (compareOp .In) (fun x y H Q => ∃ i j, x = .str i ∧ y = .str j ∧ Q (.bl (!(Builtin.Str.occurrences j i 0 j.length 1).isEmpty)) H) := by
  intro pins s σ H x y v u Q I rx ry h
  obtain ⟨i, j, rfl, rfl, q⟩ := h
  obtain ⟨t, rfl⟩ := rx
  obtain ⟨t', rfl⟩ := ry
  exact in_str (fin_bl I q rfl)

/-- is None, is not None: the right side a value none -/
theorem op_isN : OpR X (compareOp .Is) (fun x y H Q => y = .non ∧ Q (.bl (decide (x = .non))) H) := by
  intro pins s σ H x y v u Q I rx ry h
  obtain ⟨rfl, q⟩ := h
  cases ry
  refine is_none_gen (fin_bl I q ?_)
  cases x <;> first
    | (cases rx; rfl)
    | (obtain ⟨t, rfl⟩ := rx; rfl)
theorem op_notN : OpR X (compareOp .IsNot) (fun x y H Q => y = .non ∧ Q (.bl (!decide (x = .non))) H) := by
  intro pins s σ H x y v u Q I rx ry h
  obtain ⟨rfl, q⟩ := h
  cases ry
  refine isnot_none_gen (fin_bl I q ?_)
  cases x <;> first
    | (cases rx; rfl)
    | (obtain ⟨t, rfl⟩ := rx; rfl)

/-- two rules for one operation: by cases -/
theorem OpR.or {f : Value → Value → Sem Value} {r r' : R2} (h : OpR X f r) (h' : OpR X f r') : OpR X f (fun x y H Q => r x y H Q ∨ r' x y H Q) := by
  intro pins s σ H x y v u Q I rx ry q
  rcases q with q | q
  · exact h pins s σ H x y v u Q I rx ry q
  · exact h' pins s σ H x y v u Q I rx ry q

theorem nomark (b : Expr) {op : CmpOp} (h : op ≠ .In := by decide) (h2 : op ≠ .NotIn := by decide) : behindInMarks op b = false := by
  have e1 : (op == CmpOp.In) = false := by cases op <;> first | rfl | exact absurd rfl h
  have e2 : (op == CmpOp.NotIn) = false := by cases op <;> first | rfl | exact absurd rfl h2
  cases b <;> simp [behindInMarks, e1, e2]
/-- a comparison as a value; hm: nomark b, or (for in, not in) by with_unfolding_all rfl -/
theorem pe_cmpR {op : CmpOp} {r : R2} (ho : OpR X (compareOp op) r) (ha : PE X a ta) (hb : PE X b tb) (hm : behindInMarks op b = false) : PE X (.Compare a [op] [b] pos) (tOp r ta tb) := by
  intro pins s σ H Q I h
  exact wpAny_Compare1 (binT ha hb I h fun v u s2 x y H2 I2 rx ry q => ho pins s2 σ H2 x y v u Q I2 rx ry q) hm
/-- a reading of a value as a test -/
def tTest (t : TE) : TT := fun σ H Q => t σ H fun x H' => ∃ k, x = .bl k ∧ Q k H'
theorem pt_cmpR {op : CmpOp} {r : R2} (ho : OpR X (compareOp op) r) (ha : PE X a ta) (hb : PE X b tb) (hm : behindInMarks op b = false) : PT X (.Compare a [op] [b] pos) (tTest (tOp r ta tb)) := by
  intro pins s σ H Q I h
  refine wpAny_isTrue_Compare1 (thn (ha pins s σ H _ I h) fun v s1 ⟨x, H1, I1, r1, q1⟩ => thn (hb pins s1 σ H1 _ I1 q1) fun u s2 ⟨y, H2, I2, r2, q2⟩ =>
    thn (ho pins s2 σ H2 x y v u _ I2 r1 r2 q2) fun c s3 ⟨z, H3, I3, r3, k, e, q3⟩ => ?_) hm
  subst e
  cases r3
  exact wpAny_truthy_bool ⟨H3, I3, q3⟩
/-- a op1 b op2 c -/
def tChain (r r' : R2) (ta tb tc : TE) : TE := fun σ H Q => ta σ H fun x H1 => tb σ H1 fun y H2 => r x y H2 fun z H3 => ∃ k, z = .bl k ∧
  (if k = true then tc σ H3 fun w' H4 => r' y w' H4 Q else Q (.bl false) H3)
theorem pe_chain {op op' : CmpOp} {r r' : R2} (ho : OpR X (compareOp op) r) (ho' : OpR X (compareOp op') r') (ha : PE X a ta) (hb : PE X b tb) (hc : PE X c tc)
    (hm : lastMarks [op, op'] [b, c] = false := by with_unfolding_all rfl) : PE X (.Compare a [op, op'] [b, c] pos) (tChain r r' ta tb tc) := by
  intro pins s σ H Q I h
  refine Compare_chain (thn (ha pins s σ H _ I h) fun v s1 ⟨x, H1, I1, r1, q1⟩ => chain_link (thn (hb pins s1 σ H1 _ I1 q1) fun u s2 ⟨y, H2, I2, r2, q2⟩ =>
    thn (ho pins s2 σ H2 x y v u _ I2 r1 r2 q2) fun d s3 ⟨z, H3, I3, r3, k, e, q3⟩ => ?_)) hm
  subst e
  cases r3
  refine wpAny_truthy_bool ?_
  cases k with
  | false => exact ite_ff ⟨.bl false, H3, I3, rfl, q3⟩
  | true => exact ite_tt (chain_last (thn (hc pins s3 σ H3 _ I3 q3) fun w' s4 ⟨z', H4, I4, r4, q4⟩ => ho' pins s4 σ H4 y z' u w' Q I4 r2 r4 q4))
/-! ### truth -/
theorem line63 : (sizeLine : Nat) < 2 ^ 63 := by rw [sizeLine_eq]; decide
/-! ### strs and bytes -/
theorem op_add_str : OpR X (binaryOp .Add) (fun x y H Q => ∃ i j, x = .str i ∧ y = .str j ∧ i.length + j.length ≤ sizeLine ∧ Q (.str (i ++ j)) H) := by
  intro pins s σ H x y v u Q I rx ry h
  obtain ⟨i, j, rfl, rfl, hz, q⟩ := h
  obtain ⟨t, rfl⟩ := rx
  obtain ⟨t', rfl⟩ := ry
  exact add_str (fun t' tk => ⟨.str (i ++ j), H, I.tok _, ⟨_, rfl⟩, q⟩) hz
/-! ### scalar builtins, by CallR -/
theorem vals1 {x : V} {us : List Value} (r : Vals [x] us) : ∃ u, us = [u] ∧ RelV x u := by
  cases r with
  | cons r1 r2 => cases r2; exact ⟨_, rfl, r1⟩
theorem vals2 {x y : V} {us : List Value} (r : Vals [x, y] us) : ∃ u w', us = [u, w'] ∧ RelV x u ∧ RelV y w' := by
  cases r with
  | cons r1 r2 =>
    cases r2 with
    | cons r3 r4 => cases r4; exact ⟨_, _, rfl, r1, r3⟩
theorem call_int1 : CallR X (.type "int") (fun xs H Q => (∃ i, xs = [.int i] ∧ Q (.int i) H) ∨ ∃ k, xs = [.bl k] ∧ Q (.int (if k then 1 else 0)) H) := by
  intro pins s σ H xs us Q I r h
  rcases h with ⟨i, rfl, q⟩ | ⟨k, rfl, q⟩
  · obtain ⟨u, rfl, t, rfl⟩ := vals1 r
    exact call_int_int ⟨.int i, H, I, ⟨_, rfl⟩, q⟩
  · obtain ⟨u, rfl, r1⟩ := vals1 r
    cases r1
    exact call_int_bool ⟨.int (if k then 1 else 0), H, I.tok _, ⟨_, rfl⟩, q⟩
theorem call_str_int : CallR X (.type "str") (fun xs H Q => ∃ i, xs = [.int i] ∧ i.natAbs.log2 < 1920 ∧ Q (.str (toString i)) H) := by
  intro pins s σ H xs us Q I r h
  obtain ⟨i, rfl, hz, q⟩ := h
  obtain ⟨u, rfl, t, rfl⟩ := vals1 r
  exact PySem.P.str_of_int hz ⟨.str _, H, I.tok _, ⟨_, rfl⟩, q⟩
end
end L2

namespace L2
open PySem PySem.Spec PyProof.Rows

/-! ### an instance, its attributes a map -/
structure ObjM (h : Heap) (x dx C : Addr) (mA : Str → Option Value) : Prop where
  obj : h.get? x = some (PySem.W.instObj C dx)
  ns : h.Ns1 dx mA
  ne : dx ≠ x

theorem lookIn_ns {h : Heap} {dx : Addr} {mA : Str → Option Value} (n : h.Ns1 dx mA) : ∃ od, h.get? dx = some od ∧ ∀ name, PySem.W.lookIn name od = some (mA name) := by
  obtain ⟨o, es, ep, ho, hd, hk, _, hm⟩ := n
  refine ⟨o, ho, fun name => ?_⟩
  have e := hm name
  unfold nsFind findBy at e
  rw [← Array.find?_toList] at e
  unfold PySem.W.lookIn
  rw [hd]
  dsimp only
  split
  · rename_i y q
    rw [q] at e
    exact congrArg some e
  · rename_i q
    rw [q] at e
    have a : es.toList.any (·.refKey) = false := by
      rw [List.any_eq_false]
      intro y hy
      obtain ⟨z, t, hkey⟩ := hk y (Array.mem_toList_iff.mp hy)
      simp [DictEntry.refKey, hkey]
    have a' : ¬ es.toList.any (·.refKey) = true := by rw [a]; exact Bool.false_ne_true
    rw [if_neg a']
    exact congrArg some e

theorem ObjM.look {h : Heap} {x dx C : Addr} {mA : Str → Option Value} (I : ObjM h x dx C mA) : ∃ od, PySem.W.InstAt h x (PySem.W.instObj C dx) C (some od) ∧ ∀ name, PySem.W.lookIn name od = some (mA name) :=
  let ⟨od, ho, hl⟩ := lookIn_ns I.ns
  ⟨od, ⟨I.obj, rfl, rfl, ho⟩, hl⟩

section
variable {prog : Program} {w : World} {A : Around} {E : Value → Shared → Prop} {s : Shared} {K : PySem.W.Frag} {x dx C f : Addr} {mA : Str → Option Value} {name : Str} {v : Value}

theorem get_map {expr : Bool} {Q : Value → Shared → Prop} (X : K.In s.heap) (I : ObjM s.heap x dx C mA) (hg : PySem.W.plainGet K C name = true) (hh : PySem.W.hasDictIn K C = true)
    (ha : PySem.W.findIn K (.ref C) name = some none) (hv : mA name = some v) (hv' : PySem.W.handedIn v = true) (h : Q v { s with toks := s.toks + 1 }) :
    wpAny (model prog w) A (getAttr (.ref x) name expr) Q E s := by
  obtain ⟨od, J, hl⟩ := I.look
  exact PySem.W.get_value X J (PySem.W.plainGet_of hg).1 (PySem.W.findObj_own hh ha rfl (by rw [hl, hv])) hv' h

theorem get_meth {pl : Sem Bool} {Q : Value × List Value → Shared → Prop} (X : K.In s.heap) (I : ObjM s.heap x dx C mA) (hg : PySem.W.plainGet K C name = true)
    (hf : PySem.W.findIn K (.ref C) name = some (some (.ref f))) (ht : PySem.W.isFn K (.ref f) = true) (hv : mA name = none) (h : Q (.ref f, [.ref x]) s) :
    wpAny (model prog w) A (getMethod (.ref x) name pl) Q E s := by
  obtain ⟨od, J, hl⟩ := I.look
  exact PySem.W.method_fn X J (PySem.W.plainGet_of hg).1 (PySem.W.plainGet_of hg).2 hf (beq_iff_eq.mp ht) (by show (PySem.W.lookIn name od).map (·.isSome) = some false; rw [hl, hv]; rfl) h

theorem set_map {ns : List Str} {Q : Unit → Shared → Prop} (X : K.In s.heap) (I : ObjM s.heap x dx C mA)
    (hs : PySem.W.findIn K (.ref C) "__setattr__" = some (some (.builtin "object.__setattr__"))) (hp : PySem.W.plainOver K C = true) (ht : PySem.W.takerIn K C name = some none) (hh : PySem.W.hasDictIn K C = true)
    (hw : PySem.Within mA ns) (hsz : ns.length ≤ sizeLine)
    (h : ∀ h', ObjM h' x dx C (fun y => if y = name then some v else mA y) → Heap.SameBut dx s.heap h' → Q () { s with heap := h', toks := s.toks + 2 }) :
    wpAny (model prog w) A (setAttr (.ref x) name v) Q E s := by
  obtain ⟨od, J, hl⟩ := I.look
  refine PySem.W.set_plain X J hs (PySem.W.osa_open (s := { s with toks := s.toks + 1 }) (r := none) X J hp ht fun b => ?_)
  obtain ⟨cd, hc, hd'⟩ := PySem.W.any_some hh
  have hx : s.heap.get? x = some ⟨.ref C, some dx, .plain, #[]⟩ := I.obj
  refine wpAny_bind (wpAny_pure (wpAny_bind (wpAny_bind (wpAny_loadPart hx (wpAny_bind (PySem.W.Looks.here (s := { s with toks := s.toks + 1 }) (PySem.W.looks_clsIn X hc) ?_))))))
  rw [hd']
  refine wpAny_pure (a := some dx) (wpAny_bind (wpAny_pure (wpAny_bind ?_)))
  refine wpAny_nsSet1 (s := { s with toks := s.toks + 1 }) I.ns fun h' hn2 hs2 => ?_
  obtain ⟨oD, esD, epD, hoD, hdD, hcD⟩ := hn2.count (PySem.Within.cons name v hw)
  refine wpAny_bind (wpAny_lookBehind hoD (by rw [hdD]; exact pastItsLine_dict (Nat.le_trans hcD (by rw [List.length_cons]; omega))) ?_)
  exact wpAny_pure (h _ ⟨(hs2.2 _ (Ne.symm I.ne)).trans I.obj, hn2, I.ne⟩ hs2)

/-- C(..): the dict at the heap's end, the instance behind it; then its __init__ -/
theorem make_map {R : Result → Shared → Prop} {vs : List Value} {kw : List (Str × Value)} (X : K.In s.heap) (hm : PySem.W.makesIn K C = true)
    (hi : PySem.W.findIn K (.ref C) "__init__" = some (some (.ref f))) (hf : PySem.W.typeIn K (.ref f) = some (.type "function"))
    (h : codeAny (model prog w) (A.under (.builtin "type.__call__" ⟨.ref C :: vs, kw⟩)) (.call (.ref f) ⟨.ref (s.heap.objs.size + 1) :: vs, kw⟩) (PySem.W.InitBack (s.heap.objs.size + 1) R)
      { s with heap := (s.heap.push PySem.W.emptyDict).push (PySem.W.instObj C s.heap.objs.size) }) :
    codeAny (model prog w) A (.call (.ref C) ⟨vs, kw⟩) R s := by
  obtain ⟨hh, g, d, t, os⟩ := s
  exact PySem.W.make_core (PySem.W.makes_of X hm) (PySem.W.looks_findIn X hi) (fun self => PySem.W.bind_fn X self hf) (.inl rfl) h
end

/-! ### the attributes as a list of pairs -/
def putF (f : Str) (v : V) : List (Str × V) → List (Str × V)
  | [] => [(f, v)]
  | (g, x) :: r => if g = f then (g, v) :: r else (g, x) :: putF f v r
theorem lookup_putF (f g : Str) (v : V) : ∀ fs : List (Str × V), (putF f v fs).lookup g = if g = f then some v else fs.lookup g
  | [] => by
    show List.lookup g [(f, v)] = _
    by_cases h : g = f
    · have hb : (g == f) = true := beq_iff_eq.mpr h
      simp only [List.lookup, hb, if_pos h]
    · have hb : (g == f) = false := beq_eq_false_iff_ne.mpr h
      simp only [List.lookup, hb, if_neg h]
  | (k, x) :: r => by
    have ih := lookup_putF f g v r
    rw [show putF f v ((k, x) :: r) = (if k = f then (k, v) :: r else (k, x) :: putF f v r) from rfl]
    by_cases hk : k = f
    · rw [if_pos hk]
      by_cases h : g = k
      · have hb : (g == k) = true := beq_iff_eq.mpr h
        simp only [List.lookup, hb, if_pos (h.trans hk)]
      · have hb : (g == k) = false := beq_eq_false_iff_ne.mpr h
        simp only [List.lookup, hb, if_neg (fun e : g = f => h (e.trans hk.symm))]
    · rw [if_neg hk]
      by_cases h : g = k
      · have hb : (g == k) = true := beq_iff_eq.mpr h
        simp only [List.lookup, hb, if_neg (fun e : g = f => hk (h.symm.trans e))]
      · have hb : (g == k) = false := beq_eq_false_iff_ne.mpr h
        simp only [List.lookup, hb]
        exact ih
theorem keys_putF (f : Str) (v : V) : ∀ fs : List (Str × V), f ∈ (putF f v fs).map (·.1) ∧ ∀ g, g ∈ fs.map (·.1) → g ∈ (putF f v fs).map (·.1)
  | [] => ⟨by simp [putF], fun g h => by simp at h⟩
  | (k, x) :: r => by
    obtain ⟨i1, i2⟩ := keys_putF f v r
    rw [show putF f v ((k, x) :: r) = (if k = f then (k, v) :: r else (k, x) :: putF f v r) from rfl]
    by_cases hk : k = f
    · rw [if_pos hk]
      subst hk
      exact ⟨by simp, fun g h => by simpa using h⟩
    · rw [if_neg hk]
      refine ⟨?_, fun g h => ?_⟩
      · rw [List.map_cons]
        exact List.mem_cons_of_mem _ i1
      · rw [List.map_cons] at h ⊢
        rcases List.mem_cons.mp h with e | e
        · exact List.mem_cons.mpr (.inl e)
        · exact List.mem_cons_of_mem _ (i2 g e)
theorem length_putF (f : Str) (v : V) : ∀ fs : List (Str × V), (putF f v fs).length ≤ fs.length + 1
  | [] => by simp [putF]
  | (k, x) :: r => by
    have ih := length_putF f v r
    rw [show putF f v ((k, x) :: r) = (if k = f then (k, v) :: r else (k, x) :: putF f v r) from rfl]
    by_cases hk : k = f
    · rw [if_pos hk, List.length_cons, List.length_cons]; omega
    · rw [if_neg hk, List.length_cons, List.length_cons]; omega

theorem RelO.some_of {v : V} {o : Option Value} (r : RelO (some v) o) : ∃ u, o = some u ∧ RelV v u := by
  cases o with
  | none => exact (show False from r).elim
  | some u => exact ⟨u, rfl, r⟩
theorem RelO.none_of {o : Option Value} (r : RelO none o) : o = none := by
  cases o with
  | none => rfl
  | some u => exact (show False from r).elim
theorem handed_of {v : V} {u : Value} (r : RelV v u) : PySem.W.handedIn u = true := by
  cases v with
  | non => cases (show u = Value.none from r); rfl
  | bl b => cases (show u = Value.bool b from r); rfl
  | int i => obtain ⟨t, e⟩ := (show ∃ t, u = Value.int i t from r); cases e; rfl
  | str x => obtain ⟨t, e⟩ := (show ∃ t, u = Value.str x t from r); cases e; rfl
  | byt b => obtain ⟨t, e⟩ := (show ∃ t, u = Value.bytes b t from r); cases e; rfl
  | flt b => obtain ⟨t, e⟩ := (show ∃ t, u = Value.float b t from r); cases e; rfl
  | ref a => cases (show u = Value.ref a from r); rfl
  | ty n => cases (show u = Value.type n from r); rfl

section
variable {P : Program} {w : World} {H H' : Hp} {h h' : Heap} {a C dx : Addr} {fs fs' : List (Str × V)}
theorem ins_get (hok : HOk P w H h) (e : H a = some (.ins C dx fs)) : ∃ mA, ObjM h a dx C mA ∧ (∀ f, RelO (fs.lookup f) (mA f)) ∧ PySem.Within mA (fs.map (·.1)) ∧ fs.length ≤ 1000 ∧ H dx = some (.own a) := by
  obtain ⟨d, z, ne, ob, mA, n, r, q⟩ := (show ObjOk P w H h a (.ins C dx fs) from hok a _ e)
  exact ⟨mA, ⟨ob, n, ne⟩, r, q, z, d⟩
end

/-! ### what of the text a class must have -/
structure Cls (K : PySem.W.Frag) (C : Addr) : Prop where
  pg : PySem.W.plainGet K C Str.empty = true
  hd : PySem.W.hasDictIn K C = true
  po : PySem.W.plainOver K C = true
  sa : PySem.W.findIn K (.ref C) "__setattr__" = some (some (.builtin "object.__setattr__"))
theorem Cls.get {K : PySem.W.Frag} {C : Addr} (c : Cls K C) (f : Str) : PySem.W.plainGet K C f = true := c.pg
/-- no class of it has the name -/
def NoAttr (K : PySem.W.Frag) (C : Addr) (f : Str) : Prop := PySem.W.findIn K (.ref C) f = some none
theorem NoAttr.taker {K : PySem.W.Frag} {C : Addr} {f : Str} (n : NoAttr K C f) : PySem.W.takerIn K C f = some none := by
  unfold PySem.W.takerIn
  rw [show PySem.W.findIn K (.ref C) f = some none from n]
  rfl
/-- a constant of the class -/
structure Con (K : PySem.W.Frag) (C : Addr) (f : Str) (v : V) (u : Value) : Prop where
  at_ : PySem.W.findIn K (.ref C) f = some (some u)
  rel : RelV v u
  get : PySem.W.specialIn K u "__get__" = some none
  cp : PySem.W.copiedNames.contains f = false
/-- a method: a plain def of the class or of one above it -/
structure Meth (K : PySem.W.Frag) (C : Addr) (m : Str) (f : Addr) : Prop where
  at_ : PySem.W.findIn K (.ref C) m = some (some (.ref f))
  fn : PySem.W.isFn K (.ref f) = true
  kp : PySem.W.keepIn K (.ref f) = true

section
variable {X : Cx} {pins : List (Addr × Obj)} {σ : St} {H : Hp} {s : Shared} {a C dx : Addr} {fs : List (Str × V)} {f : Str} {v : V} {A : Around} {E : Value → Shared → Prop}

theorem getattr_ok {b : Bool} {Q : Value → Shared → Prop} (I : Inv X pins σ H s) (e : H a = some (.ins C dx fs)) (c : Cls X.K C) (n : NoAttr X.K C f) (l : fs.lookup f = some v)
    (h : ∀ u s', Inv X pins σ H s' → RelV v u → Q u s') : wpAny (model X.prog X.w) A (getAttr (.ref a) f b) Q E s := by
  obtain ⟨mA, O, r, _, _, _⟩ := ins_get I.hok e
  obtain ⟨u, hu, ru⟩ := RelO.some_of (v := v) (o := mA f) (by rw [← l]; exact r f)
  exact get_map I.kIn O (c.get f) c.hd n hu (handed_of ru) (h u _ (I.tok _) ru)

theorem getmeth_ok {m : Str} {g : Addr} {pl : Sem Bool} {Q : Value × List Value → Shared → Prop} (I : Inv X pins σ H s) (e : H a = some (.ins C dx fs)) (c : Cls X.K C) (k : Meth X.K C m g) (l : fs.lookup m = none)
    (h : Q (.ref g, [.ref a]) s) : wpAny (model X.prog X.w) A (getMethod (.ref a) m pl) Q E s := by
  obtain ⟨mA, O, r, _, _, _⟩ := ins_get I.hok e
  have hn : mA m = none := RelO.none_of (by rw [← l]; exact r m)
  exact get_meth I.kIn O (c.get m) k.at_ k.fn hn h

theorem setattr_ok {y : V} {u : Value} {Q : Unit → Shared → Prop} (I : Inv X pins σ H s) (e : H a = some (.ins C dx fs)) (c : Cls X.K C) (n : NoAttr X.K C f) (hl : fs.length < 1000) (ry : RelV y u)
    (h : ∀ s', Inv X pins σ (upd H a (.ins C dx (putF f y fs))) s' → Q () s') : wpAny (model X.prog X.w) A (setAttr (.ref a) f u) Q E s := by
  obtain ⟨mA, O, r, wi, _, ho⟩ := ins_get I.hok e
  have hz : (fs.map (·.1)).length ≤ sizeLine := by rw [List.length_map, sizeLine_eq]; omega
  refine set_map I.kIn O c.sa c.po n.taker c.hd wi hz fun h' O' sb => h _ ?_
  have hd : ∃ o, h'.get? dx = some o := let ⟨o, _, _, e', _⟩ := O'.ns; ⟨o, e'⟩
  refine I.write (x := a) (e := dx) (by rw [e]; exact True.intro) (.inr ho) (fun b q hb z => (sb.2 b hb).trans z) hd ?_
  refine ⟨by rw [upd_ne O.ne]; exact ho, ?_, O.ne, O'.obj, _, O'.ns, fun g => ?_, fun g hg => ?_⟩
  · have := length_putF f y fs; omega
  · show RelO ((putF f y fs).lookup g) (if g = f then some u else mA g)
    rw [lookup_putF]
    by_cases q : g = f
    · rw [if_pos q, if_pos q]; exact ry
    · rw [if_neg q, if_neg q]; exact r g
  · by_cases q : g = f
    · rw [q]; exact (keys_putF f y fs).1
    · refine (keys_putF f y fs).2 g (wi g fun z => hg ?_)
      show (if g = f then some u else mA g) = none
      rw [if_neg q]; exact z

/-- a new instance, tracked, without attributes -/
theorem Inv.made (I : Inv X pins σ H s) : Inv X pins σ (upd (upd H s.heap.objs.size (.own (s.heap.objs.size + 1))) (s.heap.objs.size + 1) (.ins C s.heap.objs.size []))
    { s with heap := (s.heap.push PySem.W.emptyDict).push (PySem.W.instObj C s.heap.objs.size) } := by
  have e1 : (s.heap.push PySem.W.emptyDict).get? s.heap.objs.size = some PySem.W.emptyDict := Heap.get?_push_size s.heap rfl
  have e2 : ((s.heap.push PySem.W.emptyDict).push (PySem.W.instObj C s.heap.objs.size)).get? (s.heap.objs.size + 1) = some (PySem.W.instObj C s.heap.objs.size) := by
    have := Heap.get?_push_size (s.heap.push PySem.W.emptyDict) (o := PySem.W.instObj C s.heap.objs.size) rfl
    rwa [Heap.size_push] at this
  have e3 : (s.heap.push PySem.W.emptyDict).Ns s.heap.objs.size (fun _ => none) := ⟨PySem.W.emptyDict, #[], _, e1, rfl, (fun e he => absurd he (by simp)), fun _ => rfl⟩
  have I1 := I.laid (a := s.heap.objs.size) (o := .own (s.heap.objs.size + 1)) (h' := s.heap.push PySem.W.emptyDict) (t' := s.toks) (fun b u q => Heap.get?_push_of_some _ q) (Nat.le_refl _) ⟨_, e1⟩
  refine I1.laid (a := s.heap.objs.size + 1) (o := .ins C s.heap.objs.size []) (t' := s.toks) (fun b u q => Heap.get?_push_of_some _ q) (Nat.le_of_eq (Heap.size_push _ _)) ?_
  have ne : s.heap.objs.size ≠ s.heap.objs.size + 1 := Nat.ne_of_lt (Nat.lt_succ_self _)
  refine ⟨by rw [upd_ne ne, upd_same], Nat.zero_le _, ne, e2, fun _ => none, (Heap.Ns1.of_empty e3).at fun o q => Heap.get?_push_of_some _ q, fun _ => True.intro, fun y hy => absurd rfl hy⟩

/-- e.f where nothing but the object is asked: through attributeBase (super) and the last hold -/
theorem attr_of {prog : Program} {w : World} {env : Env} {e : Expr} {f : Str} {pos : Pos} {s : Shared} {Q : Value → Shared → Prop} (hb : attributeBase e f env (eval e env) = eval e env)
    (h : wpAny (model prog w) A (eval e env) (fun o s₁ => wpAny (model prog w) A (getAttr o f true) Q E s₁) E s) : wpAny (model prog w) A (eval (.Attribute e f pos) env) Q E s :=
  Attribute_any_ h (by rw [arm_eval_Attribute, hb])
end

/-! ### readings and rules -/
/-- e.f, an attribute of the instance -/
def tFld (K : PySem.W.Frag) (ta : TE) (f : Str) : TE := fun σ H Q => ta σ H fun x H1 => ∃ a C dx fs v, x = .ref a ∧ H1 a = some (.ins C dx fs) ∧ Cls K C ∧ NoAttr K C f ∧ fs.lookup f = some v ∧ Q v H1
/-- e.f = value -/
def sFld (K : PySem.W.Frag) (ta tv : TE) (f : Str) : TS := fun D σ H => tv σ H fun y H1 => ta σ H1 fun x H2 => ∃ a C dx fs, x = .ref a ∧ H2 a = some (.ins C dx fs) ∧ Cls K C ∧ NoAttr K C f ∧ fs.length < 1000 ∧
  D.nx σ (upd H2 a (.ins C dx (putF f y fs)))
/-- an augmented operator on two values -/
def InOp (X : Cx) (op : Operator) (rd : V → V → Hp → VK → Prop) : Prop :=
  ∀ (pins : List (Addr × Obj)) (s : Shared) (σ : St) (H : Hp) (x y : V) (u v : Value) (Q : VK), Inv X pins σ H s → RelV x u → RelV y v → rd x y H Q → wpAny (model X.prog X.w) X.A (inplaceOp op u v) (EP X pins σ Q) X.xe s
/-- e.f op= value -/
def sFldAug (K : PySem.W.Frag) (ta tv : TE) (rd : V → V → Hp → VK → Prop) (f : Str) : TS := fun D σ H => ta σ H fun x H1 => ∃ a C dx fs v, x = .ref a ∧ H1 a = some (.ins C dx fs) ∧ Cls K C ∧ NoAttr K C f ∧ fs.lookup f = some v ∧
  tv σ H1 fun y H2 => rd v y H2 fun z H3 => ∃ dx' fs', H3 a = some (.ins C dx' fs') ∧ fs'.length < 1000 ∧ D.nx σ (upd H3 a (.ins C dx' (putF f z fs')))

section
variable {X : Cx} {o e value : Expr} {f : Str} {pos pos' tpos : Pos} {ta tv : TE}
theorem pe_fld (he : PE X e ta) (hb : attributeBase e f X.env (eval e X.env) = eval e X.env) : PE X (.Attribute e f pos) (tFld X.K ta f) := by
  intro pins s σ H Q I h
  refine attr_of hb (thn (he pins s σ H _ I h) fun u s1 ⟨x, H1, I1, rx, a, C, dx, fs, v, ex, ea, c, n, l, q⟩ => ?_)
  subst ex
  obtain rfl : u = Value.ref a := rx
  exact getattr_ok I1 ea c n l fun u' s2 I2 ru => ⟨v, H1, I2, ru, q⟩
theorem ps_fld (ha : PE X o ta) (hv : PE X value tv) (hs : swapsWith value (some (.Attribute o f pos')) pos.line X.env = pure false) : PS X (.Assign [.Attribute o f pos'] value pos) (sFld X.K ta tv f) := by
  intro pins s σ H D I h
  refine plainObj_wpAny_Assign_Attribute (thn (hv pins s σ H _ I h) fun u s1 ⟨y, H1, I1, ry, q⟩ => thn (ha pins s1 σ H1 _ I1 q) fun ov s2 ⟨x, H2, I2, rx, a, C, dx, fs, ex, ea, c, n, l, q2⟩ => ?_) hs
  subst ex
  obtain rfl : ov = Value.ref a := rx
  exact setattr_ok I2 ea c n l ry fun s3 I3 => ⟨σ, _, I3, q2⟩
theorem ps_fldaug {op : Operator} {rd : V → V → Hp → VK → Prop} (ha : PE X o ta) (hv : PE X value tv) (hop : InOp X op rd) : PS X (.AugAssign (.Attribute o f tpos) op value pos) (sFldAug X.K ta tv rd f) := by
  intro pins s σ H D I h
  refine wpAny_AugAssign_AttributeAny (thn (ha pins s σ H _ I h) fun ov s1 ⟨x, H1, I1, rx, a, C, dx, fs, v, ex, ea, c, n, l, q⟩ => ?_)
  subst ex
  obtain rfl : ov = Value.ref a := rx
  refine getattr_ok I1 ea c n l fun u s2 I2 ru => thn (hv pins s2 σ H1 _ I2 q) fun w3 s3 ⟨y, H2, I3, ry, q3⟩ => thn (hop pins s3 σ H2 v y u w3 _ I3 ru ry q3) fun w4 s4 ⟨z, H3, I4, rz, dx', fs', ea', l', q4⟩ => ?_
  exact setattr_ok I4 ea' c n l' rz fun s5 I5 => ⟨σ, _, I5, q4⟩
def rAdd : V → V → Hp → VK → Prop := fun x y H Q => ∃ i j, x = .int i ∧ y = .int j ∧ Q (.int (i + j)) H
theorem in_add : InOp X .Add rAdd := by
  rintro pins s σ H x y u v Q I rx ry ⟨i, j, rfl, rfl, q⟩
  obtain ⟨t, rfl⟩ := (show ∃ t, u = Value.int i t from rx)
  obtain ⟨t', rfl⟩ := (show ∃ t', v = Value.int j t' from ry)
  exact PyProof.Rows.iadd_int ⟨.int (i + j), H, I.tok _, ⟨_, rfl⟩, q⟩
end

/-! ### isinstance -/
section
variable {X : Cx} {pins : List (Addr × Obj)} {σ : St} {H : Hp} {s : Shared} {A : Around} {E : Value → Shared → Prop} {Q : Value → Shared → Prop} {c : Value} {b : Bool}
/-- the type of a value, as the fragment's deciders take it; for an instance its class -/
inductive TyOf (K : PySem.W.Frag) (H : Hp) : V → Value → Prop where
  | non : TyOf K H .non (.type "NoneType")
  | bl (x : Bool) : TyOf K H (.bl x) (.type "bool")
  | int (i : Int) : TyOf K H (.int i) (.type "int")
  | str (x : Str) : TyOf K H (.str x) (.type "str")
  | flt (x : UInt64) : TyOf K H (.flt x) (.type "float")
  | lst {a : Addr} {xs : List V} (e : H a = some (.lst xs)) : TyOf K H (.ref a) (.type "list")
  | frz {a : Addr} {o : Obj} {xs : List V} (e : H a = some (.frz o (.lst xs))) : TyOf K H (.ref a) (.type "list")
  | tup {a : Addr} {xs : List V} (e : H a = some (.tup xs)) : TyOf K H (.ref a) (.type "tuple")
  | dK {a : Addr} {kvs : List (Key × V)} (e : H a = some (.dK kvs)) : TyOf K H (.ref a) (.type "dict")
  | dT {a : Addr} {kvs : List (List Key × V)} (e : H a = some (.dT kvs)) : TyOf K H (.ref a) (.type "dict")
  | ins {a C dx : Addr} {fs : List (Str × V)} (e : H a = some (.ins C dx fs)) (cl : Cls K C) (ha : PySem.W.findIn K (.ref C) "__class__" = some (some (.builtin "object.__class__")))
      (hn : PySem.W.specialIn K (.builtin "object.__class__") "__get__" = some (some (.builtin "getset_descriptor.__get__"))) (htk : PySem.W.takesIn K (.builtin "object.__class__") = some true)
      (hm : PySem.W.mroIn K C (.type "object") = some true) : TyOf K H (.ref a) (.ref C)
end
end L2

namespace L2
open PySem PySem.Spec PyProof.Rows

/-! ### room -/
structure Room (k : Nat) (A : Around) : Prop where
  hd : A.handled = none
  dp : A.depth + 3 * k + 5 < recursionLimit
  un : A.units + 16 * k + 200 < cLine
theorem Room.mono {j k : Nat} {A : Around} (r : Room k A) (h : j ≤ k) : Room j A := ⟨r.hd, by have := r.dp; omega, by have := r.un; omega⟩
theorem Room.deeper {k : Nat} {A : Around} (r : Room (k + 1) A) (env : Env) : Room k (A.deeper env) :=
  ⟨r.hd, by have := r.dp; show A.depth + 1 + 3 * k + 5 < _; omega, by have := r.un; show A.units + 3 + 16 * k + 200 < _; omega⟩
theorem Room.in1 {k : Nat} {A : Around} (r : Room (k + 1) A) : Room k A.in1 :=
  ⟨r.hd, by have := r.dp; show A.depth + 3 * k + 5 < _; omega, by have := r.un; show A.units + 1 + 16 * k + 200 < _; omega⟩
theorem make_depth {A : Around} {C : Addr} {us : List Value} {kw : List (Str × Value)} : (A.under (.builtin "type.__call__" ⟨.ref C :: us, kw⟩)).depth = A.depth + 1 := by
  first | rfl | simp [Around.under, Code.weight, Code.isCreation, Code.isGuard, Code.isCaller, Code.frames, Code.isFrame, guardIds]
theorem make_units {A : Around} {C : Addr} {us : List Value} {kw : List (Str × Value)} : (A.under (.builtin "type.__call__" ⟨.ref C :: us, kw⟩)).units = A.units + 1 := by
  first | rfl | simp [Around.under, Code.cUnits, Code.frames, Code.isFrame]
theorem Room.make {k : Nat} {A : Around} (r : Room (k + 1) A) (C : Addr) (us : List Value) (kw : List (Str × Value)) : Room k (A.under (.builtin "type.__call__" ⟨.ref C :: us, kw⟩)) :=
  ⟨r.hd, by have := r.dp; rw [make_depth]; omega, by have := r.un; rw [make_units]; omega⟩
theorem Room.depth {k : Nat} {A : Around} (r : Room k A) : A.depth < recursionLimit := by have := r.dp; omega
theorem Room.units {k : Nat} {A : Around} (r : Room k A) : A.units + 64 < cLine := by have := r.un; omega
/-! ### argument lists and displays -/
def tNil : TA := fun _ H Q => Q [] H
def tCons (ta : TE) (tr : TA) : TA := fun σ H Q => ta σ H fun x H1 => tr σ H1 fun xs H2 => Q (x :: xs) H2
section
variable {X : Cx} {e : Expr} {es : List Expr} {te : TE} {t : TA} {pos : Pos}
theorem pa_nil : PA X [] tNil := fun _ _ _ _ H Q I h => Calls.spliced_nil ⟨[], H, I, .nil, h⟩
theorem pa_cons (ha : PE X e te) (hr : PA X es t) (hs : starEach (e :: es) X.env = (false, eval e X.env) :: starEach es X.env := by rfl) : PA X (e :: es) (tCons te t) := by
  intro pos pins s σ H Q I h
  rw [hs]
  show wpAny _ _ (spliced ((false, eval e X.env) :: backTo pos (starEach es X.env))) _ _ s
  refine Calls.spliced_cons (thn (ha pins s σ H _ I h) fun u s1 ⟨x, H1, I1, r1, q1⟩ => ?_)
  exact thn (hr pos pins s1 σ H1 _ I1 q1) fun us s2 ⟨xs, H2, I2, r2, q2⟩ => ⟨x :: xs, H2, I2, .cons r1 r2, q2⟩

/-- a tuple, a list of written items -/
def tTup (t : TA) : TE := fun σ H Q => t σ H fun xs H1 => xs.length ≤ sizeLine ∧ ∀ p, H1 p = none → Q (.ref p) (upd H1 p (.tup xs))
def tLst (t : TA) : TE := fun σ H Q => t σ H fun xs H1 => xs.length ≤ sizeLine ∧ ∀ p, H1 p = none → Q (.ref p) (upd H1 p (.lst xs))
theorem pe_tup {x1} (h : PA X es t) : PE X (.Tuple es x1 pos) (tTup t) := by
  intro pins s σ H Q I hq
  refine wpAny_Tuple_spliced (thn (h pos pins s σ H _ I hq) fun us s1 ⟨xs, H1, I1, r, z, q⟩ => ⟨by rw [← r.length]; exact z, ?_⟩)
  have hf : H1 s1.heap.objs.size = none := I1.hok.fresh (Nat.le_refl _)
  refine ⟨.ref s1.heap.objs.size, upd H1 s1.heap.objs.size (.tup xs), I1.laid (t' := s1.toks) (fun b u e => Heap.get?_push_of_some _ e) (Nat.le_refl _) ?_, rfl, q _ hf⟩
  exact ⟨z, us, r, ⟨_, Heap.get?_push_size _ rfl, rfl, _, rfl⟩⟩
theorem pe_lst (h : PA X es t) : PE X (.List es pos) (tLst t) := by
  intro pins s σ H Q I hq
  refine wpAny_List_spliced (thn (h pos pins s σ H _ I hq) fun us s1 ⟨xs, H1, I1, r, z, q⟩ => ⟨by rw [← r.length]; exact z, ?_⟩)
  have hf : H1 s1.heap.objs.size = none := I1.hok.fresh (Nat.le_refl _)
  refine ⟨.ref s1.heap.objs.size, upd H1 s1.heap.objs.size (.lst xs), I1.laid (t' := s1.toks) (fun b u e => Heap.get?_push_of_some _ e) (Nat.le_refl _) ?_, rfl, q _ hf⟩
  exact ⟨z, us, 0, r, Heap.get?_push_size _ rfl⟩
end

/-! ### what a def promises -/
/-- a def's promise: the bound arguments in the parameters' order, the heap, the wanted end, the wanted exception -/
abbrev Sp := List V → Hp → VK → XK → Prop
/-- how an exception lies behind a call (file 08 gives it): the callers' frames, abstract heap and state ahead of the call, the wish, the exception, the state -/
abbrev CXT := List Env → Hp → Shared → XK → Value → Shared → Prop

/-- the state at a call -/
structure Env0 (P : Program) (w : World) (K : PySem.W.Frag) (mg : Str → Option Value) (base : Heap) (A : Around) (outer : List Env) (s : Shared) (H : Hp) : Prop where
  frames : A.frames = some outer
  mod : Mod K mg base
  bs : ∀ b o, base.get? b = some o → s.heap.get? b = some o ∧ H b = none
  bsz : base.objs.size ≤ s.heap.objs.size
  funs : s.heap.FunFrames base outer
  frf : ∀ b ∈ frs outer, H b = none
  hok : HOk P w H s.heap
  bare : AllBare s.gens
/-- a call's end -/
def CE (outer : List Env) (P : Program) (w : World) (H : Hp) (s : Shared) (Q : VK) (u : Value) (s' : Shared) : Prop :=
  ∃ v H', s'.os = s.os ∧ AllBare s'.gens ∧ Un (frs outer) [] H H' s.heap s'.heap ∧ HOk P w H' s'.heap ∧ RelV v u ∧ Q v H'
def CR (CX : CXT) (outer : List Env) (P : Program) (w : World) (H : Hp) (s : Shared) (Q : VK) (E : XK) (r : Result) (s' : Shared) : Prop :=
  match r with
  | .ok (.ret u) => CE outer P w H s Q u s'
  | .ok _ => False
  | .error e => CX outer H s E e s'
structure FnOk (P : Program) (w : World) (K : PySem.W.Frag) (mg : Str → Option Value) (base : Heap) (CX : CXT) (k : Nat) (f : Addr) (fd : FuncData) (ps : List Str) (sp : Sp) : Prop where
  len : ∀ vs H Q E, sp vs H Q E → vs.length = ps.length
  run : ∀ (A : Around) (outer : List Env) (s : Shared) (H : Hp) (args : Args) (us : List Value) (vs : List V) (Q : VK) (E : XK), Room k A → Env0 P w K mg base A outer s H → BindsTo s fd args (ps.zip us) → Vals vs us → sp vs H Q E →
    codeAny (model P w) A (.call (.ref f) args) (CR CX outer P w H s Q E) s
theorem FnOk.mono {P : Program} {w : World} {K : PySem.W.Frag} {mg : Str → Option Value} {base : Heap} {CX : CXT} {j k : Nat} {f : Addr} {fd : FuncData} {ps : List Str} {sp : Sp} (F : FnOk P w K mg base CX j f fd ps sp) (h : j ≤ k) :
    FnOk P w K mg base CX k f fd ps sp := ⟨F.len, fun A outer s H args us vs Q E hr => F.run A outer s H args us vs Q E (hr.mono h)⟩
/-- a weaker promise -/
theorem FnOk.imp {P : Program} {w : World} {K : PySem.W.Frag} {mg : Str → Option Value} {base : Heap} {CX : CXT} {k : Nat} {f : Addr} {fd : FuncData} {ps : List Str} {sp sp' : Sp} (F : FnOk P w K mg base CX k f fd ps sp)
    (h : ∀ vs H Q E, sp' vs H Q E → sp vs H Q E) : FnOk P w K mg base CX k f fd ps sp' :=
  ⟨fun vs H Q E q => F.len vs H Q E (h _ _ _ _ q), fun A outer s H args us vs Q E hr he hb hv hs => F.run A outer s H args us vs Q E hr he hb hv (h _ _ _ _ hs)⟩

theorem Env0.make {P : Program} {w : World} {K : PySem.W.Frag} {mg : Str → Option Value} {base : Heap} {A : Around} {outer : List Env} {s : Shared} {H : Hp} (e : Env0 P w K mg base A outer s H) (C : Addr) (us : List Value) (kw : List (Str × Value)) :
    Env0 P w K mg base (A.under (.builtin "type.__call__" ⟨.ref C :: us, kw⟩)) outer s H := ⟨by first | exact e.frames | (simpa [Around.under, Code.envs, Code.isFrame, pushEnvs] using e.frames), e.mod, e.bs, e.bsz, e.funs, e.frf, e.hok, e.bare⟩
theorem Env0.in1 {P : Program} {w : World} {K : PySem.W.Frag} {mg : Str → Option Value} {base : Heap} {A : Around} {outer : List Env} {s : Shared} {H : Hp} (e : Env0 P w K mg base A outer s H) :
    Env0 P w K mg base A.in1 outer s H := ⟨e.frames, e.mod, e.bs, e.bsz, e.funs, e.frf, e.hok, e.bare⟩

section
variable {X : Cx} {pins : List (Addr × Obj)} {σ : St} {H : Hp} {s s' : Shared}
/-- from a body: what a callee wants -/
theorem Inv.env0 (I : Inv X pins σ H s) : Env0 X.prog X.w X.K X.mg X.base X.A X.stack s H :=
  ⟨I.ok.frames, I.ok.mod, I.bs, Nat.le_trans I.ok.bsz I.sz, I.stack, I.stkFree, I.hok, I.bare⟩
/-- behind a call -/
theorem Inv.after {Q : VK} {u : Value} (I : Inv X pins σ H s) (h : CE X.stack X.prog X.w H s Q u s') : EP X pins σ Q u s' := by
  obtain ⟨v, H', os, bare, un, hok, r, q⟩ := h
  obtain ⟨hh, g, d, t, os'⟩ := s'
  obtain rfl : os' = s.os := os
  exact ⟨v, H', I.call (h' := hh) (g' := g) (d' := d) (t' := t) (ch := []) un hok bare (fun b z => absurd z (by simp)), r, q⟩
end

/-! ### calls -/
/-- f(..): the written arguments, then the defaults dvs; E: what is wanted of an exception -/
def tCall (sp : Sp) (dvs : List V) (E : XK) (t : TA) : TE := fun σ H Q => t σ H fun vs H1 => sp (vs ++ dvs) H1 Q E
/-- C(..): a new instance and its dict, then __init__ -/
def tMake (C : Addr) (sp : Sp) (dvs : List V) (E : XK) (t : TA) : TE := fun σ H Q => t σ H fun vs H1 => ∀ x dx, H1 x = none → H1 dx = none → dx ≠ x →
  sp (.ref x :: (vs ++ dvs)) (upd (upd H1 dx (.own x)) x (.ins C dx [])) (fun v H2 => v = .non ∧ Q (.ref x) H2) E

/-- how the parameters are bound: us the positional arguments, kw the keywords' values by name, ds the defaults that fill up -/
def Binds (K : PySem.W.Frag) (fd : FuncData) (ps : List Str) (ds : List Value) : Prop :=
  ∀ (s : Shared) (us : List Value), K.In s.heap → (us ++ ds).length = ps.length → BindsTo s fd ⟨us, []⟩ (ps.zip (us ++ ds))
/-- every parameter is given -/
theorem Binds.all {K : PySem.W.Frag} {fd : FuncData} {ps : List Str} (h : ∀ us : List Value, us.length = ps.length → bindArgs fd ⟨us, []⟩ = pure (ps.zip us)) : Binds K fd ps [] := fun s us _ hl => by
  rw [List.append_nil] at hl ⊢
  exact .of_eq (h us hl)

/-- an exception of a callee reaches what this body wants of exceptions -/
def Passes (CX : CXT) (X : Cx) (E : XK) : Prop := ∀ (pins : List (Addr × Obj)) (σ : St) (H : Hp) (s : Shared) (e : Value) (s' : Shared), Inv X pins σ H s → CX X.stack H s E e s' → X.xe e s'

section
variable {X : Cx} {CX : CXT} {k : Nat} {f C : Addr} {fd : FuncData} {ps : List Str} {sp : Sp} {dvs : List V} {ds : List Value} {E : XK} {x m : Str} {p pos apos : Pos} {e o : Expr} {es : List Expr} {ta : TE} {t : TA}

/-- the callee runs -/
theorem run_fn {pins : List (Addr × Obj)} {σ : St} {H : Hp} {s : Shared} {Q : VK} {us : List Value} {vs : List V} (F : FnOk X.prog X.w X.K X.mg X.base CX k f fd ps sp) (hr : Room k X.A) (hb : Binds X.K fd ps ds) (hd : Vals dvs ds) (hx : Passes CX X E)
    (I : Inv X pins σ H s) (r : Vals vs us) (h : sp (vs ++ dvs) H Q E) : wpAny (model X.prog X.w) X.A (call (.ref f) us) (EP X pins σ Q) X.xe s := by
  have r2 : Vals (vs ++ dvs) (us ++ ds) := r.append hd
  have hl : (us ++ ds).length = ps.length := by rw [← r2.length]; exact F.len _ _ _ _ h
  refine wpAny_call (codeAny_mono (F.run X.A X.stack s H ⟨us, []⟩ (us ++ ds) (vs ++ dvs) Q E hr I.env0 (hb s us I.kIn hl) r2 h) fun r s' hq => ?_)
  cases r with
  | error e => exact hx pins σ H s e s' I hq
  | ok fl =>
    cases fl with
    | ret u => exact I.after hq
    | next => exact False.elim hq
    | brk => exact False.elim hq
    | cont => exact False.elim hq

theorem pe_call (F : FnOk X.prog X.w X.K X.mg X.base CX k f fd ps sp) (hr : Room k X.A) (hg : Gl X x) (hm : X.mg x = some (.ref f)) (hk : PySem.W.keepIn X.K (.ref f) = true) (hb : Binds X.K fd ps ds) (hd : Vals dvs ds) (hx : Passes CX X E)
    (ha : PA X (e :: es) t) (hdb : (x == ("__debug__" : Str)) = false := by decide) (he : starEach (e :: es) X.env = (false, eval e X.env) :: starEach es X.env := by rfl) (hpl : (backTo pos (starEach es X.env)).any (·.1) = false := by rfl) :
    PE X (.Call (.Name x p) (e :: es) [] pos) (tCall sp dvs E t) := by
  intro pins s σ H Q I h
  refine wpAny_Call_Name_kw (ld_glob I hg hm ?_ hdb)
  refine PySem.W.callWith_K (h₀ := X.base) I.ok.mod.kin hk (thn (ha pos pins s σ H _ I h) fun us s1 ⟨vs, H1, I1, r, q⟩ => ⟨I1.kIn, ?_⟩) he hpl
  exact run_fn F hr hb hd hx I1 r q
/-- what a class must have to be made -/
structure Mk (K : PySem.W.Frag) (C f : Addr) : Prop where
  makes : PySem.W.makesIn K C = true
  init : PySem.W.findIn K (.ref C) "__init__" = some (some (.ref f))
  fn : PySem.W.isFn K (.ref f) = true
  kp : PySem.W.keepIn K (.ref C) = true

theorem run_make {pins : List (Addr × Obj)} {σ : St} {H : Hp} {s : Shared} {Q : VK} {us : List Value} {vs : List V} (M : Mk X.K C f) (F : FnOk X.prog X.w X.K X.mg X.base CX k f fd ps sp) (hr : Room (k + 1) X.A) (hb : Binds X.K fd ps ds) (hd : Vals dvs ds)
    (hx : Passes CX X E) (I : Inv X pins σ H s) (r : Vals vs us)
    (h : ∀ x dx, H x = none → H dx = none → dx ≠ x → sp (.ref x :: (vs ++ dvs)) (upd (upd H dx (.own x)) x (.ins C dx [])) (fun v H2 => v = .non ∧ Q (.ref x) H2) E) :
    wpAny (model X.prog X.w) X.A (call (.ref C) us) (EP X pins σ Q) X.xe s := by
  have hq := h (s.heap.objs.size + 1) s.heap.objs.size (I.hok.fresh (Nat.le_succ _)) (I.hok.fresh (Nat.le_refl _)) (Nat.ne_of_lt (Nat.lt_succ_self _))
  have I2 := Inv.made (C := C) I
  have r2 : Vals (V.ref (s.heap.objs.size + 1) :: (vs ++ dvs)) (Value.ref (s.heap.objs.size + 1) :: (us ++ ds)) := .cons rfl (r.append hd)
  have hl : (Value.ref (s.heap.objs.size + 1) :: us ++ ds).length = ps.length := by
    have e := r2.length
    rw [F.len _ _ _ _ hq] at e
    exact e.symm
  refine wpAny_call (make_map (f := f) I.kIn M.makes M.init (beq_iff_eq.mp M.fn) (codeAny_mono (F.run _ X.stack _ _ ⟨Value.ref (s.heap.objs.size + 1) :: us, []⟩ (Value.ref (s.heap.objs.size + 1) :: (us ++ ds)) _ _ E (hr.make C us [])
    (I2.env0.make C us []) (hb _ (Value.ref (s.heap.objs.size + 1) :: us) I2.kIn hl) r2 hq) fun r s' hq' => ?_))
  cases r with
  | error e => exact hx pins σ _ _ e s' I2 hq'
  | ok fl =>
    cases fl with
    | ret u =>
      obtain ⟨v, H', I3, rv, ev, q3⟩ := I2.after hq'
      subst ev
      exact ⟨rv, ⟨V.ref (s.heap.objs.size + 1), H', I3, rfl, q3⟩⟩
    | next => exact False.elim hq'
    | brk => exact False.elim hq'
    | cont => exact False.elim hq'
theorem pe_make (M : Mk X.K C f) (F : FnOk X.prog X.w X.K X.mg X.base CX k f fd ps sp) (hr : Room (k + 1) X.A) (hg : Gl X x) (hm : X.mg x = some (.ref C)) (hb : Binds X.K fd ps ds) (hd : Vals dvs ds) (hx : Passes CX X E)
    (ha : PA X (e :: es) t) (hdb : (x == ("__debug__" : Str)) = false := by decide) (he : starEach (e :: es) X.env = (false, eval e X.env) :: starEach es X.env := by rfl) (hpl : (backTo pos (starEach es X.env)).any (·.1) = false := by rfl) :
    PE X (.Call (.Name x p) (e :: es) [] pos) (tMake C sp dvs E t) := by
  intro pins s σ H Q I h
  refine wpAny_Call_Name_kw (ld_glob I hg hm ?_ hdb)
  refine PySem.W.callWith_K (h₀ := X.base) I.ok.mod.kin M.kp (thn (ha pos pins s σ H _ I h) fun us s1 ⟨vs, H1, I1, r, q⟩ => ⟨I1.kIn, ?_⟩) he hpl
  exact run_make M F hr hb hd hx I1 r q
theorem pe_make0 (M : Mk X.K C f) (F : FnOk X.prog X.w X.K X.mg X.base CX k f fd ps sp) (hr : Room (k + 1) X.A) (hg : Gl X x) (hm : X.mg x = some (.ref C)) (hb : Binds X.K fd ps ds) (hd : Vals dvs ds) (hx : Passes CX X E)
    (hdb : (x == ("__debug__" : Str)) = false := by decide) : PE X (.Call (.Name x p) [] [] pos) (tMake C sp dvs E tNil) := by
  intro pins s σ H Q I h
  refine wpAny_Call_Name_kw (ld_glob I hg hm ?_ hdb)
  exact PySem.W.callWith_K0 I.kIn M.kp (run_make (us := []) M F hr hb hd hx I .nil h)
end

/-! ### keywords -/
section
variable {X : Cx} {CX : CXT} {k : Nat} {f C : Addr} {fd : FuncData} {ps ks : List Str} {sp : Sp} {E : XK} {x m : Str} {p pos apos kpos : Pos} {e o : Expr} {es : List Expr} {kws : List Keyword} {te ta : TE} {t tk : TA} {nm : Option Str}
/-- how a call with keywords binds: g puts the positional values us and the keywords' values ws (names ks) in the parameters' order, defaults among them -/
structure KBinds (K : PySem.W.Frag) (fd : FuncData) (ps ks : List Str) (g : List Value → List Value → List Value) (gV : List V → List V → List V) : Prop where
  to : ∀ (s : Shared) (us ws : List Value), K.In s.heap → (g us ws).length = ps.length → BindsTo s fd ⟨us, ks.zip ws⟩ (ps.zip (g us ws))
  rel : ∀ {vs : List V} {us : List Value} {zs : List V} {ws : List Value}, Vals vs us → Vals zs ws → Vals (gV vs zs) (g us ws)
variable {g : List Value → List Value → List Value} {gV : List V → List V → List V}
end

/-! ### a def's body keeps its promise -/
/-- names: the parameters first -/
structure FnScope (N P : List Str) (sc : Scope) : Prop where
  kind : sc.kind = .function
  co : sc.isCoroutine = false
  gen : sc.isGenerator = false
  nd : N.Nodup
  pre : N.take P.length = P
  par : ∀ x ∈ P, sc.names.lookup x = some .local ∨ sc.names.lookup x = some .cell
  nofree : ∀ y ∈ sc.names, y.2 ≠ .free

theorem bindL_out {kindOf : Str → Option NameKind} {x : Str} : ∀ {binds : List (Str × Value)} {m : Str → Option Value}, (∀ v, (x, v) ∉ binds) → bindL kindOf binds m x = m x
  | [], _, _ => rfl
  | (n, v) :: r, m, h => by
    unfold bindL
    rw [bindL_out fun w hw => h w (List.mem_cons_of_mem _ hw)]
    split
    · have : x ≠ n := by rintro rfl; exact h v List.mem_cons_self
      simp [this]
    · rfl
theorem bindC_out {kindOf : Str → Option NameKind} {x : Str} : ∀ {binds : List (Str × Value)} {m : Str → Option Value}, (∀ v, (x, v) ∉ binds) → bindC kindOf binds m x = m x
  | [], _, _ => rfl
  | (n, v) :: r, m, h => by
    unfold bindC
    rw [bindC_out fun w hw => h w (List.mem_cons_of_mem _ hw)]
    split
    · rfl
    · have : x ≠ n := by rintro rfl; exact h v List.mem_cons_self
      simp [this]
theorem bindL_get {kindOf : Str → Option NameKind} {x : Str} {v : Value} : ∀ {P : List Str} {vs : List Value} {i : Nat} {m : Str → Option Value}, P.Nodup → P[i]? = some x → vs[i]? = some v → kindOf x = some .local →
    bindL kindOf (P.zip vs) m x = some v
  | [], _, _, _, _, h, _, _ => by simp at h
  | _ :: _, [], _, _, _, _, h, _ => by simp at h
  | p :: P, w :: vs, 0, m, nd, h1, h2, hk => by
    simp at h1 h2; subst h1; subst h2
    show bindL kindOf ((p, w) :: P.zip vs) m p = _
    unfold bindL
    rw [bindL_out fun v hv => (List.nodup_cons.mp nd).1 (List.of_mem_zip hv).1, if_pos hk]
    simp
  | p :: P, w :: vs, i + 1, m, nd, h1, h2, hk => by
    show bindL kindOf ((p, w) :: P.zip vs) m x = _
    unfold bindL
    exact bindL_get (i := i) (List.nodup_cons.mp nd).2 (by simpa using h1) (by simpa using h2) hk
theorem bindC_get {kindOf : Str → Option NameKind} {x : Str} {v : Value} : ∀ {P : List Str} {vs : List Value} {i : Nat} {m : Str → Option Value}, P.Nodup → P[i]? = some x → vs[i]? = some v → kindOf x ≠ some .local →
    bindC kindOf (P.zip vs) m x = some v
  | [], _, _, _, _, h, _, _ => by simp at h
  | _ :: _, [], _, _, _, _, h, _ => by simp at h
  | p :: P, w :: vs, 0, m, nd, h1, h2, hk => by
    simp at h1 h2; subst h1; subst h2
    show bindC kindOf ((p, w) :: P.zip vs) m p = _
    unfold bindC
    rw [bindC_out fun v hv => (List.nodup_cons.mp nd).1 (List.of_mem_zip hv).1, if_neg hk]
    simp
  | p :: P, w :: vs, i + 1, m, nd, h1, h2, hk => by
    show bindC kindOf ((p, w) :: P.zip vs) m x = _
    unfold bindC
    exact bindC_get (i := i) (List.nodup_cons.mp nd).2 (by simpa using h1) (by simpa using h2) hk

/-- the names' values at the entry -/
def start (N : List Str) (vs : List V) : St := vs.map some ++ List.replicate (N.length - vs.length) none

/-- the context of a def's body, at its entry; an exception leaves the frame, then lies as CX says -/
def cxOf (CX : CXT) (P : Program) (w : World) (K : PySem.W.Frag) (mg : Str → Option Value) (base : Heap) (N : List Str) (qual : Str) (scope : Scope) (f : Addr) (cd : Value) (A : Around) (outer : List Env) (s : Shared) (H : Hp) (E : XK) : Cx where
  prog := P
  w := w
  K := K
  mg := mg
  base := base
  A := A.deeper (envOfC qual scope s.heap.objs.size f cd)
  N := N
  s₀ := s
  H₀ := H
  env := envOfC qual scope s.heap.objs.size f cd
  outer := outer
  stack := envOfC qual scope s.heap.objs.size f cd :: outer
  ex := []
  calm := true
  fn := fun _ => true
  pn := []
  xe := fun e s' => wpAny (model P w) (A.deeper (envOfC qual scope s.heap.objs.size f cd)) (leaving (envOfC qual scope s.heap.objs.size f cd) e) (fun _ s'' => CX outer H s E e s'') (fun e' s'' => CX outer H s E e' s'') s'

theorem cell_has {sc : Scope} {n : Nat} {x : Str} (h : sc.names.lookup x = some .cell) : ∃ c, (cellsFrom n sc.names []).lookup x = some c := by
  have q := PySem.W.cellsFrom_some sc.names n [] (.inl h)
  exact Option.isSome_iff_exists.mp q

theorem inv_start {CX : CXT} {P : Program} {w : World} {K : PySem.W.Frag} {mg : Str → Option Value} {base : Heap} {N ps : List Str} {qual : Str} {scope : Scope} {f : Addr} {cd : Value} {A : Around} {outer : List Env} {s s1 : Shared} {H : Hp} {E : XK} {us : List Value} {vs : List V}
    (S : FnScope N ps scope) (hd : A.handled = none) (e0 : Env0 P w K mg base A outer s H) (hl : vs.length = ps.length) (r : Vals vs us)
    (x : InCallC s s.heap.objs.size (bindL (envOfC qual scope s.heap.objs.size f cd).kindOf (ps.zip us) fun _ => none) (cellsFrom (s.heap.objs.size + 1) scope.names []) (bindC (envOfC qual scope s.heap.objs.size f cd).kindOf (ps.zip us) fun _ => none) s1) :
    Inv (cxOf CX P w K mg base N qual scope f cd A outer s H E) [] (start N vs) H s1 := by
  have hpl : ps.length ≤ N.length := by have := congrArg List.length S.pre; rw [List.length_take] at this; omega
  obtain ⟨h1, tk, rfl, hk⟩ := x.done
  have noA : ∀ b : Addr, b ∉ (cxOf CX P w K mg base N qual scope f cd A outer s H E).ex := fun b z => absurd (show b ∈ ([] : List Addr) from z) (by simp)
  refine ⟨⟨e0.mod, S.kind, rfl, rfl, Nat.le_refl _, fun y z c h1 h2 => ?_, fun y hy => ?_, fun y c _ h => ?_, fun _ => hd, Around.frames_deeper e0.frames, .inr ⟨rfl, rfl⟩, fun b z => absurd z (noA b), e0.bs, e0.bsz, fun b _ _ => noA b, fun b z => absurd z (noA b), e0.funs, e0.frf⟩,
    rfl, e0.bare, Un.kept hk, ⟨_, x.toInCall.ns, fun i y v h1 h2 h3 => ?_⟩, fun y c h => ⟨_, x.cell y c h⟩, e0.hok.fresh (Nat.le_refl _), fun y c h => ?_, fun p hp => absurd (show p ∈ ([] : List (Addr × Obj)) from hp) (by simp), e0.hok.kept hk, ?_⟩
  · exact name_of_addr x.apart (PySem.mem_of_lookup h1) (PySem.mem_of_lookup h2)
  · have hy : scope.names.lookup y = some .cell ∨ scope.names.lookup y = some .free := hy
    rcases hy with hy | hy
    · exact cell_has hy
    · exact absurd rfl (S.nofree _ (PySem.mem_of_lookup hy))
  · exact Nat.le_of_lt (x.above y c (PySem.mem_of_lookup h))
  · have hi : i < vs.length := by
      unfold start at h2
      by_cases hi : i < vs.length
      · exact hi
      · rw [List.getElem?_append_right (by simpa using hi)] at h2
        rw [List.getElem?_replicate] at h2
        split at h2 <;> cases h2
    have ha : vs[i]? = some v := by
      unfold start at h2
      rw [List.getElem?_append_left (by simpa using hi), List.getElem?_map] at h2
      cases e : vs[i]? with
      | none => rw [e] at h2; cases h2
      | some a => rw [e] at h2; cases h2; rfl
    obtain ⟨u, hu, rv⟩ := r.get ha
    have hp : ps[i]? = some y := by
      rw [← S.pre, List.getElem?_take_of_lt (by omega)]; exact h1
    have ndP : ps.Nodup := by rw [← S.pre]; exact S.nd.sublist (List.take_sublist _ _)
    refine ⟨u, rv, ?_⟩
    rcases S.par y (List.mem_of_getElem? hp) with k | k
    · exact .inl ⟨k, bindL_get ndP hp hu k⟩
    · obtain ⟨c, e⟩ := cell_has (n := s.heap.objs.size + 1) k
      refine .inr ⟨.inl k, c, e, ?_⟩
      have q := x.cell y c e
      rw [bindC_get ndP hp hu (by show scope.names.lookup y ≠ _; rw [k]; decide)] at q
      exact q
  · exact e0.hok.fresh (Nat.le_of_lt (x.above y c (PySem.mem_of_lookup h)))
  · unfold start
    show _ = N.length
    rw [List.length_append, List.length_map, List.length_replicate]
    omega

/-- THE RULE: a def (or a method) of the text, by its body. The body's reading t is chosen for each entry; it is run at the parameters' values -/
theorem fn_of {CX : CXT} {P : Program} {w : World} {K : PySem.W.Frag} {mg : Str → Option Value} {base : Heap} {k : Nat} {f : Addr} {name qual : Str} {params : Arguments} {body : List Stmt} {scope : Scope} {dV kV doc pm cdv ct oc : Value} {an od : Option Addr}
    {osl : Array (Option Value)} {N ps : List Str} {sp : Sp} (lk : K.lookup f = some ⟨oc, od, .func (PySem.W.fnOf name qual params body scope dV kV doc pm an cdv ct), osl⟩) (hcd : PySem.W.codeIn K cdv qual = true) (S : FnScope N ps scope)
    (len : ∀ vs H Q E, sp vs H Q E → vs.length = ps.length)
    (hbody : ∀ (A : Around) (outer : List Env) (s : Shared) (H : Hp) (vs : List V) (Q : VK) (E : XK), Room k (A.deeper (envOfC qual scope s.heap.objs.size f cdv)) → sp vs H Q E →
      ∃ t, PSs (cxOf CX P w K mg base N qual scope f cdv A outer s H E) body t ∧ t { nx := fun _ H' => Q .non H', rt := Q } (start N vs) H) :
    FnOk P w K mg base CX (k + 1) f (PySem.W.fnOf name qual params body scope dV kV doc pm an cdv ct) ps sp := by
  refine ⟨len, fun A outer s H args us vs Q E hr e0 hb r hsp => ?_⟩
  have hl := len _ _ _ _ hsp
  have KX : K.In s.heap := e0.mod.kin.keeps fun b o e => (e0.bs b o e).1
  have lim : s.heap.NoLimit := e0.mod.nolimit.keeps fun b o e => (e0.bs b o e).1
  have hkind : ∀ y ∈ ps.zip us, scope.names.lookup y.1 = some .local ∨ (scope.names.lookup y.1 = some .cell ∧ ((cellsFrom (s.heap.objs.size + 1) scope.names []).lookup y.1).isSome = true) := fun ⟨n, v⟩ hy => by
    rcases S.par n (List.of_mem_zip hy).1 with q | q
    · exact .inl q
    · exact .inr ⟨q, PySem.W.cellsFrom_some _ _ _ (.inl q)⟩
  refine codeAny_call_function hr.depth (KX _ _ lk) rfl S.co S.gen rfl (PySem.W.codeRec_of KX hcd) (hb _ _ _ _ ?_)
  refine wpAny_newFunctionEnv_cells S.kind hkind fun env he s1 x => ?_
  subst he
  refine ⟨lim.keeps x.toInCall.keep, codeAny_func ?_⟩
  obtain ⟨t, ht, hq⟩ := hbody A outer s H vs Q E (hr.deeper _) hsp
  have I : Inv (cxOf CX P w K mg base N qual scope f cdv A outer s H E) [] (start N vs) H s1 := inv_start S hr.hd e0 hl r x
  refine wpAny_mono (ht [] s1 (start N vs) H _ I hq) (fun fl s' hs => ?_) fun e s' hs => hs
  have fin : ∀ {σ' : St} {H' : Hp} {v : V} {u : Value}, Inv (cxOf CX P w K mg base N qual scope f cdv A outer s H E) [] σ' H' s' → RelV v u → Q v H' → CE outer P w H s Q u s' :=
    fun {σ' H' v u} J rv q => ⟨v, H', J.os, J.bare, J.base, J.hok, rv, q⟩
  cases fl with
  | ret u =>
    obtain ⟨v, σ', H', J, rv, q⟩ := hs
    exact fin J rv q
  | next =>
    obtain ⟨σ', H', J, q⟩ := hs
    exact fin (v := V.non) (u := Value.none) J rfl q
  | brk =>
    obtain ⟨_, _, _, q⟩ := hs
    exact False.elim q
  | cont =>
    obtain ⟨_, _, _, q⟩ := hs
    exact False.elim q
end L2

namespace L2
open PySem PySem.Spec PyProof.Rows
section
variable {X : Cx} {x : Str} {p pos : Pos} {e : Expr} {es : List Expr} {t : TA} {id T : String} {r : List V → Hp → VK → Prop}

def tCB (r : List V → Hp → VK → Prop) (t : TA) : TE := fun σ H Q => t σ H fun vs H1 => r vs H1 Q
/-- f(e, ..), f a built-in function -/
theorem pe_callB (hc : CallR X (.builtin id) r) (hg : Gl X x) (hm : X.mg x = none) (hv : bootBuiltins x = some (.builtin id)) (ha : PA X (e :: es) t) (hn : x ≠ "__name__" := by decide) (hdb : (x == ("__debug__" : Str)) = false := by decide)
    (he : starEach (e :: es) X.env = (false, eval e X.env) :: starEach es X.env := by rfl) (hpl : (backTo pos (starEach es X.env)).any (·.1) = false := by rfl) : PE X (.Call (.Name x p) (e :: es) [] pos) (tCB r t) := by
  intro pins s σ H Q I h
  refine wpAny_Call_Name_kw (ld_blt I hg hm hv ?_ hn hdb)
  exact PyProof.Rows.callWith_builtin1 (thn (ha pos pins s σ H _ I h) fun us s1 ⟨vs, H1, I1, r1, q1⟩ => hc pins s1 σ H1 vs us Q I1 r1 q1) he hpl
/-- T(e, ..), T a built-in type -/
theorem pe_callTy (hc : CallR X (.type T) r) (hg : Gl X x) (hm : X.mg x = none) (hv : bootBuiltins x = some (.type T)) (ha : PA X (e :: es) t) (hn : x ≠ "__name__" := by decide) (hdb : (x == ("__debug__" : Str)) = false := by decide)
    (he : starEach (e :: es) X.env = (false, eval e X.env) :: starEach es X.env := by rfl) (hpl : (backTo pos (starEach es X.env)).any (·.1) = false := by rfl) : PE X (.Call (.Name x p) (e :: es) [] pos) (tCB r t) := by
  intro pins s σ H Q I h
  refine wpAny_Call_Name_kw (ld_blt I hg hm hv ?_ hn hdb)
  exact PyProof.Rows.callWith_type1 (thn (ha pos pins s σ H _ I h) fun us s1 ⟨vs, H1, I1, r1, q1⟩ => hc pins s1 σ H1 vs us Q I1 r1 q1) he hpl
end
end L2

namespace HT
open PySem PyProof.Rows

section
open PySem.SeqAt
open PySem.AutoSeq1 (wpAny_loadPart')
open PySem.MeetsSeq PySem.MeetsSeq2 PySem.MeetsSeq3

end

section
variable {prog : Program} {w : World} {A : Around} {E : Value → Shared → Prop} {s : Shared}

/-! ### t[a:b], not the whole -/
/-- a slice's bound as a place among n (d where it is left out) -/
def sIx (n d : Nat) : Option Int → Nat
  | none => d
  | some v => if v < 0 then (v + (n : Int)).toNat else min v.toNat n
theorem sIx_nat (n d k : Nat) : sIx n d (some (k : Int)) = min k n := by
  show (if (k : Int) < 0 then ((k : Int) + (n : Int)).toNat else min (k : Int).toNat n) = min k n
  rw [if_neg (by omega), Int.toNat_natCast]
theorem sIx_le (n d : Nat) (hd : d ≤ n) (o : Option Int) : sIx n d o ≤ n := by
  cases o with
  | none => exact hd
  | some v =>
    show (if v < 0 then (v + (n : Int)).toNat else min v.toNat n) ≤ n
    by_cases hv : v < 0
    · rw [if_pos hv]; omega
    · rw [if_neg hv]; exact Nat.min_le_right _ _
end
end HT

namespace L2
open PySem PySem.Spec PyProof.Rows

/-! ### the parts of a slice -/
abbrev TO := St → Hp → (Option Int → Hp → Prop) → Prop
/-- a slice's part (left out, or an int) -/
def PO (X : Cx) (e : Option Expr) (t : TO) : Prop :=
  ∀ (pins : List (Addr × Obj)) (s : Shared) (σ : St) (H : Hp) (Q : Option Int → Hp → Prop), Inv X pins σ H s → t σ H Q →
    wpAny (model X.prog X.w) X.A (evalPart e X.env) (fun u s' => ∃ o H', Inv X pins σ H' s' ∧ IsPart u o ∧ Q o H') X.xe s
def tNoPart : TO := fun _ H Q => Q none H
def tPart (t : TE) : TO := fun σ H Q => t σ H fun x H1 => ∃ i, x = .int i ∧ Q (some i) H1

section
variable {X : Cx} {e : Expr} {te : TE} {lo hi : Option Expr} {tl th : TO} {pos p2 : Pos}

theorem po_none : PO X none tNoPart := by
  intro pins s σ H Q I h
  rw [evalPart_none]
  exact wpAny_pure ⟨none, H, I, .none, h⟩
theorem po_some (h : PE X e te) : PO X (some e) (tPart te) := by
  intro pins s σ H Q I hw
  rw [evalPart_some]
  refine thn (h pins s σ H _ I hw) fun u s1 ⟨x, H1, I1, r1, q1⟩ => ?_
  obtain ⟨i, rfl, q⟩ := q1
  obtain ⟨t, rfl⟩ := r1
  exact ⟨some i, H1, I1, .int i t, q⟩

/-- what a slice of a value is, by values: the slice object stands at sl -/
def SlR (X : Cx) (r : V → Option Int → Option Int → Hp → VK → Prop) : Prop :=
  ∀ (pins : List (Addr × Obj)) (s : Shared) (σ : St) (H : Hp) (x : V) (v vl vu : Value) (lo hi : Option Int) (sl : Addr) (Q : VK), Inv X pins σ H s → RelV x v → s.heap.IsSliceOf sl vl vu .none → IsPart vl lo → IsPart vu hi → r x lo hi H Q →
    ∃ T id, typeLookup (.type T) "__getitem__" = pure (some (.builtin id)) ∧ s.TypeIs v T ∧ wpAny (model X.prog X.w) X.A (getItem v (.ref sl)) (EP X pins σ Q) X.xe s
theorem SlR.or {r r' : V → Option Int → Option Int → Hp → VK → Prop} (h : SlR X r) (h' : SlR X r') : SlR X (fun x lo hi H Q => r x lo hi H Q ∨ r' x lo hi H Q) := by
  intro pins s σ H x v vl vu lo hi sl Q I rx hs pl pu q
  rcases q with q | q
  · exact h pins s σ H x v vl vu lo hi sl Q I rx hs pl pu q
  · exact h' pins s σ H x v vl vu lo hi sl Q I rx hs pl pu q
def tSl (r : V → Option Int → Option Int → Hp → VK → Prop) (te : TE) (tl th : TO) : TE := fun σ H Q => te σ H fun x H1 => tl σ H1 fun l H2 => th σ H2 fun u H3 => r x l u H3 Q
/-- a[lo:hi], any a -/
theorem pe_slice {r : V → Option Int → Option Int → Hp → VK → Prop} (hr : SlR X r) (he : PE X e te) (hl : PO X lo tl) (hu : PO X hi th) : PE X (.Subscript e (.Slice lo hi none p2) pos) (tSl r te tl th) := by
  intro pins s σ H Q I h
  refine Subscript_ (thn (he pins s σ H _ I h) fun v s1 ⟨x, H1, I1, r1, q1⟩ => ?_)
  refine wpAny_Slice (thn (hl pins s1 σ H1 _ I1 q1) fun vl s2 ⟨l, H2, I2, pl, q2⟩ => thn (hu pins s2 σ H2 _ I2 q2) fun vu s3 ⟨u, H3, I3, pu, q3⟩ => ?_)
  rw [evalPart_none]
  refine wpAny_pure ?_
  have I4 : Inv X pins σ H3 { s3 with heap := s3.heap.push { cls := .type "slice", data := .fields #[vl, vu, .none] } } := I3.kept (t' := s3.toks) fun b ob q => Heap.get?_push_of_some _ q
  obtain ⟨T, id, hT, ht, hg⟩ := hr pins { s3 with heap := s3.heap.push { cls := .type "slice", data := .fields #[vl, vu, .none] } } σ H3 x v vl vu l u s3.heap.objs.size Q I4 r1 (Heap.IsSliceOf.new ..) pl pu q3
  show wpAny (model X.prog X.w) X.A (subscriptTail e (.Slice lo hi none p2) v (.ref s3.heap.objs.size)) (EP X pins σ Q) X.xe { s3 with heap := s3.heap.push { cls := .type "slice", data := .fields #[vl, vu, .none] } }
  exact tail_any (ops := [.ref s3.heap.objs.size, v]) ht hT hg (by with_unfolding_all rfl)

/-! ### t < u, t + u -/
end
end L2

namespace L2
open PySem PySem.Spec PyProof.Rows

/-! ### places -/
/-- the place that an index of any sign means -/
def ixN (n : Nat) (i : Int) : Option Nat := if 0 ≤ i then (if i < n then some i.toNat else none) else if -(n : Int) ≤ i then some (i + n).toNat else none
def atI {α : Type} (xs : List α) (i : Int) : Option α := (ixN xs.length i).bind fun j => xs[j]?
theorem ixN_seq {n : Nat} {i : Int} {j : Nat} (h : ixN n i = some j) : seqIndex? i n = some j ∧ j < n ∧ -(n : Int) ≤ i ∧ i < n := by
  unfold ixN at h
  by_cases h0 : 0 ≤ i
  · rw [if_pos h0] at h
    by_cases h1 : i < n
    · rw [if_pos h1] at h
      have e : i.toNat = j := Option.some.inj h
      exact ⟨by rw [seqIndex_of h0 h1, e], by omega, by omega, h1⟩
    · rw [if_neg h1] at h; cases h
  · rw [if_neg h0] at h
    by_cases h1 : -(n : Int) ≤ i
    · rw [if_pos h1] at h
      have e : (i + n).toNat = j := Option.some.inj h
      exact ⟨by rw [seqIndex_neg (by omega) h1, e], by omega, h1, by omega⟩
    · rw [if_neg h1] at h; cases h
theorem atI_get {α : Type} {xs : List α} {i : Int} {v : α} (h : atI xs i = some v) : ∃ j, seqIndex? i xs.length = some j ∧ xs[j]? = some v ∧ j < xs.length ∧ -(xs.length : Int) ≤ i ∧ i < xs.length := by
  unfold atI at h
  cases e : ixN xs.length i with
  | none => rw [e] at h; cases h
  | some j =>
    rw [e] at h
    obtain ⟨h1, h2, h3, h4⟩ := ixN_seq e
    exact ⟨j, h1, h, h2, h3, h4⟩
theorem atI_nat {α : Type} {xs : List α} {j : Nat} {v : α} (h : xs[j]? = some v) : atI xs (j : Int) = some v := by
  have hj : j < xs.length := (List.getElem?_eq_some_iff.mp h).1
  have e : ixN xs.length (j : Int) = some j := by
    unfold ixN
    rw [if_pos (by omega), if_pos (by omega)]; simp
  unfold atI; rw [e]; exact h
theorem atI_last {α : Type} (xs : List α) (v : α) : atI (xs ++ [v]) (-1) = some v := by
  have hl : (xs ++ [v]).length = xs.length + 1 := by simp
  have e : ixN (xs ++ [v]).length (-1) = some xs.length := by
    unfold ixN
    rw [hl, if_neg (by decide), if_pos (by omega)]
    congr 1
    omega
  unfold atI
  rw [e]
  show (xs ++ [v])[xs.length]? = some v
  simp

/-! ### what may be subscripted -/
/-- what stands as an index of a plain subscript -/
def PlainIx (b : Expr) : Prop := ∀ o i, subscripted b false o i = operate [o, i] (getItem o i)
/-- a subscript by values -/
def IxR (X : Cx) (r : R2) : Prop :=
  ∀ (value slice : Expr) (pins : List (Addr × Obj)) (s : Shared) (σ : St) (H : Hp) (x y : V) (v u : Value) (Q : VK), Inv X pins σ H s → RelV x v → RelV y u → r x y H Q →
    subscripted slice false v u = operate [v, u] (getItem v u) → wpAny (model X.prog X.w) X.A (subscriptTail value slice v u) (EP X pins σ Q) X.xe s
/-- a call of a builtin's method by values: the receiver, the arguments -/
def MtR (X : Cx) (id : String) (r : V → List V → Hp → VK → Prop) : Prop :=
  ∀ (pins : List (Addr × Obj)) (s : Shared) (σ : St) (H : Hp) (x : V) (xs : List V) (v : Value) (us : List Value) (Q : VK), Inv X pins σ H s → RelV x v → Vals xs us → r x xs H Q →
    wpAny (model X.prog X.w) X.A (call (.builtin id) (v :: us)) (EP X pins σ Q) X.xe s
section
variable {X : Cx} {a b : Expr} {ta tb : TE} {pos : Pos}
theorem IxR.or {r r' : R2} (h : IxR X r) (h' : IxR X r') : IxR X (fun x y H Q => r x y H Q ∨ r' x y H Q) := by
  intro value slice pins s σ H x y v u Q I rx ry q hs
  rcases q with q | q
  · exact h value slice pins s σ H x y v u Q I rx ry q hs
  · exact h' value slice pins s σ H x y v u Q I rx ry q hs
theorem MtR.or {id : String} {r r' : V → List V → Hp → VK → Prop} (h : MtR X id r) (h' : MtR X id r') : MtR X id (fun x xs H Q => r x xs H Q ∨ r' x xs H Q) := by
  intro pins s σ H x xs v us Q I rx rs q
  rcases q with q | q
  · exact h pins s σ H x xs v us Q I rx rs q
  · exact h' pins s σ H x xs v us Q I rx rs q
/-- a[b] -/
theorem pe_ix {r : R2} (hr : IxR X r) (ha : PE X a ta) (hb : PE X b tb) (hs : PlainIx b) : PE X (.Subscript a b pos) (tOp r ta tb) := by
  intro pins s σ H Q I h
  exact Subscript_ (binT ha hb I h fun v u s2 x y H2 I2 rx ry q => hr a b pins s2 σ H2 x y v u Q I2 rx ry q (hs _ _))

def rIxL (K : PySem.W.Frag) : R2 := fun x y H Q => ∃ p xs i v, x = .ref p ∧ y = .int i ∧ SqL K H p xs ∧ atI xs i = some v ∧ Q v H
def rIxT (K : PySem.W.Frag) : R2 := fun x y H Q => ∃ p xs i v, x = .ref p ∧ y = .int i ∧ SqT K H p xs ∧ atI xs i = some v ∧ Q v H
def rIxS : R2 := fun x y H Q => ∃ z i c, x = .str z ∧ y = .int i ∧ z.length ≤ sizeLine ∧ atI z.cps.toList i = some c ∧ Q (.str ⟨#[c]⟩) H
theorem ix_list : IxR X (rIxL X.K) := by
  intro value slice pins s σ H x y v u Q I rx ry h hs
  obtain ⟨p, xs, i, z, rfl, rfl, hq, he, q⟩ := h
  cases rx
  obtain ⟨t, rfl⟩ := ry
  obtain ⟨its, r, pl, hz⟩ := I.list hq
  obtain ⟨j, h1, h2, h3, h4, h5⟩ := atI_get he
  obtain ⟨w, ew, rw'⟩ := r.get h2
  have hl := r.length
  have hn := line63
  have fin : EP X pins σ Q w s := ⟨z, H, I, rw', q⟩
  by_cases h0 : 0 ≤ i
  · have hj : i.toNat = j := by
      rw [seqIndex_of h0 h5] at h1
      exact Option.some.inj h1
    exact item_listR pl.isList h0 (by omega) (by rw [hj]; simpa using ew) fin hs
  · have hj : (i + (its.toArray.size : Int)).toNat = j := by
      rw [seqIndex_neg (by omega) h4] at h1
      rw [List.size_toArray, ← hl]
      exact Option.some.inj h1
    exact subscriptTail_builtinR (x := w) pl.isList.typeIs slot_list_getitem.lookup
      (wpAny_getItem_list_neg (Q := fun r s' => r = w ∧ EP X pins σ Q r s') pl.isList (by omega) (by rw [List.size_toArray] <;> omega) (by omega) (by rw [hj]; simpa using ew) ⟨rfl, fin⟩) hs
theorem ix_tup : IxR X (rIxT X.K) := by
  intro value slice pins s σ H x y v u Q I rx ry h hs
  obtain ⟨p, xs, i, z, rfl, rfl, hq, he, q⟩ := h
  cases rx
  obtain ⟨t, rfl⟩ := ry
  obtain ⟨its, r, pl, hz⟩ := I.tuple hq
  obtain ⟨j, h1, h2, h3, h4, h5⟩ := atI_get he
  obtain ⟨w, ew, rw'⟩ := r.get h2
  have hl := r.length
  have hn := line63
  have fin : EP X pins σ Q w s := ⟨z, H, I, rw', q⟩
  exact subscriptTail_builtinR (x := w) pl.typeIs slot_tuple_getitem.lookup
    (getItem_tuple (j := j) (Q := fun r s' => r = w ∧ EP X pins σ Q r s') pl (by omega) (by omega) (by rw [List.size_toArray, ← hl]; exact h1) (by simpa using ew) ⟨rfl, fin⟩) hs
theorem ix_str : IxR X rIxS := by
  intro value slice pins s σ H x y v u Q I rx ry h hs
  obtain ⟨z, i, c, rfl, rfl, hz, he, q⟩ := h
  obtain ⟨t, rfl⟩ := rx
  obtain ⟨t', rfl⟩ := ry
  obtain ⟨j, h1, h2, h3, h4, h5⟩ := atI_get he
  have hl : z.cps.toList.length = z.length := by simp [Str.length]
  rw [hl] at h1 h4 h5
  have hn := line63
  exact tail_any (typeIs_str s z t) slot_str_getitem.lookup (getItem_str (c := c) (by
    have e1 : decide (i < -(2 ^ 63 : Int)) = false := decide_eq_false (by omega)
    have e2 : decide (i ≥ 2 ^ 63) = false := decide_eq_false (by omega)
    rw [e1, e2, Bool.or_false]) (by rw [h1]; simpa using h2) ⟨.str ⟨#[c]⟩, H, I.tok _, ⟨_, rfl⟩, q⟩) hs
/-! ### xs[i] = v, any sign -/
theorem Inv.lst {pins : List (Addr × Obj)} {σ : St} {H : Hp} {s : Shared} {p : Addr} {xs : List V} (I : Inv X pins σ H s) (h : H p = some (.lst xs)) :
    ∃ (its : List Value) (n : Nat), Vals xs its ∧ s.heap.get? p = some { cls := .type "list", data := .seq its.toArray n } ∧ xs.length ≤ sizeLine := by
  obtain ⟨z, its, n, r, e⟩ := I.hok p _ h
  exact ⟨its, n, r, e, z⟩
/-! ### slices -/
/-! ### in, not in: flat items -/
def flatV : V → Bool
  | .non => true
  | .bl _ => true
  | .int _ => true
  | .str _ => true
  | _ => false
/-- == of flat values -/
def eqV : V → V → Bool
  | .non, .non => true
  | .bl a, .bl b => a == b
  | .bl a, .int b => (if a then 1 else 0) == b
  | .int a, .bl b => a == (if b then 1 else 0)
  | .int a, .int b => a == b
  | .str a, .str b => a == b
  | _, _ => false
theorem eqAt_V {A : Around} {s : Shared} {y x : V} {u v : Value} (ry : RelV y u) (rx : RelV x v) (fy : flatV y = true) (fx : flatV x = true) : SeqAt.EqAt A s u v (eqV y x) := by
  cases y with
  | non =>
    cases ry
    cases x with
    | non => cases rx; exact SeqAt.EqAt.same _
    | bl b => cases rx; exact SeqAt.EqAt.none_bool b
    | int b => obtain ⟨t, rfl⟩ := rx; exact SeqAt.EqAt.none_int b t
    | str b => obtain ⟨t, rfl⟩ := rx; exact SeqAt.EqAt.none_str b t
    | _ => exact absurd (show false = true from fx) Bool.false_ne_true
  | bl a =>
    cases ry
    cases x with
    | non => cases rx; exact SeqAt.EqAt.bool_none a
    | bl b => cases rx; exact SeqAt.EqAt.bool_bool a b
    | int b => obtain ⟨t, rfl⟩ := rx; exact SeqAt.EqAt.bool_int a b t
    | str b => obtain ⟨t, rfl⟩ := rx; exact SeqAt.EqAt.bool_str a b t
    | _ => exact absurd (show false = true from fx) Bool.false_ne_true
  | int a =>
    obtain ⟨t', rfl⟩ := ry
    cases x with
    | non => cases rx; exact SeqAt.EqAt.int_none a t'
    | bl b => cases rx; exact SeqAt.EqAt.int_bool a t' b
    | int b => obtain ⟨t, rfl⟩ := rx; exact SeqAt.EqAt.int_int a t' b t
    | str b => obtain ⟨t, rfl⟩ := rx; exact SeqAt.EqAt.int_str a t' b t
    | _ => exact absurd (show false = true from fx) Bool.false_ne_true
  | str a =>
    obtain ⟨t', rfl⟩ := ry
    cases x with
    | non => cases rx; exact SeqAt.EqAt.str_none a t'
    | bl b => cases rx; exact SeqAt.EqAt.str_bool a t' b
    | int b => obtain ⟨t, rfl⟩ := rx; exact SeqAt.EqAt.str_int a t' b t
    | str b => obtain ⟨t, rfl⟩ := rx; exact SeqAt.EqAt.str_str a t' b t
    | _ => exact absurd (show false = true from fx) Bool.false_ne_true
  | _ => exact absurd (show false = true from fy) Bool.false_ne_true
/-- the items' answers, read off the values (a value's own answer does not lean on its token) -/
def eqU (x : V) (u : Value) : Bool := match u with
  | .none => eqV .non x
  | .bool b => eqV (.bl b) x
  | .int i _ => eqV (.int i) x
  | .str z _ => eqV (.str z) x
  | _ => false
theorem eqU_of {x y : V} {u : Value} (r : RelV y u) (f : flatV y = true) : eqU x u = eqV y x := by
  cases y with
  | non => cases r; rfl
  | bl b => cases r; rfl
  | int i => obtain ⟨t, rfl⟩ := r; rfl
  | str z => obtain ⟨t, rfl⟩ := r; rfl
  | _ => exact absurd (show false = true from f) Bool.false_ne_true
theorem any_eqU {x : V} : ∀ {xs : List V} {us : List Value}, Vals xs us → xs.all flatV = true → us.any (eqU x) = xs.any fun y => eqV y x
  | _, _, .nil, _ => rfl
  | y :: xs, u :: us, .cons r t, f => by
    rw [List.all_cons, Bool.and_eq_true] at f
    rw [List.any_cons, List.any_cons, eqU_of r f.1, any_eqU t f.2]
theorem mem_eqAt {A : Around} {s : Shared} {x : V} {v : Value} (rx : RelV x v) (fx : flatV x = true) : ∀ {xs : List V} {us : List Value}, Vals xs us → xs.all flatV = true → ∀ u ∈ us, SeqAt.EqAt A s u v (eqU x u)
  | _, _, .nil, _ => fun u hu => by cases hu
  | y :: xs, u :: us, .cons r t, f => fun u' hu => by
    rw [List.all_cons, Bool.and_eq_true] at f
    rcases List.mem_cons.mp hu with rfl | hu
    · rw [eqU_of r f.1]; exact eqAt_V r rx f.1 fx
    · exact mem_eqAt rx fx t f.2 u' hu
def inV (x : V) (xs : List V) : Bool := xs.any fun y => eqV y x
/-- x in a list or tuple of flat items -/
def rIn (K : PySem.W.Frag) (neg : Bool) : R2 := fun x y H Q => ∃ p xs, y = .ref p ∧ (SqL K H p xs ∨ SqT K H p xs) ∧ flatV x = true ∧ xs.all flatV = true ∧ Q (.bl (if neg then !inV x xs else inV x xs)) H
theorem op_in_seq : OpR X (compareOp .In) (rIn X.K false) := by
  intro pins s σ H x y v u Q I rx ry h
  obtain ⟨p, xs, rfl, hq, fx, fs, q⟩ := h
  cases ry
  rcases hq with hq | hq
  · obtain ⟨its, r, pl, hz⟩ := I.list hq
    refine SeqAt.in_listAt (eqU x) pl.isList (fun w hw => mem_eqAt rx fx r fs w (by simpa using hw)) ⟨.bl _, H, I, rfl, ?_⟩
    rw [show its.toArray.any (eqU x) = its.any (eqU x) by simp, any_eqU r fs]
    exact q
  · obtain ⟨its, r, pl, hz⟩ := I.tuple hq
    refine SeqAt.in_tupleAt (eqU x) pl (fun w hw => mem_eqAt rx fx r fs w (by simpa using hw)) ⟨.bl _, H, I, rfl, ?_⟩
    rw [show its.toArray.any (eqU x) = its.any (eqU x) by simp, any_eqU r fs]
    exact q
/-! ### len, list(x), tuple(x) of any list or tuple that is read -/
theorem call_len_seq : CallR X (.builtin "len") (fun xs H Q => ∃ p ys, xs = [.ref p] ∧ (SqL X.K H p ys ∨ SqT X.K H p ys) ∧ Q (.int ys.length) H) := by
  intro pins s σ H xs us Q I r h
  obtain ⟨p, ys, rfl, hq, q⟩ := h
  obtain ⟨u, rfl, rx⟩ := vals1 r
  cases rx
  have hn := line63
  rcases hq with hq | hq
  · obtain ⟨its, r', pl, hz⟩ := I.list hq
    have hlen := r'.length
    exact Calls.call_len_list pl.isList (by simp only [List.size_toArray] <;> omega) ⟨.int ys.length, H, I.tok _, ⟨s.toks + 1, by rw [List.size_toArray, hlen]⟩, q⟩
  · obtain ⟨its, r', pl, hz⟩ := I.tuple hq
    have hlen := r'.length
    exact len_tuple pl (by simp only [List.size_toArray] <;> omega) ⟨.int ys.length, H, I.tok _, ⟨s.toks + 1, by rw [List.size_toArray, hlen]⟩, q⟩
theorem call_len_str : CallR X (.builtin "len") (fun xs H Q => ∃ z, xs = [.str z] ∧ z.length ≤ sizeLine ∧ Q (.int z.length) H) := by
  intro pins s σ H xs us Q I r h
  obtain ⟨z, rfl, hz, q⟩ := h
  obtain ⟨u, rfl, t, rfl⟩ := vals1 r
  have hn := line63
  exact len_str (by omega) ⟨.int z.length, H, I.tok _, ⟨_, rfl⟩, q⟩
theorem CallR.or {f : Value} {r r' : List V → Hp → VK → Prop} (h : CallR X f r) (h' : CallR X f r') : CallR X f (fun xs H Q => r xs H Q ∨ r' xs H Q) := by
  intro pins s σ H xs us Q I rs q
  rcases q with q | q
  · exact h pins s σ H xs us Q I rs q
  · exact h' pins s σ H xs us Q I rs q
theorem call_list_of : CallR X (.type "list") (fun xs H Q => ∃ p ys, xs = [.ref p] ∧ (SqL X.K H p ys ∨ SqT X.K H p ys) ∧ ∀ l, H l = none → Q (.ref l) (upd H l (.lst ys))) := by
  intro pins s σ H xs us Q I r h
  obtain ⟨p, ys, rfl, hq, q⟩ := h
  obtain ⟨u, rfl, rx⟩ := vals1 r
  cases rx
  have fin : ∀ (its : List Value), Vals ys its → ys.length ≤ sizeLine → ∀ (h' : Heap) (c' : Nat), (∀ b o', s.heap.get? b = some o' → h'.get? b = some o') →
      h'.get? s.heap.objs.size = some { cls := .type "list", dict := none, data := .seq its.toArray c', slots := #[] } → EP X pins σ Q (.ref s.heap.objs.size) { s with heap := h' } := fun its r' hz h' c' kp e =>
    ⟨.ref s.heap.objs.size, _, I.laid (t' := s.toks) kp (Nat.le_refl _) (show ObjOk X.prog X.w _ h' _ (.lst ys) from ⟨hz, its, c', r', e⟩), rfl, q _ (I.hok.fresh (Nat.le_refl _))⟩
  rcases hq with hq | hq
  · obtain ⟨its, r', pl, hz⟩ := I.list hq
    have hlen := r'.length
    obtain ⟨o, ho, hc, n, hd⟩ := pl.isList
    exact call_list_seq p (.inl rfl) ho hc hd (fun h' c' kp e => fin its r' hz h' c' kp e) (by simp only [List.size_toArray] <;> omega)
  · obtain ⟨its, r', pl, hz⟩ := I.tuple hq
    have hlen := r'.length
    obtain ⟨o, ho, hc, n, hd⟩ := pl
    exact call_list_seq p (.inr rfl) ho hc hd (fun h' c' kp e => fin its r' hz h' c' kp e) (by simp only [List.size_toArray] <;> omega)
/-! ### the call of a builtin's method: o.m(..) -/
/-- the value is of that builtin type -/
def tyV (K : PySem.W.Frag) (T : String) (x : V) (H : Hp) : Prop := match x with
  | .str _ => T = "str"
  | .int _ => T = "int"
  | .ref p => (T = "list" ∧ ∃ xs, SqL K H p xs) ∨ (T = "tuple" ∧ ∃ o, K.lookup p = some o ∧ o.cls = .type "tuple" ∧ o.dict = none) ∨
      (T = "dict" ∧ ((∃ kvs, H p = some (.dK kvs)) ∨ ∃ kvs, H p = some (.dT kvs))) ∨ (T = "set" ∧ ∃ S n, H p = some (.set S n))
  | _ => False
theorem tyV_is {pins : List (Addr × Obj)} {σ : St} {H : Hp} {s : Shared} {T : String} {x : V} {v : Value} (I : Inv X pins σ H s) (r : RelV x v) (ty : tyV X.K T x H) :
    s.TypeIs v T ∧ ∀ a, v = .ref a → ∃ ob, s.heap.get? a = some ob ∧ ob.dict = none := by
  cases x with
  | str z =>
    obtain ⟨t, rfl⟩ := r
    cases (show T = "str" from ty)
    exact ⟨typeIs_str s z t, fun _ e => nomatch e⟩
  | int i =>
    obtain ⟨t, rfl⟩ := r
    cases (show T = "int" from ty)
    exact ⟨typeIs_int s i t, fun _ e => nomatch e⟩
  | ref p =>
    cases r
    rcases ty with ⟨rfl, xs, hq⟩ | ⟨rfl, o, hk, hc, hd⟩ | ⟨rfl, hk⟩ | ⟨rfl, S, n, hk⟩
    · obtain ⟨its, _, pl, _⟩ := I.list hq
      refine ⟨pl.isList.typeIs, fun a e => ?_⟩
      cases e
      obtain ⟨o, n, e, c, hd, _⟩ := pl
      exact ⟨o, e, hd⟩
    · refine ⟨⟨o, I.kIn p o hk, hc⟩, fun a e => ?_⟩
      cases e
      exact ⟨o, I.kIn _ o hk, hd⟩
    · have z : ∃ o, s.heap.get? p = some o ∧ o.ExactDict := by
        rcases hk with ⟨kvs, hk⟩ | ⟨kvs, hk⟩
        · obtain ⟨_, _, _, _, o, _, _, e, ex, _⟩ := I.hok p _ hk
          exact ⟨o, e, ex⟩
        · obtain ⟨_, _, _, _, o, _, _, e, ex, _⟩ := I.hok p _ hk
          exact ⟨o, e, ex⟩
      obtain ⟨o, e, ex⟩ := z
      refine ⟨⟨o, e, ex.1⟩, fun a e2 => ?_⟩
      cases e2
      exact ⟨o, e, ex.2.1⟩
    · obtain ⟨o, _, _, _, e, ex, _⟩ := I.hok p _ hk
      refine ⟨⟨o, e, ex.1⟩, fun a e2 => ?_⟩
      cases e2
      exact ⟨o, e, ex.2.1⟩
  | _ => exact False.elim ty
def tBM (K : PySem.W.Frag) (T : String) (r : V → List V → Hp → VK → Prop) (to : TE) (t : TA) : TE := fun σ H Q => to σ H fun x H1 => tyV K T x H1 ∧ t σ H1 fun xs H2 => r x xs H2 Q
variable {o e : Expr} {es : List Expr} {to : TE} {t : TA} {name : Str} {apos cpos : Pos} {T id : String} {r : V → List V → Hp → VK → Prop}
theorem pe_bm (pa : PlainAttrs T) (slot : Slot T name id) (hty : typeOf (.builtin id) = pure (.type "method_descriptor")) (hm : MtR X id r) (ho : PE X o to) (ha : PA X (e :: es) t)
    (hbase : attributeBase o name X.env (eval o X.env) = eval o X.env := by rfl)
    (hfew : ((backTo cpos (starEach (e :: es) X.env)).all (fun x => !x.1) && (backToKw cpos (keywordEach [] X.env)).all (fun x => x.1.isSome)
      && decide ((e :: es).length + ([] : List Keyword).length + (if ([] : List Keyword).isEmpty then 0 else 1) < 30)) = true := by rfl)
    (hline : (apos.endLine == cpos.line) = true := by rfl) (hs : starEach (e :: es) X.env = (false, eval e X.env) :: starEach es X.env := by rfl) (hplain : (backTo cpos (starEach es X.env)).any (·.1) = false := by rfl) :
    PE X (.Call (.Attribute o name apos) (e :: es) [] cpos) (tBM X.K T r to t) := by
  intro pins s σ H Q I h
  refine wpAny_Call_method_late hbase hfew hline rfl (thn (ho pins s σ H _ I h) fun v s1 ⟨x, H1, I1, r1, ty, q1⟩ => ?_)
  obtain ⟨h1, h2⟩ := tyV_is I1 r1 ty
  refine ⟨T, id, pa, slot, hty, h1, h2, ?_⟩
  have hA := ha cpos pins s1 σ H1 _ I1 q1
  rw [hs] at hA ⊢
  refine Calls.callWith_builtin (by show (false || (backTo cpos (starEach es X.env)).any (·.1)) = false; rw [hplain] <;> rfl) (Calls.evalArgs_plain ?_)
  exact thn hA fun us s2 ⟨vs, H2, I2, r2, q2⟩ => hm pins s2 σ H2 x vs v us Q I2 r1 r2 q2
/- xs.append(e), list.index on a module's tuple .. are MtR facts of 06m -/
end
end L2

namespace L2
open PySem PySem.Spec PyProof.Rows

def MtM (X : Cx) (id : String) (r : V → List V → Hp → VK → Prop) : Prop :=
  ∀ (pins : List (Addr × Obj)) (s : Shared) (σ : St) (H : Hp) (x : V) (xs : List V) (v : Value) (us : List Value) (Q : VK), Inv X pins σ H s → RelV x v → Vals xs us → r x xs H Q →
    wpAny (model X.prog X.w) X.A (call (.builtin id) (v :: us)) (EP X pins σ Q) X.xe s

/-! ### lists of values -/
theorem Vals.one : ∀ {x : V} {us : List Value}, Vals [x] us → ∃ u, us = [u] ∧ RelV x u
  | _, _, .cons r .nil => ⟨_, rfl, r⟩
theorem Vals.two : ∀ {x y : V} {us : List Value}, Vals [x, y] us → ∃ u v, us = [u, v] ∧ RelV x u ∧ RelV y v
  | _, _, _, .cons r (.cons q .nil) => ⟨_, _, rfl, r, q⟩
theorem Vals.zero : ∀ {us : List Value}, Vals [] us → us = []
  | _, .nil => rfl
theorem Vals.dropLast {xs : List V} {us : List Value} (h : Vals xs us) : Vals xs.dropLast us.dropLast := by
  induction h with
  | nil => exact .nil
  | cons r t ih =>
    cases t with
    | nil => exact .nil
    | cons q t' => exact .cons r ih
section
variable {X : Cx} {pins : List (Addr × Obj)} {σ : St} {H : Hp} {s : Shared} {l b : Addr} {xs ys zs : List V}

/-! ### the two steps: a tracked list is rewritten, a new list is laid -/
theorem Inv.lset {its its' : List Value} {n : Nat} {f : Array Value → Array Value} {t' : Nat} (I : Inv X pins σ H s) (hH : H l = some (.lst xs))
    (e : s.heap.get? l = some { cls := .type "list", data := .seq its.toArray n }) (hf : f its.toArray = its'.toArray) (hv : Vals ys its') (hz : ys.length ≤ sizeLine) :
    Inv X pins σ (upd H l (.lst ys)) { s with heap := s.heap.update l (Obj.mapSeq f), toks := t' } := by
  have q := PySem.IsL.update e f
  rw [hf] at q
  refine I.write (x := l) (e := l) (by rw [hH]; exact trivial) (.inl rfl) (fun b' u hb hu => (Heap.get?_update_other s.heap (Obj.mapSeq f) (Ne.symm hb)).trans hu) ⟨_, q⟩ ?_
  exact ⟨hz, its', _, hv, q⟩
theorem Inv.lnew {its : List Value} {t' : Nat} (I : Inv X pins σ H s) (hv : Vals ys its) (hz : ys.length ≤ sizeLine) :
    Inv X pins σ (upd H s.heap.objs.size (.lst ys)) { s with heap := s.heap.push { cls := .type "list", data := .seq its.toArray }, toks := t' } :=
  I.laid (fun _ _ q => Heap.get?_push_of_some _ q) (Nat.le_refl _) ⟨hz, its, 0, hv, Heap.get?_push_size _ rfl⟩
theorem Inv.fresh (I : Inv X pins σ H s) : H s.heap.objs.size = none := I.hok.fresh (Nat.le_refl _)
theorem Inv.lstM (I : Inv X pins σ H s) (hH : H l = some (.lst xs)) : xs.length ≤ sizeLine ∧ ∃ (its : List Value) (n : Nat), Vals xs its ∧ xs.length = its.length ∧ s.heap.get? l = some { cls := .type "list", data := .seq its.toArray n } := by
  obtain ⟨z, its, n, r, e⟩ := I.hok l _ hH
  exact ⟨z, its, n, r, r.length, e⟩

theorem notLongL {n : Nat} (h : n ≤ sizeLine) : Builtin.List.listTooLong n = false := by
  unfold Builtin.List.listTooLong
  exact decide_eq_false (by omega)
end

section
variable {X : Cx}

/-! ### methods -/
def rAppend : V → List V → Hp → VK → Prop := fun x vs H Q => ∃ l xs y, x = .ref l ∧ vs = [y] ∧ H l = some (.lst xs) ∧ xs.length < sizeLine ∧ Q .non (upd H l (.lst (xs ++ [y])))
theorem mt_append : MtM X "list.append" rAppend := by
  intro pins s σ H x vs v us Q I rx rv h
  obtain ⟨l, xs, y, rfl, rfl, hH, hz, q⟩ := h
  cases rx
  obtain ⟨u, rfl, ru⟩ := rv.one
  obtain ⟨z, its, n, r, hl, e⟩ := I.lstM hH
  refine call_meets F.slot_list_append ⟨_, e, rfl⟩ F.entry_list_append (F.args_list_append_2 _ _) (PySem.list_append l its.toArray n u (by rw [List.size_toArray]; omega)) ⟨e, ?_⟩
  refine ⟨.non, _, I.lset (its' := its ++ [u]) hH e (by simp) (r.append (.cons ru .nil)) ?_, rfl, q⟩
  rw [List.length_append, List.length_singleton]
  omega

def rExtend : V → List V → Hp → VK → Prop := fun x vs H Q => ∃ l b xs zs, x = .ref l ∧ vs = [.ref b] ∧ H l = some (.lst xs) ∧ H b = some (.lst zs) ∧ xs.length + zs.length ≤ sizeLine ∧ Q .non (upd H l (.lst (xs ++ zs)))
theorem mt_extend : MtM X "list.extend" rExtend := by
  intro pins s σ H x vs v us Q I rx rv h
  obtain ⟨l, b, xs, zs, rfl, rfl, hH, hB, hz, q⟩ := h
  cases rx
  obtain ⟨u, rfl, ru⟩ := rv.one
  cases ru
  obtain ⟨z, its, n, r, hl, e⟩ := I.lstM hH
  obtain ⟨z2, its2, n2, r2, hl2, e2⟩ := I.lstM hB
  have hsz : its.toArray.size + its2.toArray.size ≤ sizeLine := by rw [List.size_toArray, List.size_toArray]; omega
  have hlong : ¬ (!its.toArray.isEmpty && Builtin.List.listTooLong (its.toArray.size + its2.toArray.size)) = true := by
    rw [notLongL hsz, Bool.and_false]
    exact Bool.false_ne_true
  refine call_meets F.slot_list_extend ⟨_, e, rfl⟩ F.entry_list_extend (F.args_list_extend_2 _ _)
    (AutoSeq1.list_extend_list_list_0 l its.toArray n b its2.toArray n2 hlong (by rw [List.size_toArray]; omega) (by omega)) ⟨e, e2, ?_⟩
  refine ⟨.non, _, I.lset (its' := its ++ its2) hH e (by simp) (r.append r2) ?_, rfl, q⟩
  rw [List.length_append]
  omega

/-! ### list + list, list += list, list * int -/
def rCat : R2 := fun x y H Q => ∃ l b xs zs, x = .ref l ∧ y = .ref b ∧ H l = some (.lst xs) ∧ H b = some (.lst zs) ∧ xs.length + zs.length ≤ sizeLine ∧ ∀ p, H p = none → Q (.ref p) (upd H p (.lst (xs ++ zs)))
theorem op_cat : OpR X (binaryOp .Add) rCat := by
  intro pins s σ H x y v u Q I rx ry h
  obtain ⟨l, b, xs, zs, rfl, rfl, hH, hB, hz, q⟩ := h
  cases rx
  cases ry
  obtain ⟨z, its, n, r, hl, e⟩ := I.lstM hH
  obtain ⟨z2, its2, n2, r2, hl2, e2⟩ := I.lstM hB
  refine PySem.P.add_list e e2 ?_ (by rw [List.size_toArray, List.size_toArray]; omega)
  have ea : its.toArray ++ its2.toArray = (its ++ its2).toArray := by simp
  rw [ea]
  exact ⟨.ref _, _, I.lnew (t' := s.toks) (r.append r2) (by rw [List.length_append]; omega), rfl, q _ I.fresh⟩
/-! ### del xs[i] -/
end

/-! ### xs[a:b] = ys -/
section
variable {prog : Program} {w : World} {A : Around} {E : Value → Shared → Prop} {s : Shared}
end

section
variable {X : Cx}
end
end L2

namespace Att
open PySem PySem.W PySem.Calls PyProof.Rows

/-! ### the script -/
theorem ints_of_wellAll {P : Params} {h : Heap} : ∀ (ns : List Int) (vs : List Value), WellAll P h vs (ns.map WData.int) → IntsAre vs ns := by
  intro ns
  induction ns with
  | nil =>
    intro vs w
    rw [List.map_nil] at w
    cases w
    exact .nil
  | cons n ns ih =>
    intro vs w
    rw [List.map_cons] at w
    cases w with
    | cons a b =>
      cases a
      exact .cons _ _ (ih _ b)

theorem script_of {l : OpenLaw} {n : Nat} (hn : l.most = some n) {P : Params} {h : Heap} {args : List WData} {vals : List Value}
    (hpre : l.row.toRowW.claim.pre args = true) (hwl : WellAll P h vals args) :
    ∃ a vs ns, vals = [Value.ref a] ∧ args = [WData.list (ns.map WData.int)] ∧ h.get? a = some { cls := .type "list", data := .seq vs.toArray } ∧ IntsAre vs ns ∧ ns.length ≤ n := by
  have hsh : WShape.hasAll [] args [.list .int] = true := (pre_splitW hpre).1
  have hc : l.pre.holds [] { args := args } = true := (pre_splitW hpre).2
  obtain ⟨d, r, rfl, h1, h2⟩ := hasAllW_cons hsh
  obtain rfl := hasAllW_nil h2
  obtain ⟨xs, rfl, h3⟩ := hasW_list h1
  obtain ⟨ns, rfl⟩ := items_int h3
  have hlen : ns.length ≤ n := by
    unfold OpenLaw.pre at hc
    have h4 : (WTm.not (.lt (.lit (.int (n : Int))) (.len (.arg 0)))).holds [] { args := [.list (ns.map .int)] } = true := by
      have h4 := (holds_andW hc).1
      rw [hn] at h4
      exact h4
    have h5 := condW_of h4 (w_not (w_lt w_lit (w_len_list (w_arg rfl))))
    rw [List.length_map] at h5
    refine Nat.le_of_not_lt fun q => ?_
    have q' : (n : Int) < ((ns.length : Nat) : Int) := by omega
    first
      | (rw [decide_eq_true q'] at h5; exact absurd h5 (by decide))
      | (simp at h5; omega)
  cases hwl with
  | cons w1 w2 =>
    cases w2
    cases w1 with
    | list ho hall => exact ⟨_, _, ns, rfl, rfl, ho, ints_of_wellAll ns _ hall, hlen⟩

theorem post_true (l : OpenLaw) (args : List WData) : l.row.toRowW.claim.post args (.bool true) args = true :=
  postW_of (r := l.row.toRowW) (X := (true == true))
    (show WShape.has [] (.bool true) .bool = true by first | rfl | decide | simp [WShape.has, WShape.arms, WShape.armsAll])
    (show (WTm.eq .res (.lit (.bool true))).value [] { args := args, res := some (.bool true), after := args } = some (.bool (true == true)) from w_eq_bool (w_res rfl) w_lit) rfl

/-! ### the attachment: holds_open's last premise (the goal 'hc' behind k_head) from a wpAny of the law's body -/
/-! ### rules over ANY heap (no ledger) from facts about the written part K: the library's own take a ledger (News) for what they write -/
section
variable {prog : Program} {w : World} {A : Around} {E : Value → Shared → Prop} {s : Shared} {K : Frag}

/-! the whole heap as the ledger: makes every rule that writes through a ledger a rule over any heap -/
end
end Att

namespace L2
open PySem PySem.Spec PyProof.Rows

theorem vals_ints : ∀ {vs : List Value} {ns : List Int}, IntsAre vs ns → Vals (ns.map V.int) vs
  | _, _, .nil => .nil
  | _, _, .cons n t h => .cons ⟨t, rfl⟩ (vals_ints h)

/-- nothing is tracked but the script, known to the object (or it is an object of the module) -/
def Only (H : Hp) : Prop := ∀ b, H b = none ∨ ∃ o xs, H b = some (.frz o (.lst xs))

/-- THE HEAD: the law's promise, at the heap behind the top. F, the promise of the law's def, may use that base is part of the heap (so K.In base, base.Ns mainGlobals mg stand in Mod) -/
theorem law_call {P : Program} {w : World} {K : PySem.W.Frag} {mg mb : Str → Option Value} {CX : CXT} {k : Nat} {fa a : Addr} {fd : FuncData} {x : Str} {sp : Sp} {s₁ : Shared} {vs : List Value} {ns : List Int}
    (KX : K.In s₁.heap) (hns : s₁.heap.Ns mainGlobals mg) (hb : s₁.heap.Ns builtinsNs mb) (hbb : ∀ x : Str, x ≠ "__name__" → mb x = bootBuiltins x) (hlim : s₁.heap.NoLimit) (hg : s₁.gens = #[])
    (ha : s₁.heap.get? a = some { cls := .type "list", data := .seq vs.toArray }) (hi : IntsAre vs ns) (hl : ns.length ≤ sizeLine) (hr : Room k callerA)
    (F : ∀ base : Heap, K.In base → base.Ns mainGlobals mg → FnOk P w K mg base CX k fa fd [x] sp) (hbind : ∀ (s : Shared) (u : Value), BindsTo s fd ⟨[u], []⟩ [(x, u)])
    (hsp : ∀ H : Hp, Only H → SqL K H a (ns.map V.int) → sp [.ref a] H (fun v _ => v = .bl true) fun _ _ _ => False)
    (hCX : ∀ H e s', CX [] H s₁ (fun _ _ _ => False) e s' → False) :
    codeAny (model P w) callerA (.call (.ref fa) ⟨[.ref a], []⟩) (fun r s' => r = .ok (.ret (.bool true)) ∧ OldK s₁.heap s'.heap ∧ s'.os = s₁.os ∧ AllBare s'.gens) s₁ := by
  have rv := vals_ints hi
  have lenV := hi.length
  -- from an abstract heap in which nothing but the script may be tracked
  have core : ∀ H : Hp, Only H → SqL K H a (ns.map V.int) → HOk P w H s₁.heap → (∀ b, H b ≠ none → b = a) → (H a ≠ none → K.lookup a = none) →
      codeAny (model P w) callerA (.call (.ref fa) ⟨[.ref a], []⟩) (fun r s' => r = .ok (.ret (.bool true)) ∧ OldK s₁.heap s'.heap ∧ s'.os = s₁.os ∧ AllBare s'.gens) s₁ := by
    intro H hO hS hok hA hK
    have base_of : ∀ {b : Addr} {o : Obj}, s₁.heap.get? b = some o → H b = none → (hidT s₁.heap H).get? b = some o := fun e n => hidT_get e n
    have noA : ∀ {b : Addr} {o : Obj} {es : Array DictEntry} {ep : Nat}, s₁.heap.get? b = some o → o.data = .dict es ep → H b = none := fun {b o es ep} e d => by
      cases q : H b with
      | none => rfl
      | some u =>
        have e' : b = a := hA b (by rw [q]; simp)
        subst e'
        rw [ha] at e; cases e
        have d' : Data.seq vs.toArray _ = Data.dict es ep := d
        cases d'
    have nsK : ∀ {b : Addr} {m : Str → Option Value}, s₁.heap.Ns b m → (hidT s₁.heap H).Ns b m := fun {b m} ⟨o, es, ep, e, d, r⟩ => ⟨o, es, ep, base_of e (noA e d), d, r⟩
    have hKb : K.In (hidT s₁.heap H) := fun b o e => base_of (KX b o e) (by
      cases q : H b with
      | none => rfl
      | some u =>
        have e' : b = a := hA b (by rw [q]; simp)
        subst e'
        rw [hK (by rw [q]; simp)] at e; cases e)
    have hM : Mod K mg (hidT s₁.heap H) := ⟨hKb, nsK hns, ⟨mb, nsK hb, hbb⟩, let ⟨mc, h1, h2⟩ := hlim; ⟨mc, nsK h1, h2⟩⟩
    have e0 : Env0 P w K mg (hidT s₁.heap H) callerA [] s₁ H := ⟨rfl, hM, fun b o e => of_hidT e, Nat.le_of_eq (hidT_size _ _), trivial, fun b hb => absurd (show b ∈ ([] : List Addr) from hb) (by simp), hok, .of_eq hg⟩
    refine codeAny_mono ((F _ hKb (nsK hns)).run callerA [] s₁ H ⟨[.ref a], []⟩ [.ref a] [.ref a] _ _ hr e0 (hbind s₁ (.ref a)) (.cons rfl .nil) (hsp H hO hS)) fun r s' h => ?_
    cases r with
    | error e => exact (hCX H e s' h).elim
    | ok fl =>
      cases fl with
      | next => exact False.elim h
      | brk => exact False.elim h
      | cont => exact False.elim h
      | ret u =>
        obtain ⟨v, H', os, bare, un, hok', r', q⟩ := h
        have q' : v = .bl true := q
        subst q'
        obtain rfl : u = Value.bool true := r'
        refine ⟨rfl, OldK.of_keep fun b o e => ?_, os, bare⟩
        cases q : H b with
        | none => exact un.keep b o e q (by intro z; exact absurd (show b ∈ ([] : List Addr) from z) (by simp)) (by simp)
        | some u =>
          rcases hO b with z | ⟨ob, xs, z⟩
          · rw [q] at z; cases z
          · have z2 := un.frzs b ob _ z
            obtain ⟨e1, _⟩ := hok b _ z
            obtain ⟨e2, _⟩ := hok' b _ z2
            rw [e] at e1; cases e1
            exact e2
  cases hk : K.lookup a with
  | some o =>
    -- the script is one of the module's own objects
    have e := KX a o hk
    rw [ha] at e
    cases e
    refine core (fun _ => none) (fun _ => .inl rfl) (.inr ⟨_, vs.toArray, _, hk, rfl, rfl, rfl, by rw [List.size_toArray, lenV]; exact hl, by simpa using rv⟩) (fun b u z => by have z' : (none : Option HO) = some u := z; cases z') (fun b z => absurd rfl z) fun z => absurd rfl z
  | none =>
    refine core (fun b => if b = a then some (.frz { cls := .type "list", data := .seq vs.toArray } (.lst (ns.map V.int))) else none) (fun b => ?_) (.inl (.inr ⟨{ cls := .type "list", data := .seq vs.toArray }, if_pos rfl⟩)) (fun b u z => ?_) (fun b z => ?_) fun _ => hk
    · by_cases hb : b = a
      · exact .inr ⟨_, _, if_pos hb⟩
      · exact .inl (if_neg hb)
    · by_cases hb : b = a
      · have z' := (if_pos hb).symm.trans z
        cases z'
        subst hb
        exact ⟨ha, by rw [List.length_map]; exact hl, vs, _, rv, ha⟩
      · have z' := (if_neg hb).symm.trans z
        cases z'
    · by_cases hb : b = a
      · exact hb
      · exact absurd (if_neg hb) z
end L2

namespace L2
open PySem PySem.Spec PyProof.Rows

abbrev KOf {K : PySem.W.Frag} {h : Heap} (_ : K.In h) : PySem.W.Frag := K

end L2


/-! SHORT WORDS over the layer: a def of the text, its body, what a loop and a test want. -/
namespace L2
open PySem PySem.Spec PyProof.Rows

/-! ### the text by places -/
/-- the j-th statement of a class's body -/
def inClass (s : Stmt) (j : Nat) : Stmt := match s with
  | .ClassDef _ _ _ body _ _ _ _ _ _ _ => body.getD j (.Pass ⟨0, 0, 0, 0⟩)
  | _ => .Pass ⟨0, 0, 0, 0⟩
def defArgs (s : Stmt) : Arguments := match s with
  | .FunctionDef _ a _ _ _ _ _ _ _ _ => a
  | _ => { posonlyargs := [], args := [], vararg := none, kwonlyargs := [], kw_defaults := [], kwarg := none, defaults := [] }
def defBody (s : Stmt) : List Stmt := match s with
  | .FunctionDef _ _ b _ _ _ _ _ _ _ => b
  | _ => []
def defScope (s : Stmt) : Scope := match s with
  | .FunctionDef _ _ _ _ _ _ sc _ _ _ => sc
  | _ => { kind := .function, names := [], isGenerator := false, isCoroutine := false }

/-! ### no exception leaves a def -/
abbrev CX0 : CXT := fun _ _ _ _ _ _ => False
abbrev E0 : XK := fun _ _ _ => False
theorem pass0 {X : Cx} : Passes CX0 X E0 := fun _ _ _ _ _ _ _ h => h.elim

/-! ### a def (or method) of the text as it stands behind the top -/
structure Fun (K : PySem.W.Frag) (x qual : Str) (st : Stmt) (f : Addr) (fd : FuncData) : Prop where
  ex : ∃ (oc : Value) (od : Option Addr) (kV doc pm : Value) (an : Option Addr) (cdv ct : Value) (osl : Array (Option Value)),
    fd = PySem.W.fnOf x qual (defArgs st) (defBody st) (defScope st) .none kV doc pm an cdv ct ∧ K.lookup f = some ⟨oc, od, .func fd, osl⟩ ∧ PySem.W.codeIn K cdv qual = true
  kp : PySem.W.keepIn K (.ref f) = true
section
variable {P : Program} {w : World} {K : PySem.W.Frag} {mg : Str → Option Value} {base : Heap}
/-- THE RULE for a def: its body as a term of rules, and the reading of that term -/
theorem Fun.ok {x qual : Str} {st : Stmt} {f : Addr} {fd : FuncData} {N ps : List Str} {k : Nat} {sp : Sp} (F : Fun K x qual st f fd) (S : FnScope N ps (defScope st)) (len : ∀ vs H Q E, sp vs H Q E → vs.length = ps.length)
    (hbody : ∀ (cdv : Value) (A : Around) (outer : List Env) (s : Shared) (H : Hp) (vs : List V) (Q : VK) (E : XK), Room k (A.deeper (envOfC qual (defScope st) s.heap.objs.size f cdv)) → sp vs H Q E →
      ∃ t, PSs (cxOf CX0 P w K mg base N qual (defScope st) f cdv A outer s H E).nox (defBody st) t ∧ t { nx := fun _ H' => Q .non H', rt := Q } (start N vs) H) : FnOk P w K mg base CX0 (k + 1) f fd ps sp := by
  obtain ⟨oc, od, kV, doc, pm, an, cdv, ct, osl, rfl, lk, hcd⟩ := F.ex
  refine fn_of lk hcd S len fun A outer s H vs Q E hr hsp => ?_
  obtain ⟨t, h, q⟩ := hbody cdv A outer s H vs Q E hr hsp
  exact ⟨t, h.nox, q⟩
/-- how its arguments bind (no defaults): h is «fun _ _ _ _ _ _ us hl => match us, hl with | [_, _], _ => rfl», one _ a parameter -/
theorem Fun.binds {x qual : Str} {st : Stmt} {f : Addr} {fd : FuncData} {ps : List Str} (F : Fun K x qual st f fd)
    (h : ∀ (kV doc pm : Value) (an : Option Addr) (cdv ct : Value) (us : List Value), us.length = ps.length → bindArgs (PySem.W.fnOf x qual (defArgs st) (defBody st) (defScope st) .none kV doc pm an cdv ct) ⟨us, []⟩ = pure (ps.zip us)) : Binds K fd ps [] := by
  obtain ⟨oc, od, kV, doc, pm, an, cdv, ct, osl, rfl, lk, hcd⟩ := F.ex
  exact .all (h kV doc pm an cdv ct)
theorem fun_mk {x qual : Str} {st : Stmt} {f : Addr} {oc : Value} {od an : Option Addr} {osl : Array (Option Value)} {kV doc pm cdv ct : Value} (l : K.lookup f = some ⟨oc, od, .func (PySem.W.fnOf x qual (defArgs st) (defBody st) (defScope st) .none kV doc pm an cdv ct), osl⟩)
    (c : PySem.W.codeIn K cdv qual = true) (k : PySem.W.keepIn K (.ref f) = true) : Fun K x qual st f (PySem.W.fnOf x qual (defArgs st) (defBody st) (defScope st) .none kV doc pm an cdv ct) := ⟨⟨oc, od, kV, doc, pm, an, cdv, ct, osl, rfl, l, c⟩, k⟩
end
/-! ### expressions in short: the name that stands in the i-th slot -/
section
variable {X : Cx}
theorem pv (i : Nat) {x : Str} {pos : Pos} (hN : X.N[i]? = some x := by rfl) (hv : Vis X.env.scope x := by first | exact Or.inl rfl | exact Or.inr (Or.inl rfl) | exact Or.inr (Or.inr rfl)) (hd : (x == ("__debug__" : Str)) = false := by decide)
    (hcd : (x == ("__classdict__" : Str)) = false := by decide) : PE X (.Name x pos) (tVar i) := pe_var hN hv hd hcd
end

/-! ### tests -/
theorem iteF {A B : Prop} (h : B) : if false = true then A else B := by
  rw [if_neg Bool.false_ne_true]
  exact h
theorem iteT {A B : Prop} (h : A) : if true = true then A else B := by
  rw [if_pos rfl]
  exact h
theorem ite2 {c A B : Prop} [Decidable c] (h1 : c → A) (h2 : ¬ c → B) : if c then A else B := by
  by_cases h : c
  · rw [if_pos h]
    exact h1 h
  · rw [if_neg h]
    exact h2 h
/-! ### heaps -/
/-- all that was tracked is as it was -/
def Same (H H' : Hp) : Prop := ∀ b o, H b = some o → H' b = some o
theorem Same.refl (H : Hp) : Same H H := fun _ _ h => h
theorem Same.trans {H H1 H2 : Hp} (a : Same H H1) (b : Same H1 H2) : Same H H2 := fun c o h => b c o (a c o h)
theorem Same.free {H H' : Hp} (e : Same H H') {l : Addr} (h : H' l = Option.none) : H l = Option.none := by
  cases q : H l with
  | none => rfl
  | some o =>
    rw [e l o q] at h
    cases h
theorem Same.seq {K : PySem.W.Frag} {H H' : Hp} {a : Addr} {xs : List V} (e : Same H H') (h : SqL K H a xs) : SqL K H' a xs := by
  rcases h with (h | ⟨o, h⟩) | h
  · exact .inl (.inl (e _ _ h))
  · exact .inl (.inr ⟨o, e _ _ h⟩)
  · exact .inr h

end L2
namespace L2
open PySem PySem.Spec PyProof.Rows

/-! ### lists of pairs as tables -/
section
variable {κ : Type} [DecidableEq κ]
def valV (kvs : List (κ × V)) (k : κ) : Option V := (kvs.find? fun kv => decide (kv.1 = k)).map (·.2)
/-- in its place, or at the end -/
def putK (kvs : List (κ × V)) (k : κ) (v : V) : List (κ × V) :=
  if (kvs.any fun kv => decide (kv.1 = k)) = true then kvs.map (fun kv => if kv.1 = k then (kv.1, v) else kv) else kvs ++ [(k, v)]
def dropK (kvs : List (κ × V)) (k : κ) : List (κ × V) := kvs.filter fun kv => decide (kv.1 ≠ k)

theorem valV_pos {p : κ × V} {r : List (κ × V)} {k : κ} (e : p.1 = k) : valV (p :: r) k = some p.2 := by simp [valV, List.find?_cons, e]
theorem valV_neg {p : κ × V} {r : List (κ × V)} {k : κ} (e : ¬ p.1 = k) : valV (p :: r) k = valV r k := by simp [valV, List.find?_cons, e]
theorem RelO.getD {o : Option V} {u : Option Value} {d : V} {d' : Value} (r : RelO o u) (rd : RelV d d') : RelV (o.getD d) (u.getD d') := by
  cases o with
  | none => cases u with
    | none => exact rd
    | some _ => exact (show False from r).elim
  | some _ => cases u with
    | none => exact (show False from r).elim
    | some _ => exact r

/-- raw tables of the same keys -/
theorem KV.val {kvs : List (κ × V)} {vs : List (κ × Value)} (r : KV kvs vs) (k : κ) : RelO (valV kvs k) (valueAt vs k) := by
  unfold KV at r
  induction r with
  | nil => exact True.intro
  | @cons p q ps qs h t ih =>
    obtain ⟨h1, h2⟩ := h
    by_cases e : p.1 = k
    · have e' : q.1 = k := h1.symm.trans e
      have b : valueAt (q :: qs) k = some q.2 := by simp [valueAt, List.find?_cons, e']
      rw [valV_pos e, b]; exact h2
    · have e' : ¬ q.1 = k := fun z => e (h1.trans z)
      have b : valueAt (q :: qs) k = valueAt qs k := by simp [valueAt, List.find?_cons, e']
      rw [valV_neg e, b]; exact ih
theorem KV.any {kvs : List (κ × V)} {vs : List (κ × Value)} (r : KV kvs vs) (k : κ) : (kvs.any fun kv => decide (kv.1 = k)) = vs.any fun kv => decide (kv.1 = k) := by
  unfold KV at r
  induction r with
  | nil => rfl
  | cons h t ih => rw [List.any_cons, List.any_cons, ih, h.1]
theorem KV.drop {kvs : List (κ × V)} {vs : List (κ × Value)} (r : KV kvs vs) (k : κ) : KV (dropK kvs k) (without vs k) := by
  unfold KV at r ⊢
  unfold dropK without
  induction r with
  | nil => exact .nil
  | @cons p q ps qs h t ih =>
    obtain ⟨h1, h2⟩ := h
    rw [List.filter_cons, List.filter_cons]
    by_cases e : p.1 = k
    · have a : ¬ decide (p.1 ≠ k) = true := by simp [e]
      have b : ¬ decide (q.1 ≠ k) = true := by simp [h1.symm.trans e]
      rw [if_neg a, if_neg b]; exact ih
    · have e' : ¬ q.1 = k := fun z => e (h1.trans z)
      have a : decide (p.1 ≠ k) = true := by simp [e]
      have b : decide (q.1 ≠ k) = true := by simp [e']
      rw [if_pos a, if_pos b]; exact .cons ⟨h1, h2⟩ ih
theorem KV.keys {kvs : List (κ × V)} {vs : List (κ × Value)} (r : KV kvs vs) : kvs.map (·.1) = vs.map (·.1) := by
  unfold KV at r
  induction r with
  | nil => rfl
  | cons h t ih => rw [List.map_cons, List.map_cons, ih, h.1]
theorem KV.length {kvs : List (κ × V)} {vs : List (κ × Value)} (r : KV kvs vs) : kvs.length = vs.length := Paired.length r
end


/-! ### a tracked dict, its keys ints and texts or tuples of these -/
/-- raw entries of a dict with tuple keys -/
abbrev KT (H : Hp) : List (List Key × V) → List (List Key × Addr × Value) → Prop := Paired fun p q => p.1 = q.1 ∧ H q.2.1 = some (.tup (p.1.map kV)) ∧ RelV p.2 q.2.2
theorem KT.val {H : Hp} {kvs : List (List Key × V)} {xs : List (List Key × Addr × Value)} (r : KT H kvs xs) (k : List Key) : RelO (valV kvs k) ((atKey xs k).map (·.2)) := by
  induction r with
  | nil => exact True.intro
  | @cons p q ps qs h t ih =>
    obtain ⟨h1, _, h2⟩ := h
    by_cases e : p.1 = k
    · have e' : q.1 = k := h1.symm.trans e
      have b : atKey (q :: qs) k = some q.2 := by simp [atKey, List.find?_cons, e']
      rw [valV_pos e, b]; exact h2
    · have e' : ¬ q.1 = k := fun z => e (h1.trans z)
      have b : atKey (q :: qs) k = atKey qs k := by simp [atKey, List.find?_cons, e']
      rw [valV_neg e, b]; exact ih
theorem KT.keeps {H H' : Hp} {kvs : List (List Key × V)} {xs : List (List Key × Addr × Value)} (r : KT H kvs xs) (ht : ∀ b ys, H b = some (.tup ys) → H' b = some (.tup ys)) : KT H' kvs xs :=
  Paired.mapP r fun _ _ z => ⟨z.1, ht _ _ z.2.1, z.2.2⟩

section
variable {P : Program} {w : World} {H : Hp} {h : Heap} {a : Addr}
end

/-- what the dict at a holds at the key y -/
def DGet (H : Hp) (a : Addr) (y : V) (r : Option V) : Prop :=
  (∃ kvs k, Rd H a (.dK kvs) ∧ y = kV k ∧ r = valV kvs k) ∨ ∃ kvs k b, Rd H a (.dT kvs) ∧ y = .ref b ∧ H b = some (.tup (k.map kV)) ∧ r = valV kvs k
/-- the heap behind a[y] = v -/
def DPut (H : Hp) (a : Addr) (y v : V) (H' : Hp) : Prop :=
  (∃ kvs k, H a = some (.dK kvs) ∧ y = kV k ∧ kvs.length < sizeLine ∧ H' = upd H a (.dK (putK kvs k v))) ∨
  ∃ kvs k b, H a = some (.dT kvs) ∧ y = .ref b ∧ H b = some (.tup (k.map kV)) ∧ kvs.length < sizeLine ∧ H' = upd H a (.dT (putK kvs k v))
theorem DGet.k {H : Hp} {a : Addr} {kvs : List (Key × V)} {k : Key} (e : H a = some (.dK kvs)) : DGet H a (kV k) (valV kvs k) := .inl ⟨kvs, k, .inl e, rfl, rfl⟩
theorem DGet.t {H : Hp} {a b : Addr} {kvs : List (List Key × V)} {k : List Key} (e : H a = some (.dT kvs)) (eb : H b = some (.tup (k.map kV))) : DGet H a (.ref b) (valV kvs k) := .inr ⟨kvs, k, b, .inl e, rfl, eb, rfl⟩
theorem DPut.k {H : Hp} {a : Addr} {kvs : List (Key × V)} {k : Key} {v : V} (e : H a = some (.dK kvs)) (hl : kvs.length < sizeLine) : DPut H a (kV k) v (upd H a (.dK (putK kvs k v))) := .inl ⟨kvs, k, e, rfl, hl, rfl⟩
theorem DPut.t {H : Hp} {a b : Addr} {kvs : List (List Key × V)} {k : List Key} {v : V} (e : H a = some (.dT kvs)) (eb : H b = some (.tup (k.map kV))) (hl : kvs.length < sizeLine) :
    DPut H a (.ref b) v (upd H a (.dT (putK kvs k v))) := .inr ⟨kvs, k, b, e, rfl, eb, hl, rfl⟩


section
variable {X : Cx} {pins : List (Addr × Obj)} {σ : St} {H : Hp} {s : Shared} {a : Addr} {y v : V} {u r : Value} {o : Option V} {A : Around} {E : Value → Shared → Prop}

end

section
variable {X : Cx} {pins : List (Addr × Obj)} {σ : St} {H : Hp} {s : Shared} {a : Addr} {kvs : List (Key × V)} {k : Key} {u : Value} {A : Around} {E : Value → Shared → Prop}
end


/-! ### readings and rules -/
section
variable {X : Cx} {o i e value : Expr} {pos pos' tpos : Pos} {td ty tv : TE}
end


/-! ### displays -/
section
variable {X : Cx} {pos : Pos}
end

/-- the pairs of a display, from the left -/
def tPairs : List (TE × TE) → St → Hp → (List (V × V) → Hp → Prop) → Prop
  | [], _, H, Q => Q [] H
  | (tk, tv) :: r, σ, H, Q => tk σ H fun x H1 => tv σ H1 fun y H2 => tPairs r σ H2 fun ps H3 => Q ((x, y) :: ps) H3
abbrev VV : List (V × V) → List (Value × Value) → Prop := Paired fun p q => RelV p.1 q.1 ∧ RelV p.2 q.2
def PPs (X : Cx) (pos : Pos) (keys : List (Option Expr)) (values : List Expr) (trs : List (TE × TE)) : Prop :=
  ∀ (pins : List (Addr × Obj)) (s : Shared) (σ : St) (H : Hp) (Q : List (V × V) → Hp → Prop), Inv X pins σ H s → tPairs trs σ H Q →
    wpAny (model X.prog X.w) X.A (evalPairs (pairTrees keys values X.env pos)) (fun vs s' => ∃ ps H', Inv X pins σ H' s' ∧ VV ps vs ∧ Q ps H') X.xe s
/-! ### methods -/
/-- a method call o.m(e) of a built-in, with one argument: what must be seen of the text -/
structure M1 (X : Cx) (o : Expr) (m : Str) (apos : Pos) (e : Expr) (cpos : Pos) : Prop where
  base : attributeBase o m X.env (eval o X.env) = eval o X.env
  few : ((backTo cpos (starEach [e] X.env)).all (fun x => !x.1) && (backToKw cpos (keywordEach [] X.env)).all (fun x => x.1.isSome)
    && decide (([e] : List Expr).length + ([] : List Keyword).length + (if ([] : List Keyword).isEmpty then 0 else 1) < 30)) = true
  line : (apos.endLine == cpos.line) = true
  trees : backTo cpos (starEach [e] X.env) = [(false, eval e X.env)]
structure M2 (X : Cx) (o : Expr) (m : Str) (apos : Pos) (e f : Expr) (cpos : Pos) : Prop where
  base : attributeBase o m X.env (eval o X.env) = eval o X.env
  few : ((backTo cpos (starEach [e, f] X.env)).all (fun x => !x.1) && (backToKw cpos (keywordEach [] X.env)).all (fun x => x.1.isSome)
    && decide (([e, f] : List Expr).length + ([] : List Keyword).length + (if ([] : List Keyword).isEmpty then 0 else 1) < 30)) = true
  line : (apos.endLine == cpos.line) = true
  trees : backTo cpos (starEach [e, f] X.env) = [(false, eval e X.env), (false, eval f X.env)]

section
variable {X : Cx} {pins : List (Addr × Obj)} {σ : St} {H : Hp} {s : Shared} {a : Addr} {y d : V} {u r : Value} {o : Option V} {A : Around} {E : Value → Shared → Prop}
end

section
variable {X : Cx} {o e f : Expr} {apos cpos : Pos} {td ty tx : TE}
end

/-! ### dict(d): a copy -/
section
variable {X : Cx} {pins : List (Addr × Obj)} {σ : St} {H : Hp} {s : Shared} {a : Addr} {kvs : List (Key × V)} {A : Around} {E : Value → Shared → Prop}
end


section
variable {X : Cx} {pins : List (Addr × Obj)} {σ : St} {H : Hp} {s : Shared} {a : Addr} {y : V} {u : Value} {A : Around} {E : Value → Shared → Prop}
end
end L2

namespace L2
open PySem PySem.Spec PyProof.Rows
section
variable {X : Cx}
end
/-! ### a dict's pairs: keys that differ -/
section
variable {κ : Type} [DecidableEq κ]
end
end L2
/-! comprehensions over the layer -/
namespace L2
open PySem PySem.Spec PyProof.Rows PySem.Calls

/-! ### the loop of a comprehension, with the step ahead of the store -/
section
variable {prog : Program} {w : World} {A : Around} {R : Result → Shared → Prop} {s : Shared}
theorem compLoop_go {elt target iter : Expr} {scope : Scope} {pos : Pos} {it acc : Value} {env : Env} (I : Nat → Shared → Prop)
    (turn : ∀ n s, I n s → wpAny (model prog w) A (pyNext it) (fun r s₁ => match r with
      | none => R (.ok .next) s₁
      | some v => wpAny (model prog w) A (letOwnedTupleGo target it v) (fun _ s₂ => wpAny (model prog w) A (assign target env v) (fun _ s₃ =>
          wpAny (model prog w) A (eval elt env) (fun x s₄ =>
            wpAny (model prog w) A (call (.builtin "list.append") [acc, x]) (fun _ s₅ => ∃ m, m < n ∧ I m s₅) (notedBy (model prog w) A env fun e s' => R (.error e) s') s₄)
            (notedBy (model prog w) A env fun e s' => R (.error e) s') s₃) (notedBy (model prog w) A env fun e s' => R (.error e) s') s₂) (notedBy (model prog w) A env fun e s' => R (.error e) s') s₁)
      (notedBy (model prog w) A env fun e s' => R (.error e) s') s)
    (n : Nat) (h : I n s) : codeAny (model prog w) A (.compLoop (.ListComp elt [⟨target, iter, [], 0⟩] scope pos) 0 it acc env) R s := by
  refine codeAny_loop rfl I (fun n s hI => ?_) n h
  show wpAny _ A ((compTurn (.ListComp elt [⟨target, iter, [], 0⟩] scope pos) 0 it acc env).onRaise (fun x => do noteFrame x env; theTreesLotGoes x)) _ _ s
  refine wpAny_noted ?_
  rw [compTurn_list1]
  refine wpAny_bind (wpAny_standAt (wpAny_bind (wpAny_mono (turn n s hI) (fun r s₁ h₁ => ?_) fun _ _ h' => h')))
  cases r with
  | none => exact wpAny_pure h₁
  | some v =>
    refine wpAny_bind (wpAny_mono h₁ (fun _ s₂ h₂ => wpAny_bind (wpAny_mono h₂ (fun _ s₃ h₃ => ?_) fun _ _ h' => h')) fun _ _ h' => h')
    exact wpAny_bind (wpAny_bind (wpAny_mono h₃ (fun x s₄ h₄ => wpAny_bind (wpAny_mono h₄ (fun _ s₅ h₅ => wpAny_pure (wpAny_pure ⟨rfl, h₅⟩)) fun _ _ h' => h')) fun _ _ h' => h'))
end

/-! ### the cells that a comprehension's block takes along -/
def clOf (env : Env) : List (Str × NameKind) → List (Str × Addr) → List (Str × Addr)
  | [], cs => cs
  | (n, k) :: r, cs => clOf env r (if k == .free then match env.cells.lookup n with | some c => (n, c) :: cs | none => cs else cs)
theorem clOf_mem {env : Env} : ∀ {ns : List (Str × NameKind)} {cs : List (Str × Addr)} {y : Str} {c : Addr}, (y, c) ∈ clOf env ns cs → (y, c) ∈ cs ∨ env.cells.lookup y = some c
  | [], _, _, _, h => .inl h
  | (n, k) :: r, cs, y, c, h => by
    unfold clOf at h
    rcases clOf_mem h with q | q
    · split at q
      · cases e : env.cells.lookup n with
        | none => rw [e] at q; exact .inl q
        | some d =>
          rw [e] at q
          rcases List.mem_cons.mp q with z | z
          · cases z; exact .inr e
          · exact .inl z
      · exact .inl q
    · exact .inr q
theorem clOf_has {env : Env} : ∀ {ns : List (Str × NameKind)} {cs : List (Str × Addr)} {y : Str}, ((∃ c, (y, c) ∈ cs) ∨ ((y, NameKind.free) ∈ ns ∧ ∃ c, env.cells.lookup y = some c)) → ∃ c, (y, c) ∈ clOf env ns cs
  | [], _, _, h => by
    rcases h with h | ⟨h, _⟩
    · exact h
    · cases h
  | (n, k) :: r, cs, y, h => by
    unfold clOf
    apply clOf_has
    rcases h with ⟨c, h⟩ | ⟨h, c, e⟩
    · left
      split
      · cases e : env.cells.lookup n with
        | none => exact ⟨c, h⟩
        | some d => exact ⟨c, List.mem_cons_of_mem _ h⟩
      · exact ⟨c, h⟩
    · rcases List.mem_cons.mp h with z | z
      · cases z
        left
        rw [e]
        exact ⟨c, by simp⟩
      · exact .inr ⟨z, c, e⟩
theorem closure_cl {env : Env} : ∀ {ns : List (Str × NameKind)} {cs : List (Str × Addr)}, (∀ y, (y, NameKind.free) ∈ ns → ∃ c, env.cells.lookup y = some c) →
    (forIn ns cs fun (x : Str × NameKind) (r : List (Str × Addr)) => (if x.2 == NameKind.free then (do let c ← cellOf env x.1; pure (ForInStep.yield ((x.1, c) :: r))) else pure (ForInStep.yield r) : Sem (ForInStep (List (Str × Addr))))) = (pure (clOf env ns cs) : Sem (List (Str × Addr)))
  | [], _, _ => rfl
  | (n, k) :: r, cs, h => by
    have ih := @closure_cl env r
    rw [List.forIn_cons]
    unfold clOf
    cases hk : k == NameKind.free with
    | false =>
      simp only [Bool.false_eq_true, if_false]
      exact ih fun y hy => h y (List.mem_cons_of_mem _ hy)
    | true =>
      have ek : k = NameKind.free := by simpa using hk
      subst ek
      obtain ⟨c, e⟩ := h n (by simp)
      have ec : cellOf env n = pure c := by unfold cellOf; rw [e]
      simp only [if_true]
      rw [ec, e]
      exact ih fun y hy => h y (List.mem_cons_of_mem _ hy)
theorem closure_eq {scope : Scope} {env : Env} (h : ∀ y, (y, NameKind.free) ∈ scope.names → ∃ c, env.cells.lookup y = some c) : closureFor scope env = pure (clOf env scope.names []) := by
  have q := closure_cl (cs := []) h
  unfold closureFor
  exact congrArg (fun m => m >>= fun r => pure r) q
end L2
namespace L2
open PySem PySem.Spec PyProof.Rows PySem.Calls

theorem lookup_relabel {env : Env} {y : Str} : ∀ {names : List (Str × NameKind)},
    (names.map fun (n, k) => if (k == NameKind.free && env.scope.kind == .function && env.kindOf n == some .cell) then (n, NameKind.cell) else (n, k)).lookup y
      = (names.lookup y).map fun k => if (k == NameKind.free && env.scope.kind == .function && env.kindOf y == some .cell) then NameKind.cell else k
  | [] => rfl
  | (n, k) :: r => by
    have ih := @lookup_relabel env y r
    by_cases hx : y = n
    · subst hx
      simp only [List.map_cons]
      split <;> rename_i hc
      · rw [List.lookup_cons, List.lookup_cons]; simp only [beq_self_eq_true, Option.map_some]; rw [if_pos hc]
      · rw [List.lookup_cons, List.lookup_cons]; simp only [beq_self_eq_true, Option.map_some]; rw [if_neg hc]
    · have hb : (y == n) = false := beq_eq_false_iff_ne.mpr hx
      simp only [List.map_cons]
      split <;> simp only [List.lookup_cons, hb] <;> exact ih

section
variable {X : Cx} {pins : List (Addr × Obj)} {σ : St} {H : Hp} {s : Shared} {a : Addr} {o : HO}
/-- an untracked new record is tracked from here on -/
theorem Inv.track (I : Inv X pins σ H s) (f : FpOk X pins H a) (hs : X.s₀.heap.objs.size ≤ a) (new : ObjOk X.prog X.w (upd H a o) s.heap a o) : Inv X pins σ (upd H a o) s := by
  obtain ⟨f0, f1, f2, f3, f4, f5⟩ := f
  have old : ∀ b ob, X.s₀.heap.get? b = some ob → b ≠ a := fun b ob e z => by subst z; exact absurd (Nat.lt_of_lt_of_le (Heap.lt_size e) hs) (Nat.lt_irrefl _)
  refine ⟨I.ok, I.os, I.bare, ⟨I.base.keep, I.base.slot, fun b ob e n hx => ?_, I.base.there, fun b xs e => ?_, fun b ob u e => ?_, fun b ps e => ?_⟩, I.loc, I.cell, ?_, fun x c e => ?_, fun p hp => ?_, fun b u e => ?_, I.len⟩
  · rw [upd_ne (old b ob e)]; exact I.base.free b ob e n hx
  · have q := I.base.tups b xs e; rw [upd_ne (ne_of_none q f0)]; exact q
  · have q := I.base.frzs b ob u e; rw [upd_ne (ne_of_none q f0)]; exact q
  · obtain ⟨more, q⟩ := I.base.tbls b ps e; exact ⟨more, by rw [upd_ne (ne_of_none q f0)]; exact q⟩
  · rw [upd_ne (Ne.symm f1)]; exact I.free
  · rw [upd_ne (f4 x c e)]; exact I.freeC x c e
  · obtain ⟨e, n, ne, nf, d⟩ := I.pin p hp
    exact ⟨e, by rw [upd_ne (f5 p hp)]; exact n, ne, nf, d⟩
  · by_cases hb : b = a
    · subst hb; rw [upd_same] at e; cases e; exact new
    · rw [upd_ne hb] at e
      exact (I.hok b u e).stay (fun c v _ q => q) (fun c q => by rw [upd_ne (ne_of_none q f0)]; exact q) fun c xs q => by rw [upd_ne (ne_of_none q f0)]; exact q
end

/-- the context of a comprehension's block: the variable x, then the names of the def around -/
def compCx (X : Cx) (scope : Scope) (C : Addr) (x : Str) (M : List Str) (s₂ : Shared) (H₂ : Hp) (fp : List Addr) : Cx :=
  { X with N := x :: M, s₀ := s₂, H₀ := H₂, env := compEnvC scope (clOf X.env scope.names []) C X.env, outer := X.stack, ex := fp, fn := fun _ => false, pn := [], xe := fun _ _ => False }

structure CompOk (X : Cx) (scope : Scope) (x : Str) (M : List Str) : Prop where
  kind : scope.kind = .function
  cell : ∀ y ∈ scope.names, y.2 ≠ .cell
  names : ∀ y ∈ scope.names, y.2 = .local → scope.names.lookup y.1 = some .local
  loc : scope.names.lookup x = some .local
  nd : (x :: M).Nodup
  free : ∀ y, (y, NameKind.free) ∈ scope.names → X.env.scope.names.lookup y = some .cell ∨ X.env.scope.names.lookup y = some .free
  len : M.length = X.N.length
  sub : ∀ (j : Nat) y, M[j]? = some y → scope.names.lookup y = some .local ∨ scope.names.lookup y = some .free → X.N[j]? = some y ∧ scope.names.lookup y = some .free

def compOkB (names outer : List (Str × NameKind)) (N M : List Str) (x : Str) : Bool :=
  names.all (fun y => decide (y.2 ≠ .cell)) && names.all (fun y => decide (y.2 = .local → names.lookup y.1 = some .local)) && decide (names.lookup x = some .local) && decide (x :: M).Nodup &&
  names.all (fun y => decide (y.2 = .free → (outer.lookup y.1 = some .cell ∨ outer.lookup y.1 = some .free))) && decide (M.length = N.length) &&
  (M.zip N).all (fun p => decide (names.lookup p.1 = some .local ∨ names.lookup p.1 = some .free → p.1 = p.2 ∧ names.lookup p.1 = some .free))
theorem compOk_of {X : Cx} {scope : Scope} {x : Str} {M : List Str} (hk : scope.kind = .function) (h : compOkB scope.names X.env.scope.names X.N M x = true) : CompOk X scope x M := by
  unfold compOkB at h
  simp only [Bool.and_eq_true, List.all_eq_true, decide_eq_true_eq] at h
  obtain ⟨⟨⟨⟨⟨⟨h1, h2⟩, h3⟩, h4⟩, h5⟩, h6⟩, h7⟩ := h
  refine ⟨hk, h1, h2, h3, h4, fun y hy => h5 _ hy rfl, h6, fun j y e q => ?_⟩
  have hj : j < M.length := (List.getElem?_eq_some_iff.mp e).1
  have hj2 : j < X.N.length := by omega
  have z : (M.zip X.N)[j]? = some (y, X.N[j]) := by rw [List.getElem?_zip_eq_some]; exact ⟨e, by simp [hj2]⟩
  have r := h7 _ (List.mem_of_getElem? z) q
  exact ⟨by rw [List.getElem?_eq_getElem hj2]; exact congrArg some r.1.symm, r.2⟩

section
variable {X : Cx} {scope : Scope} {x : Str} {M : List Str} {pins : List (Addr × Obj)} {σ : St} {H₂ : Hp} {s₂ : Shared}

/-- what the block's cells are -/
theorem CompOk.cl_of {y : Str} {c : Addr} (h : (clOf X.env scope.names []).lookup y = some c) : X.env.cells.lookup y = some c := by
  rcases clOf_mem (PySem.mem_of_lookup h) with q | q
  · cases q
  · exact q
theorem CompOk.cl_has (K : CompOk X scope x M) (ok : X.Ok) {y : Str} (h : (y, NameKind.free) ∈ scope.names) : ∃ c, (clOf X.env scope.names []).lookup y = some c ∧ X.env.cells.lookup y = some c := by
  have e1 : ∃ c, X.env.cells.lookup y = some c := ok.has y (K.free y h)
  obtain ⟨c, hc⟩ := clOf_has (env := X.env) (ns := scope.names) (cs := []) (y := y) (.inr ⟨h, e1⟩)
  have q : ∃ c, (clOf X.env scope.names []).lookup y = some c := by
    cases e : (clOf X.env scope.names []).lookup y with
    | some c => exact ⟨c, rfl⟩
    | none =>
      rw [List.lookup_eq_none_iff] at e
      have := e _ hc
      simp at this
  obtain ⟨c', hc'⟩ := q
  exact ⟨c', hc', CompOk.cl_of hc'⟩

theorem CompOk.closure (K : CompOk X scope x M) (ok : X.Ok) : closureFor scope X.env = pure (clOf X.env scope.names []) :=
  closure_eq fun y hy => by obtain ⟨c, _, q⟩ := K.cl_has ok hy; exact ⟨c, q⟩

/-- the block's start: D the list (untracked), C the block's own names -/
theorem inv_comp (K : CompOk X scope x M) (I : Inv X pins σ H₂ s₂) {fp : List Addr} (hf : ∀ b ∈ fp, FpOk X pins H₂ b) (hfl : ∀ b ∈ fp, b < s₂.heap.objs.size) {C : Addr} (hC : s₂.heap.objs.size ≤ C) {h₁ : Heap} {t : Nat} {m : Str → Option Value} (hn : h₁.Ns C m)
    (hk : ∀ b o, s₂.heap.get? b = some o → h₁.get? b = some o) : Inv (compCx X scope C x M s₂ H₂ fp) [] (none :: σ) H₂ { s₂ with heap := h₁, toks := t } := by
  have lt : ∀ {b : Addr} {o : Obj}, s₂.heap.get? b = some o → b ≠ C := fun {b o} e z => by subst z; exact absurd (Nat.lt_of_lt_of_le (Heap.lt_size e) hC) (Nat.lt_irrefl _)
  have cC : ∀ y c, (clOf X.env scope.names []).lookup y = some c → c ≠ C := fun y c e => by
    obtain ⟨v, o, ho, _⟩ := I.cell y c (CompOk.cl_of e)
    exact lt ho
  have sub : ∀ b ∈ frs X.stack, b = X.env.locals ∨ b ∈ X.fs := fun b hb => List.mem_cons.mp (I.stkSub b hb)
  have ok : (compCx X scope C x M s₂ H₂ fp).Ok := by
    refine ⟨I.ok.mod, K.kind, I.ok.glob, I.ok.blt, hC, fun y z c h1 h2 => ?_, fun y hy => ?_, fun y c z => ?_, I.ok.hd, I.ok.frames, .inl rfl, fun b hb => ⟨?_, fun y c e => ?_⟩, I.bs, Nat.le_trans I.ok.bsz I.sz, fun b o e hb => ?_, fun b hb hb2 => ?_, I.stack, I.stkFree⟩
    · exact I.ok.inj y z c (CompOk.cl_of h1) (CompOk.cl_of h2)
    · have hy' : (relabel scope X.env).names.lookup y = some .cell ∨ (relabel scope X.env).names.lookup y = some .free := hy
      have q : (y, NameKind.free) ∈ scope.names := by
        unfold relabel at hy'
        rw [lookup_relabel] at hy'
        cases e : scope.names.lookup y with
        | none => rw [e] at hy'; simp at hy'
        | some k =>
          have hm := PySem.mem_of_lookup e
          cases k with
          | free => exact hm
          | cell => exact absurd rfl (K.cell _ hm)
          | _ => rw [e] at hy'; simp at hy'
      obtain ⟨c, q, _⟩ := K.cl_has I.ok q
      exact ⟨c, q⟩
    · exact Bool.noConfusion (show false = true from z)
    · intro z
      have z' : b = C := z
      subst z'
      exact absurd (Nat.lt_of_lt_of_le (hfl b hb) hC) (Nat.lt_irrefl _)
    · exact (hf b hb).2.2.2.2.1 y c (CompOk.cl_of e)
    · have q := (hf b hb).2.2.2.1
      rcases q with q | q
      · exact I.ok.noex b o e q
      · exact absurd (Nat.lt_of_lt_of_le (Heap.lt_size (I.ok.bs b o e).1) q) (Nat.lt_irrefl _)
    · rcases sub b hb2 with z | z
      · exact (hf b hb).2.1 z
      · exact (hf b hb).2.2.1 z
  refine ⟨ok, rfl, I.bare, Un.kept hk, ⟨m, hn, fun i y v e1 e2 e3 => ?_⟩, fun y c e => ?_, ?_, fun y c e => ?_, fun p hp => absurd (show p ∈ ([] : List (Addr × Obj)) from hp) (by simp), I.hok.kept hk, ?_⟩
  · cases i with
    | zero =>
      have e2' : some (none : Option V) = some (some v) := e2
      cases e2'
    | succ j =>
      have e1' : M[j]? = some y := e1
      have e2' : σ[j]? = some (some v) := e2
      have e3' : (relabel scope X.env).names.lookup y = some .local ∨ (relabel scope X.env).names.lookup y = some .cell ∨ (relabel scope X.env).names.lookup y = some .free := e3
      have q : scope.names.lookup y = some .local ∨ scope.names.lookup y = some .free := by
        unfold relabel at e3'
        rw [lookup_relabel] at e3'
        cases e : scope.names.lookup y with
        | none => rw [e] at e3'; simp at e3'
        | some k =>
          have hm := PySem.mem_of_lookup e
          cases k with
          | free => exact .inr rfl
          | «local» => exact .inl rfl
          | cell => exact absurd rfl (K.cell _ hm)
          | _ => rw [e] at e3'; simp at e3'
      obtain ⟨nj, fr⟩ := K.sub j y e1' q
      have hm := PySem.mem_of_lookup fr
      have kd := K.free y hm
      have vs : Vis X.env.scope y := .inr kd
      obtain ⟨mo, _, lo⟩ := I.loc
      obtain ⟨u, r, l⟩ := lo j y v nj e2' vs
      refine ⟨u, r, .inr ⟨?_, ?_⟩⟩
      · show (relabel scope X.env).names.lookup y = some .cell ∨ (relabel scope X.env).names.lookup y = some .free
        unfold relabel
        rw [lookup_relabel, fr]
        simp only [Option.map_some]
        split
        · exact .inl rfl
        · exact .inr rfl
      · obtain ⟨c, q1, q2⟩ := K.cl_has I.ok hm
        rcases l with ⟨k, _⟩ | ⟨_, c', q3, z⟩
        · have k' : X.env.scope.names.lookup y = some .local := k
          rcases kd with kd | kd <;> · rw [k'] at kd; cases kd
        · rw [q2] at q3
          cases q3
          obtain ⟨oc, ho, hd⟩ := z
          exact ⟨c, q1, oc, hk _ _ ho, hd⟩
  · obtain ⟨v, oc, ho, hd⟩ := I.cell y c (CompOk.cl_of e)
    exact ⟨v, oc, hk _ _ ho, hd⟩
  · exact I.hok.fresh hC
  · exact I.freeC y c (CompOk.cl_of e)
  · show (none :: σ).length = (x :: M).length
    rw [List.length_cons, List.length_cons, K.len, I.len]
end
end L2
namespace L2
open PySem PySem.Spec PyProof.Rows PySem.Calls

/-- [e for x in it]: n bounds the turns; W i ys H: behind i turns, ys made -/
def tComp (wi : TI) (te : TE) : TE := fun σ H Q => wi σ H fun J H1 => ∃ (n : Nat) (W : Nat → List V → Hp → Prop), n ≤ sizeLine ∧ W 0 [] H1 ∧ ∀ i ys H, i ≤ n → ys.length = i → W i ys H →
  (J.stop i H ∧ ∀ p, H p = none → Q (.ref p) (upd H p (.lst ys))) ∨ (J.go i H ∧ i < n ∧ ∀ x H', J.yld i H x H' → te (some x :: σ) H' fun v H'' => W (i + 1) (ys ++ [v]) H'')

section
variable {X : Cx} {scope : Scope} {x : Str} {M : List Str} {pins : List (Addr × Obj)} {σ : St} {H₂ : Hp} {s₂ : Shared} {elt iter : Expr} {px pos : Pos} {te : TE} {wi : TI}

theorem comp_block (K : CompOk X scope x M) (hc : X.calm = true) (I : Inv X pins σ H₂ s₂) (he : ∀ (C : Addr) (s₂ : Shared) (H₂ : Hp) (fp : List Addr), PE (compCx X scope C x M s₂ H₂ fp) elt te)
    {it : Addr} {fp : List Addr} {tn : Nat → Heap → Prop} {J : It} (T : Turn X.prog X.w X.K (.Name x px) J fp it tn) (st : tn 0 s₂.heap) (hf : ∀ b ∈ fp, FpOk X pins H₂ b) {n : Nat} (hsz : n ≤ sizeLine) {W : Nat → List V → Hp → Prop} {F : List V → Hp → Prop}
    (w0 : W 0 [] H₂) (turn : ∀ i ys H, i ≤ n → ys.length = i → W i ys H → (J.stop i H ∧ F ys H) ∨ (J.go i H ∧ i < n ∧ ∀ x H', J.yld i H x H' → te (some x :: σ) H' fun v H'' => W (i + 1) (ys ++ [v]) H''))
    {E : Value → Shared → Prop} {RR : Value → Addr → Result → Shared → Prop}
    (hRR : ∀ (D C : Addr) (s' : Shared) (H' : Hp) (ys : List V) (m : Str → Option Value), Inv X pins σ (upd H' D (.lst ys)) s' → H' D = none → FpOk X pins (upd H' D (.lst ys)) C → s'.heap.Ns C m → F ys H' → RR (.ref D) C (.ok .next) s') :
    wpAny (model X.prog X.w) X.A (newList []) (fun acc s₃ => wpAny (model X.prog X.w) X.A (newFunctionEnv scope X.env.globals (clOf X.env scope.names []) [] X.env.qual none .none (some X.env)) (fun cenv s₄ =>
      codeAny (model X.prog X.w) X.A (.compStart (.ListComp elt [⟨.Name x px, iter, [], 0⟩] scope pos) 0 (.ref it) acc { cenv with scope := relabel scope X.env }) (RR acc cenv.locals) s₄) E s₃) E s₂ := by
  refine wpAny_newObj_type (wpAny_newFunctionEnv K.cell (by intro y hy; simp at hy) (fun h₁ hns₁ hsb₁ => ?_) K.kind)
  dsimp only at hns₁ hsb₁ ⊢
  generalize hH2 : s₂.heap.push { cls := .type "list", dict := none, data := .seq ([] : List Value).toArray } = H2 at hns₁ hsb₁ ⊢
  have hC : H2.objs.size = s₂.heap.objs.size + 1 := by rw [← hH2, Heap.size_push]
  have hDC : s₂.heap.objs.size ≠ H2.objs.size := by rw [hC]; exact Nat.ne_of_lt (Nat.lt_succ_self _)
  have below : ∀ b, b < s₂.heap.objs.size → b ≠ H2.objs.size ∧ b ≠ s₂.heap.objs.size := fun b hb => ⟨by rw [hC]; exact Nat.ne_of_lt (Nat.lt_succ_of_lt hb), Nat.ne_of_lt hb⟩
  have hfl : ∀ b ∈ fp, b < s₂.heap.objs.size := fun b hb => by obtain ⟨o, e, _⟩ := T.obj _ _ st b hb; exact Heap.lt_size e
  have old : ∀ b o, s₂.heap.get? b = some o → h₁.get? b = some o := fun b o e => hsb₁.extBut b o (below b (Heap.lt_size e)).1 (Heap.get?_push_of_some _ (hH2 ▸ Heap.get?_push_of_some _ e))
  have hacc : h₁.get? s₂.heap.objs.size = some { cls := .type "list", data := .seq ([] : List Value).toArray 0 } := hsb₁.extBut _ _ hDC (Heap.get?_push_of_some _ (hH2 ▸ Heap.get?_push_size _ rfl))
  generalize hCC : H2.objs.size = C at *
  generalize hDD : s₂.heap.objs.size = D at *
  have hCle : s₂.heap.objs.size ≤ C := by rw [hDD, hC]; exact Nat.le_succ _
  have st₁ : tn 0 h₁ := T.keep _ _ _ st fun b _ o e => old b o e
  have I₁ := inv_comp (t := s₂.toks + ([] : List (Str × Value)).length) K I hf (fun b hb => by rw [hDD]; exact hfl b hb) hCle hns₁ old
  -- the context of the block
  generalize hX' : compCx X scope C x M s₂ H₂ fp = X' at I₁
  have eX : X'.prog = X.prog ∧ X'.w = X.w ∧ X'.K = X.K ∧ X'.calm = true ∧ X'.A = X.A ∧ X'.ex = fp ∧ X'.env = compEnvC scope (clOf X.env scope.names []) C X.env ∧ X'.s₀ = s₂ ∧ X'.pn = [] := by
    subst hX'; exact ⟨rfl, rfl, rfl, hc, rfl, rfl, rfl, rfl, rfl⟩
  obtain ⟨eP, ew, eK, ec, eA, eex, eenv, es0, epn⟩ := eX
  have eL : X'.env.locals = C := by rw [eenv]; rfl
  have cells' : ∀ y c, X'.env.cells.lookup y = some c → X.env.cells.lookup y = some c := fun y c e => by rw [eenv] at e; exact CompOk.cl_of e
  have efs : X'.fs = frs X.stack := by subst hX'; rfl
  have fsub : ∀ b ∈ X'.fs, b = X.env.locals ∨ b ∈ X.fs := fun b hb => List.mem_cons.mp (I.stkSub b (by rw [← efs]; exact hb))
  -- the iterator's records, the list: ours to turn
  have fpok : ∀ {pn : List (Addr × Obj)} {H' : Hp}, (∀ p ∈ pn, p.1 = D) → (∀ b ∈ fp, H' b = none) → ∀ b ∈ fp, FpOk X' pn H' b := fun {pn H'} hp hn b hb => by
    refine ⟨hn b hb, ?_, fun z => ?_, .inl (by rw [eex]; exact hb), fun y c e => (hf b hb).2.2.2.2.1 y c (cells' y c e), fun p hq => ?_⟩
    · rw [eL]; exact (below b (hfl b hb)).1
    · rcases fsub b z with q | q
      · exact (hf b hb).2.1 q
      · exact (hf b hb).2.2.1 q
    · rw [epn, List.nil_append] at hq
      rw [hp p hq]; exact Ne.symm (below b (hfl b hb)).2
  have Dfp : D ∉ fp := fun z => Nat.lt_irrefl _ (hfl D z)
  have ltL : X.env.locals < D := by have := I.lt; rw [hDD] at this; exact this
  have ltF : ∀ b ∈ X.fs, b < D := fun b hb => Nat.lt_of_not_le fun z => I.nofs (a := b) (by rw [hDD]; exact z) hb
  have newok : ∀ {b : Addr} {pn : List (Addr × Obj)} {H' : Hp}, D ≤ b → b ≠ C → H' b = none → (∀ p ∈ pn, p.1 ≠ b) → FpOk X' pn H' b := fun {b pn H'} hb hbC hn hp => by
    refine ⟨hn, by rw [eL]; exact hbC, fun z => ?_, .inr (by rw [es0, hDD]; exact hb), fun y c e => ?_, fun p hq => ?_⟩
    · rcases fsub b z with q | q
      · rw [q] at hb; exact absurd (Nat.lt_of_lt_of_le ltL hb) (Nat.lt_irrefl _)
      · exact absurd (Nat.lt_of_lt_of_le (ltF b q) hb) (Nat.lt_irrefl _)
    · obtain ⟨v, o, ho, _⟩ := I.cell y c (cells' y c e)
      have := Heap.lt_size ho
      rw [hDD] at this
      exact Nat.ne_of_lt (Nat.lt_of_lt_of_le this hb)
    · rw [epn, List.nil_append] at hq
      exact hp p hq
  -- behind the block
  have outer : ∀ {σ' : St} {H' : Hp} {s' : Shared} {pn : List (Addr × Obj)}, Inv X' pn σ' H' s' → Inv X pins σ H' s' := fun {σ' H' s' pn} J' => by
    subst hX'
    refine I.call' (ch := fp) J'.os J'.base J'.hok J'.bare fun b hb => ?_
    obtain ⟨f0, f1, f2, f3, f4, f5⟩ := hf b hb
    exact ⟨f3, f1, f4, f5⟩
  have outok : ∀ {b : Addr} {H' : Hp}, D ≤ b → H' b = none → FpOk X pins H' b := fun {b H'} hb hn => by
    have q := I.fpOk (H' := H') (b := b) (by rw [hDD]; exact hb) hn
    exact q
  have loop : ∀ s₃ : Shared, s₃ = { s₂ with heap := h₁, toks := s₂.toks + ([] : List (Str × Value)).length } →
      codeAny (model X.prog X.w) X.A (.compLoop (.ListComp elt [⟨.Name x px, iter, [], 0⟩] scope pos) 0 (.ref it) (.ref D) (compEnvC scope (clOf X.env scope.names []) C X.env)) (RR (.ref D) C) s₃ := by
    rintro s₃ rfl
    refine compLoop_go (fun k s' => ∃ (i : Nat) (ys : List V) (its : List Value) (σ0 : Option V) (H' : Hp), i ≤ n ∧ k = n + 1 - i ∧ ys.length = i ∧ Inv X' [] (σ0 :: σ) H' s' ∧ tn i s'.heap ∧ (∀ b ∈ fp, H' b = none) ∧ H' D = none ∧ Vals ys its ∧
      (∃ c, s'.heap.get? D = some { cls := .type "list", data := .seq its.toArray c }) ∧ W i ys H') ?_ (n + 1) ⟨0, [], [], none, H₂, Nat.zero_le _, rfl, rfl, I₁, st₁, fun b hb => (hf b hb).1, by rw [← hDD]; exact I.hok.fresh (Nat.le_refl _), .nil, ⟨0, hacc⟩, w0⟩
    rintro k s' ⟨i, ys, its, σ0, H', hi, rfl, hyl, I', st', fr', hD', rv, ⟨c, hobj⟩, w'⟩
    have hx0 : X'.N[0]? = some x := by subst hX'; rfl
    have hxl : X'.env.scope.names.lookup x = some .local := by rw [eenv]; exact lookup_relabel_local K.loc
    have hNd : X'.N.Nodup := by subst hX'; exact K.nd
    rcases turn i ys H' hi hyl w' with ⟨stop, fin⟩ | ⟨go, hlt, step⟩
    · have pinD : Inv X' [(D, { cls := .type "list", data := .seq its.toArray c })] (σ0 :: σ) H' s' := I'.pins_of fun p hp => by
        obtain rfl : p = (D, { cls := .type "list", data := .seq its.toArray c }) := by simpa using hp
        refine ⟨hobj, hD', ?_, ?_, fun v z => nomatch z⟩
        · rw [eL]; exact hDC
        · intro z
          rcases fsub D z with q | q
          · rw [q] at ltL; exact Nat.lt_irrefl _ ltL
          · exact Nat.lt_irrefl _ (ltF D q)
      have q := T.done X' eP ew eK ec i _ s' (σ0 :: σ) H' (notedBy (model X.prog X.w) X.A (compEnvC scope (clOf X.env scope.names []) C X.env) fun e s' => RR (.ref D) C (.error e) s') pinD (fpok (fun p hp => by obtain rfl : p = (D, { cls := .type "list", data := .seq its.toArray c }) := (by simpa using hp); rfl) fr') st' stop
      rw [eA] at q
      refine wpAny_mono q (fun r s4 ⟨hr, I4⟩ => ?_) fun _ _ z => z
      subst hr
      obtain ⟨e4, n4, _⟩ := I4.pin (D, { cls := .type "list", data := .seq its.toArray c }) (List.mem_append_right _ (by simp))
      have O4 := outer I4
      obtain ⟨m4, ns4, _⟩ := I4.loc
      rw [eL] at ns4
      refine hRR D C s4 H' ys m4 (O4.track (outok (Nat.le_refl _) n4) (Nat.le_trans I.sz (by rw [hDD]; exact Nat.le_refl _)) ⟨by rw [hyl]; exact Nat.le_trans hi hsz, its, c, rv, e4⟩) n4 (outok (by rw [hC]; exact Nat.le_succ _) ?_) ns4 fin
      rw [upd_ne (Ne.symm hDC)]
      have := I4.free
      rw [eL] at this
      exact this
    · have pinD : Inv X' [(D, { cls := .type "list", data := .seq its.toArray c })] (σ0 :: σ) H' s' := I'.pins_of fun p hp => by
        obtain rfl : p = (D, { cls := .type "list", data := .seq its.toArray c }) := by simpa using hp
        refine ⟨hobj, hD', ?_, ?_, fun v z => nomatch z⟩
        · rw [eL]; exact hDC
        · intro z
          rcases fsub D z with q | q
          · rw [q] at ltL; exact Nat.lt_irrefl _ ltL
          · exact Nat.lt_irrefl _ (ltF D q)
      have pd : ∀ p ∈ [(D, ({ cls := .type "list", data := .seq its.toArray c } : Obj))], p.1 = D := fun p hp => by obtain rfl : p = (D, { cls := .type "list", data := .seq its.toArray c }) := (by simpa using hp); rfl
      have q := T.item X' eP ew eK ec i _ s' (σ0 :: σ) H' (notedBy (model X.prog X.w) X.A (compEnvC scope (clOf X.env scope.names []) C X.env) fun e s' => RR (.ref D) C (.error e) s') pinD (fpok pd fr') st' go
      rw [eA] at q
      refine wpAny_mono q (fun r s4 ⟨u, hr, h4⟩ => ?_) fun _ _ z => z
      subst hr
      refine wpAny_mono h4 (fun _ s5 ⟨xv, H5, I5, r5, y5, st5, fr5⟩ => ?_) fun _ _ z => z
      have I5' := I5.pinned (fpok pd fr5) (T.obj _ _ st5)
      refine wpAny_assign_Name ?_
      rw [← eenv]
      refine store_ok I5' hNd hx0 (.inl hxl) r5 (fun s6 I6 => ?_) (.inr hxl)
      have te6 := step xv H5 y5
      have q6 := (he C s₂ H₂ fp) (([(D, ({ cls := .type "list", data := .seq its.toArray c } : Obj))]) ++ pinsAt fp s5.heap) s6 (some xv :: σ) H5 (fun v H'' => W (i + 1) (ys ++ [v]) H'') (by rw [hX']; exact I6) te6
      rw [hX', eP, ew, eA] at q6
      refine wpAny_mono q6 (fun u7 s7 ⟨v7, H7, I7, r7, w7⟩ => ?_) (fun _ _ z => by subst hX'; exact (show False from z).elim)
      obtain ⟨e7, n7, _⟩ := I7.pin (D, { cls := .type "list", data := .seq its.toArray c }) (List.mem_append_right _ (List.mem_append_left _ (by simp)))
      refine append_at (hsz := by rw [List.size_toArray, ← rv.length, hyl]; exact Nat.le_trans hi hsz) e7 fun h8 sb8 g8 => ?_
      have I8 : Inv X' [] (some xv :: σ) H7 { s7 with heap := h8, toks := s7.toks } := (I7.pins_of (pins' := []) fun p hp => absurd hp (by simp)).turned (t' := s7.toks) (it := D) (fun b o hb e => (sb8.2 b hb).trans e) n7 (by rw [eL]; exact hDC) (.inr (by rw [es0, hDD]; exact Nat.le_refl _))
        (newok (H' := H7) (pn := []) (Nat.le_refl _) hDC n7 (fun p hp => absurd hp (by simp))).2.2.2.2.1 (fun p hp => by rw [epn] at hp; exact absurd hp (by simp))
      refine ⟨n + 1 - (i + 1), by omega, i + 1, ys ++ [v7], its ++ [u7], some xv, H7, hlt, rfl, by rw [List.length_append, List.length_singleton, hyl], I8, ?_, fun b hb => ?_, n7, rv.append (.cons r7 .nil), ⟨c + 1, ?_⟩, w7⟩
      · refine T.keep _ _ _ st5 fun b hb o e => ?_
        have e' := (I7.pin (b, o) (List.mem_append_right _ (List.mem_append_right _ (mem_pinsAt hb e)))).1
        exact (sb8.2 b (fun z => Dfp (z ▸ hb))).trans e'
      · obtain ⟨o, e, d⟩ := T.obj _ _ st5 b hb
        exact (I7.pin (b, o) (List.mem_append_right _ (List.mem_append_right _ (mem_pinsAt hb e)))).2.1
      · rw [g8, List.push_toArray]
  exact codeAny_compStart_list (loop _ rfl) (T.self X.A 0 _ _ _ st₁ (loop _ rfl))

/-- a comprehension as a value -/
theorem pe_comp (K : CompOk X scope x M) (hc : X.calm = true) (hi : PI X (.Name x px) iter wi) (he : ∀ (C : Addr) (s₂ : Shared) (H₂ : Hp) (fp : List Addr), PE (compCx X scope C x M s₂ H₂ fp) elt te)
    (hs : ∀ x, foldedSetIterable iter X.env x = pure x := by intro _; rfl) : PE X (.ListComp elt [⟨.Name x px, iter, [], 0⟩] scope pos) (tComp wi te) := by
  intro pins s σ H Q I h
  rw [eval_ListComp]
  refine wpAny_comprehension_free (use := none) rfl hs (K.closure I.ok) K.kind K.names (thn (hi pins s σ H _ I h) fun v s1 h1 => thn h1 fun itv s2 h2 => ?_)
  obtain ⟨it, fp, tn, J, H2, e, I2, T, st2, f2, n, W, hsz, w0, turn⟩ := h2
  subst e
  refine comp_block (RR := fun acc C => compPost (model X.prog X.w) X.A X.xe none (EP X pins σ Q) acc C) K hc I2 he T st2 f2 hsz (F := fun ys H => ∀ p, H p = none → Q (.ref p) (upd H p (.lst ys))) w0 turn ?_
  intro D C s' H' ys m I' n' fC ns fin
  refine ⟨m, ns, fun h' sb => ?_⟩
  obtain ⟨f0, f1, f2, f3, f4, f5⟩ := fC
  exact ⟨.ref D, _, I'.turned (t' := s'.toks) (it := C) (fun b o hb e => (sb.2 b hb).trans e) f0 f1 f3 f4 f5, rfl, fin D n'⟩
/-- name = [..] -/
theorem ps_comp {i : Nat} {y : Str} {spos py : Pos} (hN : X.N.Nodup) (hy : X.N[i]? = some y) (hl : Loc X.env.scope y) (K : CompOk X scope x M) (hc : X.calm = true) (hi : PI X (.Name x px) iter wi) (he : ∀ (C : Addr) (s₂ : Shared) (H₂ : Hp) (fp : List Addr), PE (compCx X scope C x M s₂ H₂ fp) elt te)
    (hsw : swapsWith (.ListComp elt [⟨.Name x px, iter, [], 0⟩] scope pos) (some (.Name y py)) spos.line X.env = pure true := by rfl)
    (hs : ∀ x, foldedSetIterable iter X.env x = pure x := by intro _; rfl) (hf : X.fn y = true ∨ X.env.scope.names.lookup y = some .local := by first | exact .inl rfl | exact .inr rfl | assumption) :
    PS X (.Assign [.Name y py] (.ListComp elt [⟨.Name x px, iter, [], 0⟩] scope pos) spos) (tAsg (tComp wi te) (gName i)) := by
  intro pins s σ H Dn I h
  rw [exec_Assign_Name_used _ _ _ _ hsw]
  refine wpAny_bind (wpAny_standAt (wpAny_bind ?_))
  show wpAny _ X.A (do let _ ← comprehension (.ListComp elt [⟨.Name x px, iter, [], 0⟩] scope pos) scope X.env _ (newList []) false (eval iter X.env) (some (assign (.Name y py) X.env))) _ _ s
  refine wpAny_bind (thn (wpAny_comprehension_free (use := some (assign (.Name y py) X.env)) (Q := fun _ s' => SP X pins Dn .next s') rfl hs (K.closure I.ok) K.kind K.names (thn (hi pins s σ H _ I h) fun v s1 h1 => thn h1 fun itv s2 h2 => ?_)) fun _ s' hq => wpAny_pure (wpAny_pure hq))
  obtain ⟨it, fp, tn, J, H2, e, I2, T, st2, f2, n, W, hsz, w0, turn⟩ := h2
  subst e
  refine comp_block (RR := fun acc C => compPost (model X.prog X.w) X.A X.xe (some (assign (.Name y py) X.env)) (fun _ s' => SP X pins Dn .next s') acc C) K hc I2 he T st2 f2 hsz (F := fun ys H => ∀ p, H p = none → Dn.nx (σ.set i (some (.ref p))) (upd H p (.lst ys))) w0 turn ?_
  intro D C s' H' ys m I' n' fC ns fin
  refine wpAny_assign_Name (store_ok2 (v := .ref D) I' hN hy hl rfl (fun s'' I'' ch => ?_) hf)
  obtain ⟨f0, f1, f2, f3, f4, f5⟩ := fC
  obtain ⟨a, sb1, ha⟩ := ch
  have hCa : C ≠ a := by
    rcases ha with z | z
    · rw [z]; exact f1
    · exact Ne.symm (f4 y a z)
  refine ⟨m, ns.sameBut sb1 hCa, fun h' sb => ?_⟩
  exact ⟨_, _, I''.turned (t' := s''.toks) (it := C) (fun b o hb e => (sb.2 b hb).trans e) f0 f1 f3 f4 f5, fin D n'⟩
end
end L2
namespace L2
open PySem PySem.Spec PyProof.Rows PySem.Calls

/-! ### texts as lists of codes -/
def S (l : List Nat) : Str := ⟨l.toArray⟩
abbrev cd (x : Str) : List Nat := x.cps.toList
theorem cd_S (l : List Nat) : cd (S l) = l := rfl
theorem S_cd (x : Str) : S (cd x) = x := by cases x; rfl
theorem S_inj {a b : List Nat} (h : S a = S b) : a = b := congrArg cd h
theorem cd_inj {x y : Str} (h : cd x = cd y) : x = y := by rw [← S_cd x, ← S_cd y, h]
theorem len_S (l : List Nat) : (S l).length = l.length := by show l.toArray.size = _; simp
theorem len_cd (x : Str) : x.length = (cd x).length := by show x.cps.size = _; simp
theorem S_app (a b : List Nat) : S a ++ S b = S (a ++ b) := by
  show (⟨a.toArray ++ b.toArray⟩ : Str) = ⟨(a ++ b).toArray⟩
  simp
theorem cd_app (x y : Str) : cd (x ++ y) = cd x ++ cd y := by
  show (x.cps ++ y.cps).toList = _
  simp

/-! ### for c in text, [.. for c in text] -/
def Its (x : Str) : It := ⟨fun i _ => i < x.length, fun i H v H' => H' = H ∧ ∃ c, (cd x)[i]? = some c ∧ v = .str (S [c]), fun i _ => i = x.length⟩
theorem str_walks {prog : Program} {w : World} {A : Around} (hh : A.handled = none) (I : Addr) (x : Str) (t : Tok) : Walks prog w A I [I] [I] x.cps.size (SignAt x) (fun i h => h.IsStrIter I (strIterType x) x t i) := by
  unfold strIterType
  split
  · exact Walks.strAscii hh I x t
  · exact Walks.strWide hh I x t
theorem turn_str {P : Program} {w : World} {K : PySem.W.Frag} {tg : Expr} (it : Addr) (x : Str) (t : Tok) : Turn P w K tg (Its x) [it] it (fun i h => h.IsStrIter it (strIterType x) x t i) where
  mem := by simp
  obj := fun i h st b hb => by
    have e : b = it := by simpa using hb
    subst e
    obtain ⟨o, e, c, d⟩ := st
    exact ⟨o, e, fun v z => by rw [d] at z; cases z⟩
  keep := fun i h h' st k => by
    obtain ⟨o, e, r⟩ := st
    exact ⟨o, k it (by simp) o e, r⟩
  item := by
    intro X hP hw hK hc i pins s σ H E I hf st hg
    subst hP hw hK
    have W := str_walks (prog := X.prog) (w := X.w) (A := X.A) (I.ok.hd hc) it x t
    obtain ⟨f0, f1, f2, f3, f4, f5⟩ := hf it (by simp)
    refine W.item i s _ E hg st fun v h' tk hv st' k => ?_
    have I1 : Inv X pins σ H { s with heap := h', toks := tk } := I.turned (t' := tk) (fun b o hb e => k b o (by simpa using hb) e) f0 f1 f3 f4 f5
    obtain ⟨c, u, hcx, rfl⟩ := hv
    obtain ⟨o, e, c1, d⟩ := id st'
    refine ⟨_, rfl, go_of (s := { s with heap := h', toks := tk }) e c1 d ?_ ⟨.str (S [c]), H, I1, ⟨_, rfl⟩, ⟨rfl, c, by rw [← hcx]; simp [cd], rfl⟩, st', fun b hb => (hf b hb).1⟩⟩
    unfold strIterType; split <;> decide
  done := by
    intro X hP hw hK hc i pins s σ H E I hf st hg
    subst hP hw hK
    have W := str_walks (prog := X.prog) (w := X.w) (A := X.A) (I.ok.hd hc) it x t
    obtain ⟨f0, f1, f2, f3, f4, f5⟩ := hf it (by simp)
    have e : i = x.cps.size := hg
    subst e
    exact W.done s _ E st fun h' tk k => ⟨rfl, I.turned (t' := tk) (fun b o hb e => k b o (by simpa using hb) e) f0 f1 f3 f4 f5⟩
  self := fun A i s Q E st h => by
    obtain ⟨o, e, c, d⟩ := id st
    unfold strIterType at st
    split at st
    · exact wpAny_pyIter_striter_ascii st h
    · exact wpAny_pyIter_striter_wide st h
section
variable {X : Cx} {tg : Expr}
def iStr (tl : TE) : TI := fun σ H R => tl σ H fun v H1 => ∃ x, v = .str x ∧ R (Its x) H1
theorem pi_str {l : Expr} {tl : TE} (hl : PE X l tl) : PI X tg l (iStr tl) := by
  intro pins s σ H R I h
  refine thn (hl pins s σ H _ I h) fun v s1 ⟨x, H1, I1, r1, q1⟩ => ?_
  obtain ⟨x, rfl, q⟩ := q1
  obtain ⟨t, rfl⟩ := r1
  refine wpAny_pyIter_strU ?_
  refine ⟨s1.heap.objs.size, [s1.heap.objs.size], _, _, H1, rfl, I1.kept (t' := s1.toks) fun b o e => Heap.get?_push_of_some _ e, turn_str _ x t, ⟨_, Heap.get?_push_size _ rfl, rfl, rfl⟩, fun b hb => ?_, q⟩
  have e : b = s1.heap.objs.size := by simpa using hb
  subst e
  exact I1.fpOk (Nat.le_refl _) (I1.hok.fresh (Nat.le_refl _))
end
theorem for_str {x : Str} {g : TG} {tb : TS} {D : Ends} {σ : St} {H : Hp} (Pv : Nat → St → Hp → Prop) (h0 : Pv 0 σ H)
    (hs : ∀ i c σ H, (cd x)[i]? = some c → Pv i σ H → g (.str (S [c])) σ H fun σ2 H2 => tb { D with nx := Pv (i + 1), ct := Pv (i + 1), bk := D.nx } σ2 H2) (hd : ∀ σ H, Pv x.length σ H → D.nx σ H) :
    ∃ W : Nat → Nat → St → Hp → Prop, (∃ m, W 0 m σ H) ∧ ∀ i m σ H, W i m σ H →
      ((Its x).stop i H ∧ D.nx σ H) ∨ ((Its x).go i H ∧ ∃ N : St → Hp → Prop, (∀ σ' H', N σ' H' → ∃ m', m' < m ∧ W (i + 1) m' σ' H') ∧ ∀ v H', (Its x).yld i H v H' → g v σ H' fun σ2 H2 => tb { D with nx := N, ct := N, bk := D.nx } σ2 H2) := by
  refine ⟨fun i m σ H => m = x.length - i ∧ i ≤ x.length ∧ Pv i σ H, ⟨x.length, by simp, Nat.zero_le _, h0⟩, ?_⟩
  rintro i m σ H ⟨rfl, hi, p⟩
  by_cases hlt : i < x.length
  · refine .inr ⟨hlt, Pv (i + 1), fun σ' H' p' => ⟨x.length - (i + 1), by omega, rfl, hlt, p'⟩, fun v H' y => ?_⟩
    obtain ⟨e, c, hc, rfl⟩ := y
    subst e
    exact hs i c σ _ hc p
  · have e : i = x.length := by omega
    subst e
    exact .inl ⟨rfl, hd σ H p⟩

/-! ### comprehensions: what is read of them -/
theorem comp_str {x : Str} {te : TE} {σ : St} {H : Hp} {Q : VK} (hz : x.length ≤ sizeLine) (W : Nat → List V → Hp → Prop) (h0 : W 0 [] H)
    (hs : ∀ i c ys H, (cd x)[i]? = some c → ys.length = i → W i ys H → te (some (.str (S [c])) :: σ) H fun v H' => W (i + 1) (ys ++ [v]) H')
    (hd : ∀ ys H, ys.length = x.length → W x.length ys H → ∀ p, H p = none → Q (.ref p) (upd H p (.lst ys))) :
    ∃ (n : Nat) (W : Nat → List V → Hp → Prop), n ≤ sizeLine ∧ W 0 [] H ∧ ∀ i ys H, i ≤ n → ys.length = i → W i ys H →
      ((Its x).stop i H ∧ ∀ p, H p = none → Q (.ref p) (upd H p (.lst ys))) ∨ ((Its x).go i H ∧ i < n ∧ ∀ v H', (Its x).yld i H v H' → te (some v :: σ) H' fun v H'' => W (i + 1) (ys ++ [v]) H'') := by
  refine ⟨x.length, W, hz, h0, fun i ys H hi hl hw => ?_⟩
  by_cases hlt : i < x.length
  · refine .inr ⟨hlt, hlt, fun v H' y => ?_⟩
    obtain ⟨e, c, hc, rfl⟩ := y
    subst e
    exact hs i c ys _ hc hl hw
  · have e : i = x.length := by omega
    subst e
    exact .inl ⟨rfl, hd ys H hl hw⟩
theorem comp_range {lo : Int} {n : Nat} {te : TE} {σ : St} {H : Hp} {Q : VK} (hz : n ≤ sizeLine) (W : Nat → List V → Hp → Prop) (h0 : W 0 [] H)
    (hs : ∀ i ys H, i < n → ys.length = i → W i ys H → te (some (.int (lo + i)) :: σ) H fun v H' => W (i + 1) (ys ++ [v]) H')
    (hd : ∀ ys H, ys.length = n → W n ys H → ∀ p, H p = none → Q (.ref p) (upd H p (.lst ys))) :
    ∃ (m : Nat) (W : Nat → List V → Hp → Prop), m ≤ sizeLine ∧ W 0 [] H ∧ ∀ i ys H, i ≤ m → ys.length = i → W i ys H →
      ((Itr lo n).stop i H ∧ ∀ p, H p = none → Q (.ref p) (upd H p (.lst ys))) ∨ ((Itr lo n).go i H ∧ i < m ∧ ∀ v H', (Itr lo n).yld i H v H' → te (some v :: σ) H' fun v H'' => W (i + 1) (ys ++ [v]) H'') := by
  refine ⟨n, W, hz, h0, fun i ys H hi hl hw => ?_⟩
  by_cases hlt : i < n
  · refine .inr ⟨hlt, hlt, fun v H' y => ?_⟩
    obtain ⟨e, y⟩ := y
    subst e y
    exact hs i ys _ hlt hl hw
  · have e : i = n := by omega
    subst e
    exact .inl ⟨Nat.le_refl _, hd ys H hl hw⟩
theorem comp_list {K : PySem.W.Frag} {a : Addr} {xs : List V} {te : TE} {σ : St} {H : Hp} {Q : VK} (hz : xs.length ≤ sizeLine) (W : Nat → List V → Hp → Prop) (h0 : W 0 [] H) (hq : ∀ i ys H, W i ys H → SqL K H a xs)
    (hs : ∀ i x ys H, xs[i]? = some x → ys.length = i → W i ys H → te (some x :: σ) H fun v H' => W (i + 1) (ys ++ [v]) H')
    (hd : ∀ ys H, ys.length = xs.length → W xs.length ys H → ∀ p, H p = none → Q (.ref p) (upd H p (.lst ys))) :
    ∃ (m : Nat) (W : Nat → List V → Hp → Prop), m ≤ sizeLine ∧ W 0 [] H ∧ ∀ i ys H, i ≤ m → ys.length = i → W i ys H →
      ((Itl K a).stop i H ∧ ∀ p, H p = none → Q (.ref p) (upd H p (.lst ys))) ∨ ((Itl K a).go i H ∧ i < m ∧ ∀ v H', (Itl K a).yld i H v H' → te (some v :: σ) H' fun v H'' => W (i + 1) (ys ++ [v]) H'') := by
  refine ⟨xs.length, W, hz, h0, fun i ys H hi hl hw => ?_⟩
  have q := hq i ys H hw
  by_cases hlt : i < xs.length
  · refine .inr ⟨⟨xs, xs[i], q, by simp [hlt]⟩, hlt, fun v H' y => ?_⟩
    obtain ⟨e, y⟩ := y
    subst e
    exact hs i v ys _ (y xs q) hl hw
  · have e : i = xs.length := by omega
    subst e
    exact .inl ⟨⟨xs, q, Nat.le_refl _⟩, hd ys H hl hw⟩

/-! ### all, join, isinstance, slices, products -/
section
variable {X : Cx}
theorem call_all (hc : X.calm = true) : CallR X (.builtin "all") (fun xs H Q => ∃ (p : Addr) (bs : List Bool), xs = [.ref p] ∧ SqL X.K H p (bs.map V.bl) ∧ Q (.bl (bs.all id)) H) := by
  intro pins s σ H xs us Q I r h
  obtain ⟨p, bs, rfl, hq, q⟩ := h
  obtain ⟨u, rfl, ru⟩ := vals1 r
  cases ru
  obtain ⟨its, rv, pl, hz⟩ := I.list hq
  have hlt : p < s.heap.objs.size := by obtain ⟨o, n, e, _⟩ := pl; exact Heap.lt_size e
  refine call_all_walk (wpAny_pyIter_list pl.isList ?_)
  refine ⟨_, _, _, _, _, _, fun i => bs.getD i false, rfl, Walks.list (show X.A.in1.handled = none from I.ok.hd hc) s.heap.objs.size p (Nat.ne_of_lt hlt) its.toArray, ⟨⟨_, Heap.get?_push_size _ rfl, rfl, rfl⟩, pl.isList.push _⟩, fun i v s1 Q1 E1 hP hQ => ?_, fun h' tk k => ?_⟩
  · have hP' : its[i]? = some v := by simpa using hP
    obtain ⟨hi, _⟩ := List.getElem?_eq_some_iff.mp hP'
    have hl := rv.length
    rw [List.length_map] at hl
    have hb : (bs.map V.bl)[i]? = some (V.bl (bs.getD i false)) := by
      rw [List.getElem?_map, List.getElem?_eq_getElem (by omega)]
      simp [List.getD, List.getElem?_eq_getElem (show i < bs.length by omega)]
    obtain ⟨u, hu, ru⟩ := rv.get hb
    rw [hP'] at hu
    cases hu
    cases (show v = Value.bool _ from ru)
    exact wpAny_truthy_bool hQ
  · have e : (List.range its.toArray.size).all (fun i => bs.getD i false) = bs.all id := by
      have hl := rv.length
      rw [List.length_map] at hl
      rw [List.size_toArray, ← hl]
      have z : bs = (List.range bs.length).map fun i => bs.getD i false := by
        apply List.ext_getElem?
        intro i
        rw [List.getElem?_map]
        by_cases hi : i < bs.length
        · simp [List.getElem?_eq_getElem, hi, List.getD]
        · rw [List.getElem?_eq_none (Nat.not_lt.mp hi), List.getElem?_eq_none (by rw [List.length_range]; exact Nat.not_lt.mp hi)]; rfl
      conv => rhs; rw [z]
      rw [List.all_map]; rfl
    rw [e]
    refine ⟨.bl (bs.all id), H, ?_, rfl, q⟩
    have I0 : Inv X pins σ H { s with heap := s.heap.push { cls := .type "list_iterator", data := .fields #[.ref p, .int 0 0] } } := I.kept (t' := s.toks) fun b o e => Heap.get?_push_of_some _ e
    have fo := I.fpOk (H' := H) (b := s.heap.objs.size) (Nat.le_refl _) I.fresh
    obtain ⟨f0, f1, f2, f3, f4, f5⟩ := fo
    exact I0.turned (t' := tk) (it := s.heap.objs.size) (fun b o hb e => k b o (by simpa using hb) e) f0 f1 f3 f4 f5

theorem strs_of {ys : List Str} : ∀ {its : List Value}, Vals (ys.map V.str) its → StrsAre its ys := by
  induction ys with
  | nil => intro its r; cases r; exact .nil
  | cons y ys ih =>
    intro its r
    cases r with
    | cons a b => obtain ⟨t, rfl⟩ := a; exact .cons _ _ (ih b)
def joinS (sep : Str) (ys : List Str) : Str := Txt.join sep ys
theorem mt_join : MtM X "str.join" (fun x vs H Q => ∃ (sep : Str) (p : Addr) (ys : List Str), x = .str sep ∧ vs = [.ref p] ∧ (SqL X.K H p (ys.map V.str) ∨ SqT X.K H p (ys.map V.str)) ∧ (ys.map (·.length)).sum + ys.length * sep.length ≤ 16777216 ∧ Q (.str (joinS sep ys)) H) := by
  intro pins s σ H x vs v us Q I rx rv h
  obtain ⟨sep, p, ys, rfl, rfl, hq, hz, q⟩ := h
  obtain ⟨t, rfl⟩ := rx
  obtain ⟨u, rfl, ru⟩ := rv.one
  cases ru
  rcases hq with hq | hq
  · obtain ⟨its, r, pl, _⟩ := I.list hq
    exact join_list pl.isList (by simpa using strs_of r) hz fun t' k => ⟨.str _, H, I.tok _, ⟨_, rfl⟩, q⟩
  · obtain ⟨its, r, pl, _⟩ := I.tuple hq
    exact join_tuple pl (by simpa using strs_of r) hz fun t' k => ⟨.str _, H, I.tok _, ⟨_, rfl⟩, q⟩

/-- a product whose factors have few bits -/
theorem op_mulB : OpR X (binaryOp .Mult) (rI (fun i j => Builtin.Int.intBits i ≤ 60000000 ∧ Builtin.Int.intBits j ≤ 60000000) fun i j => .int (i * j)) := opI fun i j _ _ _ _ _ hc q => mul_int q (IntMulOk.of_le hc.1 hc.2 (by decide))

/-! ### a slice of a text -/
def cutN (xs : List Nat) (lo hi : Option Int) : List Nat := (xs.drop (HT.sIx xs.length 0 lo)).take (HT.sIx xs.length xs.length hi - HT.sIx xs.length 0 lo)
theorem pick_nat (xs : List Nat) (i k : Nat) : (List.range k).filterMap (fun m => xs[i + m]?) = (xs.drop i).take k := by
  induction k generalizing i with
  | zero => simp
  | succ k ih =>
    rw [List.range_succ_eq_map, List.filterMap_cons]
    have e : (List.map Nat.succ (List.range k)).filterMap (fun m => xs[i + m]?) = (List.range k).filterMap (fun m => xs[(i + 1) + m]?) := by
      rw [List.filterMap_map]
      congr 1
      funext m
      show xs[i + (m + 1)]? = xs[i + 1 + m]?
      congr 1; omega
    rw [e, ih (i + 1)]
    by_cases hi : i < xs.length
    · rw [Nat.add_zero, List.getElem?_eq_getElem hi, List.drop_eq_getElem_cons hi, List.take_succ_cons]
    · rw [Nat.add_zero, List.getElem?_eq_none (Nat.not_lt.mp hi), List.drop_eq_nil_of_le (Nat.not_lt.mp hi), List.drop_eq_nil_of_le (by omega)]
      simp
theorem slice_idx (lo hi : Option Int) (n : Nat) : Builtin.Str.strSliceIndices lo hi 1 n = (List.range (HT.sIx n n hi - HT.sIx n 0 lo)).map fun m => HT.sIx n 0 lo + m := by
  unfold Builtin.Str.strSliceIndices sliceRange
  have h1 : (1 : Int) > 0 := by omega
  simp only [h1, if_true, Int.ediv_one]
  have cl : ∀ (v : Int) (d : Nat), max 0 (min (if v < 0 then v + (n : Int) else v) (n : Int)) = ((HT.sIx n d (some v) : Nat) : Int) := fun v d => by
    show _ = (((if v < 0 then (v + (n : Int)).toNat else min v.toNat n) : Nat) : Int)
    by_cases hv : v < 0
    · simp only [if_pos hv]; omega
    · simp only [if_neg hv]; omega
  have fin : ∀ a b : Nat, (List.range (if (a : Int) < (b : Int) then (b : Int) - (a : Int) + 1 - 1 else 0).toNat).map (fun k : Nat => ((a : Int) + 1 * (k : Int)).toNat) = (List.range (b - a)).map fun m => a + m := fun a b => by
    have e1 : (if (a : Int) < (b : Int) then (b : Int) - (a : Int) + 1 - 1 else 0).toNat = b - a := by split <;> omega
    rw [e1]
    apply List.map_congr_left
    intro k _
    omega
  cases lo with
  | none =>
    cases hi with
    | none => exact fin 0 n
    | some v => simp only [cl v n]; exact fin 0 _
  | some u =>
    cases hi with
    | none => simp only [cl u 0]; exact fin _ n
    | some v => simp only [cl u 0, cl v n]; exact fin _ _
theorem slice_is (x : Str) (lo hi : Option Int) : Txt.slice x lo hi = S (cutN (cd x) lo hi) := by
  unfold Txt.slice
  rw [slice_idx]
  have hx : x.length = (cd x).length := len_cd x
  split
  · rename_i h
    simp only [Bool.and_eq_true, beq_iff_eq, List.length_map, List.length_range] at h
    rw [hx] at h
    have h2 := h.2
    have l1 := HT.sIx_le (cd x).length (cd x).length (Nat.le_refl _) hi
    unfold cutN
    rw [h2]
    have l0 : HT.sIx (cd x).length 0 lo = 0 ∨ (cd x).length = 0 := by omega
    rcases l0 with l0 | l0
    · rw [l0, List.drop_zero, List.take_length, S_cd]
    · have e : cd x = [] := List.eq_nil_of_length_eq_zero l0
      apply cd_inj
      rw [e]; simp [cd_S]
  · rw [List.filterMap_map]
    unfold S cutN
    congr 2
    rw [← pick_nat, hx]
    congr 1
    funext m
    show x.cps[_]? = (cd x)[_]?
    simp [cd]
theorem sl_str : SlR X (fun x lo hi H Q => ∃ z, x = .str z ∧ z.length ≤ sizeLine ∧ Q (.str (S (cutN (cd z) lo hi))) H) := by
  intro pins s σ H x v vl vu lo hi sl Q I rx hs pl pu h
  obtain ⟨z, rfl, hz, q⟩ := h
  obtain ⟨t, rfl⟩ := rx
  refine ⟨"str", _, slot_str_getitem.lookup, typeIs_str s z t, ?_⟩
  rw [← slice_is] at q
  have fin : ∀ (l u : Option (Int × Tok)), l.map (·.1) = lo → u.map (·.1) = hi → vl = partValue l → vu = partValue u → wpAny (model X.prog X.w) X.A (getItem (.str z t) (.ref sl)) (EP X pins σ Q) X.xe s := fun l u e1 e2 e3 e4 => by
    subst e3 e4
    obtain ⟨o, ho, hc, hd⟩ := hs
    subst e1 e2
    exact wpAny_getItem_str_slice (l := l) (u := u) (st := none) ⟨o, ho, hc, hd⟩ rfl (post_val_or_str ⟨Nat.le_trans (Txt.slice_le z _ _) hz, fun t' k => ⟨.str _, H, I.tok _, ⟨_, rfl⟩, q⟩⟩)
  cases pl with
  | none =>
    cases pu with
    | none => exact fin none none rfl rfl rfl rfl
    | int i t => exact fin none (some (i, t)) rfl rfl rfl rfl
  | int j t' =>
    cases pu with
    | none => exact fin (some (j, t')) none rfl rfl rfl rfl
    | int i t => exact fin (some (j, t')) (some (i, t)) rfl rfl rfl rfl
end
end L2
/-! the law's head, with the bits of the script's ints -/
namespace Att
open PySem PySem.W PySem.Calls PyProof.Rows
theorem bits_of_lay {ns : List Int} (h : WData.layableAll [WData.list (ns.map WData.int)] = true) : ∀ n ∈ ns, Builtin.Int.intBits n ≤ 1048576 := by
  have h1 : (WData.list (ns.map WData.int)).layable = true := by simpa [WData.layableAll] using h
  intro n hn
  have h2 := layableW_item h1 (.int n) (List.mem_map.mpr ⟨n, hn, rfl⟩)
  have h3 := (layableW_iff.mp h2).2.2
  simpa [WData.weight, Builtin.Int.intBits] using h3
theorem attach_callB {l : OpenLaw} {n : Nat} {q : Program} {loose : List Str} {XP : (Str → Option Value) → Heap → Prop} {YP : World → Heap → Prop} {d : DefRec}
    (hn : l.most = some n) (hdf : d.params.defaults = [])
    (call : ∀ (w : World) (s₀ s₁ : Shared) (mg mb : Str → Option Value) (fa : Addr) (o : Obj) (pm cd doc : Value) (a : Addr) (vs : List Value) (ns : List Int),
      Ground q loose [] XP w s₀ mg mb s₁.heap → YP w s₁.heap →
      s₁.heap.get? fa = some o → o.data = .func (docDef d.name d.params d.body d.scope pm cd doc) → s₁.heap.CodeRec cd d.name → mg d.name = some (.ref fa) →
      s₁.heap.get? a = some { cls := .type "list", data := .seq vs.toArray } → IntsAre vs ns → ns.length ≤ n → (∀ n ∈ ns, Builtin.Int.intBits n ≤ 1048576) → s₁.gens = #[] →
      codeAny (model l.prog w) callerA (.call (.ref fa) ⟨[.ref a], []⟩) (fun r s' => r = .ok (.ret (.bool true)) ∧ OldK s₁.heap s'.heap ∧ s'.os = s₁.os ∧ AllBare s'.gens) s₁) :
    WalkO q loose XP YP l.row.toRowW d [] (fun f vs => PySem.call f vs) := by
  intro w s₀ s₁ mg mb G Y fa o pm cd doc dV kV ho hd hcd hD hmg hg args vals as hpre hlay hrd hwl hlo
  obtain rfl : dV = .none := Dflts.none hD hdf
  obtain rfl : kV = .none := Dflts.noKw hD
  obtain ⟨a, vs, ns, rfl, rfl, hobj, hints, hlen⟩ := script_of hn hpre hwl
  refine enter_call (codeAny_mono (call w s₀ s₁ mg mb fa o pm cd doc a vs ns G Y ho (fd_plain hd) hcd hmg hobj hints hlen (bits_of_lay hlay) hg) fun r s' hq => ?_)
  obtain ⟨rfl, h2, h3, h4⟩ := hq
  exact ⟨.inl ⟨.bool true, .bool true, [], rfl, fun _ => rfl, .bool true, post_true l _, fun _ => ⟨List.Pairwise.nil, fun _ hm => (nomatch hm)⟩⟩, h2, h3, h4⟩
end Att
namespace L2
open PySem PySem.Spec PyProof.Rows
/-- walk_of, with the bits -/
theorem walk_ofB {l : PySem.W.OpenLaw} {n k : Nat} {q : Program} {loose : List Str} {XP : (Str → Option Value) → Heap → Prop} {YP : World → Heap → Prop} {d : DefRec} {K : Params → PySem.W.Frag} {CX : World → CXT} {sp : World → Sp} {x : Str}
    (hn : l.most = some n) (hn2 : n ≤ sizeLine) (hdf : d.params.defaults = []) (hr : Room k callerA)
    (hY : ∀ (w : World) (h : Heap), YP w h → (K w.params).In h)
    (F : ∀ (w : World) (mg : Str → Option Value) (fa : Addr) (h : Heap), (K w.params).In h → h.Ns mainGlobals mg → mg d.name = some (.ref fa) →
      ∃ fd : FuncData, (∀ (s : Shared) (u : Value), BindsTo s fd ⟨[u], []⟩ [(x, u)]) ∧
        ∀ base : Heap, (K w.params).In base → base.Ns mainGlobals mg → FnOk l.prog w (K w.params) mg base (CX w) k fa fd [x] (sp w))
    (hsp : ∀ (w : World) (H : Hp) (a : Addr) (ns : List Int), ns.length ≤ n → (∀ n ∈ ns, Builtin.Int.intBits n ≤ 1048576) → Only H → SqL (K w.params) H a (ns.map V.int) → sp w [.ref a] H (fun v _ => v = .bl true) fun _ _ _ => False)
    (hCX : ∀ (w : World) (H : Hp) (s : Shared) (e : Value) (s' : Shared), CX w [] H s (fun _ _ _ => False) e s' → False) :
    PySem.W.WalkO q loose XP YP l.row.toRowW d [] (fun f vs => PySem.call f vs) := by
  refine Att.attach_callB hn hdf fun w s₀ s₁ mg mb fa o pm cd doc a vs ns G Y ho hd hcd hmg hobj hints hlen hbits hg => ?_
  have KX := hY w _ Y
  obtain ⟨fd, hb, hF⟩ := F w mg fa _ KX G.T.g hmg
  exact law_call KX G.T.g G.T.b G.T.builtins G.T.nolimit hg hobj hints (Nat.le_trans hlen hn2) hr hF hb (fun H hO hS => hsp w H a ns hlen hbits hO hS) fun H e s' => hCX w H s₁ e s'

/-! ### the module's values -/
def GlobV (mg : Str → Option Value) (x : Str) (v : V) : Prop := ∃ u, mg x = some u ∧ RelV v u
theorem pe_gv {X : Cx} {x : Str} {v : V} {pos : Pos} (hg : Gl X x) (h : GlobV X.mg x v) (hd : (x == ("__debug__" : Str)) = false := by decide) : PE X (.Name x pos) (tC v) := by
  obtain ⟨u, hm, r⟩ := h
  exact pe_glob hg hm r hd
theorem SqT.mod {K : PySem.W.Frag} {a : Addr} {oc : Value} {od : Option Addr} {its : Array Value} {n : Nat} {sl : Array (Option Value)} {xs : List V} (h : K.lookup a = some ⟨oc, od, .seq its n, sl⟩) (hc : oc = .type "tuple") (hz : its.size ≤ sizeLine) (hv : Vals xs its.toList) (H : Hp) : SqT K H a xs :=
  .inr ⟨_, its, n, h, hc, rfl, hz, hv⟩
theorem Same.tup {K : PySem.W.Frag} {H H' : Hp} {a : Addr} {xs : List V} (e : Same H H') (h : SqT K H a xs) : SqT K H' a xs := by
  rcases h with (h | ⟨o, h⟩) | h
  · exact .inl (.inl (e _ _ h))
  · exact .inl (.inr ⟨o, e _ _ h⟩)
  · exact .inr h
theorem same_new {H : Hp} {p : Addr} (h : H p = none) (o : HO) : Same H (upd H p o) := fun b u q => by rw [upd_ne (ne_of_none q h)]; exact q
namespace Bt
theorem int : bootBuiltins "int" = some (.type "int") := PyProof.Rows.boot_int
theorem bool : bootBuiltins "bool" = some (.type "bool") := PyProof.Rows.boot_bool
theorem str : bootBuiltins "str" = some (.type "str") := PyProof.Rows.boot_str
theorem list : bootBuiltins "list" = some (.type "list") := PyProof.Rows.boot_list
theorem tuple : bootBuiltins "tuple" = some (.type "tuple") := PyProof.Rows.boot_tuple
theorem dict : bootBuiltins "dict" = some (.type "dict") := PyProof.Rows.boot_dict
theorem set : bootBuiltins "set" = some (.type "set") := PyProof.Rows.boot_set
theorem isinstance : bootBuiltins "isinstance" = some (.builtin "isinstance") := PyProof.Rows.boot_isinstance
theorem all : bootBuiltins "all" = some (.builtin "all") := PyProof.Rows.boot_all
theorem abs : bootBuiltins "abs" = some (.builtin "abs") := PyProof.Rows.Boot.«abs»
end Bt
end L2
namespace L2
open PySem PySem.Spec PyProof.Rows

abbrev ib (x : Int) : Nat := Builtin.Int.intBits x
theorem ib_small {x : Int} (h1 : -(2 ^ 64) < x) (h2 : x < 2 ^ 64) : ib x ≤ 64 := intBits_le_64 h1 h2
theorem ib_big {m : Nat} {x : Int} (h : x.natAbs < 2 ^ m) : ib x ≤ m := intBits_le_iff.mpr h
theorem at_some {α : Type} {l : List α} {i : Int} (h0 : 0 ≤ i) (h1 : i < l.length) : ∃ c, atI l i = some c ∧ l[i.toNat]? = some c := by
  have hk : i.toNat < l.length := by omega
  refine ⟨l[i.toNat], ?_, List.getElem?_eq_getElem hk⟩
  have e : i = ((i.toNat : Nat) : Int) := by omega
  have q : atI l ((i.toNat : Nat) : Int) = some l[i.toNat] := atI_nat (List.getElem?_eq_getElem hk)
  rw [← e] at q
  exact q
theorem Same.ty {K : PySem.W.Frag} {H H' : Hp} {x : V} {t : Value} (e : Same H H') (h : TyOf K H x t) : TyOf K H' x t := by
  cases h with
  | non => exact .non
  | bl x => exact .bl x
  | int i => exact .int i
  | str x => exact .str x
  | flt x => exact .flt x
  | lst q => exact .lst (e _ _ q)
  | frz q => exact .frz (e _ _ q)
  | tup q => exact .tup (e _ _ q)
  | dK q => exact .dK (e _ _ q)
  | dT q => exact .dT (e _ _ q)
  | ins q a b c d f => exact .ins (e _ _ q) a b c d f
theorem small_of {n m : Nat} (h : n ≤ m) (hm : m ≤ 16777216 := by decide) : n ≤ sizeLine := by rw [sizeLine_eq]; omega
/-! ### join, as lists of codes -/
def joinL (sep : List Nat) : List (List Nat) → List Nat
  | [] => []
  | [x] => x
  | x :: y :: r => x ++ sep ++ joinL sep (y :: r)
theorem joinS_is (sep : Str) (ys : List Str) : joinS sep ys = S (joinL (cd sep) (ys.map cd)) := by
  have e : joinS sep ys = Str.join sep ys := StrLaws.glued_eq_join sep ys
  rw [e]
  clear e
  induction ys with
  | nil => rfl
  | cons y r ih =>
    cases r with
    | nil => exact (S_cd y).symm
    | cons z r =>
      show y ++ sep ++ Str.join sep (z :: r) = S (cd y ++ cd sep ++ joinL (cd sep) ((z :: r).map cd))
      rw [ih, ← S_app, ← S_app, S_cd, S_cd]
/-! ### loops and comprehensions, their readings shut (opened by their own forms) -/
structure CompR (J : It) (te : TE) (σ : St) (H1 : Hp) (Q : VK) : Prop where
  ex : ∃ (n : Nat) (W : Nat → List V → Hp → Prop), n ≤ sizeLine ∧ W 0 [] H1 ∧ ∀ i ys H, i ≤ n → ys.length = i → W i ys H →
    (J.stop i H ∧ ∀ p, H p = none → Q (.ref p) (upd H p (.lst ys))) ∨ (J.go i H ∧ i < n ∧ ∀ x H', J.yld i H x H' → te (some x :: σ) H' fun v H'' => W (i + 1) (ys ++ [v]) H'')
def tCompR (wi : TI) (te : TE) : TE := fun σ H Q => wi σ H fun J H1 => CompR J te σ H1 Q
structure ForR (J : It) (g : TG) (tb : TS) (D : Ends) (σ : St) (H1 : Hp) : Prop where
  ex : ∃ W : Nat → Nat → St → Hp → Prop, (∃ m, W 0 m σ H1) ∧ ∀ i m σ H, W i m σ H →
    (J.stop i H ∧ D.nx σ H) ∨ (J.go i H ∧ ∃ N : St → Hp → Prop, (∀ σ' H', N σ' H' → ∃ m', m' < m ∧ W (i + 1) m' σ' H') ∧ ∀ x H', J.yld i H x H' → g x σ H' fun σ2 H2 => tb { D with nx := N, ct := N, bk := D.nx } σ2 H2)
def tForR (wi : TI) (g : TG) (tb : TS) : TS := fun D σ H => wi σ H fun J H1 => ForR J g tb D σ H1
structure WhileR (c : TT) (tb : TS) (D : Ends) (σ : St) (H : Hp) : Prop where
  ex : tWhile c tb D σ H
theorem PI.weak {X : Cx} {tg iter : Expr} {wi : TI} (h : PI X tg iter wi) {pins : List (Addr × Obj)} {s : Shared} {σ : St} {H : Hp} {R R' : It → Hp → Prop} (I : Inv X pins σ H s) (hw : wi σ H R) (hR : ∀ J H1, R J H1 → R' J H1) :
    wpAny (model X.prog X.w) X.A (eval iter X.env) (fun v s1 => wpAny (model X.prog X.w) X.A (pyIter v) (PIE X pins σ tg R') X.xe s1) X.xe s := by
  refine thn (h pins s σ H R I hw) fun v s1 h1 => thn h1 fun itv s2 ⟨it, fp, tn, J, H', e, I', T, st, f, r⟩ => ?_
  exact ⟨it, fp, tn, J, H', e, I', T, st, f, hR J H' r⟩
section
variable {X : Cx} {scope : Scope} {x : Str} {M : List Str} {elt iter : Expr} {px pos : Pos} {te : TE} {wi : TI}
/-- the source of a comprehension or a loop, whose reading is of any form -/
theorem pi_conv {tg : Expr} {wi wi' : TI} (h : PI X tg iter wi) (hw : ∀ σ H R, wi' σ H R → ∃ R0, wi σ H R0 ∧ ∀ J H1, R0 J H1 → R J H1) : PI X tg iter wi' := by
  intro pins s σ H R I q
  obtain ⟨R0, q0, hR⟩ := hw σ H R q
  exact h.weak I q0 hR
theorem pe_compR (K : CompOk X scope x M) (hc : X.calm = true) (hi : PI X (.Name x px) iter wi) (he : ∀ (C : Addr) (s₂ : Shared) (H₂ : Hp) (fp : List Addr), PE (compCx X scope C x M s₂ H₂ fp) elt te)
    (hs : ∀ x, foldedSetIterable iter X.env x = pure x := by intro _; rfl) : PE X (.ListComp elt [⟨.Name x px, iter, [], 0⟩] scope pos) (tCompR wi te) := by
  intro pins s σ H Q I h
  have q := pe_comp (pos := pos) K hc (wi := fun σ0 H0 R0 => ∃ R, wi σ0 H0 R ∧ ∀ J H1, R J H1 → R0 J H1) (pi_conv hi fun σ H R ⟨R1, a, b⟩ => ⟨R1, a, b⟩) he hs pins s σ H Q I
  exact q ⟨_, h, fun J H1 r => r.ex⟩
theorem ps_compR {i : Nat} {y : Str} {spos py : Pos} (hN : X.N.Nodup) (hy : X.N[i]? = some y) (hl : Loc X.env.scope y) (K : CompOk X scope x M) (hc : X.calm = true) (hi : PI X (.Name x px) iter wi) (he : ∀ (C : Addr) (s₂ : Shared) (H₂ : Hp) (fp : List Addr), PE (compCx X scope C x M s₂ H₂ fp) elt te)
    (hsw : swapsWith (.ListComp elt [⟨.Name x px, iter, [], 0⟩] scope pos) (some (.Name y py)) spos.line X.env = pure true := by rfl)
    (hs : ∀ x, foldedSetIterable iter X.env x = pure x := by intro _; rfl) (hf : X.fn y = true ∨ X.env.scope.names.lookup y = some .local := by first | exact .inl rfl | exact .inr rfl | assumption) :
    PS X (.Assign [.Name y py] (.ListComp elt [⟨.Name x px, iter, [], 0⟩] scope pos) spos) (tAsg (tCompR wi te) (gName i)) := by
  intro pins s σ H D I h
  have q := ps_comp (pos := pos) (spos := spos) hN hy hl K hc (wi := fun σ0 H0 R0 => ∃ R, wi σ0 H0 R ∧ ∀ J H1, R J H1 → R0 J H1) (pi_conv hi fun σ H R ⟨R1, a, b⟩ => ⟨R1, a, b⟩) he hsw hs hf pins s σ H D I
  exact q ⟨_, h, fun J H1 r => r.ex⟩
theorem ps_forR {tg : Expr} {body : List Stmt} {g : TG} {tb : TS} (hp : PassesOwn (model X.prog X.w) X.A X.env X.xe) (hc : X.calm = true) (hi : PI X tg iter wi) (hg : PG X tg g) (hb : PSs X body tb)
    (hs : ∀ x, foldedSetIterable iter X.env x = pure x := by intro _; rfl) : PS X (.For tg iter body [] pos) (tForR wi g tb) := by
  intro pins s σ H D I h
  have q := ps_for (pos := pos) hp hc (wi := fun σ0 H0 R0 => ∃ R, wi σ0 H0 R ∧ ∀ J H1, R J H1 → R0 J H1) (pi_conv hi fun σ H R ⟨R1, a, b⟩ => ⟨R1, a, b⟩) hg hb hs pins s σ H D I
  exact q ⟨_, h, fun J H1 r => r.ex⟩
end

theorem comp_strR {x : Str} {te : TE} {σ : St} {H : Hp} {Q : VK} (hz : x.length ≤ sizeLine) (W : Nat → List V → Hp → Prop) (h0 : W 0 [] H)
    (hs : ∀ i c ys H, (cd x)[i]? = some c → ys.length = i → W i ys H → te (some (.str (S [c])) :: σ) H fun v H' => W (i + 1) (ys ++ [v]) H')
    (hd : ∀ ys H, ys.length = x.length → W x.length ys H → ∀ p, H p = none → Q (.ref p) (upd H p (.lst ys))) : CompR (Its x) te σ H Q := ⟨comp_str hz W h0 hs hd⟩
theorem comp_rangeR {lo : Int} {n : Nat} {te : TE} {σ : St} {H : Hp} {Q : VK} (hz : n ≤ sizeLine) (W : Nat → List V → Hp → Prop) (h0 : W 0 [] H)
    (hs : ∀ i ys H, i < n → ys.length = i → W i ys H → te (some (.int (lo + i)) :: σ) H fun v H' => W (i + 1) (ys ++ [v]) H')
    (hd : ∀ ys H, ys.length = n → W n ys H → ∀ p, H p = none → Q (.ref p) (upd H p (.lst ys))) : CompR (Itr lo n) te σ H Q := ⟨comp_range hz W h0 hs hd⟩
theorem comp_listR {K : PySem.W.Frag} {a : Addr} {xs : List V} {te : TE} {σ : St} {H : Hp} {Q : VK} (hz : xs.length ≤ sizeLine) (W : Nat → List V → Hp → Prop) (h0 : W 0 [] H) (hq : ∀ i ys H, W i ys H → SqL K H a xs)
    (hs : ∀ i x ys H, xs[i]? = some x → ys.length = i → W i ys H → te (some x :: σ) H fun v H' => W (i + 1) (ys ++ [v]) H')
    (hd : ∀ ys H, ys.length = xs.length → W xs.length ys H → ∀ p, H p = none → Q (.ref p) (upd H p (.lst ys))) : CompR (Itl K a) te σ H Q := ⟨comp_list hz W h0 hq hs hd⟩
theorem for_listR {K : PySem.W.Frag} {a : Addr} {xs : List V} {g : TG} {tb : TS} {D : Ends} {σ : St} {H : Hp} (Pv : Nat → St → Hp → Prop) (h0 : Pv 0 σ H) (hl : ∀ i σ H, i ≤ xs.length → Pv i σ H → SqL K H a xs)
    (hs : ∀ i x σ H, xs[i]? = some x → Pv i σ H → g x σ H fun σ2 H2 => tb { D with nx := Pv (i + 1), ct := Pv (i + 1), bk := D.nx } σ2 H2) (hd : ∀ σ H, Pv xs.length σ H → D.nx σ H) : ForR (Itl K a) g tb D σ H := ⟨for_list Pv h0 hl hs hd⟩
theorem for_rangeR {lo : Int} {n : Nat} {g : TG} {tb : TS} {D : Ends} {σ : St} {H : Hp} (Pv : Nat → St → Hp → Prop) (h0 : Pv 0 σ H)
    (hs : ∀ i σ H, i < n → Pv i σ H → g (.int (lo + i)) σ H fun σ2 H2 => tb { D with nx := Pv (i + 1), ct := Pv (i + 1), bk := D.nx } σ2 H2) (hd : ∀ σ H, Pv n σ H → D.nx σ H) : ForR (Itr lo n) g tb D σ H := ⟨for_range Pv h0 hs hd⟩
theorem for_strR {x : Str} {g : TG} {tb : TS} {D : Ends} {σ : St} {H : Hp} (Pv : Nat → St → Hp → Prop) (h0 : Pv 0 σ H)
    (hs : ∀ i c σ H, (cd x)[i]? = some c → Pv i σ H → g (.str (S [c])) σ H fun σ2 H2 => tb { D with nx := Pv (i + 1), ct := Pv (i + 1), bk := D.nx } σ2 H2) (hd : ∀ σ H, Pv x.length σ H → D.nx σ H) : ForR (Its x) g tb D σ H := ⟨for_str Pv h0 hs hd⟩

theorem map_get {α : Type} {f : α → V} {l : List α} {i : Nat} {x : V} (h : (l.map f)[i]? = some x) : ∃ a, l[i]? = some a ∧ x = f a := by
  rw [List.getElem?_map] at h
  cases e : l[i]? with
  | none => rw [e] at h; cases h
  | some a => rw [e] at h; exact ⟨a, rfl, (Option.some.inj h).symm⟩

theorem kit_ty {K : PySem.W.Frag} {a b : String} {r : Bool} (h : (if (Value.type a == Value.type b) = true then some true else if PySem.W.kitMeta b = true then (fastBuiltinMro a).map (·.contains (Value.type b)) else none) = some r) : PySem.W.kitOne K (.type a) (.type b) = some r := h
end L2
/-! exceptions over the layer: an own class is raised, passes frames, is caught -/
namespace L2
open PySem PySem.Spec PyProof.Rows PySem.Calls

/-- how the heap behind an exception lies to that ahead of the call; B: all that stays as it is -/
structure XUn (outer : List Env) (H H' : Hp) (h B h1 : Heap) : Prop where
  keepB : ∀ b o, h.get? b = some o → H b = none → b ∉ frs outer → B.get? b = some o
  thereB : ∀ b o, h.get? b = some o → b ∉ frs outer → ∃ o', B.get? b = some o'
  slot : ∀ b o, h.get? b = some o → H b = none → b ∈ frs outer → ∃ sl, h1.get? b = some { o with slots := sl }
  free : ∀ b o, h.get? b = some o → H b = none → H' b = none
  tups : ∀ b xs, H b = some (.tup xs) → H' b = some (.tup xs)
  frzs : ∀ b o u, H b = some (.frz o u) → H' b = some (.frz o u)
  tbls : ∀ b ps, H b = some (.tbl ps) → ∃ more, H' b = some (.tbl (ps ++ more))
theorem XUn.step {outer : List Env} {H H' : Hp} {h B h1 h2 base : Heap} (x : XUn outer H H' h B h1) (fr : h1.FunFrames base outer) (up : h1.UpToSlots h2) : XUn outer H H' h B h2 :=
  ⟨x.keepB, x.thereB, fun b o e n hb => by
    obtain ⟨sl, q⟩ := x.slot b o e n hb
    obtain ⟨_, o', ho', hd'⟩ := fr.mem hb
    rw [q] at ho'; cases ho'
    obtain ⟨sl', q'⟩ := up b _ q hd'
    exact ⟨sl', q'⟩, x.free, x.tups, x.frzs, x.tbls⟩
theorem XUn.un {outer : List Env} {H H' : Hp} {h B h1 : Heap} (x : XUn outer H H' h B h1) (st : B.StaysIn h1) (fr : h1.FunFrames B outer) : Un (frs outer) [] H H' h h1 :=
  ⟨fun b o e n hb _ => st b o (x.keepB b o e n hb), fun b o e n hb _ => x.slot b o e n hb, fun b o e n _ => x.free b o e n, fun b o e _ => by
    by_cases hb : b ∈ frs outer
    · obtain ⟨_, o', ho', _⟩ := fr.mem hb
      exact ⟨o', ho'⟩
    · obtain ⟨o', q⟩ := x.thereB b o e hb
      exact ⟨o', st b o' q⟩, x.tups, x.frzs, x.tbls⟩

/-- an exception behind a call: its class; it flies -/
def CXW (P : Program) (w : World) : CXT := fun outer H s E e s' =>
  ∃ (ea t : Addr) (cls : Value) (H' : Hp) (B : Heap), e = .ref ea ∧ Heap.FlyingW B outer ea cls (.ref t) s'.heap ∧ s'.os = s.os ∧ AllBare s'.gens ∧ HOk P w H' B ∧ XUn outer H H' s.heap B s'.heap ∧ E cls none H'

section
variable {P : Program} {w : World} {K : PySem.W.Frag} {mg : Str → Option Value} {base : Heap} {N : List Str} {qual : Str} {scope : Scope} {f : Addr} {cdv : Value} {A : Around} {outer : List Env} {s : Shared} {H : Hp} {E : XK}
/-- an exception that was just made leaves the frame -/
theorem xe_made {pins : List (Addr × Obj)} {σ : St} {H1 : Hp} {s1 : Shared} {h' : Heap} {e : Addr} {cls : Value} {vs : List Value} (I : Inv (cxOf (CXW P w) P w K mg base N qual scope f cdv A outer s H E) pins σ H1 s1)
    (hx : Heap.MadeExcOf s1.heap h' e cls vs) (hE : E cls none H1) : (cxOf (CXW P w) P w K mg base N qual scope f cdv A outer s H E).xe (.ref e) { s1 with heap := h' } := by
  have hst := I.stack
  have hin : ∀ env ∈ (cxOf (CXW P w) P w K mg base N qual scope f cdv A outer s H E).stack, ∀ b, env.frame = some b → b ∈ frs (cxOf (CXW P w) P w K mg base N qual scope f cdv A outer s H E).stack := fun env he b hb => List.mem_filterMap.mpr ⟨env, he, hb⟩
  generalize hB : PySem.W.hideAll s1.heap (frs (cxOf (CXW P w) P w K mg base N qual scope f cdv A outer s H E).stack) = B
  have stB : B.StaysIn s1.heap := fun b o q => by rw [← hB] at q; exact PySem.W.of_hideAll _ q
  have getB : ∀ b o, s1.heap.get? b = some o → b ∉ frs (cxOf (CXW P w) P w K mg base N qual scope f cdv A outer s H E).stack → B.get? b = some o := fun b o q n => by rw [← hB]; exact PySem.W.hideAll_get _ q n
  have frB : s1.heap.FunFrames B (cxOf (CXW P w) P w K mg base N qual scope f cdv A outer s H E).stack := by rw [← hB]; exact PySem.W.funFrames_hide hst hin
  have noL : ∀ b o, s.heap.get? b = some o → b ∉ frs outer → b ∉ frs (cxOf (CXW P w) P w K mg base N qual scope f cdv A outer s H E).stack := fun b o q n z => by
    rcases List.mem_cons.mp (I.stkSub b z) with z | z
    · have : b < s.heap.objs.size := Heap.lt_size q
      have a := I.ok.above
      rw [← z] at a
      exact absurd (Nat.lt_of_lt_of_le this a) (Nat.lt_irrefl _)
    · exact n z
  show wpAny (model P w) _ (leaving (envOfC qual scope s.heap.objs.size f cdv) (.ref e)) _ _ _
  refine wpAny_leaves_madeW (base := B) (h := s1.heap) (outer := outer) I.ok.frames rfl stB frB hx fun h2 t fl tup tn up => ?_
  refine ⟨e, t, cls, H1, B, rfl, fl, I.os, I.bare, fun a o q => (I.hok a o q).stay (fun b u hb z => getB b u z fun m => ?_) (fun _ z => z) (fun _ _ z => z), ⟨fun b o q n hb => ?_, fun b o q hb => ?_, fun b o q n hb => ?_, fun b o q n => I.base.free b o q n (fun z => nomatch z), I.base.tups, I.base.frzs, I.base.tbls⟩, hE⟩
  · have z := I.stkFree b m
    rcases hb with r | r
    · rw [r, q] at z; cases z
    · rw [r] at z; cases z
  · exact getB b o (I.base.keep b o q n hb (fun z => nomatch z)) (noL b o q hb)
  · obtain ⟨o', q'⟩ := I.base.there b o q (fun z => nomatch z)
    exact ⟨o', getB b o' q' (noL b o q hb)⟩
  · obtain ⟨sl, q'⟩ := I.base.slot b o q n hb (fun z => nomatch z)
    have q2 := hx.keeps b _ q'
    obtain ⟨_, o2, ho2, hd2⟩ := I.funs.mem hb
    rw [q'] at ho2; cases ho2
    obtain ⟨sl', z⟩ := up b _ q2 hd2
    exact ⟨sl', z⟩
/-- an exception of a callee leaves the frame -/
theorem passX : Passes (CXW P w) (cxOf (CXW P w) P w K mg base N qual scope f cdv A outer s H E) E := by
  intro pins σ H1 s1 e s' I h
  obtain ⟨ea, t, cls, H', B, rfl, fl, os, bare, hok, x, hE⟩ := h
  show wpAny (model P w) _ (leaving (envOfC qual scope s.heap.objs.size f cdv) (.ref ea)) _ _ _
  have noL : ∀ b o, s.heap.get? b = some o → b ∉ frs outer → b ∉ frs (cxOf (CXW P w) P w K mg base N qual scope f cdv A outer s H E).stack := fun b o q n z => by
    rcases List.mem_cons.mp (I.stkSub b z) with z | z
    · have : b < s.heap.objs.size := Heap.lt_size q
      have a := I.ok.above
      rw [← z] at a
      exact absurd (Nat.lt_of_lt_of_le this a) (Nat.lt_irrefl _)
    · exact n z
  refine wpAny_leaves_onW (outer := outer) I.ok.frames rfl fl fun h2 fl2 up => ?_
  have x2 := x.step fl.2.2.1 up
  refine ⟨ea, t, cls, H', B, rfl, fl2, os.trans I.os, bare, hok, ⟨fun b o q n hb => ?_, fun b o q hb => ?_, fun b o q n hb => ?_, fun b o q n => ?_, fun b xs q => x.tups b xs (I.base.tups b xs q), fun b o u q => x.frzs b o u (I.base.frzs b o u q), fun b ps q => ?_⟩, hE⟩
  · exact x.keepB b o (I.base.keep b o q n hb (fun z => nomatch z)) (I.base.free b o q n (fun z => nomatch z)) (noL b o q hb)
  · obtain ⟨o', q'⟩ := I.base.there b o q (fun z => nomatch z)
    exact x.thereB b o' q' (noL b o q hb)
  · obtain ⟨sl, q'⟩ := I.base.slot b o q n hb (fun z => nomatch z)
    obtain ⟨sl', q2⟩ := x2.slot b _ q' (I.base.free b o q n (fun z => nomatch z)) (by
      obtain ⟨env, he, hf⟩ := List.mem_filterMap.mp hb
      exact List.mem_filterMap.mpr ⟨env, List.mem_cons_of_mem _ he, hf⟩)
    exact ⟨sl', q2⟩
  · obtain ⟨o', q'⟩ := I.base.there b o q (fun z => nomatch z)
    exact x.free b o' q' (I.base.free b o q n (fun z => nomatch z))
  · obtain ⟨m1, e1⟩ := I.base.tbls b ps q
    obtain ⟨m2, e2⟩ := x.tbls b _ e1
    exact ⟨m1 ++ m2, by rw [e2, Array.append_assoc]⟩
end

/-! ### a def that may raise -/
section
variable {P : Program} {w : World} {K : PySem.W.Frag} {mg : Str → Option Value} {base : Heap}
theorem Fun.okX {x qual : Str} {st : Stmt} {f : Addr} {fd : FuncData} {N ps : List Str} {k : Nat} {sp : Sp} (F : Fun K x qual st f fd) (S : FnScope N ps (defScope st)) (len : ∀ vs H Q E, sp vs H Q E → vs.length = ps.length)
    (hbody : ∀ (cdv : Value) (A : Around) (outer : List Env) (s : Shared) (H : Hp) (vs : List V) (Q : VK) (E : XK), Room k (A.deeper (envOfC qual (defScope st) s.heap.objs.size f cdv)) → sp vs H Q E →
      ∃ t, PSs (cxOf (CXW P w) P w K mg base N qual (defScope st) f cdv A outer s H E) (defBody st) t ∧ t { nx := fun _ H' => Q .non H', rt := Q } (start N vs) H) : FnOk P w K mg base (CXW P w) (k + 1) f fd ps sp := by
  obtain ⟨oc, od, kV, doc, pm, an, cdv, ct, osl, rfl, lk, hcd⟩ := F.ex
  exact fn_of lk hcd S len fun A outer s H vs Q E hr hsp => hbody cdv A outer s H vs Q E hr hsp
end
end L2
namespace L2
open PySem PySem.Spec PyProof.Rows PySem.Calls PySem.W PySem.Builtin PySem.Builtin.ObjectAttr PySem.Builtin.Getset_descriptor

/-! ### the class of an object whose dict is not known -/
section
variable {prog : Program} {w : World} {A : Around} {E : Value → Shared → Prop} {s : Shared} {K : PySem.W.Frag} {x D : Addr}
def ClsAt (h : Heap) (x D : Addr) : Prop := ∃ o, h.get? x = some o ∧ o.cls = .ref D
theorem ClsAt.type {M : Model} {h : Heap} (p : ClsAt h x D) : Looks M h (typeOf (.ref x)) (.ref D) := by
  obtain ⟨o, e, c⟩ := p
  exact c ▸ (Looks.ld e).andThen .now
theorem looks_data {M : Model} {h : Heap} {name : Str} {a g : Value} (X : K.In h) (hf : findIn K (.ref D) name = some (some a)) (hg : specialIn K a "__get__" = some (some g)) (ht : takesIn K a = some true) : Looks M h (find (.ref x) (.ref D) name) (.bind g a) := by
  have l1 := looks_findIn (M := M) X hf
  have l2 : Looks M h (getOf (some a)) (some g) := looks_specialIn X hg
  have l3 := looks_takesIn (M := M) X ht
  refine l1.andThen (l2.andThen ?_)
  have l4 : Looks M h (dataDescriptor? (some a) (some g)) (some (g, a)) := l3.andThen .now
  exact l4.andThen (Looks.tag .now)
structure ExcCls (K : PySem.W.Frag) (D : Addr) : Prop where
  ga : findIn K (.ref D) "__getattribute__" = some (some (.builtin "BaseException.__getattribute__"))
  gk : findIn K (.ref D) "__getattr__" = some none
  cl : (clsIn K D).isSome = true
  ha : findIn K (.ref D) "__class__" = some (some (.builtin "object.__class__"))
  hn : specialIn K (.builtin "object.__class__") "__get__" = some (some (.builtin "getset_descriptor.__get__"))
  tk : takesIn K (.builtin "object.__class__") = some true
  mo : mroIn K D (.type "object") = some true
  mb : mroIn K D (.type "BaseException") = some true
theorem class_get {R : Result → Shared → Prop} (c : ExcCls K D) (X : K.In s.heap) (p : ClsAt s.heap x D) (q : R (.ok (.ret (.ref D))) s) :
    codeAny (model prog w) A (.call (.builtin "getset_descriptor.__get__") ⟨[.builtin "object.__class__", .ref x, .ref D], []⟩) R s := by
  obtain ⟨hh, g, d, t, os⟩ := s
  obtain ⟨o, eo, ec⟩ := id p
  have t0 := p.type (M := model prog w)
  have l1 := looks_mroIn (M := model prog w) X c.mo
  have arg0 := KF.args_gs (Value.builtin "object.__class__") (Value.ref x) (Value.ref D)
  refine codeAny_call_builtin KF.slot_gs.plain KF.entry_gs
    (KF.slot_gs.check _ _ _ _ _ _ _ _ KF.type_class arg0 ?_)
  unfold Builtin.«getset_descriptor.__get__»
    descrGet
  rw [dga_obj]; refine wpAny_bind (wpAny_pure ?_)
  unfold descrGetter descrCheckInstance
    descrNameAndClass isInstance
  simp only [KF.owner_class]; (repeat lk)
  refine ⟨Code.quiet_builtin _
    (by decide +kernel), codeAny_builtin KF.entry_class ?_⟩
  unfold Builtin.«object.__class__»
    shownTypeOf
  (repeat lk); exact q
theorem class_call {tk : Tok} {R : Result → Shared → Prop} (c : ExcCls K D) (X : K.In s.heap) (p : ClsAt s.heap x D) (q : R (.ok (.ret (.ref D))) s) :
    codeAny (model prog w) A (.call (.builtin "BaseException.__getattribute__") ⟨[.ref x, .str "__class__" tk], []⟩) R s := by
  obtain ⟨hh, g, d, t, os⟩ := s
  obtain ⟨o, eo, ec⟩ := id p
  have t0 := p.type (M := model prog w)
  have lb := looks_mroIn (M := model prog w) X c.mb
  have f0 := looks_data (x := x) (M := model prog w) X c.ha c.hn c.tk
  have hk : builtinKind "BaseException.__getattribute__" = some .slot := by decide +kernel
  have hsplit : splitId "BaseException.__getattribute__" = some ("BaseException", "__getattribute__") := by decide +kernel
  have ha := F.args_bexc_ga (.ref x) (.str "__class__" tk)
  refine codeAny_call_builtin F.excAttr_ValueError.ga.plain F.entry_bexc_ga ?_
  simp only [checkBuiltinCall, hk, hsplit]
  unfold isInstance
  refine wpAny_bind ?_
  (repeat (first | (with_reducible refine wpAny_call (class_get c X p ?_)) | lk))
  exact q
theorem class_of {Q : Option Value → Shared → Prop} (c : ExcCls K D) (X : K.In s.heap) (p : ClsAt s.heap x D) (q : Q (some (.ref D)) { s with toks := s.toks + 1 }) : wpAny (model prog w) A (getAttr? (.ref x) "__class__") Q E s := by
  obtain ⟨hh, g, d, t, os⟩ := s
  obtain ⟨o, eo, ec⟩ := id p
  have t0 := p.type (M := model prog w)
  have t1 := looks_findIn (M := model prog w) X c.ga
  have f1 := looks_findIn (M := model prog w) X c.gk
  have f3 := F.excAttr_ValueError.ga.bind (.ref x)
  unfold getAttr? getAttrBy? getAttrBy
  refine wpAny_bind (wpAny_mkText (wpAny_bind (wpAny_attempt (wpAny_holding (wpAny_bind (t0.at (wpAny_bind (t1.at ?_))))))))
  show wpAny _ _ (getAttrByItsOwn _ _ _ _ _ _) _ _ _
  unfold getAttrByItsOwn hookBefore
  refine wpAny_bind (f1.at (wpAny_bind (wpAny_attempt (wpAny_holding ?_))))
  show wpAny _ _ (boundAndCalled _ _ _) _ _ _
  unfold boundAndCalled
  rw [f3]
  refine wpAny_bind (wpAny_pure (wpAny_call ?_))
  refine class_call c (s := ⟨hh, g, d, t + 1, os⟩) X p ?_
  exact wpAny_pure (wpAny_pure q)
theorem kit_exc (c : ExcCls K D) : KitX K (.ref x) (.ref D) (fun h => ClsAt h x D) where
  ty := fun _ _ _ p => p.type
  it := fun _ _ X _ => by
    obtain ⟨cd, e⟩ := Option.isSome_iff_exists.mp c.cl
    unfold clsIn at e
    split at e
    · rename_i c' d' cd' sl' ho
      intro A' Q' E' s' k q
      unfold isType loadHead
      exact wpAny_bind (wpAny_loadPart (k _ _ (X _ _ ho)) (wpAny_pure q))
    · cases e
  ne := fun h tp dd its n sl X htp => by
    obtain ⟨cd, e⟩ := Option.isSome_iff_exists.mp c.cl
    refine Bool.eq_false_iff.mpr fun q => ?_
    have z : D = tp := Value.ref.inj (beq_iff_eq.mp q)
    subst z
    unfold clsIn at e
    split at e
    · rename_i c' d' cd' sl' ho
      have z := (X _ _ ho).symm.trans htp
      cases z
    · cases e
  ca := fun X p k => class_of c X p k
end

/-! ### isinstance, of exceptions too, against several classes too -/
/-- an exception object: its class -/
def excO (a D : Addr) : HO := .ext fun h => ClsAt h a D
inductive TyE (K : PySem.W.Frag) (H : Hp) : V → Value → Prop where
  | old {x : V} {t : Value} (h : TyOf K H x t) : TyE K H x t
  | exc {a D : Addr} (h : H a = some (excO a D)) (c : ExcCls K D) : TyE K H (.ref a) (.ref D)
  | tpl {a : Addr} {xs : List V} (h : SqT K H a xs) : TyE K H (.ref a) (.type "tuple")
def vVal : V → Value
  | .ref a => .ref a
  | .ty n => .type n
  | _ => .none
def isCls : V → Bool
  | .ref _ => true
  | .ty _ => true
  | _ => false
section
variable {X : Cx} {pins : List (Addr × Obj)} {σ : St} {H : Hp} {s : Shared} {A : Around} {E : Value → Shared → Prop} {Q : Value → Shared → Prop} {c : Value} {b : Bool}
theorem kit_of {x : V} {u t : Value} (I : Inv X pins σ H s) (rx : RelV x u) (ty : TyE X.K H x t) : (∃ P : Heap → Prop, KitX X.K u t P ∧ P s.heap) ∧ u ≠ .builtin "__main__.__loader__#opaque" := by
  cases ty with
  | @tpl a xs h =>
    cases (show u = Value.ref a from rx)
    obtain ⟨its, r, pl, hz⟩ := I.tuple h
    obtain ⟨o, h1, h2, _⟩ := pl
    exact ⟨⟨_, kitx_tuple, ⟨o, h1, h2⟩⟩, fun z => nomatch z⟩
  | old ty =>
    cases ty with
    | non => cases (show u = Value.none from rx); exact ⟨⟨_, kitx_none, True.intro⟩, fun z => nomatch z⟩
    | bl y => cases (show u = Value.bool y from rx); exact ⟨⟨_, kitx_bool, True.intro⟩, fun z => nomatch z⟩
    | int i => obtain ⟨t, q⟩ := (show ∃ t, u = Value.int i t from rx); cases q; exact ⟨⟨_, kitx_int, True.intro⟩, fun z => nomatch z⟩
    | str y => obtain ⟨t, q⟩ := (show ∃ t, u = Value.str y t from rx); cases q; exact ⟨⟨_, kitx_str, True.intro⟩, fun z => nomatch z⟩
    | flt y => obtain ⟨t, q⟩ := (show ∃ t, u = Value.float y t from rx); cases q; exact ⟨⟨_, kitx_float, True.intro⟩, fun z => nomatch z⟩
    | @lst a xs ea =>
      cases (show u = Value.ref a from rx)
      obtain ⟨_, _, n, _, h1⟩ := (show ObjOk X.prog X.w H s.heap a (.lst xs) from I.hok a _ ea)
      exact ⟨⟨_, kitx_list, ⟨_, h1, rfl⟩⟩, fun z => nomatch z⟩
    | @frz a ob xs ea =>
      cases (show u = Value.ref a from rx)
      obtain ⟨_, _, _, n, _, h1⟩ := (show ObjOk X.prog X.w H s.heap a (.frz ob (.lst xs)) from I.hok a _ ea)
      exact ⟨⟨_, kitx_list, ⟨_, h1, rfl⟩⟩, fun z => nomatch z⟩
    | @tup a xs ea =>
      cases (show u = Value.ref a from rx)
      obtain ⟨_, _, _, p⟩ := (show ObjOk X.prog X.w H s.heap a (.tup xs) from I.hok a _ ea)
      obtain ⟨o, h1, h2, _⟩ := p
      exact ⟨⟨_, kitx_tuple, ⟨o, h1, h2⟩⟩, fun z => nomatch z⟩
    | @dK a kvs ea =>
      cases (show u = Value.ref a from rx)
      obtain ⟨_, _, vs, _, p⟩ := (show ObjOk X.prog X.w H s.heap a (.dK kvs) from I.hok a _ ea)
      obtain ⟨o, es, ep, h1, h2, _⟩ := p
      exact ⟨⟨_, kitx_dict, ⟨o, h1, h2.1⟩⟩, fun z => nomatch z⟩
    | @dT a kvs ea =>
      cases (show u = Value.ref a from rx)
      obtain ⟨_, _, xs, _, o, es, ep, h1, h2, _⟩ := (show ObjOk X.prog X.w H s.heap a (.dT kvs) from I.hok a _ ea)
      exact ⟨⟨_, kitx_dict, ⟨o, h1, h2.1⟩⟩, fun z => nomatch z⟩
    | @ins a C dx fs ea cl ha hn htk hm =>
      cases (show u = Value.ref a from rx)
      obtain ⟨mA, O, _⟩ := ins_get I.hok ea
      obtain ⟨od, J, _⟩ := O.look
      exact ⟨⟨_, kitx_own (cl.get _) cl.hd ha hn htk hm, J⟩, fun z => nomatch z⟩
  | @exc a D h c =>
    cases (show u = Value.ref a from rx)
    obtain ⟨p, _⟩ := (show ObjOk X.prog X.w H s.heap a (excO a D) from I.hok a _ h)
    exact ⟨⟨_, kit_exc c, p⟩, fun z => nomatch z⟩
theorem vVal_rel {x : V} {u : Value} (h : isCls x = true) (r : RelV x u) : u = vVal x := by
  cases x with
  | ref a => exact r
  | ty n => exact r
  | _ => cases h
theorem call_isi : CallR X (.builtin "isinstance") (fun xs H Q => ∃ x y t b, xs = [x, y] ∧ isCls y = true ∧ TyE X.K H x t ∧ PySem.W.kitOne X.K t (vVal y) = some b ∧ Q (.bl b) H) := by
  intro pins s σ H xs us Q I r h
  obtain ⟨x, y, t, b, rfl, hc, ty, e, q⟩ := h
  obtain ⟨u, w', rfl, rx, ry⟩ := vals2 r
  obtain rfl := vVal_rel hc ry
  obtain ⟨⟨P, Z, p⟩, nb⟩ := kit_of I rx ty
  exact kia_one Z I.kIn p e nb fun tk => ⟨.bl b, H, I.tok _, rfl, q⟩
end
end L2
namespace L2
open PySem PySem.Spec PyProof.Rows PySem.Calls PySem.W

/-! ### raise C(..), C an own class of errors without an __init__ -/
theorem own_obj {K : PySem.W.Frag} {h : Heap} {C : Addr} {bmB : List Value} {newId : String} (X : K.In h) (q : excIn K C bmB newId = true) :
    ∃ bm N nm q bs hdct sn sub ab col dd k0 k1 k2 k3 k5 mN, h.get? C = some (excClassObj nm q C N bs bm hdct sn sub ab col dd k0 k1 k2 k3 k5 newId) ∧ h.Ns N mN ∧ mN "__init__" = none ∧ OwnTail h bmB bm := by
  unfold excIn at q
  split at q
  · rename_i dd cl sl ho
    split at q
    · rename_i C' bm k0 k1 k2 k3 n k5 hm hs
      simp only [Bool.and_eq_true, Bool.not_eq_true', beq_iff_eq] at q
      obtain ⟨⟨⟨⟨⟨e1, e2⟩, e3⟩, e4⟩, e5⟩, e6⟩ := q
      subst e1 e2
      obtain ⟨c1, c2, c3, c4, c5, c6, c7, c8, c9, c10, c11⟩ := cl
      dsimp only at hm e3 e5 e6; subst hm e3
      have es : sl = #[k0, k1, k2, k3, some (.builtin n), k5] := by
        cases sl with | mk l => (simp only at hs; rw [hs])
      subst es
      refine ⟨bm, c4, c1, c5, c2, c6, c7, c8, c9, c10, dd, k0, k1, k2, k3, k5, h.nsMap c4, X _ _ ho, ?_, ?_, tail_of_in X e4⟩
      · exact .of_isNs (isNs_of_in X e5)
      · exact nsMap_none_of_in X e5 e6
    · cases q
  · cases q
abbrev mroVE : List Value := [.type "ValueError", .type "Exception", .type "BaseException", .type "object"]
section
variable {P : Program} {w : World} {K : PySem.W.Frag} {mg : Str → Option Value} {base : Heap} {N : List Str} {qual : Str} {scope : Scope} {f : Addr} {cdv : Value} {A : Around} {outer : List Env} {s : Shared} {H : Hp} {E : XK}
def tRaise (E : XK) (C : Addr) (t : TA) : TS := fun _ σ H => t σ H fun vs H1 => vs.length ≤ sizeLine ∧ E (.ref C) none H1
theorem ps_raise {x : Str} {C : Addr} {np cpos pos : Pos} {e₀ : Expr} {rest : List Expr} {t : TA} (hm : mg x = some (.ref C)) (hq : excIn K C mroVE "ValueError.__new__" = true)
    (ha : PA (cxOf (CXW P w) P w K mg base N qual scope f cdv A outer s H E) (e₀ :: rest) t) (hg : Gl (cxOf (CXW P w) P w K mg base N qual scope f cdv A outer s H E) x)
    (he : starEach (e₀ :: rest) (envOfC qual scope s.heap.objs.size f cdv) = (false, eval e₀ (envOfC qual scope s.heap.objs.size f cdv)) :: starEach rest (envOfC qual scope s.heap.objs.size f cdv) := by rfl)
    (hpl : (backTo cpos (starEach rest (envOfC qual scope s.heap.objs.size f cdv))).any (·.1) = false := by rfl) (hd : (x == ("__debug__" : Str)) = false := by decide) :
    PS (cxOf (CXW P w) P w K mg base N qual scope f cdv A outer s H E) (.Raise (some (.Call (.Name x np) (e₀ :: rest) [] cpos)) none pos) (tRaise E C t) := by
  intro pins s1 σ H1 D I h
  obtain ⟨bm, Nn, nm, qn, bs, hdct, sn, sub, ab, col, dd, k0, k1, k2, k3, k5, mN, hC, hN, hni, TL⟩ := own_obj I.ok.mod.kin hq
  have hand : (cxOf (CXW P w) P w K mg base N qual scope f cdv A outer s H E).A.handled = none := I.ok.hd rfl
  refine wpAny_Raise_call_subT (C := C) (nm := nm) (q := qn) (N := Nn) (bs := bs) (bm := bm) (hdct := hdct) (sn := sn) (sub := sub) (ab := ab) (col := col) (dd := dd) (k0 := k0) (k1 := k1) (k2 := k2) (k3 := k3) (k5 := k5)
    F.excBase_ValueError (mN := mN) (TL.hasType F.excBase_ValueError.hasBase) hand ?_ hni (ld_glob I hg hm ⟨rfl, ?_⟩ hd)
  · show (backTo cpos (starEach (e₀ :: rest) (envOfC qual scope s.heap.objs.size f cdv))).any (·.1) = false
    rw [he]; show (false || (backTo cpos (starEach rest (envOfC qual scope s.heap.objs.size f cdv))).any (·.1)) = false
    rw [hpl]; rfl
  · have hA := ha cpos pins s1 σ H1 _ I h
    show wpAny _ _ (evalArgs (.ref C) true (backTo cpos (starEach (e₀ :: rest) (envOfC qual scope s.heap.objs.size f cdv))) []) _ _ _
    have hA' : wpAny (model P w) (cxOf (CXW P w) P w K mg base N qual scope f cdv A outer s H E).A (spliced (backTo cpos (starEach (e₀ :: rest) (envOfC qual scope s.heap.objs.size f cdv)))) _ _ s1 := hA
    rw [he] at hA' ⊢
    refine Calls.evalArgs_plain (thn hA' fun us s2 ⟨vs, H2, I2, r, hl, q⟩ => ⟨rfl, ?_, ?_, ?_, ?_, fun h' e mk => xe_made I2 mk q⟩)
    · show us.length ≤ sizeLine
      rw [← r.length]; exact hl
    · exact I2.bk _ _ hC
    · exact hN.keeps I2.bk
    · exact TL.keeps I2.bk
end

/-! ### what may raise, at one state of the names -/
def CXAt (X : Cx) (pins : List (Addr × Obj)) (σ : St) (E : XK) (e : Value) (s' : Shared) : Prop := ∃ H1 s1, Inv X pins σ H1 s1 ∧ CXW X.prog X.w X.stack H1 s1 E e s'
abbrev TEx := St → Hp → VK → XK → Prop
abbrev TSx := Ends → (St → XK) → St → Hp → Prop
def PEx (X : Cx) (e : Expr) (t : TEx) : Prop :=
  ∀ (pins : List (Addr × Obj)) (s : Shared) (σ : St) (H : Hp) (Q : VK) (E : XK), Inv X pins σ H s → t σ H Q E → wpAny (model X.prog X.w) X.A (eval e X.env) (EP X pins σ Q) (CXAt X pins σ E) s
def PSx (X : Cx) (st : Stmt) (t : TSx) : Prop :=
  ∀ (pins : List (Addr × Obj)) (s : Shared) (σ : St) (H : Hp) (D : Ends) (E : St → XK), Inv X pins σ H s → t D E σ H → wpAny (model X.prog X.w) X.A (exec st X.env) (SP X pins D) (fun e s' => ∃ σ', CXAt X pins σ' (E σ') e s') s
def PSsx (X : Cx) (st : List Stmt) (t : TSx) : Prop :=
  ∀ (pins : List (Addr × Obj)) (s : Shared) (σ : St) (H : Hp) (D : Ends) (E : St → XK), Inv X pins σ H s → t D E σ H → wpAny (model X.prog X.w) X.A (execs st X.env) (SP X pins D) (fun e s' => ∃ σ', CXAt X pins σ' (E σ') e s') s
section
variable {X : Cx} {k : Nat} {f C : Addr} {fd : FuncData} {ps : List Str} {sp : Sp} {dvs : List V} {ds : List Value} {x m : Str} {p pos apos : Pos} {e o : Expr} {es : List Expr} {ta : TE} {t : TA}
theorem PA.nox {es : List Expr} {t : TA} (h : PA X.nox es t) (E : Value → Shared → Prop) {pos : Pos} {pins : List (Addr × Obj)} {s : Shared} {σ : St} {H : Hp} {Q : List V → Hp → Prop} (I : Inv X pins σ H s) (q : t σ H Q) :
    wpAny (model X.prog X.w) X.A (spliced (backTo pos (starEach es X.env))) (AP X pins σ Q) E s :=
  wpAny_mono (h pos pins s σ H Q (I.wish _) q) (fun _ _ ⟨vs, H', I', r, q⟩ => ⟨vs, H', I'.unwish, r, q⟩) fun _ _ z => False.elim z
theorem run_fnx {pins : List (Addr × Obj)} {σ : St} {H : Hp} {s : Shared} {Q : VK} {E : XK} {us : List Value} {vs : List V} (F : FnOk X.prog X.w X.K X.mg X.base (CXW X.prog X.w) k f fd ps sp) (hr : Room k X.A) (hb : Binds X.K fd ps ds) (hd : Vals dvs ds)
    (I : Inv X pins σ H s) (r : Vals vs us) (h : sp (vs ++ dvs) H Q E) : wpAny (model X.prog X.w) X.A (call (.ref f) us) (EP X pins σ Q) (CXAt X pins σ E) s := by
  have r2 : Vals (vs ++ dvs) (us ++ ds) := r.append hd
  have hl : (us ++ ds).length = ps.length := by rw [← r2.length]; exact F.len _ _ _ _ h
  refine wpAny_call (codeAny_mono (F.run X.A X.stack s H ⟨us, []⟩ (us ++ ds) (vs ++ dvs) Q E hr I.env0 (hb s us I.kIn hl) r2 h) fun r s' hq => ?_)
  cases r with
  | error e => exact ⟨H, s, I, hq⟩
  | ok fl =>
    cases fl with
    | ret u => exact I.after hq
    | next => exact False.elim hq
    | brk => exact False.elim hq
    | cont => exact False.elim hq
def tCallX (sp : Sp) (dvs : List V) (t : TA) : TEx := fun σ H Q E => t σ H fun vs H1 => sp (vs ++ dvs) H1 Q E
theorem pex_call (F : FnOk X.prog X.w X.K X.mg X.base (CXW X.prog X.w) k f fd ps sp) (hr : Room k X.A) (hg : Gl X x) (hm : X.mg x = some (.ref f)) (hk : PySem.W.keepIn X.K (.ref f) = true) (hb : Binds X.K fd ps ds) (hd : Vals dvs ds)
    (ha : PA X.nox (e :: es) t) (hdb : (x == ("__debug__" : Str)) = false := by decide) (he : starEach (e :: es) X.env = (false, eval e X.env) :: starEach es X.env := by rfl) (hpl : (backTo pos (starEach es X.env)).any (·.1) = false := by rfl) :
    PEx X (.Call (.Name x p) (e :: es) [] pos) (tCallX sp dvs t) := by
  intro pins s σ H Q E I h
  refine wpAny_Call_Name_kw (ld_glob I hg hm ?_ hdb)
  refine PySem.W.callWith_K (h₀ := X.base) I.ok.mod.kin hk (wpAny_mono (ha.nox (CXAt X pins σ E) I h) (fun us s1 ⟨vs, H1, I1, r, q⟩ => ⟨I1.kIn, ?_⟩) fun _ _ z => z) he hpl
  exact run_fnx F hr hb hd I1 r q
def tRetX (te : TEx) : TSx := fun D E σ H => te σ H D.rt (E σ)
theorem psx_ret {te : TEx} (he : PEx X e te) : PSx X (.Return (some e) pos) (tRetX te) := by
  intro pins s σ H D E I h
  exact wpAny_Return_some (wpAny_mono (he pins s σ H _ _ I h) (fun v s1 ⟨x, H1, I1, r1, q1⟩ => ⟨x, σ, H1, I1, r1, q1⟩) fun e s' z => ⟨σ, z⟩)
theorem psx_one {st : Stmt} {t : TSx} (h1 : PSx X st t) : PSsx X [st] t := by
  intro pins s σ H D E I h
  refine wpAny_execs_cons (wpAny_mono (h1 pins s σ H D E I h) (fun f s1 q => ?_) fun _ _ z => z)
  cases f with
  | next => exact wpAny_execs_nil q
  | ret v => exact q
  | brk => exact q
  | cont => exact q
end

/-! ### try: .. except C: .. -/
/-- the context of a handler's suite -/
def hcx (X : Cx) (e : Addr) : Cx := { X with A := X.A.mark (some (.ref e)), calm := false, xe := fun _ _ => False }
theorem hcx_in {X : Cx} {e : Addr} {pins : List (Addr × Obj)} {σ : St} {H : Hp} {s : Shared} (I : Inv X pins σ H s) : Inv (hcx X e) pins σ H s := by
  obtain ⟨ok, os, bare, bs, loc, cell, free, freeC, pin, hok, len⟩ := I
  exact ⟨⟨ok.mod, ok.kind, ok.glob, ok.blt, ok.above, ok.inj, ok.has, ok.cab, fun z => Bool.noConfusion (show false = true from z), ok.frames, ok.stk, ok.exf, ok.bs, ok.bsz, ok.noex, ok.exfs, ok.funs, ok.frf⟩, os, bare, bs, loc, cell, free, freeC, pin, hok, len⟩
theorem hcx_out {X : Cx} {e : Addr} (ok : X.Ok) {pins : List (Addr × Obj)} {σ : St} {H : Hp} {s : Shared} (I : Inv (hcx X e) pins σ H s) : Inv X pins σ H s := by
  obtain ⟨_, os, bare, bs, loc, cell, free, freeC, pin, hok, len⟩ := I
  exact ⟨ok, os, bare, bs, loc, cell, free, freeC, pin, hok, len⟩
theorem hcx_sp {X : Cx} {e : Addr} (ok : X.Ok) {pins : List (Addr × Obj)} {D : Ends} {f : Flow} {s : Shared} (h : SP (hcx X e) pins D f s) : SP X pins D f s := by
  cases f with
  | next => obtain ⟨σ', H', I, q⟩ := h; exact ⟨σ', H', hcx_out ok I, q⟩
  | brk => obtain ⟨σ', H', I, q⟩ := h; exact ⟨σ', H', hcx_out ok I, q⟩
  | cont => obtain ⟨σ', H', I, q⟩ := h; exact ⟨σ', H', hcx_out ok I, q⟩
  | ret u => obtain ⟨v, σ', H', I, r, q⟩ := h; exact ⟨v, σ', H', hcx_out ok I, r, q⟩
section
variable {X : Cx} {body suite : List Stmt} {b₀ : Stmt} {x : Str} {C : Addr} {np hpos pos : Pos} {tb : TSx} {th : TS}
def tTry (K : PySem.W.Frag) (C : Addr) (tb : TSx) (th : TS) : TS := fun D σ H => tb D (fun σ' cls _ H' => PySem.W.exmOne K cls (.ref C) = some true ∧ th D σ' H') σ H
theorem ps_try (hst : X.stack = X.env :: X.outer) (hfr : X.env.frame = some X.env.locals) (hb : PSsx X body tb) (hg : Gl X x) (hm : X.mg x = some (.ref C)) (hh : ∀ ea, PSs (hcx X ea) (b₀ :: suite) th) (hd : (x == ("__debug__" : Str)) = false := by decide) :
    PS X (.Try body [.ExceptHandler (some (.Name x np)) none (b₀ :: suite) hpos] [] [] pos) (tTry X.K C tb th) := by
  intro pins s σ H D I h
  refine wpAny_Try_except (wpAny_mono (hb pins s σ H D _ I h) (fun f s1 q => ?_) fun e s1 q => ?_)
  · cases f with
    | next => exact wpAny_execs_nil q
    | ret v => exact q
    | brk => exact q
    | cont => exact q
  · obtain ⟨σ', H1, s2, I1, ea, t, cls, H', B, rfl, fl, os, bare, hok, xu, hx, q⟩ := q
    rw [hst] at fl
    have back : ∀ (h' : Heap) (tk : Nat), B.StaysIn h' → h'.FunFrames B X.stack → XUn X.stack H1 H' s2.heap B h' → Inv X pins σ' H' { s1 with heap := h', toks := tk } := fun h' tk st fr xu' =>
      I1.call' (ch := []) os (xu'.un st fr) (hok.kept st) bare fun b z => nomatch z
    have fr0 : s1.heap.FunFrames B X.stack := by rw [hst]; exact fl.2.2.1
    refine wpAny_looks_onW (by rw [I.ok.frames, hst]) hfr fl fun h4 held4 up4 => ?_
    have x4 := xu.step fr0 up4
    refine wpAny_landsW held4 fun h5 fl5 up5 => ?_
    have fr4 : h4.FunFrames B X.stack := by rw [hst]; exact held4.2.2.1
    have x5 := x4.step fr4 up5
    have fr5 : h5.FunFrames B X.stack := by rw [hst]; exact fl5.2.2.1
    have I5 : Inv X pins σ' H' { s1 with heap := h5 } := back h5 s1.toks fl5.1 fr5 x5
    obtain ⟨ob, hob, hobc⟩ := fl5.there
    have LT : Looks (model X.prog X.w) h5 (typeOf (.ref ea)) cls := hobc ▸ (Looks.ld hob).andThen .now
    refine wpAny_handleBy_cons (codeAny_handlers_test ?_) (by intro z; cases z)
    have ld := fun Q E q => ld_glob (X := hcx X ea) (pos := np) (Q := Q) (E := E) (hcx_in I5) hg hm q hd
    refine ld _ _ ?_
    refine (exm_one (M := model X.prog X.w) I5.kIn LT hx).here ?_
    refine codeAny_handlers_suite ?_
    refine lands_againW fl5 fun h6 fl6 up6 => ?_
    have x6 := x5.step fr5 up6
    have fr6 : h6.FunFrames B X.stack := by rw [hst]; exact fl6.2.2.1
    have I6 : Inv X pins σ' H' { s1 with heap := h6 } := back h6 s1.toks fl6.1 fr6 x6
    exact wpAny_mono (hh ea pins _ σ' H' D (hcx_in I6) q) (fun f s7 q7 => hcx_sp I.ok q7) fun _ _ z => (show False from z).elim
end
end L2
namespace L2
open PySem PySem.Spec PyProof.Rows PySem.Calls PySem.W
section
variable {X : Cx} {pins : List (Addr × Obj)} {σ : St} {H : Hp} {s : Shared}
end
section
variable {X : Cx} {body suite : List Stmt} {b₀ : Stmt} {x n : Str} {C : Addr} {np hpos pos : Pos} {tb : TSx} {th : TS} {j : Nat}
end
end L2
namespace L2
open PySem PySem.Spec PyProof.Rows PySem.Calls
/-! ### methods of texts -/
section
variable {X : Cx}
theorem mt_startswith : MtM X "str.startswith" (fun x vs H Q => ∃ z y, x = .str z ∧ vs = [.str y] ∧ Q (.bl (Txt.startswith z y)) H) := by
  intro pins s σ H x vs v us Q I rx rv h
  obtain ⟨z, y, rfl, rfl, q⟩ := h
  obtain ⟨t, rfl⟩ := rx
  obtain ⟨u, rfl, t', rfl⟩ := rv.one
  exact SC.startswith ⟨.bl _, H, I, rfl, q⟩
theorem mt_find : MtM X "str.find" (fun x vs H Q => ∃ z y, x = .str z ∧ vs = [.str y] ∧ Q (.int (Txt.find z y)) H) := by
  intro pins s σ H x vs v us Q I rx rv h
  obtain ⟨z, y, rfl, rfl, q⟩ := h
  obtain ⟨t, rfl⟩ := rx
  obtain ⟨u, rfl, t', rfl⟩ := rv.one
  exact SC.find ⟨.int _, H, I.tok _, ⟨_, rfl⟩, q⟩
/-- f'..{text!r}' -/
theorem pe_fstrR {c : Str} {j : Nat} {e : Expr} {te : TE} {p1 p2 pos : Pos} (he : PE X e te) (hc : c.length ≤ 1000 := by decide +kernel) :
    PE X (.JoinedStr [.Constant (.str c) j p1, .FormattedValue e 114 none p2] pos) (fun σ H Q => te σ H fun x H1 => ∃ z, x = .str z ∧ z.length ≤ 100000 ∧ (∀ k ∈ cd z, k < 1000) ∧ ∀ y, Q (.str y) H1) := by
  intro pins s σ H Q I h
  have l0 : (Str.empty ++ c).length = c.length := by rw [strLen_append]; exact Nat.zero_add _
  refine JoinedStr_many (joinParts_cons (Calls.Constant_str ⟨?_, ?_⟩))
  · rw [l0, sizeLine_eq]; omega
  · refine joinParts_cons (wpAny_FormattedValue_repr (thn (he pins _ σ H _ (I.tok _) h) fun v s1 ⟨x, H1, I1, r, z, ex, hz, hk, q⟩ => ?_))
    subst ex
    obtain ⟨t, rfl⟩ := r
    have hl : (reprText z).length ≤ 1000002 := Nat.le_trans (StrLaws.reprText_len z fun c hc => Nat.lt_of_lt_of_le (hk c hc) (by decide)) (by omega)
    refine wpAny_pyReprObj_str (formatField_str (fun t' tk => ⟨?_, joinParts_nil ⟨.str _, H1, I1.tok _, ⟨_, rfl⟩, q _⟩ ?_⟩) ?_) ?_
    · rw [strLen_append, l0, sizeLine_eq]; omega
    · rw [strLen_append, l0, sizeLine_eq]; omega
    · rw [sizeLine_eq]; omega
    · rw [sizeLine_eq]; omega
end
end L2
namespace L2
open PySem PySem.Spec PyProof.Rows PySem.Calls
/-! ### a def with defaults: T their tuple, ds its items -/
structure FunD (K : PySem.W.Frag) (x qual : Str) (st : Stmt) (ds : List Value) (f : Addr) (fd : FuncData) : Prop where
  ex : ∃ (T : Addr) (oc : Value) (od : Option Addr) (kV doc pm : Value) (an : Option Addr) (cdv ct : Value) (osl : Array (Option Value)) (to : Obj) (n : Nat),
    fd = PySem.W.fnOf x qual (defArgs st) (defBody st) (defScope st) (.ref T) kV doc pm an cdv ct ∧ K.lookup f = some ⟨oc, od, .func fd, osl⟩ ∧ PySem.W.codeIn K cdv qual = true ∧ K.lookup T = some to ∧ to.cls = .type "tuple" ∧ to.data = .seq ds.toArray n
  kp : PySem.W.keepIn K (.ref f) = true
section
variable {P : Program} {w : World} {K : PySem.W.Frag} {mg : Str → Option Value} {base : Heap} {x qual : Str} {st : Stmt} {f : Addr} {fd : FuncData} {N ps : List Str} {k : Nat} {sp : Sp} {ds : List Value}
theorem FunD.okX (F : FunD K x qual st ds f fd) (S : FnScope N ps (defScope st)) (len : ∀ vs H Q E, sp vs H Q E → vs.length = ps.length)
    (hbody : ∀ (cdv : Value) (A : Around) (outer : List Env) (s : Shared) (H : Hp) (vs : List V) (Q : VK) (E : XK), Room k (A.deeper (envOfC qual (defScope st) s.heap.objs.size f cdv)) → sp vs H Q E →
      ∃ t, PSs (cxOf (CXW P w) P w K mg base N qual (defScope st) f cdv A outer s H E) (defBody st) t ∧ t { nx := fun _ H' => Q .non H', rt := Q } (start N vs) H) : FnOk P w K mg base (CXW P w) (k + 1) f fd ps sp := by
  obtain ⟨T, oc, od, kV, doc, pm, an, cdv, ct, osl, to, n, rfl, lk, hcd, _⟩ := F.ex
  exact fn_of lk hcd S len fun A outer s H vs Q E hr hsp => hbody cdv A outer s H vs Q E hr hsp
theorem FunD.ok (F : FunD K x qual st ds f fd) (S : FnScope N ps (defScope st)) (len : ∀ vs H Q E, sp vs H Q E → vs.length = ps.length)
    (hbody : ∀ (cdv : Value) (A : Around) (outer : List Env) (s : Shared) (H : Hp) (vs : List V) (Q : VK) (E : XK), Room k (A.deeper (envOfC qual (defScope st) s.heap.objs.size f cdv)) → sp vs H Q E →
      ∃ t, PSs (cxOf CX0 P w K mg base N qual (defScope st) f cdv A outer s H E).nox (defBody st) t ∧ t { nx := fun _ H' => Q .non H', rt := Q } (start N vs) H) : FnOk P w K mg base CX0 (k + 1) f fd ps sp := by
  obtain ⟨T, oc, od, kV, doc, pm, an, cdv, ct, osl, to, n, rfl, lk, hcd, _⟩ := F.ex
  refine fn_of lk hcd S len fun A outer s H vs Q E hr hsp => ?_
  obtain ⟨t, h, q⟩ := hbody cdv A outer s H vs Q E hr hsp
  exact ⟨t, h.nox, q⟩
/-- its arguments bind: es the defaults that fill up -/
theorem FunD.binds {es : List Value} (F : FunD K x qual st ds f fd)
    (h : ∀ (T : Addr) (kV doc pm : Value) (an : Option Addr) (cdv ct : Value) (us : List Value) (M : Model) (A : Around) (E : Value → Shared → Prop) (Q : List (Str × Value) → Shared → Prop) (s : Shared) (to : Obj) (n : Nat), s.heap.get? T = some to → to.cls = .type "tuple" → to.data = .seq ds.toArray n →
      (us ++ es).length = ps.length → Q (ps.zip (us ++ es)) s → wpAny M A (bindArgs (PySem.W.fnOf x qual (defArgs st) (defBody st) (defScope st) (.ref T) kV doc pm an cdv ct) ⟨us, []⟩) Q E s) : Binds K fd ps es := by
  obtain ⟨T, oc, od, kV, doc, pm, an, cdv, ct, osl, to, n, rfl, lk, hcd, lt, tc, td⟩ := F.ex
  intro s us X hl M A E Q q
  exact h T kV doc pm an cdv ct us M A E Q s to n (X _ _ lt) tc td hl q
end

/-! ### classes of the text: who stands under whom -/
section
variable {K : PySem.W.Frag} {C D : Addr} {cd : ClassData} {r b : Bool} {T : String}
theorem kit_self : PySem.W.kitOne K (.ref D) (.ref D) = some true := by unfold PySem.W.kitOne; rw [if_pos (beq_self_eq_true _)]
theorem kitCls_ref (h1 : PySem.W.clsIn K C = some cd) (h2 : PySem.W.typeIn K (.ref C) = some (.type "type")) (h3 : PySem.W.mroIn K D (.ref C) = some r) : PySem.W.kitCls K (.ref D) (.ref C) = some r := by
  show (if ((PySem.W.clsIn K C).isSome && PySem.W.typeIn K (.ref C) == some (.type "type")) = true then PySem.W.mroIn K D (.ref C) else none) = some r
  rw [h1, h2, h3]; rfl
theorem kit_ref (h1 : PySem.W.clsIn K C = some cd) (h2 : PySem.W.typeIn K (.ref C) = some (.type "type")) (h3 : PySem.W.mroIn K D (.ref C) = some r) (hne : (Value.ref D == Value.ref C) = false) : PySem.W.kitOne K (.ref D) (.ref C) = some r := by
  unfold PySem.W.kitOne
  rw [if_neg (by rw [hne]; decide)]
  exact kitCls_ref h1 h2 h3
theorem exm_ref (h0 : PySem.W.subIn K (.ref C) (.type "BaseException") = some true) (h1 : PySem.W.clsIn K C = some cd) (h2 : PySem.W.typeIn K (.ref C) = some (.type "type")) (h3 : PySem.W.mroIn K D (.ref C) = some r) : PySem.W.exmOne K (.ref D) (.ref C) = some r := by
  unfold PySem.W.exmOne
  rw [h0, if_pos (by rfl)]
  exact kitCls_ref h1 h2 h3
theorem excCls_mk (ga : PySem.W.findIn K (.ref D) "__getattribute__" = some (some (.builtin "BaseException.__getattribute__"))) (gk : PySem.W.findIn K (.ref D) "__getattr__" = some none) (cl : PySem.W.clsIn K D = some cd) (ha : PySem.W.findIn K (.ref D) "__class__" = some (some (.builtin "object.__class__")))
    (hn : PySem.W.specialIn K (.builtin "object.__class__") "__get__" = some (some (.builtin "getset_descriptor.__get__"))) (tk : PySem.W.takesIn K (.builtin "object.__class__") = some true) (mo : PySem.W.mroIn K D (.type "object") = some true) (mb : PySem.W.mroIn K D (.type "BaseException") = some true) : ExcCls K D :=
  ⟨ga, gk, by rw [cl]; rfl, ha, hn, tk, mo, mb⟩
theorem app_len {α : Type} {us ds : List α} {n m : Nat} (h : (us ++ ds).length = n) (hm : ds.length + m = n) : us.length = m := by rw [List.length_append] at h; omega
theorem funD_mk {x qual : Str} {st : Stmt} {f T : Addr} {oc : Value} {od an dd : Option Addr} {osl dsl : Array (Option Value)} {kV doc pm cdv ct : Value} {ds : List Value} {n : Nat} (l : K.lookup f = some ⟨oc, od, .func (PySem.W.fnOf x qual (defArgs st) (defBody st) (defScope st) (.ref T) kV doc pm an cdv ct), osl⟩)
    (c : PySem.W.codeIn K cdv qual = true) (k : PySem.W.keepIn K (.ref f) = true) (lt : K.lookup T = some ⟨.type "tuple", dd, .seq ds.toArray n, dsl⟩) : FunD K x qual st ds f (PySem.W.fnOf x qual (defArgs st) (defBody st) (defScope st) (.ref T) kV doc pm an cdv ct) :=
  ⟨⟨T, oc, od, kV, doc, pm, an, cdv, ct, osl, _, n, rfl, l, c, lt, rfl, rfl⟩, k⟩
end
end L2
/-! written numbers, as lists of codes -/
namespace L2
theorem Bt.ValueError : PySem.bootBuiltins "ValueError" = some (.type "ValueError") := PyProof.Rows.Boot.«ValueError»
open PySem PySem.Spec PyProof.Rows
def FIG : Str := "0123456789"
def inF (c : Nat) : Bool := !(Builtin.Str.occurrences FIG (S [c]) 0 FIG.length 1).isEmpty
theorem inF_iff (c : Nat) : inF c = true ↔ 48 ≤ c ∧ c ≤ 57 := by
  have h : inF c = decide (c ∈ FIG.cps.toList) := StrLaws.found_one FIG c
  have e : FIG.cps.toList = [48, 49, 50, 51, 52, 53, 54, 55, 56, 57] := by decide +kernel
  rw [h, e, decide_eq_true_iff]
  simp only [List.mem_cons, List.not_mem_nil, or_false]
  omega
theorem occF {c : Nat} (h : inF c = true) : Builtin.Str.occurrences FIG (S [c]) 0 FIG.length 1 = [c - 48] := by
  obtain ⟨h1, h2⟩ := (inF_iff c).mp h
  have : c = 48 ∨ c = 49 ∨ c = 50 ∨ c = 51 ∨ c = 52 ∨ c = 53 ∨ c = 54 ∨ c = 55 ∨ c = 56 ∨ c = 57 := by omega
  rcases this with e | e | e | e | e | e | e | e | e | e <;> (subst e; decide +kernel)
theorem findF {c : Nat} (h : inF c = true) : Txt.find FIG (S [c]) = ((c - 48 : Nat) : Int) := by
  unfold Txt.find
  rw [occF h]
/-- what figures are worth -/
def val (l : List Nat) : Int := l.foldl (fun a c => a * 10 + ((c - 48 : Nat) : Int)) 0
theorem val_snoc (l : List Nat) (c : Nat) : val (l ++ [c]) = val l * 10 + ((c - 48 : Nat) : Int) := by unfold val; rw [List.foldl_append]; rfl
theorem val_take {l : List Nat} {i c : Nat} (h : l[i]? = some c) : val (l.take (i + 1)) = val (l.take i) * 10 + ((c - 48 : Nat) : Int) := by
  rw [List.take_succ, h]; exact val_snoc _ _
theorem val_bound : ∀ (n : Nat) (l : List Nat), l.length = n → l.all inF = true → 0 ≤ val l ∧ val l < 10 ^ n
  | 0, l, e, _ => by rw [List.eq_nil_of_length_eq_zero e]; exact ⟨by decide, by decide⟩
  | n + 1, l, e, h => by
    have hne : l ≠ [] := fun z => by rw [z] at e; cases e
    have el : l = l.dropLast ++ [l.getLast hne] := (List.dropLast_concat_getLast hne).symm
    rw [el, List.all_append, Bool.and_eq_true] at h
    obtain ⟨i1, i2⟩ := val_bound n l.dropLast (by rw [List.length_dropLast]; omega) h.1
    have hc := (inF_iff (l.getLast hne)).mp (by simpa using h.2)
    rw [el, val_snoc, Int.pow_succ]
    exact ⟨by omega, by omega⟩
theorem pow10_ib {x : Int} {n : Nat} (h0 : 0 ≤ x) (h : x < 10 ^ n) : ib x ≤ 4 * n := by
  refine ib_big ?_
  have h1 : (10 : Int) ^ n ≤ 16 ^ n := by
    have : (10 : Nat) ^ n ≤ 16 ^ n := Nat.pow_le_pow_left (by decide) n
    exact_mod_cast this
  have h2 : ((2 : Nat) ^ (4 * n)) = 16 ^ n := by rw [Nat.pow_mul]
  rw [h2]
  have h3 : x < ((16 ^ n : Nat) : Int) := by
    have e : ((16 ^ n : Nat) : Int) = (16 : Int) ^ n := by push_cast; rfl
    rw [e]; omega
  omega
/-! ### the first sign -/
theorem cutFrom (l : List Nat) (k : Nat) : cutN l (some (k : Int)) none = l.drop k := by
  unfold cutN
  have e1 : HT.sIx l.length 0 (some (k : Int)) = min k l.length := HT.sIx_nat l.length 0 k
  have e2 : HT.sIx l.length l.length none = l.length := rfl
  rw [e1, e2]
  by_cases h : k ≤ l.length
  · rw [Nat.min_eq_left h, List.take_of_length_le (by rw [List.length_drop]; exact Nat.le_refl _)]
  · rw [Nat.min_eq_right (by omega), List.drop_length, List.drop_eq_nil_of_le (by omega), List.take_nil]
theorem starts1 (z : Str) (k : Nat) : Txt.startswith z (S [k]) = decide ((cd z).take 1 = [k]) := by
  unfold Txt.startswith Builtin.Str.subAt
  have hl : (S [k]).length = 1 := rfl
  rw [hl]
  have hz : z.length = (cd z).length := len_cd z
  have e : z = S (cd z) := (S_cd z).symm
  cases h : cd z with
  | nil =>
    rw [hz, h]
    simp
  | cons c r =>
    rw [hz, h]
    have ex : z.cps.extract 0 (0 + 1) = #[c] := by
      apply Array.ext'
      rw [Array.toList_extract]
      have : z.cps.toList = c :: r := h
      rw [this]; rfl
    rw [ex]
    have e1 : decide (0 + 1 ≤ (c :: r).length) = true := decide_eq_true (by rw [List.length_cons]; omega)
    have e2 : (c :: r).take 1 = [c] := rfl
    rw [e1, e2, Bool.true_and]
    by_cases hk : c = k
    · subst hk
      rw [decide_eq_true rfl]
      show (#[c] == #[c]) = true
      exact beq_self_eq_true _
    · have e3 : ([c] = [k]) = False := by
        rw [eq_iff_iff]; exact ⟨fun h => hk (List.cons.inj h).1, False.elim⟩
      rw [decide_eq_false (by rw [e3]; exact not_false)]
      show (#[c] == #[k]) = false
      rw [beq_eq_false_iff_ne]
      intro h
      exact hk (List.cons.inj (congrArg Array.toList h)).1
theorem dec_cd (x y : Str) : decide (V.str x = V.str y) = decide (cd x = cd y) := by
  rw [Bool.eq_iff_iff, decide_eq_true_iff, decide_eq_true_iff]
  exact ⟨fun h => congrArg cd (V.str.inj h), fun h => congrArg V.str (cd_inj h)⟩
/-- the figures of a text: without a - ahead -/
def fig (l : List Nat) : List Nat := if l.take 1 = [45] then l.drop 1 else l
/-- what a written number of at most so many figures is worth -/
def numB (l : List Nat) (most : Int) : Option Int :=
  if (fig l).length < 1 ∨ most < (fig l).length ∨ ((fig l).take 1 = [48] ∧ l ≠ [48]) ∨ (fig l).all inF = false then none
  else some (if l.take 1 = [45] then - val (fig l) else val (fig l))
def figB (l : List Nat) : Bool := decide (0 < l.length) && l.all inF
theorem figB_iff (l : List Nat) : figB l = true ↔ 0 < l.length ∧ l.all inF = true := by unfold figB; rw [Bool.and_eq_true, decide_eq_true_iff]
theorem numB_no1 {l : List Nat} {m : Int} (h : figB (fig l) = false) : numB l m = none := by
  unfold numB
  rw [if_pos]
  by_cases h1 : (fig l).length < 1
  · exact .inl h1
  · refine .inr (.inr (.inr ?_))
    cases e : (fig l).all inF with
    | false => rfl
    | true => exact absurd ((figB_iff _).mpr ⟨by omega, e⟩) (by rw [h]; decide)
theorem numB_no2 {l : List Nat} {m : Int} (h : (fig l).take 1 = [48]) (h2 : l ≠ [48]) : numB l m = none := if_pos (.inr (.inr (.inl ⟨h, h2⟩)))
theorem numB_no3 {l : List Nat} {m : Int} (h : m < (fig l).length) : numB l m = none := if_pos (.inr (.inl h))
theorem numB_yes {l : List Nat} {m : Int} (h1 : figB (fig l) = true) (h2 : ¬ (fig l).take 1 = [48]) (h3 : ¬ m < (fig l).length) : numB l m = some (if l.take 1 = [45] then - val (fig l) else val (fig l)) := by
  unfold numB
  rw [if_neg]
  obtain ⟨a, b⟩ := (figB_iff _).mp h1
  intro h
  rcases h with h | h | h | h
  · omega
  · exact h3 h
  · exact h2 h.1
  · rw [b] at h; cases h
theorem numB_zero {most : Int} (h : 1 ≤ most) : numB [48] most = some 0 := by
  unfold numB
  have e1 : fig [48] = [48] := by decide
  rw [e1, if_neg]
  · decide
  · intro h
    rcases h with h | h | h | h
    · exact absurd h (by decide)
    · simp only [List.length_cons, List.length_nil] at h; omega
    · exact absurd rfl h.2
    · exact absurd h (by decide +kernel)
theorem take1_at {l : List Nat} (h : 1 ≤ l.length) : ∃ c, atI l 0 = some c ∧ l.take 1 = [c] := by
  cases l with
  | nil => cases h
  | cons c r => exact ⟨c, atI_nat (j := 0) rfl, rfl⟩
/-- texts that are not long, of signs that are common -/
structure Fine (n : Nat) (z : Str) : Prop where
  len : z.length ≤ n
  cod : ∀ c ∈ cd z, c < 1000
theorem Fine.mono {n m : Nat} {z : Str} (h : Fine n z) (l : n ≤ m) : Fine m z := ⟨Nat.le_trans h.len l, h.cod⟩
theorem Fine.app {n m : Nat} {x y : Str} (h : Fine n x) (k : Fine m y) : Fine (n + m) (x ++ y) := by
  refine ⟨?_, fun c hc => ?_⟩
  · rw [len_cd, cd_app, List.length_append, ← len_cd, ← len_cd]; have := h.len; have := k.len; omega
  · rw [cd_app] at hc
    rcases List.mem_append.mp hc with e | e
    · exact h.cod c e
    · exact k.cod c e
theorem Fine.cut {n : Nat} {z : Str} (h : Fine n z) (lo hi : Option Int) : Fine n (S (cutN (cd z) lo hi)) := by
  refine ⟨?_, fun c hc => ?_⟩
  · rw [len_S]; unfold cutN; rw [List.length_take, List.length_drop, ← len_cd]; have := h.len; omega
  · rw [cd_S] at hc; exact h.cod c (List.mem_of_mem_drop (List.mem_of_mem_take hc))
theorem Fine.size {n : Nat} {z : Str} (h : Fine n z) (hn : n ≤ 100000 := by decide) : z.length ≤ sizeLine := by rw [sizeLine_eq]; have := h.len; omega
theorem Fine.int {i : Int} {k : Nat} (hk : 0 < k) (h : i.natAbs < 10 ^ k) : Fine (k + 1) (toString i) := by
  refine ⟨?_, fun c hc => ?_⟩
  · rw [show ((toString i : String) : Str).length = (toString i).length from PySem.ofString_length _]
    exact int_text_length_le10 hk h
  · rcases Nat.lt_or_ge c 1000 with z | z
    · exact z
    · exact absurd hc (int_text_free' c ⟨by omega, by omega⟩ i)
end L2
/-! equality of values, lists and tuples too -/
namespace L2
open PySem PySem.Spec PyProof.Rows PySem.Calls
/-- x == y is b, x != y is not b; by items (the same, or equal) it is b -/
structure EqJ (X : Cx) (H : Hp) (n : Nat) (x y : V) (b : Bool) : Prop where
  rc : ∀ (pins : List (Addr × Obj)) (s : Shared) (σ : St) (u v : Value) (A : Around), Inv X pins σ H s → RelV x u → RelV y v → A.units + n < cLine → SeqAt.RcAt A s u v b
  ne : ∀ (pins : List (Addr × Obj)) (s : Shared) (σ : St) (u v : Value) (A : Around), Inv X pins σ H s → RelV x u → RelV y v → A.units + n < cLine → SeqAt.RcNeAt A s u v (!b)
def EqJi (X : Cx) (H : Hp) (n : Nat) (x y : V) (b : Bool) : Prop :=
  ∀ (pins : List (Addr × Obj)) (s : Shared) (σ : St) (u v : Value) (A : Around), Inv X pins σ H s → RelV x u → RelV y v → A.units + n < cLine → SeqAt.EqAt A s u v b
section
variable {X : Cx} {H : Hp} {n : Nat} {x y : V} {b : Bool} {p q : Addr} {xs ys : List V}
theorem vals_at {xs : List V} {us : List Value} (r : Vals xs us) {j : Nat} (h : j < us.toArray.size) : ∃ x, xs[j]? = some x ∧ RelV x us.toArray[j] := by
  have hj : j < us.length := by simpa using h
  have hx : j < xs.length := by rw [r.length]; exact hj
  obtain ⟨u, hu, ru⟩ := r.get (List.getElem?_eq_getElem hx)
  refine ⟨xs[j], List.getElem?_eq_getElem hx, ?_⟩
  rw [List.getElem?_eq_getElem hj] at hu
  cases hu
  simpa using ru
theorem eqj_lists {e : Nat → Bool} (h : SqL X.K H p xs) (k : SqL X.K H q ys) (hl : xs.length = ys.length) (he : ∀ (j : Nat) x y, xs[j]? = some x → ys[j]? = some y → EqJi X H n x y (e j)) :
    EqJ X H (n + 1) (.ref p) (.ref q) ((List.range xs.length).all e) := by
  have g : ∀ (pins : List (Addr × Obj)) (s : Shared) (σ : St) (A : Around), Inv X pins σ H s → A.units + (n + 1) < cLine → ∃ its its' : List Value, s.heap.IsList p its.toArray ∧ s.heap.IsList q its'.toArray ∧ its.toArray.size = its'.toArray.size ∧ its.toArray.size = xs.length ∧
      ∀ j (h1 : j < its.toArray.size) (h2 : j < its'.toArray.size), SeqAt.EqAt A.in1 s its.toArray[j] its'.toArray[j] (e j) := fun pins s σ A I hu => by
    obtain ⟨its, r, pl, _⟩ := I.list h
    obtain ⟨its', r', pl', _⟩ := I.list k
    have l1 := r.length
    have l2 := r'.length
    refine ⟨its, its', pl.isList, pl'.isList, by simp only [List.size_toArray]; omega, by simp only [List.size_toArray]; omega, fun j h1 h2 => ?_⟩
    obtain ⟨x, hx, rx⟩ := vals_at r h1
    obtain ⟨y, hy, ry⟩ := vals_at r' h2
    exact he j x y hx hy pins s σ _ _ A.in1 I rx ry (by show A.units + 1 + n < _; omega)
  refine ⟨fun pins s σ u v A I rx ry hu => ?_, fun pins s σ u v A I rx ry hu => ?_⟩ <;> (cases rx; cases ry; have hu' : A.units < cLine := by omega)
  · obtain ⟨its, its', a, b, c, d, z⟩ := g pins s σ A I hu
    rw [← d]; exact SeqAt.RcAt.lists a b c hu' z
  · obtain ⟨its, its', a, b, c, d, z⟩ := g pins s σ A I hu
    rw [← d]; exact SeqAt.RcNeAt.lists a b c hu' z
theorem op_neJ (hu : X.A.units + 20 < cLine) : OpR X (compareOp .NotEq) (fun x y H Q => ∃ b, EqJ X H 20 x y b ∧ Q (.bl (!b)) H) := by
  intro pins s σ H x y v u Q I rx ry h
  obtain ⟨b, e, q⟩ := h
  exact e.ne pins s σ v u X.A I rx ry hu X.prog X.w X.xe _ ⟨.bl (!b), H, I, rfl, q⟩
theorem hu20 {A : Around} {k : Nat} (hr : Room k A) : A.units + 20 < cLine := by have := hr.units; omega
end
end L2
/-! classes: methods by the class of what is at hand, a base's __init__, is True, in, index -/
namespace L2
open PySem PySem.Spec PyProof.Rows PySem.Calls
section
variable {P : Program} {w : World} {K : PySem.W.Frag} {mg : Str → Option Value} {base : Heap}
/-- a method m of the class at C -/
structure MethJ (P : Program) (w : World) (K : PySem.W.Frag) (mg : Str → Option Value) (base : Heap) (CX : CXT) (k : Nat) (C : Addr) (m : Str) where
  f : Addr
  fd : FuncData
  ps : List Str
  sp : Sp
  ds : List Value
  dvs : List V
  c : Cls K C
  hm : Meth K C m f
  F : FnOk P w K mg base CX k f fd ps sp
  hb : Binds K fd ps ds
  hd : Vals dvs ds
end
theorem passW0 {X : Cx} : Passes (CXW X.prog X.w) X E0 := fun _ _ _ _ _ _ _ h => by
  obtain ⟨_, _, _, _, _, _, _, _, _, _, _, z⟩ := h
  exact z.elim
section
variable {X : Cx} {CX : CXT} {k : Nat} {E : XK} {m : Str} {pos apos : Pos} {e o : Expr} {es : List Expr} {ta : TE} {t : TA}
def tMethG (X : Cx) (CX : CXT) (k : Nat) (m : Str) (E : XK) (ta : TE) (t : TA) : TE := fun σ H Q => ta σ H fun x H1 => ∃ (a C dx : Addr) (fs : List (Str × V)) (M : MethJ X.prog X.w X.K X.mg X.base CX k C m), x = .ref a ∧ H1 a = some (.ins C dx fs) ∧ fs.lookup m = none ∧
  t σ H1 fun vs H2 => M.sp (x :: (vs ++ M.dvs)) H2 Q E
theorem pe_methG {pl : Sem Bool} (hr : Room k X.A) (hx : Passes CX X E) (he : PE X o ta) (ha : PA X (e :: es) t)
    (hst : starEach (e :: es) X.env = (false, eval e X.env) :: starEach es X.env := by rfl) (hpl : (backTo pos (starEach es X.env)).any (·.1) = false := by rfl)
    (ht : eval (.Call (.Attribute o m apos) (e :: es) [] pos) X.env = (do
      let ov ← eval o X.env
      standAt apos.atName
      let (f, first) ← holding [ov] (getMethod ov m pl)
      callWith pos f first (backTo pos (starEach (e :: es) X.env)) (backToKw pos (keywordEach [] X.env))) := by rfl) :
    PE X (.Call (.Attribute o m apos) (e :: es) [] pos) (tMethG X CX k m E ta t) := by
  intro pins s σ H Q I h
  refine PySem.W.methodCall_KW (pl := pl) (thn (he pins s σ H _ I h) fun u s1 ⟨x, H1, I1, rx, a, C, dx, fs, M, ex, ea, l, q⟩ => ?_) ht
  subst ex
  obtain rfl : u = Value.ref a := rx
  refine getmeth_ok I1 ea M.c M.hm l ?_
  refine PySem.W.callWith_K (first := [.ref a]) (h₀ := X.base) I.ok.mod.kin M.hm.kp (thn (ha pos pins s1 σ H1 _ I1 q) fun us s2 ⟨vs, H2, I2, r, q2⟩ => ⟨I2.kIn, ?_⟩) hst hpl
  exact run_fn (us := .ref a :: us) (vs := .ref a :: vs) M.F hr M.hb M.hd hx I2 (.cons rfl r) q2
theorem pe_methG0 {pl : Sem Bool} (hr : Room k X.A) (hx : Passes CX X E) (he : PE X o ta)
    (ht : eval (.Call (.Attribute o m apos) [] [] pos) X.env = (do
      let ov ← eval o X.env
      standAt apos.atName
      let (f, first) ← holding [ov] (getMethod ov m pl)
      callWith pos f first (backTo pos (starEach [] X.env)) (backToKw pos (keywordEach [] X.env))) := by rfl) :
    PE X (.Call (.Attribute o m apos) [] [] pos) (tMethG X CX k m E ta tNil) := by
  intro pins s σ H Q I h
  refine PySem.W.methodCall_KW (pl := pl) (thn (he pins s σ H _ I h) fun u s1 ⟨x, H1, I1, rx, a, C, dx, fs, M, ex, ea, l, q⟩ => ?_) ht
  subst ex
  obtain rfl : u = Value.ref a := rx
  refine getmeth_ok I1 ea M.c M.hm l ?_
  exact PySem.W.callWith_K0 (first := [.ref a]) I1.kIn M.hm.kp (run_fn (us := [.ref a]) (vs := [.ref a]) M.F hr M.hb M.hd hx I1 (.cons rfl .nil) q)
/-- C.m(self, ..): a def of the class by its name -/
structure ClsFn (K : PySem.W.Frag) (C : Addr) (m : Str) (f : Addr) : Prop where
  rd : PySem.W.readsIn K C (.type "type") = true
  at_ : PySem.W.findCls K (.ref C) (.type "type") m = some (.val (.ref f))
  sp : PySem.W.specialIn K (.ref C) "__getattribute__" = some (some (.builtin "type.__getattribute__"))
  kp : PySem.W.keepIn K (.ref f) = true
theorem pe_clsfn {pl : Sem Bool} {C f : Addr} {fd : FuncData} {ps : List Str} {sp : Sp} {x : Str} {np : Pos} (c : ClsFn X.K C m f) (F : FnOk X.prog X.w X.K X.mg X.base CX k f fd ps sp) (hr : Room k X.A) (hg : Gl X x) (hmg : X.mg x = some (.ref C)) (hb : Binds X.K fd ps []) (hx : Passes CX X E)
    (ha : PA X (e :: es) t) (hd : (x == ("__debug__" : Str)) = false := by decide)
    (hst : starEach (e :: es) X.env = (false, eval e X.env) :: starEach es X.env := by rfl) (hpl : (backTo pos (starEach es X.env)).any (·.1) = false := by rfl)
    (ht : eval (.Call (.Attribute (.Name x np) m apos) (e :: es) [] pos) X.env = (do
      let ov ← eval (.Name x np) X.env
      standAt apos.atName
      let (f, first) ← holding [ov] (getMethod ov m pl)
      callWith pos f first (backTo pos (starEach (e :: es) X.env)) (backToKw pos (keywordEach [] X.env))) := by rfl) :
    PE X (.Call (.Attribute (.Name x np) m apos) (e :: es) [] pos) (tCall sp [] E t) := by
  intro pins s σ H Q I h
  refine PySem.W.methodCall_KW (pl := pl) (ld_glob I hg hmg ?_ hd) ht
  refine PySem.W.method_cls I.kIn c.sp (PySem.W.cls_value (s := s) I.kIn c.rd c.at_ rfl ?_)
  refine PySem.W.callWith_K (first := []) (h₀ := X.base) I.ok.mod.kin c.kp (thn (ha pos pins _ σ H _ (I.tok _) h) fun us s2 ⟨vs, H2, I2, r, q2⟩ => ⟨I2.kIn, ?_⟩) hst hpl
  exact run_fn (us := us) (vs := vs) F hr hb .nil hx I2 r q2
end
end L2
/-! numbers as texts; blanks left out -/
namespace L2
open PySem PySem.Spec PyProof.Rows
/-! ### strip -/
/-! ### figures of a number -/
def dig (n : Nat) : List Nat := (Nat.toDigits 10 n).map Char.toNat
theorem digChar : ∀ d : Nat, d < 10 → (Nat.digitChar d).toNat = 48 + d := by decide
theorem dig_lt {n : Nat} (h : n < 10) : dig n = [48 + n] := by
  unfold dig; rw [Nat.toDigits_of_lt_base h]; show [(Nat.digitChar n).toNat] = _; rw [digChar n h]
theorem dig_ge {n : Nat} (h : 10 ≤ n) : dig n = dig (n / 10) ++ [48 + n % 10] := by
  unfold dig; rw [Nat.toDigits_of_base_le (by decide) h, List.map_append]; show _ ++ [(Nat.digitChar (n % 10)).toNat] = _; rw [digChar _ (Nat.mod_lt _ (by decide))]
theorem dig_pos (n : Nat) : 0 < (dig n).length := by unfold dig; rw [List.length_map]; exact Nat.length_toDigits_pos
theorem dig_len {k n : Nat} (hk : 1 ≤ k) (hn : n < 10 ^ k) : (dig n).length ≤ k := by unfold dig; rw [List.length_map]; exact toDigits_len_pow (by decide) hk hn
theorem dig_all (n : Nat) : (dig n).all inF = true := by
  induction n using Nat.strongRecOn with
  | _ n ih =>
    by_cases h : n < 10
    · rw [dig_lt h, List.all_cons, (inF_iff _).mpr ⟨by omega, by omega⟩]; rfl
    · rw [dig_ge (by omega), List.all_append, ih (n / 10) (by omega), List.all_cons, (inF_iff _).mpr ⟨by omega, by have := Nat.mod_lt n (show 0 < 10 by decide); omega⟩]; rfl
theorem val_dig (n : Nat) : val (dig n) = n := by
  induction n using Nat.strongRecOn with
  | _ n ih =>
    by_cases h : n < 10
    · rw [dig_lt h]; show (0 : Int) * 10 + ((48 + n - 48 : Nat) : Int) = n; omega
    · rw [dig_ge (by omega), val_snoc, ih (n / 10) (by omega)]; omega
theorem dig_head {n : Nat} (h : n ≠ 0) : ∃ c r, dig n = c :: r ∧ 49 ≤ c ∧ c ≤ 57 := by
  induction n using Nat.strongRecOn with
  | _ n ih =>
    by_cases h10 : n < 10
    · exact ⟨_, _, dig_lt h10, by omega, by omega⟩
    · obtain ⟨c, r, e, h1, h2⟩ := ih (n / 10) (by omega) (by omega)
      exact ⟨c, r ++ [48 + n % 10], by rw [dig_ge (by omega), e]; rfl, h1, h2⟩
theorem dig_fig {n c : Nat} (h : c ∈ dig n) : 48 ≤ c ∧ c ≤ 57 := (inF_iff c).mp (List.all_eq_true.mp (dig_all n) c h)
theorem dig_zero : dig 0 = [48] := dig_lt (by decide)
/-- the text of a number -/
def numL (i : Int) : List Nat := if i < 0 then 45 :: dig i.natAbs else dig i.natAbs
theorem cd_str (i : Int) : cd ((toString i : String) : Str) = numL i := by
  show (Str.ofString (toString i)).cps.toList = _
  rw [signs_ofString]
  unfold numL
  cases i with
  | ofNat m =>
    rw [if_neg (show ¬ Int.ofNat m < 0 from by have : Int.ofNat m = (m : Int) := rfl; omega)]
    show (Nat.repr m).toList.map Char.toNat = _
    rw [Nat.toList_repr]; rfl
  | negSucc m =>
    rw [if_pos (Int.negSucc_lt_zero m)]
    have : (toString (Int.negSucc m)) = "-" ++ Nat.repr (m + 1) := rfl
    rw [this, String.toList_append, Nat.toList_repr]; rfl
theorem numL_fig (i : Int) : fig (numL i) = dig i.natAbs := by
  unfold numL
  split
  · rfl
  · unfold fig
    rw [if_neg]
    obtain ⟨c, r, e⟩ : ∃ c r, dig i.natAbs = c :: r := by
      cases h : dig i.natAbs with
      | nil => have := dig_pos i.natAbs; rw [h] at this; cases this
      | cons c r => exact ⟨c, r, rfl⟩
    intro z
    have hc := dig_fig (n := i.natAbs) (c := c) (by rw [e]; simp)
    rw [e] at z
    have : c = 45 := by simpa using z
    omega
theorem numL_mem {i : Int} {c : Nat} (h : c ∈ numL i) : c = 45 ∨ (48 ≤ c ∧ c ≤ 57) := by
  unfold numL at h
  split at h
  · rcases List.mem_cons.mp h with e | e
    · exact .inl e
    · exact .inr (dig_fig e)
  · exact .inr (dig_fig h)
theorem numB_numL {i : Int} {most : Int} (h1 : 1 ≤ most) (h : ((dig i.natAbs).length : Int) ≤ most) : numB (numL i) most = some i := by
  have e := numL_fig i
  unfold numB
  rw [e, if_neg]
  · congr 1
    rw [val_dig]
    unfold numL
    by_cases hi : i < 0
    · rw [if_pos hi]
      rw [if_pos (show (45 :: dig i.natAbs).take 1 = [45] from rfl)]; omega
    · rw [if_neg hi, if_neg]
      · omega
      · intro z
        obtain ⟨c, r, ec⟩ : ∃ c r, dig i.natAbs = c :: r := by
          cases h : dig i.natAbs with
          | nil => have := dig_pos i.natAbs; rw [h] at this; cases this
          | cons c r => exact ⟨c, r, rfl⟩
        have hc := dig_fig (n := i.natAbs) (c := c) (by rw [ec]; simp)
        rw [ec] at z
        have : c = 45 := by simpa using z
        omega
  · intro z
    rcases z with z | z | z | z
    · have := dig_pos i.natAbs; omega
    · omega
    · by_cases h0 : i.natAbs = 0
      · have : i = 0 := by omega
        subst this
        exact z.2 (by show (if (0:Int) < 0 then _ else _) = _; rw [if_neg (by decide)]; exact dig_zero)
      · obtain ⟨c, r, ec, hc, _⟩ := dig_head h0
        rw [ec] at z
        have : c = 48 := by simpa using z.1
        omega
    · rw [dig_all] at z; cases z
theorem numB_str {i : Int} (h : i.natAbs < 10 ^ 60) : numB (numL i) 60 = some i := numB_numL (by decide) (by have := dig_len (k := 60) (by decide) h; omega)
end L2
namespace L2
open PySem PySem.Spec PyProof.Rows PySem.Calls
section
variable {X : Cx}
end
/-! ### fields -/
/-- what a thing is, to isinstance -/
structure Thing (K : PySem.W.Frag) (H : Hp) (x : V) where
  t : Value
  bi : Bool
  bb : Bool
  bs : Bool
  ty : TyE K H x t
  ki : PySem.W.kitOne K t (.type "int") = some bi
  kb : PySem.W.kitOne K t (.type "bool") = some bb
  ks : PySem.W.kitOne K t (.type "str") = some bs
  hi : (bi && !bb) = true → ∃ n, x = .int n
  hs : bs = true → ∃ z, x = .str z
  ni : ∀ n, x = .int n → (bi && !bb) = true
  ns : ∀ z, x = .str z → bs = true
  hbl : bb = true → ∃ b, x = .bl b
  nbl : ∀ b, x = .bl b → bb = true
theorem Same.seqT {K : PySem.W.Frag} {H H' : Hp} {a : Addr} {xs : List V} (e : Same H H') (h : SqT K H a xs) : SqT K H' a xs := by
  rcases h with h | h
  · exact .inl (h.imp (fun k => e _ _ k) (fun ⟨o, k⟩ => ⟨o, e _ _ k⟩))
  · exact .inr h
theorem Same.tyE' {K : PySem.W.Frag} {H H' : Hp} {x : V} {t : Value} (e : Same H H') (h : TyE K H x t) : TyE K H' x t := by
  cases h with
  | old h => exact .old (e.ty h)
  | exc h c => exact .exc (e _ _ h) c
  | tpl h => exact .tpl (e.seqT h)
def Thing.same {K : PySem.W.Frag} {H H' : Hp} {x : V} (h : Thing K H x) (e : Same H H') : Thing K H' x := ⟨h.t, h.bi, h.bb, h.bs, e.tyE' h.ty, h.ki, h.kb, h.ks, h.hi, h.hs, h.ni, h.ns, h.hbl, h.nbl⟩
theorem Same.upd {H H' : Hp} {p : Addr} {o : HO} (e : Same H H') (h : H p = none ∨ H p = some o) : Same H (L2.upd H' p o) := fun b u q => by
  by_cases z : b = p
  · subst z
    rcases h with h | h
    · rw [h] at q; cases q
    · rw [h] at q; rw [upd_same]; exact q
  · rw [upd_ne z]; exact e b u q
/-- what is shown of a number that a text writes -/
def numV : Option Int → V
  | some n => .int n
  | none => .non
end L2
/-! written whole numbers: what the laws ask of them -/
namespace L2
open PySem PySem.Spec PyProof.Rows
theorem str_is (n : Int) : ((toString n : String) : Str) = S (numL n) := cd_inj (cd_str n)
end L2
/-! a table of the module, asked by get; in, where it is asked of lists and tuples too; index; split -/
namespace L2
open PySem PySem.Spec PyProof.Rows PySem.Calls
theorem pe_eqv {X : Cx} {e : Expr} {te te' : TE} (h : PE X e te') (h2 : te' = te) : PE X e te := h2 ▸ h
section
variable {X : Cx}
end
end L2
/-! sets of texts, made of a tuple; a text cut at blanks -/
namespace L2
open PySem PySem.Spec PyProof.Rows PySem.Calls
section
variable {prog : Program} {w : World} {A : Around} {R : Result → Shared → Prop} {I : Addr} {fp wr : List Addr} {G : Array GenState → Array GenState → Prop} {n : Nat} {P : Nat → Value → Prop} {St : Nat → Shared → Prop}
end

section
variable {prog : Program} {w : World} {A : Around} {E : Value → Shared → Prop} {s : Shared}
end
section
variable {X : Cx}
end
end L2
namespace L2
open PySem PySem.Spec PyProof.Rows PySem.Calls
theorem vals_strs : ∀ (ws : List Str) (tk : Nat), Vals (ws.map V.str) (strsFrom tk ws)
  | [], _ => .nil
  | x :: r, tk => .cons ⟨tk, rfl⟩ (vals_strs r (tk + 1))
section
variable {X : Cx}
theorem mt_split : MtM X "str.split" (fun x vs H Q => ∃ z y, x = .str z ∧ vs = [.str y] ∧ 0 < y.length ∧ z.length ≤ 100000 ∧ ∀ l, H l = none → Q (.ref l) (upd H l (.lst ((Txt.split z y).map V.str)))) := by
  intro pins s σ H x vs v us Q I rx rv h
  obtain ⟨z, y, rfl, rfl, hy, hz, q⟩ := h
  obtain ⟨t, rfl⟩ := rx
  obtain ⟨u, rfl, ⟨t', rfl⟩⟩ := rv.one
  have hy' : (y.length == 0) = false := by rw [beq_eq_false_iff_ne]; omega
  have hle := split_le z y
  have hsz : (Txt.split z y).length ≤ sizeLine := by rw [sizeLine_eq]; omega
  have hzs : z.length ≤ sizeLine := by rw [sizeLine_eq]; omega
  have q := q _ (I.hok.fresh (Nat.le_refl _))
  have fin : ∀ (its : List Value) (tk : Nat), Vals ((Txt.split z y).map V.str) its → EP X pins σ Q (.ref s.heap.objs.size) { s with toks := tk, heap := s.heap.push { cls := .type "list", data := .seq its.toArray } } := fun its tk r =>
    ⟨.ref s.heap.objs.size, _, I.laid (t' := tk) (a := s.heap.objs.size) (fun b o e => Heap.get?_push_of_some _ e) (Nat.le_refl _) (show ObjOk X.prog X.w _ _ _ (.lst ((Txt.split z y).map V.str)) from ⟨by rw [List.length_map]; exact hsz, its, _, r, Heap.get?_push_size _ rfl⟩), rfl, q⟩
  cases h1 : (decide (z.length < y.length) || decide (Builtin.Str.strKind z < Builtin.Str.strKind y)) with
  | true =>
    have e : Txt.split z y = [z] := if_pos h1
    exact call_meets PySem.F.slot_str_split (typeIs_str _ _ _) PySem.F.entry_str_split (PySem.F.args_str_split_2 _ _) (meets_str_split_cannot_occur z y t t' h1) (fin [.str z t] _ (by rw [e]; exact .cons ⟨t, rfl⟩ .nil))
  | false =>
    cases hf : (Builtin.Str.occurrences z y 0 z.length (z.length + 1)).isEmpty with
    | true =>
      have e : Txt.split z y = [z] := (if_neg (ne_true_of_eq_false h1)).trans (if_pos hf)
      exact call_meets PySem.F.slot_str_split (typeIs_str _ _ _) PySem.F.entry_str_split (PySem.F.args_str_split_2 _ _) (meets_str_split_not_found z y t t' h1 hy' hf) (fin [.str z t] _ (by rw [e]; exact .cons ⟨t, rfl⟩ .nil))
    | false =>
      have e : Txt.split z y = Builtin.Str.partsBetween z (Builtin.Str.occurrences z y 0 z.length (z.length + 1)) y.length := (if_neg (ne_true_of_eq_false h1)).trans (if_neg (ne_true_of_eq_false hf))
      refine call_meets PySem.F.slot_str_split (typeIs_str _ _ _) PySem.F.entry_str_split (PySem.F.args_str_split_2 _ _) (meets_str_split_sep z y t t' h1 hy' hf hzs (by rw [← e]; exact hsz)) (fin _ _ ?_)
      rw [e]; exact vals_strs _ _
end
/-! parts between blanks -/
/-- the parts of a text are those blank-free texts that it joins -/
theorem joinL_inj : ∀ {a b : List (List Nat)}, a ≠ [] → b ≠ [] → (∀ p ∈ a, 32 ∉ p) → (∀ p ∈ b, 32 ∉ p) → joinL [32] a = joinL [32] b → a = b := by
  have cut : ∀ {x y u v : List Nat}, 32 ∉ x → 32 ∉ y → x ++ 32 :: u = y ++ 32 :: v → x = y ∧ u = v := by
    intro x
    induction x with
    | nil =>
      intro y u v hx hy e
      cases y with
      | nil => exact ⟨rfl, (List.cons.inj e).2⟩
      | cons b r => exact absurd (by rw [show b = 32 from (List.cons.inj e).1.symm]; simp) hy
    | cons a x ih =>
      intro y u v hx hy e
      cases y with
      | nil => exact absurd (by rw [show a = 32 from (List.cons.inj e).1]; simp) hx
      | cons b r =>
        have h := List.cons.inj e
        obtain ⟨h1, h2⟩ := ih (fun z => hx (List.mem_cons_of_mem _ z)) (fun z => hy (List.mem_cons_of_mem _ z)) h.2
        exact ⟨by rw [h.1, h1], h2⟩
  intro a
  induction a with
  | nil => intro b h; exact absurd rfl h
  | cons x r ih =>
    intro b _ hb ha hbb e
    cases b with
    | nil => exact absurd rfl hb
    | cons y s =>
      have fx := ha x (by simp)
      have fy := hbb y (by simp)
      cases r with
      | nil =>
        cases s with
        | nil => exact congrArg (· :: []) e
        | cons y2 s =>
          have e' : x = y ++ [32] ++ joinL [32] (y2 :: s) := e
          exact absurd (by rw [e']; simp) fx
      | cons x2 r =>
        cases s with
        | nil =>
          have e' : x ++ [32] ++ joinL [32] (x2 :: r) = y := e
          exact absurd (by rw [← e']; simp) fy
        | cons y2 s =>
          have e' : x ++ [32] ++ joinL [32] (x2 :: r) = y ++ [32] ++ joinL [32] (y2 :: s) := e
          rw [List.append_assoc, List.append_assoc] at e'
          obtain ⟨h1, h2⟩ := cut fx fy e'
          have := ih (b := y2 :: s) (by simp) (by simp) (fun p hp => ha p (List.mem_cons_of_mem _ hp)) (fun p hp => hbb p (List.mem_cons_of_mem _ hp)) h2
          rw [h1, this]
def splitL (l : List Nat) : List (List Nat) := (Txt.split (S l) (S [32])).map cd
theorem splitL_free {l p : List Nat} (h : p ∈ splitL l) : 32 ∉ p := by
  obtain ⟨z, hz, rfl⟩ := List.mem_map.mp h
  exact StrLaws.split_free (S l) 32 z hz
theorem splitL_ne (l : List Nat) : splitL l ≠ [] := by
  intro e
  have := split_pos (S l) (S [32])
  have e2 := congrArg List.length e
  unfold splitL at e2
  rw [List.length_map] at e2
  rw [e2] at this; cases this
theorem splitL_join (l : List Nat) : joinL [32] (splitL l) = l := by
  have e := StrLaws.join_split (S l) (S [32])
  rw [← StrLaws.glued_eq_join] at e
  have e2 := joinS_is (S [32]) (Txt.split (S l) (S [32]))
  rw [show joinS (S [32]) (Txt.split (S l) (S [32])) = S l from e] at e2
  exact (S_inj e2).symm
theorem splitL_of {ws : List (List Nat)} (h : ws ≠ []) (hf : ∀ p ∈ ws, 32 ∉ p) : splitL (joinL [32] ws) = ws :=
  joinL_inj (splitL_ne _) h (fun _ hp => splitL_free hp) hf (splitL_join _)
theorem split_is (z : Str) : Txt.split z (S [32]) = (splitL (cd z)).map S := by
  unfold splitL
  rw [List.map_map, S_cd]
  have : (S ∘ cd) = id := funext fun x => S_cd x
  rw [this, List.map_id]
end L2
namespace HT
open PySem PySem.Spec PyProof.Rows PySem.Calls
section
variable {prog : Program} {w : World} {A : Around} {E : Value → Shared → Prop} {s : Shared}
end
end HT
namespace L2
open PySem PySem.Spec PyProof.Rows PySem.Calls
section
variable {X : Cx}
end
end L2
/-! comprehensions with a target of two names, and with a test -/
namespace L2
open PySem PySem.Spec PyProof.Rows PySem.Calls
/-- the tests of a comprehension -/
def PIfs (X : Cx) (ifs : List Expr) (t : TT) : Prop :=
  ∀ (pins : List (Addr × Obj)) (s : Shared) (σ : St) (H : Hp) (Q : Bool → Hp → Prop), Inv X pins σ H s → t σ H Q →
    wpAny (model X.prog X.w) X.A (forIn ifs true fun c r => if r = true then do let ok ← isTrue c X.env (eval c X.env); pure (ForInStep.yield ok) else pure (ForInStep.yield r)) (TP X pins σ Q) X.xe s
def tTrue : TT := fun _ H Q => Q true H
theorem pifs_nil {X : Cx} : PIfs X [] tTrue := fun pins s σ H Q I h => wpAny_pure ⟨H, I, h⟩
theorem compLoop_go2 {prog : Program} {w : World} {A : Around} {R : Result → Shared → Prop} {s : Shared} {elt target iter : Expr} {ifs : List Expr} {scope : Scope} {pos : Pos} {it acc : Value} {env : Env} (I : Nat → Shared → Prop)
    (turn : ∀ n s, I n s → wpAny (model prog w) A (pyNext it) (fun r s₁ => match r with
      | none => R (.ok .next) s₁
      | some v => wpAny (model prog w) A (letOwnedTupleGo target it v) (fun _ s₂ => wpAny (model prog w) A (assign target env v) (fun _ s₃ =>
          wpAny (model prog w) A (forIn ifs true fun c r => if r = true then do let ok ← isTrue c env (eval c env); pure (ForInStep.yield ok) else pure (ForInStep.yield r)) (fun ok s₄ =>
            if ok = true then wpAny (model prog w) A (eval elt env) (fun x s₅ =>
              wpAny (model prog w) A (call (.builtin "list.append") [acc, x]) (fun _ s₆ => ∃ m, m < n ∧ I m s₆) (notedBy (model prog w) A env fun e s' => R (.error e) s') s₅)
              (notedBy (model prog w) A env fun e s' => R (.error e) s') s₄ else ∃ m, m < n ∧ I m s₄)
            (notedBy (model prog w) A env fun e s' => R (.error e) s') s₃) (notedBy (model prog w) A env fun e s' => R (.error e) s') s₂) (notedBy (model prog w) A env fun e s' => R (.error e) s') s₁)
      (notedBy (model prog w) A env fun e s' => R (.error e) s') s)
    (n : Nat) (h : I n s) : codeAny (model prog w) A (.compLoop (.ListComp elt [⟨target, iter, ifs, 0⟩] scope pos) 0 it acc env) R s := by
  refine codeAny_loop rfl I (fun n s hI => ?_) n h
  show wpAny _ A ((compTurn (.ListComp elt [⟨target, iter, ifs, 0⟩] scope pos) 0 it acc env).onRaise (fun x => do noteFrame x env; theTreesLotGoes x)) _ _ s
  refine wpAny_noted ?_
  rw [compTurn_list]
  refine wpAny_bind (wpAny_standAt (wpAny_bind (wpAny_mono (turn n s hI) (fun r s₁ h₁ => ?_) fun _ _ h' => h')))
  cases r with
  | none => exact wpAny_pure h₁
  | some v =>
    refine wpAny_bind (wpAny_mono h₁ (fun _ s₂ h₂ => wpAny_bind (wpAny_mono h₂ (fun _ s₃ h₃ => ?_) fun _ _ h' => h')) fun _ _ h' => h')
    refine wpAny_bind (wpAny_mono h₃ (fun ok s₄ h₄ => ?_) fun _ _ h' => h')
    cases ok with
    | false => exact wpAny_pure ⟨rfl, h₄⟩
    | true => exact wpAny_bind (wpAny_bind (wpAny_mono h₄ (fun x s₅ h₅ => wpAny_bind (wpAny_mono h₅ (fun _ s₆ h₆ => wpAny_pure (wpAny_pure ⟨rfl, h₆⟩)) fun _ _ h' => h')) fun _ _ h' => h'))
/-- the context of the block: the variables x, y, then the names of the def around -/
def compCx2 (X : Cx) (scope : Scope) (C : Addr) (x y : Str) (M : List Str) (s₂ : Shared) (H₂ : Hp) (fp : List Addr) : Cx :=
  { X with N := x :: y :: M, s₀ := s₂, H₀ := H₂, env := compEnvC scope (clOf X.env scope.names []) C X.env, outer := X.stack, ex := fp, fn := fun _ => false, pn := [], xe := fun _ _ => False }
structure CompOk2 (X : Cx) (scope : Scope) (x y : Str) (M : List Str) : Prop where
  base : CompOk X scope x M
  loc2 : scope.names.lookup y = some .local
  nd2 : (x :: y :: M).Nodup
theorem compOk2_of {X : Cx} {scope : Scope} {x y : Str} {M : List Str} (h : CompOk X scope x M) (h1 : scope.names.lookup y = some .local) (h2 : (x :: y :: M).Nodup) : CompOk2 X scope x y M := ⟨h, h1, h2⟩
section
variable {X : Cx} {scope : Scope} {x y : Str} {M : List Str} {pins : List (Addr × Obj)} {σ : St} {H₂ : Hp} {s₂ : Shared} {elt iter tg : Expr} {ifs : List Expr} {pos : Pos} {te : TE} {wi : TI} {g : TG} {tc : TT}
theorem inv_comp2 (K : CompOk2 X scope x y M) (I : Inv X pins σ H₂ s₂) {fp : List Addr} (hf : ∀ b ∈ fp, FpOk X pins H₂ b) (hfl : ∀ b ∈ fp, b < s₂.heap.objs.size) {C : Addr} (hC : s₂.heap.objs.size ≤ C) {h₁ : Heap} {t : Nat} {m : Str → Option Value} (hn : h₁.Ns C m)
    (hk : ∀ b o, s₂.heap.get? b = some o → h₁.get? b = some o) : Inv (compCx2 X scope C x y M s₂ H₂ fp) [] (none :: none :: σ) H₂ { s₂ with heap := h₁, toks := t } := by
  have I1 := inv_comp (t := t) K.base I hf hfl hC hn hk
  have ok : (compCx2 X scope C x y M s₂ H₂ fp).Ok := by
    obtain ⟨a1, a2, a3, a4, a5, a6, a7, a8, a9, a10, a11, a12, a13, a14, a15, a16, a17, a18⟩ := I1.ok
    exact ⟨a1, a2, a3, a4, a5, a6, a7, a8, a9, a10, a11, a12, a13, a14, a15, a16, a17, a18⟩
  obtain ⟨m', ns', lo⟩ := I1.loc
  refine ⟨ok, I1.os, I1.bare, I1.base, ⟨m', ns', fun i z v e1 e2 e3 => ?_⟩, I1.cell, I1.free, I1.freeC, I1.pin, I1.hok, ?_⟩
  · match i, e1, e2 with
    | 0, _, e2 => cases e2
    | 1, _, e2 => cases e2
    | j + 2, e1, e2 => exact lo (j + 1) z v e1 e2 e3
  · have := I1.len
    show (none :: none :: σ).length = (x :: y :: M).length
    have h2 : (none :: σ).length = (x :: M).length := this
    simp only [List.length_cons] at h2 ⊢
    omega
def tComp2 (wi : TI) (g : TG) (tc : TT) (te : TE) : TE := fun σ H Q => wi σ H fun J H1 => ∃ (n : Nat) (W : Nat → List V → Hp → Prop), n ≤ sizeLine ∧ W 0 [] H1 ∧ ∀ i ys H, i ≤ n → ys.length ≤ i → W i ys H →
  (J.stop i H ∧ ∀ p, H p = none → Q (.ref p) (upd H p (.lst ys))) ∨ (J.go i H ∧ i < n ∧ ∀ x H', J.yld i H x H' → ∀ u v, g x (u :: v :: σ) H' fun ρ H2 => (∃ u' v', ρ = u' :: v' :: σ) ∧ tc ρ H2 fun c H3 => if c = true then te ρ H3 fun z H4 => W (i + 1) (ys ++ [z]) H4 else W (i + 1) ys H3)
theorem comp_block2 (K : CompOk2 X scope x y M) (hc : X.calm = true) (I : Inv X pins σ H₂ s₂) (hg : ∀ (C : Addr) (s₂ : Shared) (H₂ : Hp) (fp : List Addr), PG (compCx2 X scope C x y M s₂ H₂ fp) tg g) (ht : ∀ (C : Addr) (s₂ : Shared) (H₂ : Hp) (fp : List Addr), PIfs (compCx2 X scope C x y M s₂ H₂ fp) ifs tc) (he : ∀ (C : Addr) (s₂ : Shared) (H₂ : Hp) (fp : List Addr), PE (compCx2 X scope C x y M s₂ H₂ fp) elt te)
    {it : Addr} {fp : List Addr} {tn : Nat → Heap → Prop} {J : It} (T : Turn X.prog X.w X.K tg J fp it tn) (st : tn 0 s₂.heap) (hf : ∀ b ∈ fp, FpOk X pins H₂ b) {n : Nat} (hsz : n ≤ sizeLine) {W : Nat → List V → Hp → Prop} {F : List V → Hp → Prop}
    (w0 : W 0 [] H₂) (turn : ∀ i ys H, i ≤ n → ys.length ≤ i → W i ys H → (J.stop i H ∧ F ys H) ∨ (J.go i H ∧ i < n ∧ ∀ x H', J.yld i H x H' → ∀ u v, g x (u :: v :: σ) H' fun ρ H2 => (∃ u' v', ρ = u' :: v' :: σ) ∧ tc ρ H2 fun c H3 => if c = true then te ρ H3 fun z H4 => W (i + 1) (ys ++ [z]) H4 else W (i + 1) ys H3))
    {E : Value → Shared → Prop} {RR : Value → Addr → Result → Shared → Prop}
    (hRR : ∀ (D C : Addr) (s' : Shared) (H' : Hp) (ys : List V) (m : Str → Option Value), Inv X pins σ (upd H' D (.lst ys)) s' → H' D = none → FpOk X pins (upd H' D (.lst ys)) C → s'.heap.Ns C m → F ys H' → RR (.ref D) C (.ok .next) s') :
    wpAny (model X.prog X.w) X.A (newList []) (fun acc s₃ => wpAny (model X.prog X.w) X.A (newFunctionEnv scope X.env.globals (clOf X.env scope.names []) [] X.env.qual none .none (some X.env)) (fun cenv s₄ =>
      codeAny (model X.prog X.w) X.A (.compStart (.ListComp elt [⟨tg, iter, ifs, 0⟩] scope pos) 0 (.ref it) acc { cenv with scope := relabel scope X.env }) (RR acc cenv.locals) s₄) E s₃) E s₂ := by
  refine wpAny_newObj_type (wpAny_newFunctionEnv K.base.cell (by intro y hy; simp at hy) (fun h₁ hns₁ hsb₁ => ?_) K.base.kind)
  dsimp only at hns₁ hsb₁ ⊢
  generalize hH2 : s₂.heap.push { cls := .type "list", dict := none, data := .seq ([] : List Value).toArray } = H2 at hns₁ hsb₁ ⊢
  have hC : H2.objs.size = s₂.heap.objs.size + 1 := by rw [← hH2, Heap.size_push]
  have hDC : s₂.heap.objs.size ≠ H2.objs.size := by rw [hC]; exact Nat.ne_of_lt (Nat.lt_succ_self _)
  have below : ∀ b, b < s₂.heap.objs.size → b ≠ H2.objs.size ∧ b ≠ s₂.heap.objs.size := fun b hb => ⟨by rw [hC]; exact Nat.ne_of_lt (Nat.lt_succ_of_lt hb), Nat.ne_of_lt hb⟩
  have hfl : ∀ b ∈ fp, b < s₂.heap.objs.size := fun b hb => by obtain ⟨o, e, _⟩ := T.obj _ _ st b hb; exact Heap.lt_size e
  have old : ∀ b o, s₂.heap.get? b = some o → h₁.get? b = some o := fun b o e => hsb₁.extBut b o (below b (Heap.lt_size e)).1 (Heap.get?_push_of_some _ (hH2 ▸ Heap.get?_push_of_some _ e))
  have hacc : h₁.get? s₂.heap.objs.size = some { cls := .type "list", data := .seq ([] : List Value).toArray 0 } := hsb₁.extBut _ _ hDC (Heap.get?_push_of_some _ (hH2 ▸ Heap.get?_push_size _ rfl))
  generalize hCC : H2.objs.size = C at *
  generalize hDD : s₂.heap.objs.size = D at *
  have hCle : s₂.heap.objs.size ≤ C := by rw [hDD, hC]; exact Nat.le_succ _
  have st₁ : tn 0 h₁ := T.keep _ _ _ st fun b _ o e => old b o e
  have I₁ := inv_comp2 (t := s₂.toks + ([] : List (Str × Value)).length) K I hf (fun b hb => by rw [hDD]; exact hfl b hb) hCle hns₁ old
  -- the context of the block
  generalize hX' : compCx2 X scope C x y M s₂ H₂ fp = X' at I₁
  have eX : X'.prog = X.prog ∧ X'.w = X.w ∧ X'.K = X.K ∧ X'.calm = true ∧ X'.A = X.A ∧ X'.ex = fp ∧ X'.env = compEnvC scope (clOf X.env scope.names []) C X.env ∧ X'.s₀ = s₂ ∧ X'.pn = [] := by
    subst hX'; exact ⟨rfl, rfl, rfl, hc, rfl, rfl, rfl, rfl, rfl⟩
  obtain ⟨eP, ew, eK, ec, eA, eex, eenv, es0, epn⟩ := eX
  have eL : X'.env.locals = C := by rw [eenv]; rfl
  have cells' : ∀ y c, X'.env.cells.lookup y = some c → X.env.cells.lookup y = some c := fun y c e => by rw [eenv] at e; exact CompOk.cl_of e
  have efs : X'.fs = frs X.stack := by subst hX'; rfl
  have fsub : ∀ b ∈ X'.fs, b = X.env.locals ∨ b ∈ X.fs := fun b hb => List.mem_cons.mp (I.stkSub b (by rw [← efs]; exact hb))
  -- the iterator's records, the list: ours to turn
  have fpok : ∀ {pn : List (Addr × Obj)} {H' : Hp}, (∀ p ∈ pn, p.1 = D) → (∀ b ∈ fp, H' b = none) → ∀ b ∈ fp, FpOk X' pn H' b := fun {pn H'} hp hn b hb => by
    refine ⟨hn b hb, ?_, fun z => ?_, .inl (by rw [eex]; exact hb), fun y c e => (hf b hb).2.2.2.2.1 y c (cells' y c e), fun p hq => ?_⟩
    · rw [eL]; exact (below b (hfl b hb)).1
    · rcases fsub b z with q | q
      · exact (hf b hb).2.1 q
      · exact (hf b hb).2.2.1 q
    · rw [epn, List.nil_append] at hq
      rw [hp p hq]; exact Ne.symm (below b (hfl b hb)).2
  have Dfp : D ∉ fp := fun z => Nat.lt_irrefl _ (hfl D z)
  have ltL : X.env.locals < D := by have := I.lt; rw [hDD] at this; exact this
  have ltF : ∀ b ∈ X.fs, b < D := fun b hb => Nat.lt_of_not_le fun z => I.nofs (a := b) (by rw [hDD]; exact z) hb
  have newok : ∀ {b : Addr} {pn : List (Addr × Obj)} {H' : Hp}, D ≤ b → b ≠ C → H' b = none → (∀ p ∈ pn, p.1 ≠ b) → FpOk X' pn H' b := fun {b pn H'} hb hbC hn hp => by
    refine ⟨hn, by rw [eL]; exact hbC, fun z => ?_, .inr (by rw [es0, hDD]; exact hb), fun y c e => ?_, fun p hq => ?_⟩
    · rcases fsub b z with q | q
      · rw [q] at hb; exact absurd (Nat.lt_of_lt_of_le ltL hb) (Nat.lt_irrefl _)
      · exact absurd (Nat.lt_of_lt_of_le (ltF b q) hb) (Nat.lt_irrefl _)
    · obtain ⟨v, o, ho, _⟩ := I.cell y c (cells' y c e)
      have := Heap.lt_size ho
      rw [hDD] at this
      exact Nat.ne_of_lt (Nat.lt_of_lt_of_le this hb)
    · rw [epn, List.nil_append] at hq
      exact hp p hq
  -- behind the block
  have outer : ∀ {σ' : St} {H' : Hp} {s' : Shared} {pn : List (Addr × Obj)}, Inv X' pn σ' H' s' → Inv X pins σ H' s' := fun {σ' H' s' pn} J' => by
    subst hX'
    refine I.call' (ch := fp) J'.os J'.base J'.hok J'.bare fun b hb => ?_
    obtain ⟨f0, f1, f2, f3, f4, f5⟩ := hf b hb
    exact ⟨f3, f1, f4, f5⟩
  have outok : ∀ {b : Addr} {H' : Hp}, D ≤ b → H' b = none → FpOk X pins H' b := fun {b H'} hb hn => by
    have q := I.fpOk (H' := H') (b := b) (by rw [hDD]; exact hb) hn
    exact q
  have loop : ∀ s₃ : Shared, s₃ = { s₂ with heap := h₁, toks := s₂.toks + ([] : List (Str × Value)).length } →
      codeAny (model X.prog X.w) X.A (.compLoop (.ListComp elt [⟨tg, iter, ifs, 0⟩] scope pos) 0 (.ref it) (.ref D) (compEnvC scope (clOf X.env scope.names []) C X.env)) (RR (.ref D) C) s₃ := by
    rintro s₃ rfl
    refine compLoop_go2 (fun k s' => ∃ (i : Nat) (ys : List V) (its : List Value) (σ0 σ1 : Option V) (H' : Hp), i ≤ n ∧ k = n + 1 - i ∧ ys.length ≤ i ∧ Inv X' [] (σ0 :: σ1 :: σ) H' s' ∧ tn i s'.heap ∧ (∀ b ∈ fp, H' b = none) ∧ H' D = none ∧ Vals ys its ∧
      (∃ c, s'.heap.get? D = some { cls := .type "list", data := .seq its.toArray c }) ∧ W i ys H') ?_ (n + 1) ⟨0, [], [], none, none, H₂, Nat.zero_le _, rfl, Nat.le_refl _, I₁, st₁, fun b hb => (hf b hb).1, by rw [← hDD]; exact I.hok.fresh (Nat.le_refl _), .nil, ⟨0, hacc⟩, w0⟩
    rintro k s' ⟨i, ys, its, σ0, σ1, H', hi, rfl, hyl, I', st', fr', hD', rv, ⟨c, hobj⟩, w'⟩
    rcases turn i ys H' hi hyl w' with ⟨stop, fin⟩ | ⟨go, hlt, step⟩
    · have pinD : Inv X' [(D, { cls := .type "list", data := .seq its.toArray c })] (σ0 :: σ1 :: σ) H' s' := I'.pins_of fun p hp => by
        obtain rfl : p = (D, { cls := .type "list", data := .seq its.toArray c }) := by simpa using hp
        refine ⟨hobj, hD', ?_, ?_, fun v z => nomatch z⟩
        · rw [eL]; exact hDC
        · intro z
          rcases fsub D z with q | q
          · rw [q] at ltL; exact Nat.lt_irrefl _ ltL
          · exact Nat.lt_irrefl _ (ltF D q)
      have q := T.done X' eP ew eK ec i _ s' (σ0 :: σ1 :: σ) H' (notedBy (model X.prog X.w) X.A (compEnvC scope (clOf X.env scope.names []) C X.env) fun e s' => RR (.ref D) C (.error e) s') pinD (fpok (fun p hp => by obtain rfl : p = (D, { cls := .type "list", data := .seq its.toArray c }) := (by simpa using hp); rfl) fr') st' stop
      rw [eA] at q
      refine wpAny_mono q (fun r s4 ⟨hr, I4⟩ => ?_) fun _ _ z => z
      subst hr
      obtain ⟨e4, n4, _⟩ := I4.pin (D, { cls := .type "list", data := .seq its.toArray c }) (List.mem_append_right _ (by simp))
      have O4 := outer I4
      obtain ⟨m4, ns4, _⟩ := I4.loc
      rw [eL] at ns4
      refine hRR D C s4 H' ys m4 (O4.track (outok (Nat.le_refl _) n4) (Nat.le_trans I.sz (by rw [hDD]; exact Nat.le_refl _)) ⟨Nat.le_trans hyl (Nat.le_trans hi hsz), its, c, rv, e4⟩) n4 (outok (by rw [hC]; exact Nat.le_succ _) ?_) ns4 fin
      rw [upd_ne (Ne.symm hDC)]
      have := I4.free
      rw [eL] at this
      exact this
    · have pinD : Inv X' [(D, { cls := .type "list", data := .seq its.toArray c })] (σ0 :: σ1 :: σ) H' s' := I'.pins_of fun p hp => by
        obtain rfl : p = (D, { cls := .type "list", data := .seq its.toArray c }) := by simpa using hp
        refine ⟨hobj, hD', ?_, ?_, fun v z => nomatch z⟩
        · rw [eL]; exact hDC
        · intro z
          rcases fsub D z with q | q
          · rw [q] at ltL; exact Nat.lt_irrefl _ ltL
          · exact Nat.lt_irrefl _ (ltF D q)
      have pd : ∀ p ∈ [(D, ({ cls := .type "list", data := .seq its.toArray c } : Obj))], p.1 = D := fun p hp => by obtain rfl : p = (D, { cls := .type "list", data := .seq its.toArray c }) := (by simpa using hp); rfl
      have q := T.item X' eP ew eK ec i _ s' (σ0 :: σ1 :: σ) H' (notedBy (model X.prog X.w) X.A (compEnvC scope (clOf X.env scope.names []) C X.env) fun e s' => RR (.ref D) C (.error e) s') pinD (fpok pd fr') st' go
      rw [eA] at q
      refine wpAny_mono q (fun r s4 ⟨u, hr, h4⟩ => ?_) fun _ _ z => z
      subst hr
      refine wpAny_mono h4 (fun _ s5 ⟨xv, H5, I5, r5, y5, st5, fr5⟩ => ?_) fun _ _ z => z
      have I5' := I5.pinned (fpok pd fr5) (T.obj _ _ st5)
      rw [← eenv]
      have g6 := step xv H5 y5 σ0 σ1
      have q6 := (hg C s₂ H₂ fp) (([(D, ({ cls := .type "list", data := .seq its.toArray c } : Obj))]) ++ pinsAt fp s5.heap) s5 (σ0 :: σ1 :: σ) H5 xv u _ (by rw [hX']; exact I5') r5 g6
      rw [hX', eP, ew, eA] at q6
      refine wpAny_mono q6 (fun _ s6 ⟨ρ, H6, I6, ⟨u', v', eρ⟩, t6⟩ => ?_) (fun _ _ z => by subst hX'; exact (show False from z).elim)
      subst eρ
      have q7 := (ht C s₂ H₂ fp) _ s6 (u' :: v' :: σ) H6 _ (by rw [hX']; exact I6) t6
      rw [hX', eP, ew, eA] at q7
      refine wpAny_mono q7 (fun ok s7 ⟨H7, I7, w7⟩ => ?_) (fun _ _ z => by subst hX'; exact (show False from z).elim)
      have keepT : ∀ {s8 : Shared} {H8 : Hp} {pn : List (Addr × Obj)}, Inv X' (pn ++ (([(D, ({ cls := .type "list", data := .seq its.toArray c } : Obj))]) ++ pinsAt fp s5.heap)) (u' :: v' :: σ) H8 s8 → True := fun _ => trivial
      cases ok with
      | false =>
        obtain ⟨e7, n7, _⟩ := I7.pin (D, { cls := .type "list", data := .seq its.toArray c }) (List.mem_append_right _ (List.mem_append_left _ (by simp)))
        refine ⟨n + 1 - (i + 1), by omega, i + 1, ys, its, u', v', H7, hlt, rfl, Nat.le_succ_of_le hyl, I7.pins_of (pins' := []) fun p hp => absurd hp (by simp), ?_, fun b hb => ?_, n7, rv, ⟨c, e7⟩, w7⟩
        · refine T.keep _ _ _ st5 fun b hb o e => ?_
          exact (I7.pin (b, o) (List.mem_append_right _ (List.mem_append_right _ (mem_pinsAt hb e)))).1
        · obtain ⟨o, e, d⟩ := T.obj _ _ st5 b hb
          exact (I7.pin (b, o) (List.mem_append_right _ (List.mem_append_right _ (mem_pinsAt hb e)))).2.1
      | true =>
        have q8 := (he C s₂ H₂ fp) _ s7 (u' :: v' :: σ) H7 (fun z H'' => W (i + 1) (ys ++ [z]) H'') (by rw [hX']; exact I7) w7
        rw [hX', eP, ew, eA] at q8
        refine wpAny_mono q8 (fun u8 s8 ⟨v8, H8, I8, r8, w8⟩ => ?_) (fun _ _ z => by subst hX'; exact (show False from z).elim)
        obtain ⟨e7, n7, _⟩ := I8.pin (D, { cls := .type "list", data := .seq its.toArray c }) (List.mem_append_right _ (List.mem_append_left _ (by simp)))
        refine append_at (hsz := by rw [List.size_toArray, ← rv.length]; exact Nat.le_trans hyl (Nat.le_trans hi hsz)) e7 fun h8 sb8 g8 => ?_
        have I9 : Inv X' [] (u' :: v' :: σ) H8 { s8 with heap := h8, toks := s8.toks } := (I8.pins_of (pins' := []) fun p hp => absurd hp (by simp)).turned (t' := s8.toks) (it := D) (fun b o hb e => (sb8.2 b hb).trans e) n7 (by rw [eL]; exact hDC) (.inr (by rw [es0, hDD]; exact Nat.le_refl _))
          (newok (H' := H8) (pn := []) (Nat.le_refl _) hDC n7 (fun p hp => absurd hp (by simp))).2.2.2.2.1 (fun p hp => by rw [epn] at hp; exact absurd hp (by simp))
        refine ⟨n + 1 - (i + 1), by omega, i + 1, ys ++ [v8], its ++ [u8], u', v', H8, hlt, rfl, by rw [List.length_append, List.length_singleton]; omega, I9, ?_, fun b hb => ?_, n7, rv.append (.cons r8 .nil), ⟨c + 1, ?_⟩, w8⟩
        · refine T.keep _ _ _ st5 fun b hb o e => ?_
          have e' := (I8.pin (b, o) (List.mem_append_right _ (List.mem_append_right _ (mem_pinsAt hb e)))).1
          exact (sb8.2 b (fun z => Dfp (z ▸ hb))).trans e'
        · obtain ⟨o, e, d⟩ := T.obj _ _ st5 b hb
          exact (I8.pin (b, o) (List.mem_append_right _ (List.mem_append_right _ (mem_pinsAt hb e)))).2.1
        · rw [g8, List.push_toArray]
  exact codeAny_compStart_list (loop _ rfl) (T.self X.A 0 _ _ _ st₁ (loop _ rfl))

/-- a comprehension as a value -/
theorem pe_comp2 (K : CompOk2 X scope x y M) (hc : X.calm = true) (hi : PI X tg iter wi) (hg : ∀ (C : Addr) (s₂ : Shared) (H₂ : Hp) (fp : List Addr), PG (compCx2 X scope C x y M s₂ H₂ fp) tg g) (ht : ∀ (C : Addr) (s₂ : Shared) (H₂ : Hp) (fp : List Addr), PIfs (compCx2 X scope C x y M s₂ H₂ fp) ifs tc) (he : ∀ (C : Addr) (s₂ : Shared) (H₂ : Hp) (fp : List Addr), PE (compCx2 X scope C x y M s₂ H₂ fp) elt te)
    (hs : ∀ x, foldedSetIterable iter X.env x = pure x := by intro _; rfl) : PE X (.ListComp elt [⟨tg, iter, ifs, 0⟩] scope pos) (tComp2 wi g tc te) := by
  intro pins s σ H Q I h
  rw [eval_ListComp]
  refine wpAny_comprehension_free (use := none) rfl hs (K.base.closure I.ok) K.base.kind K.base.names (thn (hi pins s σ H _ I h) fun v s1 h1 => thn h1 fun itv s2 h2 => ?_)
  obtain ⟨it, fp, tn, J, H2, e, I2, T, st2, f2, n, W, hsz, w0, turn⟩ := h2
  subst e
  refine comp_block2 (RR := fun acc C => compPost (model X.prog X.w) X.A X.xe none (EP X pins σ Q) acc C) K hc I2 hg ht he T st2 f2 hsz (F := fun ys H => ∀ p, H p = none → Q (.ref p) (upd H p (.lst ys))) w0 turn ?_
  intro D C s' H' ys m I' n' fC ns fin
  refine ⟨m, ns, fun h' sb => ?_⟩
  obtain ⟨f0, f1, f2, f3, f4, f5⟩ := fC
  exact ⟨.ref D, _, I'.turned (t' := s'.toks) (it := C) (fun b o hb e => (sb.2 b hb).trans e) f0 f1 f3 f4 f5, rfl, fin D n'⟩
end
end L2
/-! comprehensions over tuples of two, sets of lists, ranges with a step, and what items are alike -/
namespace L2
open PySem PySem.Spec PyProof.Rows PySem.Calls
section
variable {X : Cx} {scope : Scope} {x y : Str} {M : List Str} {elt iter : Expr} {ifs : List Expr} {pos p1 p2 p3 : Pos} {kk : Nat} {te : TE} {wi : TI} {tc : TT}
structure CompRT (K : PySem.W.Frag) (J : It) (tc : TT) (te : TE) (σ : St) (H1 : Hp) (Q : VK) : Prop where
  ex : ∃ (n : Nat) (W : Nat → List V → Hp → Prop), n ≤ sizeLine ∧ W 0 [] H1 ∧ ∀ i ys H, i ≤ n → ys.length ≤ i → W i ys H →
    (J.stop i H ∧ ∀ p, H p = none → Q (.ref p) (upd H p (.lst ys))) ∨ (J.go i H ∧ i < n ∧ ∀ z H', J.yld i H z H' → ∃ (p : Addr) (a b : V), z = .ref p ∧ SqT K H' p [a, b] ∧ tc (some a :: some b :: σ) H' fun c H3 => if c = true then te (some a :: some b :: σ) H3 fun z H4 => W (i + 1) (ys ++ [z]) H4 else W (i + 1) ys H3)
def tCompT (K : PySem.W.Frag) (wi : TI) (tc : TT) (te : TE) : TE := fun σ H Q => wi σ H fun J H1 => CompRT K J tc te σ H1 Q
theorem pg_two (K : CompOk2 X scope x y M) (hc : X.calm = true) {C : Addr} {s₂ : Shared} {H₂ : Hp} {fp : List Addr} : PG (compCx2 X scope C x y M s₂ H₂ fp) (.Tuple [.Name x p1, .Name y p2] kk p3) (gTup X.K 2 (gCons (gName 0) (gCons (gName 1) gNil))) :=
  pg_tup (X := compCx2 X scope C x y M s₂ H₂ fp) hc (pgs_cons (pg_name K.nd2 rfl (.inl (lookup_relabel_local K.base.loc)) (.inr (lookup_relabel_local K.base.loc))) (pgs_cons (pg_name K.nd2 rfl (.inl (lookup_relabel_local K.loc2)) (.inr (lookup_relabel_local K.loc2))) pgs_nil))
/-- [e for x, y in it if ..] -/
theorem pe_compT (K : CompOk2 X scope x y M) (hc : X.calm = true) (hi : PI X (.Tuple [.Name x p1, .Name y p2] kk p3) iter wi) (ht : ∀ (C : Addr) (s₂ : Shared) (H₂ : Hp) (fp : List Addr), PIfs (compCx2 X scope C x y M s₂ H₂ fp) ifs tc) (he : ∀ (C : Addr) (s₂ : Shared) (H₂ : Hp) (fp : List Addr), PE (compCx2 X scope C x y M s₂ H₂ fp) elt te)
    (hs : ∀ x, foldedSetIterable iter X.env x = pure x := by intro _; rfl) : PE X (.ListComp elt [⟨.Tuple [.Name x p1, .Name y p2] kk p3, iter, ifs, 0⟩] scope pos) (tCompT X.K wi tc te) := by
  intro pins s σ H Q I h
  have q := pe_comp2 (pos := pos) K hc (wi := fun σ0 H0 R0 => ∃ R, wi σ0 H0 R ∧ ∀ J H1, R J H1 → R0 J H1) (pi_conv hi fun σ H R ⟨R1, a, b⟩ => ⟨R1, a, b⟩) (fun C s₂ H₂ fp => pg_two (p1 := p1) (p2 := p2) (p3 := p3) (kk := kk) K hc) ht he hs pins s σ H Q I
  refine q ⟨_, h, fun J H1 r => ?_⟩
  obtain ⟨n, W, h1, h2, h3⟩ := r.ex
  refine ⟨n, W, h1, h2, fun i ys H' hi hy hw => ?_⟩
  rcases h3 i ys H' hi hy hw with hq | ⟨g1, g2, g3⟩
  · exact .inl hq
  · refine .inr ⟨g1, g2, fun z H2 hz u v => ?_⟩
    obtain ⟨p, a, b, e, hq, t⟩ := g3 z H2 hz
    exact ⟨p, [a, b], e, hq, rfl, a, [b], rfl, b, [], rfl, rfl, ⟨_, _, rfl⟩, t⟩
end
theorem comp_listT {K : PySem.W.Frag} {a : Addr} {xs : List V} {tc : TT} {te : TE} {σ : St} {H : Hp} {Q : VK} (hz : xs.length ≤ sizeLine) (W : Nat → List V → Hp → Prop) (h0 : W 0 [] H) (hq : ∀ i ys H, W i ys H → SqL K H a xs)
    (hs : ∀ i x ys H, xs[i]? = some x → ys.length ≤ i → W i ys H → ∃ (p : Addr) (u v : V), x = .ref p ∧ SqT K H p [u, v] ∧ tc (some u :: some v :: σ) H fun c H3 => if c = true then te (some u :: some v :: σ) H3 fun z H4 => W (i + 1) (ys ++ [z]) H4 else W (i + 1) ys H3)
    (hd : ∀ ys H, W xs.length ys H → ∀ p, H p = none → Q (.ref p) (upd H p (.lst ys))) : CompRT K (Itl K a) tc te σ H Q := by
  refine ⟨xs.length, W, hz, h0, fun i ys H hi hl hw => ?_⟩
  have q := hq i ys H hw
  by_cases hlt : i < xs.length
  · refine .inr ⟨⟨xs, xs[i], q, by simp [hlt]⟩, hlt, fun v H' y => ?_⟩
    obtain ⟨e, y⟩ := y
    subst e
    exact hs i v ys _ (y xs q) hl hw
  · have e : i = xs.length := by omega
    subst e
    exact .inl ⟨⟨xs, q, Nat.le_refl _⟩, hd ys H hw⟩
section
variable {prog : Program} {w : World} {A : Around} {E : Value → Shared → Prop} {s : Shared}
end
section
variable {X : Cx}
end
/-! range(lo, hi, c) -/
section
variable {X : Cx} {tg : Expr}
end
/-! items -/
end L2
/-! None in a list of tuples -/
namespace L2
open PySem PySem.Spec PyProof.Rows PySem.Calls
end L2
/-! an expression alone, tried -/
namespace L2
open PySem PySem.Spec PyProof.Rows PySem.Calls
end L2
/-! closures: a def that hands back a lambda which keeps one of its names -/
namespace L2
open PySem PySem.Spec PyProof.Rows PySem.Calls
open PySem.W (tabObj CodeHd kla_obj kla_fn)

/-- what is written of a lambda: its full name, parameters, body, scope, and the name that it keeps -/
structure LamD where
  qual : Str
  params : Arguments
  body : Expr
  scope : Scope
  x : Str
  y : Str
/-- the same but at P -/
def SameB (P : Addr) (H H' : Hp) : Prop := ∀ b u, b ≠ P → H b = some u → H' b = some u
theorem SameB.trans {P : Addr} {H H1 H2 : Hp} (a : SameB P H H1) (b : SameB P H1 H2) : SameB P H H2 := fun c u n e => b c u n (a c u n e)
theorem SameB.refl {P : Addr} {H : Hp} : SameB P H H := fun _ _ _ e => e

theorem IsCell.one {h1 h2 : Heap} {c : Addr} {v : Option Value} (x : h1.IsCell c v) (k : ∀ o, h1.get? c = some o → h2.get? c = some o) : h2.IsCell c v :=
  let ⟨o, ho, hd⟩ := x; ⟨o, k o ho, hd⟩
structure LamD.Ok (D : LamD) : Prop where
  kind : D.scope.kind = .function
  co : D.scope.isCoroutine = false
  gen : D.scope.isGenerator = false
  names : D.scope.names = [(D.x, .local), (D.y, .free)]
  ne : D.x ≠ D.y
  bind : ∀ (cc : Addr) (pm cdv ct u : Value), bindArgs (kla_fn "<lambda>" D.qual D.params D.body D.scope [(D.y, cc)] pm cdv ct) ⟨[u], []⟩ = pure [(D.x, u)]

theorem LamD.Ok.lx {D : LamD} (O : D.Ok) : D.scope.names.lookup D.x = some .local := by rw [O.names, List.lookup_cons, beq_self_eq_true]
theorem LamD.Ok.ly {D : LamD} (O : D.Ok) : D.scope.names.lookup D.y = some .free := by
  rw [O.names, List.lookup_cons, beq_eq_false_iff_ne.mpr O.ne.symm, List.lookup_cons, beq_self_eq_true]
theorem LamD.Ok.of {D : LamD} (O : D.Ok) {x : Str} {k : NameKind} (h : D.scope.names.lookup x = some k) : (x = D.x ∧ k = .local) ∨ (x = D.y ∧ k = .free) := by
  rw [O.names, List.lookup_cons] at h
  cases e : x == D.x with
  | true => rw [e] at h; cases h; exact .inl ⟨eq_of_beq e, rfl⟩
  | false =>
    rw [e, List.lookup_cons] at h
    cases e2 : x == D.y with
    | true => rw [e2] at h; cases h; exact .inr ⟨eq_of_beq e2, rfl⟩
    | false => rw [e2] at h; cases h

end L2
/-! closures: the call, and the making -/
namespace L2
open PySem PySem.Spec PyProof.Rows PySem.Calls
open PySem.W (tabObj CodeHd kla_obj kla_fn)

end L2
/-! sum of a list of whole numbers; the head of a law with a def that makes functions -/
namespace L2
open PySem PySem.Spec PyProof.Rows PySem.Calls
open PySem.W (tabObj CodeHd kla_obj kla_fn)

end L2
/-! any; not of what may be None -/
namespace L2
open PySem PySem.Spec PyProof.Rows PySem.Calls
section
variable {X : Cx}
end
end L2
/-! a[lo:hi:step] of a list -/
namespace L2
open PySem PySem.Spec PyProof.Rows PySem.Calls
section
variable {X : Cx}
end
end L2
namespace L2
open PySem PySem.Spec
/-- what is never come to -/
theorem ps_no {X : Cx} {s : Stmt} : PS X s (fun _ _ _ => False) := fun _ _ _ _ _ _ h => h.elim
end L2
/-! f-strings of many parts; a list times a number -/
namespace L2
open PySem PySem.Spec PyProof.Rows PySem.Calls
section
variable {X : Cx}
def TJ := St → Hp → (Hp → Prop) → Prop
def JP (X : Cx) (n : Nat) (es : List Expr) (t : TJ) : Prop := ∀ (out : Str) (pins : List (Addr × Obj)) (s : Shared) (σ : St) (H : Hp) (Q : VK), out.length ≤ n → Inv X pins σ H s → t σ H (fun H1 => ∀ y, Q (.str y) H1) → wpAny (model X.prog X.w) X.A (joinParts out (evalEach es X.env)) (EP X pins σ Q) X.xe s
theorem jp_nil {n : Nat} (hn : n ≤ 16777216 := by decide +kernel) : JP X n [] (fun σ H K => K H) := by
  intro out pins s σ H Q ho I h
  refine joinParts_nilE (joinParts_nil ⟨.str _, H, I.tok _, ⟨_, rfl⟩, h _⟩ ?_)
  rw [sizeLine_eq]; omega
theorem jp_c {n : Nat} {c : Str} {j : Nat} {p : Pos} {es : List Expr} {t : TJ} (h : JP X (n + c.length) es t) (hn : n + c.length ≤ 16777216 := by decide +kernel) : JP X n (.Constant (.str c) j p :: es) t := by
  intro out pins s σ H Q ho I ht
  have hl : (out ++ c).length ≤ n + c.length := by rw [strLen_append]; omega
  exact joinParts_consE (joinParts_cons (Calls.Constant_str ⟨by rw [sizeLine_eq]; omega, h _ pins _ σ H Q hl (I.tok _) ht⟩))
theorem jp_r {n : Nat} {e : Expr} {te : TE} {p : Pos} {es : List Expr} {t : TJ} (he : PE X e te) (h : JP X (n + 1000002) es t) (hn : n + 1000002 ≤ 16777216 := by decide +kernel) :
    JP X n (.FormattedValue e 114 none p :: es) (fun σ H K => te σ H fun x H1 => ∃ z, x = .str z ∧ z.length ≤ 100000 ∧ (∀ k ∈ cd z, k < 1000) ∧ t σ H1 K) := by
  intro out pins s σ H Q ho I ht
  refine joinParts_consE (joinParts_cons (wpAny_FormattedValue_repr (thn (he pins _ σ H _ I ht) fun v s1 ⟨x, H1, I1, r, z, ex, hz, hk, q⟩ => ?_)))
  subst ex
  obtain ⟨t', rfl⟩ := r
  have hl : (reprText z).length ≤ 1000002 := Nat.le_trans (StrLaws.reprText_len z fun c hc => Nat.lt_of_lt_of_le (hk c hc) (by decide)) (by omega)
  have hl2 : (out ++ reprText z).length ≤ n + 1000002 := by rw [strLen_append]; omega
  refine wpAny_pyReprObj_str (formatField_str (fun t' tk => ⟨?_, h _ pins _ σ H1 Q hl2 (I1.tok _) q⟩) ?_) ?_
  · rw [sizeLine_eq]; omega
  · rw [sizeLine_eq]; omega
  · rw [sizeLine_eq]; omega
theorem pe_fstrJ {v1 v2 : Expr} {rest : List Expr} {pos : Pos} {t : TJ} (h : JP X 0 (v1 :: v2 :: rest) t) : PE X (.JoinedStr (v1 :: v2 :: rest) pos) (fun σ H Q => t σ H fun H1 => ∀ y, Q (.str y) H1) := by
  intro pins s σ H Q I ht
  exact JoinedStr_many (h Str.empty pins s σ H Q (Nat.le_refl _) I ht)
end
end L2
/-! partition; a try whose body does not raise; what is never come to -/
namespace L2
open PySem PySem.Spec PyProof.Rows PySem.Calls
section
variable {X : Cx}
theorem pe_no {e : Expr} : PE X e (fun _ _ _ => False) := fun _ _ _ _ _ _ h => h.elim
theorem mt_partition : MtM X "str.partition" (fun x vs H Q => ∃ z y, x = .str z ∧ vs = [.str y] ∧ 0 < y.length ∧ z.length ≤ 100000 ∧ ∀ p, H p = none → Q (.ref p) (upd H p (.tup [.str (Txt.partition z y).1, .str (Txt.partition z y).2.1, .str (Txt.partition z y).2.2]))) := by
  intro pins s σ H x vs v us Q I rx rv h
  obtain ⟨z, y, rfl, rfl, hy, hz, q⟩ := h
  obtain ⟨t, rfl⟩ := rx
  obtain ⟨u, rfl, ⟨t', rfl⟩⟩ := rv.one
  have hy' : (y.length == 0) = false := by rw [beq_eq_false_iff_ne]; omega
  have hzs : z.length ≤ sizeLine := by rw [sizeLine_eq]; omega
  have q := q _ (I.hok.fresh (Nat.le_refl _))
  have fin : ∀ (a b c : Str) (ta tb tc tk : Nat), (a, b, c) = Txt.partition z y → EP X pins σ Q (.ref s.heap.objs.size) { s with toks := tk, heap := s.heap.push { cls := .type "tuple", data := .seq [.str a ta, .str b tb, .str c tc].toArray } } := fun a b c ta tb tc tk e => by
    rw [← e] at q
    refine ⟨.ref s.heap.objs.size, _, I.laid (t' := tk) (a := s.heap.objs.size) (o := .tup [.str a, .str b, .str c]) (fun b o e => Heap.get?_push_of_some _ e) (Nat.le_refl _) ?_, rfl, q⟩
    exact ⟨by show 3 ≤ sizeLine; decide, _, .cons ⟨_, rfl⟩ (.cons ⟨_, rfl⟩ (.cons ⟨_, rfl⟩ .nil)), IsTup.new _ _⟩
  refine call_meets PySem.F.slot_str_partition (typeIs_str _ _ _) PySem.F.entry_str_partition (PySem.F.args_str_partition_2 _ _) (meets_str_partition z y t t' hy' hzs) ?_
  cases ho : Builtin.Str.occurrences z y 0 z.length 1 with
  | nil => exact fin _ _ _ _ _ _ _ (by unfold Txt.partition; rw [ho])
  | cons i r => exact fin _ _ _ _ _ _ _ (by unfold Txt.partition; rw [ho])
/-- a try whose body does not raise -/
theorem ps_tryN {body : List Stmt} {h0 : ExceptHandler} {hs : List ExceptHandler} {pos : Pos} {t : TS} (hx : ∀ e s, X.xe e s → False) (hb : PSs X body t) : PS X (.Try body (h0 :: hs) [] [] pos) t := by
  intro pins s σ H D I h
  refine wpAny_Try_except (wpAny_mono (hb pins s σ H D I h) (fun f s1 q => ?_) fun e s1 q => (hx e s1 q).elim)
  cases f with
  | next => exact wpAny_execs_nil q
  | ret v => exact q
  | brk => exact q
  | cont => exact q
end
theorem drop_at {b : List Nat} {c : Nat} : ∀ {a : List Nat}, c ∉ a → (a ++ c :: b).dropWhile (· != c) = c :: b
  | [], _ => by simp
  | x :: r, h => by
    have hx : x ≠ c := fun e => h (by rw [e]; exact List.mem_cons_self)
    have hr : c ∉ r := fun e => h (List.mem_cons_of_mem _ e)
    rw [List.cons_append, List.dropWhile_cons_of_pos (by simp [hx])]
    exact drop_at hr
theorem part_at {a b : List Nat} {c : Nat} (h : c ∉ a) : Txt.partition (S (a ++ c :: b)) (S [c]) = (S a, S [c], S b) := by
  have hs := StrLaws.partition_sum (S (a ++ c :: b)) (S [c])
  have hf : (Builtin.Str.occurrences (S (a ++ c :: b)) ⟨#[c]⟩ 0 (S (a ++ c :: b)).length 1).isEmpty = false := by
    have := StrLaws.found_one (S (a ++ c :: b)) c
    rw [decide_eq_true (by show c ∈ a ++ c :: b; simp)] at this
    simpa using this
  have h1 := from_first_some (x := S (a ++ c :: b)) (y := ⟨#[c]⟩) (z := ⟨#[c]⟩) rfl rfl hf
  have h1 := eq_of_beq h1
  have hd := drop_at (b := b) h
  have e3 : (Txt.partition (S (a ++ c :: b)) (S [c])).2.2 = S b := by
    apply cd_inj
    have := congrArg cd h1
    rw [cd_app] at this
    have e' : cd (⟨((S (a ++ c :: b)).cps.toList.dropWhile (· != c)).toArray⟩ : Str) = c :: b := by
      show ((a ++ c :: b).dropWhile (· != c)) = _
      exact hd
    rw [e'] at this
    exact (List.cons.inj this).2
  have e2 : (Txt.partition (S (a ++ c :: b)) (S [c])).2.1 = S [c] := by
    unfold Txt.partition
    rcases StrLaws.occ_head (S (a ++ c :: b)) ⟨#[c]⟩ 1 (Nat.le_refl 1) with ⟨h0, _⟩ | ⟨i, r, h0, hi, _⟩
    · rw [h0] at hf; cases hf
    · rw [show S [c] = ⟨#[c]⟩ from rfl, h0]
  have e1 : (Txt.partition (S (a ++ c :: b)) (S [c])).1 = S a := by
    rw [e2, e3] at hs
    apply cd_inj
    have := congrArg cd hs
    rw [cd_app, cd_app, cd_S, cd_S, cd_S, List.append_assoc] at this
    exact List.append_cancel_right this
  exact Prod.ext e1 (Prod.ext e2 e3)
end L2
/-! name = [.. for x, y in ..] -/
namespace L2
open PySem PySem.Spec PyProof.Rows PySem.Calls
section
variable {X : Cx} {scope : Scope} {x y : Str} {M : List Str} {tg elt iter : Expr} {ifs : List Expr} {pos p1 p2 p3 : Pos} {kk : Nat} {te : TE} {wi : TI} {tc : TT} {g : TG}
theorem ps_comp2 {i : Nat} {z : Str} {spos py : Pos} (hN : X.N.Nodup) (hy : X.N[i]? = some z) (hl : Loc X.env.scope z) (K : CompOk2 X scope x y M) (hc : X.calm = true) (hi : PI X tg iter wi) (hg : ∀ (C : Addr) (s₂ : Shared) (H₂ : Hp) (fp : List Addr), PG (compCx2 X scope C x y M s₂ H₂ fp) tg g) (ht : ∀ (C : Addr) (s₂ : Shared) (H₂ : Hp) (fp : List Addr), PIfs (compCx2 X scope C x y M s₂ H₂ fp) ifs tc) (he : ∀ (C : Addr) (s₂ : Shared) (H₂ : Hp) (fp : List Addr), PE (compCx2 X scope C x y M s₂ H₂ fp) elt te)
    (hsw : swapsWith (.ListComp elt [⟨tg, iter, ifs, 0⟩] scope pos) (some (.Name z py)) spos.line X.env = pure true)
    (hs : ∀ x, foldedSetIterable iter X.env x = pure x) (hf : X.fn z = true ∨ X.env.scope.names.lookup z = some .local) :
    PS X (.Assign [.Name z py] (.ListComp elt [⟨tg, iter, ifs, 0⟩] scope pos) spos) (tAsg (tComp2 wi g tc te) (gName i)) := by
  intro pins s σ H Dn I h
  rw [exec_Assign_Name_used _ _ _ _ hsw]
  refine wpAny_bind (wpAny_standAt (wpAny_bind ?_))
  show wpAny _ X.A (do let _ ← comprehension (.ListComp elt [⟨tg, iter, ifs, 0⟩] scope pos) scope X.env _ (newList []) false (eval iter X.env) (some (assign (.Name z py) X.env))) _ _ s
  refine wpAny_bind (thn (wpAny_comprehension_free (use := some (assign (.Name z py) X.env)) (Q := fun _ s' => SP X pins Dn .next s') rfl hs (K.base.closure I.ok) K.base.kind K.base.names (thn (hi pins s σ H _ I h) fun v s1 h1 => thn h1 fun itv s2 h2 => ?_)) fun _ s' hq => wpAny_pure (wpAny_pure hq))
  obtain ⟨it, fp, tn, J, H2, e, I2, T, st2, f2, n, W, hsz, w0, turn⟩ := h2
  subst e
  refine comp_block2 (RR := fun acc C => compPost (model X.prog X.w) X.A X.xe (some (assign (.Name z py) X.env)) (fun _ s' => SP X pins Dn .next s') acc C) K hc I2 hg ht he T st2 f2 hsz (F := fun ys H => ∀ p, H p = none → Dn.nx (σ.set i (some (.ref p))) (upd H p (.lst ys))) w0 turn ?_
  intro D C s' H' ys m I' n' fC ns fin
  refine wpAny_assign_Name (store_ok2 (v := .ref D) I' hN hy hl rfl (fun s'' I'' ch => ?_) hf)
  obtain ⟨f0, f1, f2, f3, f4, f5⟩ := fC
  obtain ⟨a, sb1, ha⟩ := ch
  have hCa : C ≠ a := by
    rcases ha with z | z
    · rw [z]; exact f1
    · exact Ne.symm (f4 _ a z)
  refine ⟨m, ns.sameBut sb1 hCa, fun h' sb => ?_⟩
  exact ⟨_, _, I''.turned (t' := s''.toks) (it := C) (fun b o hb e => (sb.2 b hb).trans e) f0 f1 f3 f4 f5, fin D n'⟩
theorem ps_compT {i : Nat} {z : Str} {spos py : Pos} (hN : X.N.Nodup) (hy : X.N[i]? = some z) (hl : Loc X.env.scope z) (K : CompOk2 X scope x y M) (hc : X.calm = true) (hi : PI X (.Tuple [.Name x p1, .Name y p2] kk p3) iter wi) (ht : ∀ (C : Addr) (s₂ : Shared) (H₂ : Hp) (fp : List Addr), PIfs (compCx2 X scope C x y M s₂ H₂ fp) ifs tc) (he : ∀ (C : Addr) (s₂ : Shared) (H₂ : Hp) (fp : List Addr), PE (compCx2 X scope C x y M s₂ H₂ fp) elt te)
    (hsw : swapsWith (.ListComp elt [⟨.Tuple [.Name x p1, .Name y p2] kk p3, iter, ifs, 0⟩] scope pos) (some (.Name z py)) spos.line X.env = pure true := by rfl)
    (hs : ∀ x, foldedSetIterable iter X.env x = pure x := by intro _; rfl) (hf : X.fn z = true ∨ X.env.scope.names.lookup z = some .local := by first | exact .inl rfl | exact .inr rfl | assumption) :
    PS X (.Assign [.Name z py] (.ListComp elt [⟨.Tuple [.Name x p1, .Name y p2] kk p3, iter, ifs, 0⟩] scope pos) spos) (tAsg (tCompT X.K wi tc te) (gName i)) := by
  intro pins s σ H D I h
  have q := ps_comp2 (pos := pos) (spos := spos) hN hy hl K hc (wi := fun σ0 H0 R0 => ∃ R, wi σ0 H0 R ∧ ∀ J H1, R J H1 → R0 J H1) (pi_conv hi fun σ H R ⟨R1, a, b⟩ => ⟨R1, a, b⟩) (fun C s₂ H₂ fp => pg_two (p1 := p1) (p2 := p2) (p3 := p3) (kk := kk) K hc) ht he hsw hs hf pins s σ H D I
  refine q ⟨_, h, fun J H1 r => ?_⟩
  obtain ⟨n, W, h1, h2, h3⟩ := r.ex
  refine ⟨n, W, h1, h2, fun i ys H' hi hy hw => ?_⟩
  rcases h3 i ys H' hi hy hw with hq | ⟨g1, g2, g3⟩
  · exact .inl hq
  · refine .inr ⟨g1, g2, fun z H2 hz u v => ?_⟩
    obtain ⟨p, a, b, e, hq, t⟩ := g3 z H2 hz
    exact ⟨p, [a, b], e, hq, rfl, a, [b], rfl, b, [], rfl, rfl, ⟨_, _, rfl⟩, t⟩
end
end L2
/-! parts between any one sign -/
namespace L2
open PySem PySem.Spec PyProof.Rows PySem.Calls
theorem joinK_inj (k : Nat) : ∀ {a b : List (List Nat)}, a ≠ [] → b ≠ [] → (∀ p ∈ a, k ∉ p) → (∀ p ∈ b, k ∉ p) → joinL [k] a = joinL [k] b → a = b := by
  have cut : ∀ {x y u v : List Nat}, k ∉ x → k ∉ y → x ++ k :: u = y ++ k :: v → x = y ∧ u = v := by
    intro x
    induction x with
    | nil =>
      intro y u v hx hy e
      cases y with
      | nil => exact ⟨rfl, (List.cons.inj e).2⟩
      | cons b r => exact absurd (by rw [show b = k from (List.cons.inj e).1.symm]; simp) hy
    | cons a x ih =>
      intro y u v hx hy e
      cases y with
      | nil => exact absurd (by rw [show a = k from (List.cons.inj e).1]; simp) hx
      | cons b r =>
        have h := List.cons.inj e
        obtain ⟨h1, h2⟩ := ih (fun z => hx (List.mem_cons_of_mem _ z)) (fun z => hy (List.mem_cons_of_mem _ z)) h.2
        exact ⟨by rw [h.1, h1], h2⟩
  intro a
  induction a with
  | nil => intro b h; exact absurd rfl h
  | cons x r ih =>
    intro b _ hb ha hbb e
    cases b with
    | nil => exact absurd rfl hb
    | cons y s =>
      have fx := ha x (by simp)
      have fy := hbb y (by simp)
      cases r with
      | nil =>
        cases s with
        | nil => exact congrArg (· :: []) e
        | cons y2 s =>
          have e' : x = y ++ [k] ++ joinL [k] (y2 :: s) := e
          exact absurd (by rw [e']; simp) fx
      | cons x2 r =>
        cases s with
        | nil =>
          have e' : x ++ [k] ++ joinL [k] (x2 :: r) = y := e
          exact absurd (by rw [← e']; simp) fy
        | cons y2 s =>
          have e' : x ++ [k] ++ joinL [k] (x2 :: r) = y ++ [k] ++ joinL [k] (y2 :: s) := e
          rw [List.append_assoc, List.append_assoc] at e'
          obtain ⟨h1, h2⟩ := cut fx fy e'
          have := ih (b := y2 :: s) (by simp) (by simp) (fun p hp => ha p (List.mem_cons_of_mem _ hp)) (fun p hp => hbb p (List.mem_cons_of_mem _ hp)) h2
          rw [h1, this]
def splitK (k : Nat) (l : List Nat) : List (List Nat) := (Txt.split (S l) (S [k])).map cd
theorem splitK_free {k : Nat} {l p : List Nat} (h : p ∈ splitK k l) : k ∉ p := by
  obtain ⟨z, hz, rfl⟩ := List.mem_map.mp h
  exact StrLaws.split_free (S l) k z hz
theorem splitK_ne (k : Nat) (l : List Nat) : splitK k l ≠ [] := by
  intro e
  have := split_pos (S l) (S [k])
  have e2 := congrArg List.length e
  unfold splitK at e2
  rw [List.length_map] at e2
  rw [e2] at this; cases this
theorem splitK_join (k : Nat) (l : List Nat) : joinL [k] (splitK k l) = l := by
  have e := StrLaws.join_split (S l) (S [k])
  rw [← StrLaws.glued_eq_join] at e
  have e2 := joinS_is (S [k]) (Txt.split (S l) (S [k]))
  rw [show joinS (S [k]) (Txt.split (S l) (S [k])) = S l from e] at e2
  exact (S_inj e2).symm
theorem splitK_of {k : Nat} {ws : List (List Nat)} (h : ws ≠ []) (hf : ∀ p ∈ ws, k ∉ p) : splitK k (joinL [k] ws) = ws :=
  joinK_inj k (splitK_ne k _) h (fun _ hp => splitK_free hp) hf (splitK_join k _)
theorem splitK_is {k : Nat} {ws : List (List Nat)} (h : ws ≠ []) (hf : ∀ p ∈ ws, k ∉ p) : Txt.split (S (joinL [k] ws)) (S [k]) = ws.map S := by
  have e := splitK_of h hf
  have e2 : ws.map S = (splitK k (joinL [k] ws)).map S := by rw [e]
  have : (S ∘ cd) = id := funext fun x => S_cd x
  rw [e2]
  unfold splitK
  rw [List.map_map, this, List.map_id]
end L2
/-! for a, b in zip(xs, ys) -/
namespace L2
open PySem PySem.Spec PyProof.Rows PySem.Calls
section
variable {X : Cx} {pins : List (Addr × Obj)} {σ : St} {H : Hp} {s : Shared} {h' : Heap}
/-- some objects of the iterator's own have turned -/
theorem Inv.turnedM {t' : Nat} {L : List Addr} (I : Inv X pins σ H s) (k : ∀ b o, b ∉ L → s.heap.get? b = some o → h'.get? b = some o) (hL : ∀ b ∈ L, FpOk X pins H b) : Inv X pins σ H { s with heap := h', toks := t' } := by
  have nit : ∀ b u, H b = some u → b ∉ L := fun b u e z => by have := (hL b z).1; rw [this] at e; cases e
  refine I.step (g' := s.gens) (d' := s.drawn) (ch := L) (fun b hb => ?_) (fun b o _ _ hc e _ => k b o hc e) (fun b o _ _ hc e _ => ⟨o.slots, k b o hc e⟩) (fun _ _ _ _ n => n)
    (fun b o hc e => ⟨o, k b o hc e⟩) (fun _ _ e => e) (fun _ _ _ e => e) (fun b ps e => ⟨#[], by rw [e]; simp⟩) (fun m hm => ?_) (fun b u e => ?_) I.bare
  · obtain ⟨f0, f1, f2, f3, f4, f5⟩ := hL b hb
    exact ⟨f3, f1, f4, f5⟩
  · obtain ⟨o, es, ep, ho, r⟩ := hm
    exact ⟨o, es, ep, k _ o (fun z => (hL _ z).2.1 rfl) ho, r⟩
  · refine (I.hok b u e).stay (fun c v hc q => k c v ?_ q) (fun _ q => q) fun _ _ q => q
    rcases hc with z | z
    · rw [z]; exact nit b u e
    · exact nit c _ z
end
/-- both lists, as they stand at each turn -/
def Itz (K : PySem.W.Frag) (a b : Addr) : It :=
  ⟨fun i H => ∃ xs ys x y, SqL K H a xs ∧ SqL K H b ys ∧ xs[i]? = some x ∧ ys[i]? = some y,
   fun i H z H' => ∃ T x y, z = .ref T ∧ H T = none ∧ H' = upd H T (.tup [x, y]) ∧ (∀ xs, SqL K H a xs → xs[i]? = some x) ∧ ∀ ys, SqL K H b ys → ys[i]? = some y,
   fun i H => ∃ xs ys, SqL K H a xs ∧ SqL K H b ys ∧ (xs.length ≤ i ∨ ys.length ≤ i)⟩
def ZipT (z TI TO i1 i2 a b : Addr) (i : Nat) (h : Heap) : Prop := IsZip h z TI TO .none ∧ IsPair h TI (.ref i1) (.ref i2) ∧ (∃ u v, IsPair h TO u v) ∧ h.IsListIter i1 a i ∧ h.IsListIter i2 b i
theorem turn_zip {P : Program} {w : World} {K : PySem.W.Frag} {elts : List Expr} {x1 : Nat} {tp : Pos} {z TI TO i1 i2 a b : Addr} (D : ZipApart z TI TO i1 i2 a b) : Turn P w K (.Tuple elts x1 tp) (Itz K a b) [z, TI, TO, i1, i2] z (ZipT z TI TO i1 i2 a b) where
  mem := by simp
  obj := fun i h st c hc => by
    obtain ⟨h1, h2, ⟨u, v, h3⟩, h4, h5⟩ := st
    simp only [List.mem_cons, List.not_mem_nil, or_false] at hc
    rcases hc with e | e | e | e | e
    · subst e; exact ⟨_, h1, fun v q => by cases q⟩
    · subst e; exact ⟨_, h2, fun v q => by cases q⟩
    · subst e; exact ⟨_, h3, fun v q => by cases q⟩
    · subst e; obtain ⟨o, e, c, d⟩ := h4; exact ⟨o, e, fun v q => by rw [d] at q; cases q⟩
    · subst e; obtain ⟨o, e, c, d⟩ := h5; exact ⟨o, e, fun v q => by rw [d] at q; cases q⟩
  keep := fun i h h' st k => by
    obtain ⟨h1, h2, ⟨u, v, h3⟩, h4, h5⟩ := st
    exact ⟨k _ (by simp) _ h1, k _ (by simp) _ h2, ⟨u, v, k _ (by simp) _ h3⟩, h4.at fun o e => k i1 (by simp) o e, h5.at fun o e => k i2 (by simp) o e⟩
  item := by
    intro X hP hw hK hc i pins s σ H E I hf st hg
    subst hP hw hK
    obtain ⟨xs, ys, x, y, hq, hq2, hx, hy⟩ := hg
    obtain ⟨h1, h2, ⟨u0, v0, h3⟩, h4, h5⟩ := st
    obtain ⟨its, rv, p, hz⟩ := I.list hq
    obtain ⟨its2, rv2, p2, hz2⟩ := I.list hq2
    obtain ⟨u, hu, ru⟩ := rv.get hx
    obtain ⟨v, hv, rv'⟩ := rv2.get hy
    refine wpAny_pyNext_zip_item D h1 h2 h3 h4 h5 p.isList p2.isList (x := u) (y := v) (by simpa using hu) (by simpa using hv) fun h' a1 a2 a3 a4 a5 a6 a7 => ?_
    refine ⟨_, rfl, wpAny_letOwnedTupleGo_zip (s := { s with heap := h' }) a1 fun h'' b1 b2 => ?_⟩
    have hT : H s.heap.objs.size = none := I.hok.fresh (Nat.le_refl _)
    have lt : ∀ c ∈ [z, TI, TO, i1, i2], c < s.heap.objs.size := fun c hc => by
      simp only [List.mem_cons, List.not_mem_nil, or_false] at hc
      rcases hc with e | e | e | e | e
      · subst e; exact Heap.lt_size h1
      · subst e; exact Heap.lt_size h2
      · subst e; exact Heap.lt_size h3
      · subst e; obtain ⟨o, e, _⟩ := h4; exact Heap.lt_size e
      · subst e; obtain ⟨o, e, _⟩ := h5; exact Heap.lt_size e
    have kk : ∀ c o, c ∉ [z, TI, TO, i1, i2] → s.heap.get? c = some o → h''.get? c = some o := fun c o hc e => by
      simp only [List.mem_cons, List.not_mem_nil, or_false, not_or] at hc
      exact (b2.2 c hc.1).trans (a7 c o hc.1 hc.2.2.1 hc.2.2.2.1 hc.2.2.2.2 e)
    have I1 : Inv X pins σ H { s with heap := h'' } := I.turnedM (t' := s.toks) kk hf
    have zT : s.heap.objs.size ≠ z := fun e => Nat.lt_irrefl _ (e ▸ lt z (by simp))
    have a5' : IsPair h'' s.heap.objs.size u v := (b2.2 _ zT).trans a5
    have I2 := I1.track (a := s.heap.objs.size) (o := .tup [x, y]) (I.fpOk (Nat.le_refl _) hT) I.sz ⟨by show 2 ≤ sizeLine; decide, [u, v], .cons ru (.cons rv' .nil), ⟨_, a5', rfl, _, rfl⟩⟩
    refine ⟨.ref s.heap.objs.size, _, I2, rfl, ⟨_, x, y, rfl, hT, rfl, fun zs hzs => by rw [I.list_inj hzs hq]; exact hx, fun zs hzs => by rw [I.list_inj hzs hq2]; exact hy⟩, ⟨b1, (b2.2 _ D.TIz).trans (a7 _ _ D.TIz D.TITO D.TIi1 D.TIi2 h2), ⟨u, v, (b2.2 _ D.TOz).trans a2⟩, a3.at fun o e => (b2.2 _ D.i1z).trans e, a4.at fun o e => (b2.2 _ D.i2z).trans e⟩, fun c hc => ?_⟩
    rw [upd_ne (Nat.ne_of_lt (lt c hc))]; exact (hf c hc).1
  done := by
    intro X hP hw hK hc i pins s σ H E I hf st hg
    subst hP hw hK
    obtain ⟨xs, ys, hq, hq2, hx⟩ := hg
    obtain ⟨h1, h2, ⟨u0, v0, h3⟩, h4, h5⟩ := st
    obtain ⟨its, rv, p, hz⟩ := I.list hq
    obtain ⟨its2, rv2, p2, hz2⟩ := I.list hq2
    have hl := rv.length
    have hl2 := rv2.length
    refine wpAny_pyNext_zip_end (I.ok.hd hc) D h1 h2 h3 h4 h5 p.isList p2.isList ?_ fun h' a7 => ⟨rfl, I.turnedM (t' := s.toks) (fun c o hc e => ?_) hf⟩
    · rcases hx with hx | hx
      · exact .inl (by simp; omega)
      · exact .inr (by simp; omega)
    · simp only [List.mem_cons, List.not_mem_nil, or_false, not_or] at hc
      exact a7 c o hc.1 hc.2.2.1 hc.2.2.2.1 hc.2.2.2.2 e
  self := fun _ _ _ _ _ st h => wpAny_pyIter_zip st.1 h
section
variable {X : Cx} {ea eb : Expr} {t : TA} {p pos tp : Pos} {elts : List Expr} {x1 : Nat}
def iZip (K : PySem.W.Frag) (t : TA) : TI := fun σ H R => t σ H fun vs H1 => ∃ a b, vs = [.ref a, .ref b] ∧ (∃ xs, SqL K H1 a xs) ∧ (∃ ys, SqL K H1 b ys) ∧ R (Itz K a b) H1
theorem boot_zip : bootBuiltins "zip" = some (.type "zip") := by decide +kernel
theorem pi_zip (hg : Gl X "zip") (hm : X.mg "zip" = none) (ha : PA X [ea, eb] t) (hs : starEach [ea, eb] X.env = [(false, eval ea X.env), (false, eval eb X.env)] := by rfl) (hs2 : starEach [eb] X.env = [(false, eval eb X.env)] := by rfl) :
    PI X (.Tuple elts x1 tp) (.Call (.Name "zip" p) [ea, eb] [] pos) (iZip X.K t) := by
  intro pins s σ H R I h
  refine Call_ (ld_blt I hg hm boot_zip (PyProof.Rows.callWith_type1 (thn (ha pos pins s σ H _ I h) fun us s1 ⟨vs, H1, I1, r1, q1⟩ => ?_) (by rw [hs, hs2]) (by rw [hs2]; rfl)))
  obtain ⟨a, b, e, ⟨xs, hq⟩, ⟨ys, hq2⟩, q⟩ := q1
  subst e
  cases r1 with
  | cons r rr =>
    cases rr with
    | cons r' rr' =>
      cases rr'
      cases r
      cases r'
      obtain ⟨its, rv, pl, hz⟩ := I1.list hq
      obtain ⟨its2, rv2, pl2, hz2⟩ := I1.list hq2
      have l1 : a < s1.heap.objs.size := by obtain ⟨_, e, _⟩ := pl.isList; exact Heap.lt_size e
      have l2 : b < s1.heap.objs.size := by obtain ⟨_, e, _⟩ := pl2.isList; exact Heap.lt_size e
      refine call_zip_2 pl.isList pl2.isList fun h' z1 z2 z3 z4 z5 z6 z7 => ?_
      refine wpAny_pyIter_zip (s := { s1 with heap := h' }) z1 ?_
      have I2 : Inv X pins σ H1 { s1 with heap := h' } := I1.kept (t' := s1.toks) z7
      refine ⟨_, [s1.heap.objs.size + 4, s1.heap.objs.size + 2, s1.heap.objs.size + 3, s1.heap.objs.size, s1.heap.objs.size + 1], _, _, H1, rfl, I2, turn_zip (zipApart_new l1 l2), ⟨z1, z2, ⟨_, _, z3⟩, z4, z5⟩, fun c hc => ?_, q⟩
      have hle : s1.heap.objs.size ≤ c := by
        simp only [List.mem_cons, List.not_mem_nil, or_false] at hc
        rcases hc with e | e | e | e | e
        · rw [e]; exact Nat.le_add_right _ _
        · rw [e]; exact Nat.le_add_right _ _
        · rw [e]; exact Nat.le_add_right _ _
        · rw [e]; exact Nat.le_refl _
        · rw [e]; exact Nat.le_add_right _ _
      exact I1.fpOk hle (I1.hok.fresh hle)
end
/-- for x, y in zip(..): the turns -/
theorem for_zipR {K : PySem.W.Frag} {a b : Addr} {xs ys : List V} {g : TG} {tb : TS} {D : Ends} {σ : St} {H : Hp} (hl : xs.length = ys.length) (Pv : Nat → St → Hp → Prop) (h0 : Pv 0 σ H) (hq : ∀ i σ H, i ≤ xs.length → Pv i σ H → SqL K H a xs ∧ SqL K H b ys)
    (hs : ∀ i x y σ H, xs[i]? = some x → ys[i]? = some y → Pv i σ H → ∀ T, H T = none → g (.ref T) σ (upd H T (.tup [x, y])) fun σ2 H2 => tb { D with nx := Pv (i + 1), ct := Pv (i + 1), bk := D.nx } σ2 H2) (hd : ∀ σ H, Pv xs.length σ H → D.nx σ H) : ForR (Itz K a b) g tb D σ H := by
  refine ⟨fun i m σ H => i ≤ xs.length ∧ m = xs.length - i ∧ Pv i σ H, ⟨_, Nat.zero_le _, rfl, h0⟩, fun i m σ H ⟨hi, hm, hp⟩ => ?_⟩
  obtain ⟨q1, q2⟩ := hq i σ H hi hp
  by_cases c : i = xs.length
  · subst c
    exact .inl ⟨⟨xs, ys, q1, q2, .inl (Nat.le_refl _)⟩, hd σ H hp⟩
  · have hlt : i < xs.length := by omega
    have hx : xs[i]? = some xs[i] := List.getElem?_eq_getElem hlt
    have hlt2 : i < ys.length := by omega
    have hy : ys[i]? = some ys[i] := List.getElem?_eq_getElem hlt2
    refine .inr ⟨⟨xs, ys, _, _, q1, q2, hx, hy⟩, Pv (i + 1), fun σ' H' hn => ⟨xs.length - (i + 1), by omega, by omega, rfl, hn⟩, fun z H' hz => ?_⟩
    obtain ⟨T, x, y, rfl, hT, rfl, e1, e2⟩ := hz
    exact hs i x y σ H (e1 xs q1) (e2 ys q2) hp T hT
end L2
/-! partition at a text of several signs -/
namespace L2
open PySem PySem.Spec PyProof.Rows PySem.Calls
theorem at_head {l y : List Nat} {c i : Nat} (h : StrLaws.At (S l) (S (c :: y)) (S l).length i) : l[i]? = some c := by
  have h2 := h.2
  rw [StrLaws.subAt_eq] at h2
  have h2 : (l.drop i).take (S (c :: y)).length = c :: y := eq_of_beq h2
  have h3 : ((l.drop i).take (S (c :: y)).length)[0]? = some c := by rw [h2]; rfl
  rw [List.getElem?_take_of_lt (by rw [len_S]; simp), List.getElem?_drop] at h3
  exact h3
theorem part_non {l y : List Nat} {c : Nat} (h : c ∉ l) : Txt.partition (S l) (S (c :: y)) = (S l, Str.empty, Str.empty) := by
  unfold Txt.partition
  rcases StrLaws.occ_head (S l) (S (c :: y)) 1 (Nat.le_refl 1) with ⟨h0, _⟩ | ⟨i, r, h0, hi, _⟩
  · rw [h0]
  · exact absurd (List.mem_of_getElem? (at_head hi)) h
theorem part_sep {a y b : List Nat} {c : Nat} (h : c ∉ a) : Txt.partition (S (a ++ (c :: y) ++ b)) (S (c :: y)) = (S a, S (c :: y), S b) := by
  have hat : StrLaws.At (S (a ++ (c :: y) ++ b)) (S (c :: y)) (S (a ++ (c :: y) ++ b)).length a.length := by
    refine ⟨by rw [len_S, len_S, List.length_append, List.length_append]; omega, ?_⟩
    rw [StrLaws.subAt_eq]
    show (((a ++ (c :: y) ++ b).drop a.length).take (S (c :: y)).length == (c :: y)) = true
    rw [len_S, List.append_assoc, List.drop_left, List.take_left]
    exact beq_self_eq_true _
  unfold Txt.partition
  rcases StrLaws.occ_head (S (a ++ (c :: y) ++ b)) (S (c :: y)) 1 (Nat.le_refl 1) with ⟨_, hn⟩ | ⟨i, r, h0, hi, hm⟩
  · exact absurd hat (hn _)
  · have e : i = a.length := by
      rcases Nat.lt_trichotomy i a.length with l | l | l
      · have h3 := at_head hi
        rw [List.append_assoc, List.getElem?_append_left l] at h3
        exact absurd (List.mem_of_getElem? h3) h
      · exact l
      · exact absurd hat (hm _ l)
    subst e
    rw [h0]
    refine Prod.ext (cd_inj ?_) (Prod.ext rfl (cd_inj ?_))
    · show (Builtin.Str.strSub (S (a ++ (c :: y) ++ b)) 0 a.length).cps.toList = a
      rw [StrLaws.strSub_toList]
      show ((a ++ (c :: y) ++ b).drop 0).take (a.length - 0) = a
      rw [List.drop_zero, Nat.sub_zero, List.append_assoc, List.take_left]
    · show (Builtin.Str.strSub (S (a ++ (c :: y) ++ b)) (a.length + (S (c :: y)).length) (S (a ++ (c :: y) ++ b)).length).cps.toList = b
      rw [StrLaws.strSub_toList, len_S, len_S]
      show ((a ++ (c :: y) ++ b).drop (a.length + (c :: y).length)).take _ = b
      rw [show a.length + (c :: y).length = (a ++ (c :: y)).length by rw [List.length_append], List.drop_left, List.take_of_length_le (by rw [List.length_append]; omega)]
end L2
namespace K23
open PySem L2
def top (i : Nat) : Stmt := PySem.Challenge.pw_askpaper_k23_checks_and_ways_read.main.body.getD i (.Pass ⟨0, 0, 0, 0⟩)
abbrev s_is_name : Stmt := top 16
abbrev s_are_figures : Stmt := top 18
abbrev s_figures_worth : Stmt := top 19
abbrev s_number_of : Stmt := top 20
abbrev s_number_or_none : Stmt := top 21
abbrev s_c_Row___init : Stmt := inClass (top 54) 0
abbrev s_c_Check___init : Stmt := inClass (top 56) 0
abbrev s_c_Sheet___init : Stmt := inClass (top 57) 0
abbrev s_c_Paper___init : Stmt := inClass (top 58) 0
abbrev s_c_Is___init : Stmt := inClass (top 65) 0
abbrev s_c_Is_shown : Stmt := inClass (top 65) 1
abbrev s_c_Is_atoms : Stmt := inClass (top 65) 2
abbrev s_c_Compare___init : Stmt := inClass (top 66) 0
abbrev s_c_Compare_shown : Stmt := inClass (top 66) 1
abbrev s_c_Compare_atoms : Stmt := inClass (top 66) 2
abbrev s_c_Not___init : Stmt := inClass (top 67) 0
abbrev s_c_Not_shown : Stmt := inClass (top 67) 1
abbrev s_c_Not_atoms : Stmt := inClass (top 67) 2
abbrev s_c_Pair___init : Stmt := inClass (top 68) 0
abbrev s_c_Pair_shown_with : Stmt := inClass (top 68) 1
abbrev s_c_Pair_atoms : Stmt := inClass (top 68) 2
abbrev s_c_Both_shown : Stmt := inClass (top 69) 0
abbrev s_c_Either_shown : Stmt := inClass (top 70) 0
abbrev s_c_WordsLeft___init : Stmt := inClass (top 71) 0
abbrev s_c_WordsLeft_take : Stmt := inClass (top 71) 1
abbrev s_c_WordsLeft_are_all_taken : Stmt := inClass (top 71) 2
abbrev s_read_atom : Stmt := top 72
abbrev s_read_pair : Stmt := top 73
abbrev s_read_next : Stmt := top 74
abbrev s_read_saying : Stmt := top 75
abbrev s_shown_when : Stmt := top 82
abbrev s_shown_row : Stmt := top 83
abbrev s_shown_sheet : Stmt := top 84
abbrev s_shown_paper : Stmt := top 85
abbrev s_c_Draft___init : Stmt := inClass (top 86) 0
abbrev s_c_Draft_demand : Stmt := inClass (top 86) 1
abbrev s_c_Draft_read_test : Stmt := inClass (top 86) 2
abbrev s_c_Draft_read_when : Stmt := inClass (top 86) 3
abbrev s_c_Draft_sheet_to_fill : Stmt := inClass (top 86) 4
abbrev s_c_Draft_put_row : Stmt := inClass (top 86) 5
abbrev s_c_Draft_take_paper : Stmt := inClass (top 86) 6
abbrev s_c_Draft_take_sheet : Stmt := inClass (top 86) 7
abbrev s_c_Draft_take_check : Stmt := inClass (top 86) 9
abbrev s_c_Draft_take_way : Stmt := inClass (top 86) 10
abbrev s_c_Draft_take_row : Stmt := inClass (top 86) 12
abbrev s_c_Draft_take_line : Stmt := inClass (top 86) 13
abbrev s_read_paper : Stmt := top 87
abbrev s_law_cell_at : Stmt := top 89
abbrev s_law_mixed : Stmt := top 90
abbrev s_law_open : Stmt := top 91
abbrev s_law_name : Stmt := top 92
abbrev s_law_number : Stmt := top 93
abbrev s_law_atom : Stmt := top 94
abbrev s_law_saying : Stmt := top 95
abbrev s_law_sheet : Stmt := top 96
abbrev s_law_sheet_rows : Stmt := top 97
abbrev s_law_way_fits : Stmt := top 98
abbrev s_law_sheet_fits : Stmt := top 99
abbrev s_law : Stmt := top 100
structure Adr where
  f_is_name : Addr
  d_is_name : FuncData
  f_are_figures : Addr
  d_are_figures : FuncData
  f_figures_worth : Addr
  d_figures_worth : FuncData
  f_number_of : Addr
  d_number_of : FuncData
  ds_number_of : List Value
  f_number_or_none : Addr
  d_number_or_none : FuncData
  f_c_Row___init : Addr
  d_c_Row___init : FuncData
  f_c_Check___init : Addr
  d_c_Check___init : FuncData
  ds_c_Check___init : List Value
  f_c_Sheet___init : Addr
  d_c_Sheet___init : FuncData
  f_c_Paper___init : Addr
  d_c_Paper___init : FuncData
  f_c_Is___init : Addr
  d_c_Is___init : FuncData
  ds_c_Is___init : List Value
  f_c_Is_shown : Addr
  d_c_Is_shown : FuncData
  f_c_Is_atoms : Addr
  d_c_Is_atoms : FuncData
  f_c_Compare___init : Addr
  d_c_Compare___init : FuncData
  f_c_Compare_shown : Addr
  d_c_Compare_shown : FuncData
  f_c_Compare_atoms : Addr
  d_c_Compare_atoms : FuncData
  f_c_Not___init : Addr
  d_c_Not___init : FuncData
  f_c_Not_shown : Addr
  d_c_Not_shown : FuncData
  f_c_Not_atoms : Addr
  d_c_Not_atoms : FuncData
  f_c_Pair___init : Addr
  d_c_Pair___init : FuncData
  f_c_Pair_shown_with : Addr
  d_c_Pair_shown_with : FuncData
  f_c_Pair_atoms : Addr
  d_c_Pair_atoms : FuncData
  f_c_Both_shown : Addr
  d_c_Both_shown : FuncData
  f_c_Either_shown : Addr
  d_c_Either_shown : FuncData
  f_c_WordsLeft___init : Addr
  d_c_WordsLeft___init : FuncData
  f_c_WordsLeft_take : Addr
  d_c_WordsLeft_take : FuncData
  f_c_WordsLeft_are_all_taken : Addr
  d_c_WordsLeft_are_all_taken : FuncData
  f_read_atom : Addr
  d_read_atom : FuncData
  f_read_pair : Addr
  d_read_pair : FuncData
  f_read_next : Addr
  d_read_next : FuncData
  f_read_saying : Addr
  d_read_saying : FuncData
  f_shown_when : Addr
  d_shown_when : FuncData
  f_shown_row : Addr
  d_shown_row : FuncData
  f_shown_sheet : Addr
  d_shown_sheet : FuncData
  f_shown_paper : Addr
  d_shown_paper : FuncData
  f_c_Draft___init : Addr
  d_c_Draft___init : FuncData
  f_c_Draft_demand : Addr
  d_c_Draft_demand : FuncData
  f_c_Draft_read_test : Addr
  d_c_Draft_read_test : FuncData
  f_c_Draft_read_when : Addr
  d_c_Draft_read_when : FuncData
  f_c_Draft_sheet_to_fill : Addr
  d_c_Draft_sheet_to_fill : FuncData
  f_c_Draft_put_row : Addr
  d_c_Draft_put_row : FuncData
  f_c_Draft_take_paper : Addr
  d_c_Draft_take_paper : FuncData
  f_c_Draft_take_sheet : Addr
  d_c_Draft_take_sheet : FuncData
  f_c_Draft_take_check : Addr
  d_c_Draft_take_check : FuncData
  f_c_Draft_take_way : Addr
  d_c_Draft_take_way : FuncData
  f_c_Draft_take_row : Addr
  d_c_Draft_take_row : FuncData
  f_c_Draft_take_line : Addr
  d_c_Draft_take_line : FuncData
  f_read_paper : Addr
  d_read_paper : FuncData
  f_law_cell_at : Addr
  d_law_cell_at : FuncData
  f_law_mixed : Addr
  d_law_mixed : FuncData
  f_law_open : Addr
  d_law_open : FuncData
  f_law_name : Addr
  d_law_name : FuncData
  f_law_number : Addr
  d_law_number : FuncData
  f_law_atom : Addr
  d_law_atom : FuncData
  f_law_saying : Addr
  d_law_saying : FuncData
  f_law_sheet : Addr
  d_law_sheet : FuncData
  f_law_sheet_rows : Addr
  d_law_sheet_rows : FuncData
  f_law_way_fits : Addr
  d_law_way_fits : FuncData
  f_law_sheet_fits : Addr
  d_law_sheet_fits : FuncData
  f_law : Addr
  d_law : FuncData
  a_HOWS : Addr
  a_NO_NAMES : Addr
  c_Ask : Addr
  c_Both : Addr
  c_Check : Addr
  c_Compare : Addr
  c_Draft : Addr
  c_Either : Addr
  c_Is : Addr
  c_NoNumber : Addr
  c_NoSaying : Addr
  c_Not : Addr
  c_Pair : Addr
  c_Paper : Addr
  c_Row : Addr
  c_Saying : Addr
  c_Sheet : Addr
  c_WordsLeft : Addr
structure Txt (K : PySem.W.Frag) (mg : Str → Option Value) (A : Adr) : Prop where
  F_is_name : Fun K "is_name" "is_name" s_is_name A.f_is_name A.d_is_name
  b_is_name : Binds K A.d_is_name ["thing"] []
  k_is_name : PySem.W.keepIn K (.ref A.f_is_name) = true
  m_is_name : mg "is_name" = some (.ref A.f_is_name)
  F_are_figures : Fun K "are_figures" "are_figures" s_are_figures A.f_are_figures A.d_are_figures
  b_are_figures : Binds K A.d_are_figures ["text"] []
  k_are_figures : PySem.W.keepIn K (.ref A.f_are_figures) = true
  m_are_figures : mg "are_figures" = some (.ref A.f_are_figures)
  F_figures_worth : Fun K "figures_worth" "figures_worth" s_figures_worth A.f_figures_worth A.d_figures_worth
  b_figures_worth : Binds K A.d_figures_worth ["figures"] []
  k_figures_worth : PySem.W.keepIn K (.ref A.f_figures_worth) = true
  m_figures_worth : mg "figures_worth" = some (.ref A.f_figures_worth)
  F_number_of : FunD K "number_of" "number_of" s_number_of A.ds_number_of A.f_number_of A.d_number_of
  b_number_of : Binds K A.d_number_of ["text", "most"] []
  bd_number_of : Binds K A.d_number_of ["text", "most"] A.ds_number_of
  dv_number_of : Vals [(.int 60)] A.ds_number_of
  k_number_of : PySem.W.keepIn K (.ref A.f_number_of) = true
  m_number_of : mg "number_of" = some (.ref A.f_number_of)
  F_number_or_none : Fun K "number_or_none" "number_or_none" s_number_or_none A.f_number_or_none A.d_number_or_none
  b_number_or_none : Binds K A.d_number_or_none ["text"] []
  k_number_or_none : PySem.W.keepIn K (.ref A.f_number_or_none) = true
  m_number_or_none : mg "number_or_none" = some (.ref A.f_number_or_none)
  F_c_Row___init : Fun K "__init__" "Row.__init__" s_c_Row___init A.f_c_Row___init A.d_c_Row___init
  b_c_Row___init : Binds K A.d_c_Row___init ["self", "name"] []
  k_c_Row___init : PySem.W.keepIn K (.ref A.f_c_Row___init) = true
  F_c_Check___init : FunD K "__init__" "Check.__init__" s_c_Check___init A.ds_c_Check___init A.f_c_Check___init A.d_c_Check___init
  b_c_Check___init : Binds K A.d_c_Check___init ["self", "name", "test", "firm"] []
  bd_c_Check___init : Binds K A.d_c_Check___init ["self", "name", "test", "firm"] A.ds_c_Check___init
  dv_c_Check___init : Vals [(.bl true)] A.ds_c_Check___init
  k_c_Check___init : PySem.W.keepIn K (.ref A.f_c_Check___init) = true
  F_c_Sheet___init : Fun K "__init__" "Sheet.__init__" s_c_Sheet___init A.f_c_Sheet___init A.d_c_Sheet___init
  b_c_Sheet___init : Binds K A.d_c_Sheet___init ["self", "name", "each", "rows", "ways"] []
  k_c_Sheet___init : PySem.W.keepIn K (.ref A.f_c_Sheet___init) = true
  F_c_Paper___init : Fun K "__init__" "Paper.__init__" s_c_Paper___init A.f_c_Paper___init A.d_c_Paper___init
  b_c_Paper___init : Binds K A.d_c_Paper___init ["self", "name", "sheets", "totals"] []
  k_c_Paper___init : PySem.W.keepIn K (.ref A.f_c_Paper___init) = true
  F_c_Is___init : FunD K "__init__" "Is.__init__" s_c_Is___init A.ds_c_Is___init A.f_c_Is___init A.d_c_Is___init
  b_c_Is___init : Binds K A.d_c_Is___init ["self", "name", "word", "place"] []
  bd_c_Is___init : Binds K A.d_c_Is___init ["self", "name", "word", "place"] A.ds_c_Is___init
  dv_c_Is___init : Vals [.non] A.ds_c_Is___init
  k_c_Is___init : PySem.W.keepIn K (.ref A.f_c_Is___init) = true
  F_c_Is_shown : Fun K "shown" "Is.shown" s_c_Is_shown A.f_c_Is_shown A.d_c_Is_shown
  b_c_Is_shown : Binds K A.d_c_Is_shown ["self"] []
  k_c_Is_shown : PySem.W.keepIn K (.ref A.f_c_Is_shown) = true
  F_c_Is_atoms : Fun K "atoms" "Is.atoms" s_c_Is_atoms A.f_c_Is_atoms A.d_c_Is_atoms
  b_c_Is_atoms : Binds K A.d_c_Is_atoms ["self"] []
  k_c_Is_atoms : PySem.W.keepIn K (.ref A.f_c_Is_atoms) = true
  F_c_Compare___init : Fun K "__init__" "Compare.__init__" s_c_Compare___init A.f_c_Compare___init A.d_c_Compare___init
  b_c_Compare___init : Binds K A.d_c_Compare___init ["self", "name", "how", "number"] []
  k_c_Compare___init : PySem.W.keepIn K (.ref A.f_c_Compare___init) = true
  F_c_Compare_shown : Fun K "shown" "Compare.shown" s_c_Compare_shown A.f_c_Compare_shown A.d_c_Compare_shown
  b_c_Compare_shown : Binds K A.d_c_Compare_shown ["self"] []
  k_c_Compare_shown : PySem.W.keepIn K (.ref A.f_c_Compare_shown) = true
  F_c_Compare_atoms : Fun K "atoms" "Compare.atoms" s_c_Compare_atoms A.f_c_Compare_atoms A.d_c_Compare_atoms
  b_c_Compare_atoms : Binds K A.d_c_Compare_atoms ["self"] []
  k_c_Compare_atoms : PySem.W.keepIn K (.ref A.f_c_Compare_atoms) = true
  F_c_Not___init : Fun K "__init__" "Not.__init__" s_c_Not___init A.f_c_Not___init A.d_c_Not___init
  b_c_Not___init : Binds K A.d_c_Not___init ["self", "test"] []
  k_c_Not___init : PySem.W.keepIn K (.ref A.f_c_Not___init) = true
  F_c_Not_shown : Fun K "shown" "Not.shown" s_c_Not_shown A.f_c_Not_shown A.d_c_Not_shown
  b_c_Not_shown : Binds K A.d_c_Not_shown ["self"] []
  k_c_Not_shown : PySem.W.keepIn K (.ref A.f_c_Not_shown) = true
  F_c_Not_atoms : Fun K "atoms" "Not.atoms" s_c_Not_atoms A.f_c_Not_atoms A.d_c_Not_atoms
  b_c_Not_atoms : Binds K A.d_c_Not_atoms ["self"] []
  k_c_Not_atoms : PySem.W.keepIn K (.ref A.f_c_Not_atoms) = true
  F_c_Pair___init : Fun K "__init__" "Pair.__init__" s_c_Pair___init A.f_c_Pair___init A.d_c_Pair___init
  b_c_Pair___init : Binds K A.d_c_Pair___init ["self", "one", "other"] []
  k_c_Pair___init : PySem.W.keepIn K (.ref A.f_c_Pair___init) = true
  F_c_Pair_shown_with : Fun K "shown_with" "Pair.shown_with" s_c_Pair_shown_with A.f_c_Pair_shown_with A.d_c_Pair_shown_with
  b_c_Pair_shown_with : Binds K A.d_c_Pair_shown_with ["self", "word"] []
  k_c_Pair_shown_with : PySem.W.keepIn K (.ref A.f_c_Pair_shown_with) = true
  F_c_Pair_atoms : Fun K "atoms" "Pair.atoms" s_c_Pair_atoms A.f_c_Pair_atoms A.d_c_Pair_atoms
  b_c_Pair_atoms : Binds K A.d_c_Pair_atoms ["self"] []
  k_c_Pair_atoms : PySem.W.keepIn K (.ref A.f_c_Pair_atoms) = true
  F_c_Both_shown : Fun K "shown" "Both.shown" s_c_Both_shown A.f_c_Both_shown A.d_c_Both_shown
  b_c_Both_shown : Binds K A.d_c_Both_shown ["self"] []
  k_c_Both_shown : PySem.W.keepIn K (.ref A.f_c_Both_shown) = true
  F_c_Either_shown : Fun K "shown" "Either.shown" s_c_Either_shown A.f_c_Either_shown A.d_c_Either_shown
  b_c_Either_shown : Binds K A.d_c_Either_shown ["self"] []
  k_c_Either_shown : PySem.W.keepIn K (.ref A.f_c_Either_shown) = true
  F_c_WordsLeft___init : Fun K "__init__" "WordsLeft.__init__" s_c_WordsLeft___init A.f_c_WordsLeft___init A.d_c_WordsLeft___init
  b_c_WordsLeft___init : Binds K A.d_c_WordsLeft___init ["self", "words"] []
  k_c_WordsLeft___init : PySem.W.keepIn K (.ref A.f_c_WordsLeft___init) = true
  F_c_WordsLeft_take : Fun K "take" "WordsLeft.take" s_c_WordsLeft_take A.f_c_WordsLeft_take A.d_c_WordsLeft_take
  b_c_WordsLeft_take : Binds K A.d_c_WordsLeft_take ["self"] []
  k_c_WordsLeft_take : PySem.W.keepIn K (.ref A.f_c_WordsLeft_take) = true
  F_c_WordsLeft_are_all_taken : Fun K "are_all_taken" "WordsLeft.are_all_taken" s_c_WordsLeft_are_all_taken A.f_c_WordsLeft_are_all_taken A.d_c_WordsLeft_are_all_taken
  b_c_WordsLeft_are_all_taken : Binds K A.d_c_WordsLeft_are_all_taken ["self"] []
  k_c_WordsLeft_are_all_taken : PySem.W.keepIn K (.ref A.f_c_WordsLeft_are_all_taken) = true
  F_read_atom : Fun K "read_atom" "read_atom" s_read_atom A.f_read_atom A.d_read_atom
  b_read_atom : Binds K A.d_read_atom ["name", "how", "what"] []
  k_read_atom : PySem.W.keepIn K (.ref A.f_read_atom) = true
  m_read_atom : mg "read_atom" = some (.ref A.f_read_atom)
  F_read_pair : Fun K "read_pair" "read_pair" s_read_pair A.f_read_pair A.d_read_pair
  b_read_pair : Binds K A.d_read_pair ["left", "deepest"] []
  k_read_pair : PySem.W.keepIn K (.ref A.f_read_pair) = true
  m_read_pair : mg "read_pair" = some (.ref A.f_read_pair)
  F_read_next : Fun K "read_next" "read_next" s_read_next A.f_read_next A.d_read_next
  b_read_next : Binds K A.d_read_next ["left", "deepest"] []
  k_read_next : PySem.W.keepIn K (.ref A.f_read_next) = true
  m_read_next : mg "read_next" = some (.ref A.f_read_next)
  F_read_saying : Fun K "read_saying" "read_saying" s_read_saying A.f_read_saying A.d_read_saying
  b_read_saying : Binds K A.d_read_saying ["text"] []
  k_read_saying : PySem.W.keepIn K (.ref A.f_read_saying) = true
  m_read_saying : mg "read_saying" = some (.ref A.f_read_saying)
  F_shown_when : Fun K "shown_when" "shown_when" s_shown_when A.f_shown_when A.d_shown_when
  b_shown_when : Binds K A.d_shown_when ["saying"] []
  k_shown_when : PySem.W.keepIn K (.ref A.f_shown_when) = true
  m_shown_when : mg "shown_when" = some (.ref A.f_shown_when)
  F_shown_row : Fun K "shown_row" "shown_row" s_shown_row A.f_shown_row A.d_shown_row
  b_shown_row : Binds K A.d_shown_row ["row"] []
  k_shown_row : PySem.W.keepIn K (.ref A.f_shown_row) = true
  m_shown_row : mg "shown_row" = some (.ref A.f_shown_row)
  F_shown_sheet : Fun K "shown_sheet" "shown_sheet" s_shown_sheet A.f_shown_sheet A.d_shown_sheet
  b_shown_sheet : Binds K A.d_shown_sheet ["sheet"] []
  k_shown_sheet : PySem.W.keepIn K (.ref A.f_shown_sheet) = true
  m_shown_sheet : mg "shown_sheet" = some (.ref A.f_shown_sheet)
  F_shown_paper : Fun K "shown_paper" "shown_paper" s_shown_paper A.f_shown_paper A.d_shown_paper
  b_shown_paper : Binds K A.d_shown_paper ["paper"] []
  k_shown_paper : PySem.W.keepIn K (.ref A.f_shown_paper) = true
  m_shown_paper : mg "shown_paper" = some (.ref A.f_shown_paper)
  F_c_Draft___init : Fun K "__init__" "Draft.__init__" s_c_Draft___init A.f_c_Draft___init A.d_c_Draft___init
  b_c_Draft___init : Binds K A.d_c_Draft___init ["self"] []
  k_c_Draft___init : PySem.W.keepIn K (.ref A.f_c_Draft___init) = true
  F_c_Draft_demand : Fun K "demand" "Draft.demand" s_c_Draft_demand A.f_c_Draft_demand A.d_c_Draft_demand
  b_c_Draft_demand : Binds K A.d_c_Draft_demand ["self", "so"] []
  k_c_Draft_demand : PySem.W.keepIn K (.ref A.f_c_Draft_demand) = true
  F_c_Draft_read_test : Fun K "read_test" "Draft.read_test" s_c_Draft_read_test A.f_c_Draft_read_test A.d_c_Draft_read_test
  b_c_Draft_read_test : Binds K A.d_c_Draft_read_test ["self", "text"] []
  k_c_Draft_read_test : PySem.W.keepIn K (.ref A.f_c_Draft_read_test) = true
  F_c_Draft_read_when : Fun K "read_when" "Draft.read_when" s_c_Draft_read_when A.f_c_Draft_read_when A.d_c_Draft_read_when
  b_c_Draft_read_when : Binds K A.d_c_Draft_read_when ["self", "parted"] []
  k_c_Draft_read_when : PySem.W.keepIn K (.ref A.f_c_Draft_read_when) = true
  F_c_Draft_sheet_to_fill : Fun K "sheet_to_fill" "Draft.sheet_to_fill" s_c_Draft_sheet_to_fill A.f_c_Draft_sheet_to_fill A.d_c_Draft_sheet_to_fill
  b_c_Draft_sheet_to_fill : Binds K A.d_c_Draft_sheet_to_fill ["self"] []
  k_c_Draft_sheet_to_fill : PySem.W.keepIn K (.ref A.f_c_Draft_sheet_to_fill) = true
  F_c_Draft_put_row : Fun K "put_row" "Draft.put_row" s_c_Draft_put_row A.f_c_Draft_put_row A.d_c_Draft_put_row
  b_c_Draft_put_row : Binds K A.d_c_Draft_put_row ["self", "row"] []
  k_c_Draft_put_row : PySem.W.keepIn K (.ref A.f_c_Draft_put_row) = true
  F_c_Draft_take_paper : Fun K "take_paper" "Draft.take_paper" s_c_Draft_take_paper A.f_c_Draft_take_paper A.d_c_Draft_take_paper
  b_c_Draft_take_paper : Binds K A.d_c_Draft_take_paper ["self", "rest"] []
  k_c_Draft_take_paper : PySem.W.keepIn K (.ref A.f_c_Draft_take_paper) = true
  F_c_Draft_take_sheet : Fun K "take_sheet" "Draft.take_sheet" s_c_Draft_take_sheet A.f_c_Draft_take_sheet A.d_c_Draft_take_sheet
  b_c_Draft_take_sheet : Binds K A.d_c_Draft_take_sheet ["self", "rest"] []
  k_c_Draft_take_sheet : PySem.W.keepIn K (.ref A.f_c_Draft_take_sheet) = true
  F_c_Draft_take_check : Fun K "take_check" "Draft.take_check" s_c_Draft_take_check A.f_c_Draft_take_check A.d_c_Draft_take_check
  b_c_Draft_take_check : Binds K A.d_c_Draft_take_check ["self", "rest", "firm"] []
  k_c_Draft_take_check : PySem.W.keepIn K (.ref A.f_c_Draft_take_check) = true
  F_c_Draft_take_way : Fun K "take_way" "Draft.take_way" s_c_Draft_take_way A.f_c_Draft_take_way A.d_c_Draft_take_way
  b_c_Draft_take_way : Binds K A.d_c_Draft_take_way ["self", "rest"] []
  k_c_Draft_take_way : PySem.W.keepIn K (.ref A.f_c_Draft_take_way) = true
  F_c_Draft_take_row : Fun K "take_row" "Draft.take_row" s_c_Draft_take_row A.f_c_Draft_take_row A.d_c_Draft_take_row
  b_c_Draft_take_row : Binds K A.d_c_Draft_take_row ["self", "first", "rest"] []
  k_c_Draft_take_row : PySem.W.keepIn K (.ref A.f_c_Draft_take_row) = true
  F_c_Draft_take_line : Fun K "take_line" "Draft.take_line" s_c_Draft_take_line A.f_c_Draft_take_line A.d_c_Draft_take_line
  b_c_Draft_take_line : Binds K A.d_c_Draft_take_line ["self", "line"] []
  k_c_Draft_take_line : PySem.W.keepIn K (.ref A.f_c_Draft_take_line) = true
  F_read_paper : Fun K "read_paper" "read_paper" s_read_paper A.f_read_paper A.d_read_paper
  b_read_paper : Binds K A.d_read_paper ["text"] []
  k_read_paper : PySem.W.keepIn K (.ref A.f_read_paper) = true
  m_read_paper : mg "read_paper" = some (.ref A.f_read_paper)
  F_law_cell_at : Fun K "_law_cell_at" "_law_cell_at" s_law_cell_at A.f_law_cell_at A.d_law_cell_at
  b_law_cell_at : Binds K A.d_law_cell_at ["_law_script", "_law_k"] []
  k_law_cell_at : PySem.W.keepIn K (.ref A.f_law_cell_at) = true
  m_law_cell_at : mg "_law_cell_at" = some (.ref A.f_law_cell_at)
  F_law_mixed : Fun K "_law_mixed" "_law_mixed" s_law_mixed A.f_law_mixed A.d_law_mixed
  b_law_mixed : Binds K A.d_law_mixed ["_law_cell", "_law_k"] []
  k_law_mixed : PySem.W.keepIn K (.ref A.f_law_mixed) = true
  m_law_mixed : mg "_law_mixed" = some (.ref A.f_law_mixed)
  F_law_open : Fun K "_law_open" "_law_open" s_law_open A.f_law_open A.d_law_open
  b_law_open : Binds K A.d_law_open ["_law_word"] []
  k_law_open : PySem.W.keepIn K (.ref A.f_law_open) = true
  m_law_open : mg "_law_open" = some (.ref A.f_law_open)
  F_law_name : Fun K "_law_name" "_law_name" s_law_name A.f_law_name A.d_law_name
  b_law_name : Binds K A.d_law_name ["_law_cell"] []
  k_law_name : PySem.W.keepIn K (.ref A.f_law_name) = true
  m_law_name : mg "_law_name" = some (.ref A.f_law_name)
  F_law_number : Fun K "_law_number" "_law_number" s_law_number A.f_law_number A.d_law_number
  b_law_number : Binds K A.d_law_number ["_law_cell"] []
  k_law_number : PySem.W.keepIn K (.ref A.f_law_number) = true
  m_law_number : mg "_law_number" = some (.ref A.f_law_number)
  F_law_atom : Fun K "_law_atom" "_law_atom" s_law_atom A.f_law_atom A.d_law_atom
  b_law_atom : Binds K A.d_law_atom ["_law_cell"] []
  k_law_atom : PySem.W.keepIn K (.ref A.f_law_atom) = true
  m_law_atom : mg "_law_atom" = some (.ref A.f_law_atom)
  F_law_saying : Fun K "_law_saying" "_law_saying" s_law_saying A.f_law_saying A.d_law_saying
  b_law_saying : Binds K A.d_law_saying ["_law_cell", "_law_deep"] []
  k_law_saying : PySem.W.keepIn K (.ref A.f_law_saying) = true
  m_law_saying : mg "_law_saying" = some (.ref A.f_law_saying)
  F_law_sheet : Fun K "_law_sheet" "_law_sheet" s_law_sheet A.f_law_sheet A.d_law_sheet
  b_law_sheet : Binds K A.d_law_sheet ["_law_cell"] []
  k_law_sheet : PySem.W.keepIn K (.ref A.f_law_sheet) = true
  m_law_sheet : mg "_law_sheet" = some (.ref A.f_law_sheet)
  F_law_sheet_rows : Fun K "_law_sheet_rows" "_law_sheet_rows" s_law_sheet_rows A.f_law_sheet_rows A.d_law_sheet_rows
  b_law_sheet_rows : Binds K A.d_law_sheet_rows ["_law_sheet_here"] []
  k_law_sheet_rows : PySem.W.keepIn K (.ref A.f_law_sheet_rows) = true
  m_law_sheet_rows : mg "_law_sheet_rows" = some (.ref A.f_law_sheet_rows)
  F_law_way_fits : Fun K "_law_way_fits" "_law_way_fits" s_law_way_fits A.f_law_way_fits A.d_law_way_fits
  b_law_way_fits : Binds K A.d_law_way_fits ["_law_found", "_law_due"] []
  k_law_way_fits : PySem.W.keepIn K (.ref A.f_law_way_fits) = true
  m_law_way_fits : mg "_law_way_fits" = some (.ref A.f_law_way_fits)
  F_law_sheet_fits : Fun K "_law_sheet_fits" "_law_sheet_fits" s_law_sheet_fits A.f_law_sheet_fits A.d_law_sheet_fits
  b_law_sheet_fits : Binds K A.d_law_sheet_fits ["_law_found", "_law_due"] []
  k_law_sheet_fits : PySem.W.keepIn K (.ref A.f_law_sheet_fits) = true
  m_law_sheet_fits : mg "_law_sheet_fits" = some (.ref A.f_law_sheet_fits)
  F_law : Fun K "law" "law" s_law A.f_law A.d_law
  b_law : Binds K A.d_law ["_law_script"] []
  k_law : PySem.W.keepIn K (.ref A.f_law) = true
  m_law : mg "law" = some (.ref A.f_law)
  g_DEEPEST : GlobV mg "DEEPEST" (.int 8)
  g_FIGURES : GlobV mg "FIGURES" (.str "0123456789")
  g_HOWS : GlobV mg "HOWS" (.ref A.a_HOWS)
  q_HOWS : ∀ H, SqT K H A.a_HOWS [(.str "<"), (.str "="), (.str ">")]
  g_LETTERS : GlobV mg "LETTERS" (.str "abcdefghijklmnopqrstuvwxyz")
  g_LONGEST_NAME : GlobV mg "LONGEST_NAME" (.int 12)
  g_MOST_ATOMS_reading : GlobV mg "MOST_ATOMS_reading" (.int 60)
  g_MOST_ATOMS_sayings : GlobV mg "MOST_ATOMS_sayings" (.int 16)
  g_MOST_ROWS : GlobV mg "MOST_ROWS" (.int 100)
  g_MOST_SHEETS : GlobV mg "MOST_SHEETS" (.int 12)
  g_MOST_WAYS : GlobV mg "MOST_WAYS" (.int 4)
  g_NO_NAMES : GlobV mg "NO_NAMES" (.ref A.a_NO_NAMES)
  q_NO_NAMES : ∀ H, SqT K H A.a_NO_NAMES [(.str "and"), (.str "each"), (.str "end"), (.str "is"), (.str "not"), (.str "or"), (.str "unless"), (.str "when")]
  n_all : mg "all" = none
  n_bool : mg "bool" = none
  n_int : mg "int" = none
  n_isinstance : mg "isinstance" = none
  n_len : mg "len" = none
  n_list : mg "list" = none
  n_range : mg "range" = none
  n_str : mg "str" = none
  n_tuple : mg "tuple" = none
  n_zip : mg "zip" = none
  i_NoneType_int : PySem.W.kitOne K (.type "NoneType") (.type "int") = some false
  i_bool_int : PySem.W.kitOne K (.type "bool") (.type "int") = some true
  i_int_int : PySem.W.kitOne K (.type "int") (.type "int") = some true
  i_str_int : PySem.W.kitOne K (.type "str") (.type "int") = some false
  i_list_int : PySem.W.kitOne K (.type "list") (.type "int") = some false
  i_tuple_int : PySem.W.kitOne K (.type "tuple") (.type "int") = some false
  i_dict_int : PySem.W.kitOne K (.type "dict") (.type "int") = some false
  i_NoneType_bool : PySem.W.kitOne K (.type "NoneType") (.type "bool") = some false
  i_bool_bool : PySem.W.kitOne K (.type "bool") (.type "bool") = some true
  i_int_bool : PySem.W.kitOne K (.type "int") (.type "bool") = some false
  i_str_bool : PySem.W.kitOne K (.type "str") (.type "bool") = some false
  i_list_bool : PySem.W.kitOne K (.type "list") (.type "bool") = some false
  i_tuple_bool : PySem.W.kitOne K (.type "tuple") (.type "bool") = some false
  i_dict_bool : PySem.W.kitOne K (.type "dict") (.type "bool") = some false
  i_NoneType_str : PySem.W.kitOne K (.type "NoneType") (.type "str") = some false
  i_bool_str : PySem.W.kitOne K (.type "bool") (.type "str") = some false
  i_int_str : PySem.W.kitOne K (.type "int") (.type "str") = some false
  i_str_str : PySem.W.kitOne K (.type "str") (.type "str") = some true
  i_list_str : PySem.W.kitOne K (.type "list") (.type "str") = some false
  i_tuple_str : PySem.W.kitOne K (.type "tuple") (.type "str") = some false
  i_dict_str : PySem.W.kitOne K (.type "dict") (.type "str") = some false
  i_NoneType_list : PySem.W.kitOne K (.type "NoneType") (.type "list") = some false
  i_bool_list : PySem.W.kitOne K (.type "bool") (.type "list") = some false
  i_int_list : PySem.W.kitOne K (.type "int") (.type "list") = some false
  i_str_list : PySem.W.kitOne K (.type "str") (.type "list") = some false
  i_list_list : PySem.W.kitOne K (.type "list") (.type "list") = some true
  i_tuple_list : PySem.W.kitOne K (.type "tuple") (.type "list") = some false
  i_dict_list : PySem.W.kitOne K (.type "dict") (.type "list") = some false
  i_NoneType_tuple : PySem.W.kitOne K (.type "NoneType") (.type "tuple") = some false
  i_bool_tuple : PySem.W.kitOne K (.type "bool") (.type "tuple") = some false
  i_int_tuple : PySem.W.kitOne K (.type "int") (.type "tuple") = some false
  i_str_tuple : PySem.W.kitOne K (.type "str") (.type "tuple") = some false
  i_list_tuple : PySem.W.kitOne K (.type "list") (.type "tuple") = some false
  i_tuple_tuple : PySem.W.kitOne K (.type "tuple") (.type "tuple") = some true
  i_dict_tuple : PySem.W.kitOne K (.type "dict") (.type "tuple") = some false
  m_Ask : mg "Ask" = some (.ref A.c_Ask)
  v_Ask : GlobV mg "Ask" (.ref A.c_Ask)
  m_Both : mg "Both" = some (.ref A.c_Both)
  v_Both : GlobV mg "Both" (.ref A.c_Both)
  m_Check : mg "Check" = some (.ref A.c_Check)
  v_Check : GlobV mg "Check" (.ref A.c_Check)
  m_Compare : mg "Compare" = some (.ref A.c_Compare)
  v_Compare : GlobV mg "Compare" (.ref A.c_Compare)
  m_Draft : mg "Draft" = some (.ref A.c_Draft)
  v_Draft : GlobV mg "Draft" (.ref A.c_Draft)
  m_Either : mg "Either" = some (.ref A.c_Either)
  v_Either : GlobV mg "Either" (.ref A.c_Either)
  m_Is : mg "Is" = some (.ref A.c_Is)
  v_Is : GlobV mg "Is" (.ref A.c_Is)
  m_NoNumber : mg "NoNumber" = some (.ref A.c_NoNumber)
  v_NoNumber : GlobV mg "NoNumber" (.ref A.c_NoNumber)
  m_NoSaying : mg "NoSaying" = some (.ref A.c_NoSaying)
  v_NoSaying : GlobV mg "NoSaying" (.ref A.c_NoSaying)
  m_Not : mg "Not" = some (.ref A.c_Not)
  v_Not : GlobV mg "Not" (.ref A.c_Not)
  m_Pair : mg "Pair" = some (.ref A.c_Pair)
  v_Pair : GlobV mg "Pair" (.ref A.c_Pair)
  m_Paper : mg "Paper" = some (.ref A.c_Paper)
  v_Paper : GlobV mg "Paper" (.ref A.c_Paper)
  m_Row : mg "Row" = some (.ref A.c_Row)
  v_Row : GlobV mg "Row" (.ref A.c_Row)
  m_Saying : mg "Saying" = some (.ref A.c_Saying)
  v_Saying : GlobV mg "Saying" (.ref A.c_Saying)
  m_Sheet : mg "Sheet" = some (.ref A.c_Sheet)
  v_Sheet : GlobV mg "Sheet" (.ref A.c_Sheet)
  m_WordsLeft : mg "WordsLeft" = some (.ref A.c_WordsLeft)
  v_WordsLeft : GlobV mg "WordsLeft" (.ref A.c_WordsLeft)
  x_NoNumber : PySem.W.excIn K A.c_NoNumber mroVE "ValueError.__new__" = true
  ec_NoNumber : ExcCls K A.c_NoNumber
  x_NoSaying : PySem.W.excIn K A.c_NoSaying mroVE "ValueError.__new__" = true
  ec_NoSaying : ExcCls K A.c_NoSaying
  em_NoNumber_NoNumber : PySem.W.exmOne K (.ref A.c_NoNumber) (.ref A.c_NoNumber) = some true
  kr_Is_WordsLeft : PySem.W.kitOne K (.ref A.c_Is) (.ref A.c_WordsLeft) = some false
  kr_Compare_WordsLeft : PySem.W.kitOne K (.ref A.c_Compare) (.ref A.c_WordsLeft) = some false
  kr_Not_WordsLeft : PySem.W.kitOne K (.ref A.c_Not) (.ref A.c_WordsLeft) = some false
  kr_Both_WordsLeft : PySem.W.kitOne K (.ref A.c_Both) (.ref A.c_WordsLeft) = some false
  kr_Either_WordsLeft : PySem.W.kitOne K (.ref A.c_Either) (.ref A.c_WordsLeft) = some false
  kr_Is_Is : PySem.W.kitOne K (.ref A.c_Is) (.ref A.c_Is) = some true
  kr_Compare_Compare : PySem.W.kitOne K (.ref A.c_Compare) (.ref A.c_Compare) = some true
  kr_Not_Not : PySem.W.kitOne K (.ref A.c_Not) (.ref A.c_Not) = some true
  kr_Both_Both : PySem.W.kitOne K (.ref A.c_Both) (.ref A.c_Both) = some true
  kr_Either_Either : PySem.W.kitOne K (.ref A.c_Either) (.ref A.c_Either) = some true
  kr_Check_Ask : PySem.W.kitOne K (.ref A.c_Check) (.ref A.c_Ask) = some false
  kr_Check_Check : PySem.W.kitOne K (.ref A.c_Check) (.ref A.c_Check) = some true
  cl_Is : Cls K A.c_Is
  ty_Is : ∀ (H : Hp) (a dx : Addr) (fs : List (Str × V)), H a = some (.ins A.c_Is dx fs) → TyOf K H (.ref a) (.ref A.c_Is)
  mk_Is : Mk K A.c_Is A.f_c_Is___init
  me_Is_shown : Meth K A.c_Is "shown" A.f_c_Is_shown
  me_Is_atoms : Meth K A.c_Is "atoms" A.f_c_Is_atoms
  no_Is_name : NoAttr K A.c_Is "name"
  no_Is_word : NoAttr K A.c_Is "word"
  no_Is_place : NoAttr K A.c_Is "place"
  cl_Compare : Cls K A.c_Compare
  ty_Compare : ∀ (H : Hp) (a dx : Addr) (fs : List (Str × V)), H a = some (.ins A.c_Compare dx fs) → TyOf K H (.ref a) (.ref A.c_Compare)
  mk_Compare : Mk K A.c_Compare A.f_c_Compare___init
  me_Compare_shown : Meth K A.c_Compare "shown" A.f_c_Compare_shown
  me_Compare_atoms : Meth K A.c_Compare "atoms" A.f_c_Compare_atoms
  no_Compare_name : NoAttr K A.c_Compare "name"
  no_Compare_how : NoAttr K A.c_Compare "how"
  no_Compare_number : NoAttr K A.c_Compare "number"
  cl_Not : Cls K A.c_Not
  ty_Not : ∀ (H : Hp) (a dx : Addr) (fs : List (Str × V)), H a = some (.ins A.c_Not dx fs) → TyOf K H (.ref a) (.ref A.c_Not)
  mk_Not : Mk K A.c_Not A.f_c_Not___init
  me_Not_shown : Meth K A.c_Not "shown" A.f_c_Not_shown
  me_Not_atoms : Meth K A.c_Not "atoms" A.f_c_Not_atoms
  no_Not_test : NoAttr K A.c_Not "test"
  cl_Both : Cls K A.c_Both
  ty_Both : ∀ (H : Hp) (a dx : Addr) (fs : List (Str × V)), H a = some (.ins A.c_Both dx fs) → TyOf K H (.ref a) (.ref A.c_Both)
  mk_Both : Mk K A.c_Both A.f_c_Pair___init
  me_Both_shown : Meth K A.c_Both "shown" A.f_c_Both_shown
  me_Both_atoms : Meth K A.c_Both "atoms" A.f_c_Pair_atoms
  me_Both_shown_with : Meth K A.c_Both "shown_with" A.f_c_Pair_shown_with
  no_Both_one : NoAttr K A.c_Both "one"
  no_Both_other : NoAttr K A.c_Both "other"
  cl_Either : Cls K A.c_Either
  ty_Either : ∀ (H : Hp) (a dx : Addr) (fs : List (Str × V)), H a = some (.ins A.c_Either dx fs) → TyOf K H (.ref a) (.ref A.c_Either)
  mk_Either : Mk K A.c_Either A.f_c_Pair___init
  me_Either_shown : Meth K A.c_Either "shown" A.f_c_Either_shown
  me_Either_atoms : Meth K A.c_Either "atoms" A.f_c_Pair_atoms
  me_Either_shown_with : Meth K A.c_Either "shown_with" A.f_c_Pair_shown_with
  no_Either_one : NoAttr K A.c_Either "one"
  no_Either_other : NoAttr K A.c_Either "other"
  cl_WordsLeft : Cls K A.c_WordsLeft
  ty_WordsLeft : ∀ (H : Hp) (a dx : Addr) (fs : List (Str × V)), H a = some (.ins A.c_WordsLeft dx fs) → TyOf K H (.ref a) (.ref A.c_WordsLeft)
  mk_WordsLeft : Mk K A.c_WordsLeft A.f_c_WordsLeft___init
  me_WordsLeft_take : Meth K A.c_WordsLeft "take" A.f_c_WordsLeft_take
  me_WordsLeft_are_all_taken : Meth K A.c_WordsLeft "are_all_taken" A.f_c_WordsLeft_are_all_taken
  no_WordsLeft_words : NoAttr K A.c_WordsLeft "words"
  no_WordsLeft_taken : NoAttr K A.c_WordsLeft "taken"
  cl_Check : Cls K A.c_Check
  ty_Check : ∀ (H : Hp) (a dx : Addr) (fs : List (Str × V)), H a = some (.ins A.c_Check dx fs) → TyOf K H (.ref a) (.ref A.c_Check)
  mk_Check : Mk K A.c_Check A.f_c_Check___init
  no_Check_name : NoAttr K A.c_Check "name"
  no_Check_test : NoAttr K A.c_Check "test"
  no_Check_firm : NoAttr K A.c_Check "firm"
  cl_Sheet : Cls K A.c_Sheet
  ty_Sheet : ∀ (H : Hp) (a dx : Addr) (fs : List (Str × V)), H a = some (.ins A.c_Sheet dx fs) → TyOf K H (.ref a) (.ref A.c_Sheet)
  mk_Sheet : Mk K A.c_Sheet A.f_c_Sheet___init
  no_Sheet_name : NoAttr K A.c_Sheet "name"
  no_Sheet_each : NoAttr K A.c_Sheet "each"
  no_Sheet_rows : NoAttr K A.c_Sheet "rows"
  no_Sheet_ways : NoAttr K A.c_Sheet "ways"
  cl_Paper : Cls K A.c_Paper
  ty_Paper : ∀ (H : Hp) (a dx : Addr) (fs : List (Str × V)), H a = some (.ins A.c_Paper dx fs) → TyOf K H (.ref a) (.ref A.c_Paper)
  mk_Paper : Mk K A.c_Paper A.f_c_Paper___init
  no_Paper_name : NoAttr K A.c_Paper "name"
  no_Paper_sheets : NoAttr K A.c_Paper "sheets"
  no_Paper_totals : NoAttr K A.c_Paper "totals"
  cl_Draft : Cls K A.c_Draft
  ty_Draft : ∀ (H : Hp) (a dx : Addr) (fs : List (Str × V)), H a = some (.ins A.c_Draft dx fs) → TyOf K H (.ref a) (.ref A.c_Draft)
  mk_Draft : Mk K A.c_Draft A.f_c_Draft___init
  me_Draft_demand : Meth K A.c_Draft "demand" A.f_c_Draft_demand
  me_Draft_read_test : Meth K A.c_Draft "read_test" A.f_c_Draft_read_test
  me_Draft_read_when : Meth K A.c_Draft "read_when" A.f_c_Draft_read_when
  me_Draft_sheet_to_fill : Meth K A.c_Draft "sheet_to_fill" A.f_c_Draft_sheet_to_fill
  me_Draft_put_row : Meth K A.c_Draft "put_row" A.f_c_Draft_put_row
  me_Draft_take_paper : Meth K A.c_Draft "take_paper" A.f_c_Draft_take_paper
  me_Draft_take_sheet : Meth K A.c_Draft "take_sheet" A.f_c_Draft_take_sheet
  me_Draft_take_check : Meth K A.c_Draft "take_check" A.f_c_Draft_take_check
  me_Draft_take_way : Meth K A.c_Draft "take_way" A.f_c_Draft_take_way
  me_Draft_take_row : Meth K A.c_Draft "take_row" A.f_c_Draft_take_row
  me_Draft_take_line : Meth K A.c_Draft "take_line" A.f_c_Draft_take_line
  no_Draft_name : NoAttr K A.c_Draft "name"
  no_Draft_sheets : NoAttr K A.c_Draft "sheets"
  no_Draft_totals : NoAttr K A.c_Draft "totals"
  no_Draft_atoms_read : NoAttr K A.c_Draft "atoms_read"
  no_Draft_place : NoAttr K A.c_Draft "place"
  cf_Row_init : ClsFn K A.c_Row "__init__" A.f_c_Row___init
theorem sc_is_name : FnScope ["thing"] ["thing"] (defScope s_is_name) := ⟨rfl, rfl, rfl, by decide +kernel, rfl, by decide +kernel, by decide +kernel⟩
theorem sc_are_figures : FnScope ["text"] ["text"] (defScope s_are_figures) := ⟨rfl, rfl, rfl, by decide +kernel, rfl, by decide +kernel, by decide +kernel⟩
theorem sc_figures_worth : FnScope ["figures", "worth", "sign"] ["figures"] (defScope s_figures_worth) := ⟨rfl, rfl, rfl, by decide +kernel, rfl, by decide +kernel, by decide +kernel⟩
theorem sc_number_of : FnScope ["text", "most", "below", "figures", "worth"] ["text", "most"] (defScope s_number_of) := ⟨rfl, rfl, rfl, by decide +kernel, rfl, by decide +kernel, by decide +kernel⟩
theorem sc_number_or_none : FnScope ["text"] ["text"] (defScope s_number_or_none) := ⟨rfl, rfl, rfl, by decide +kernel, rfl, by decide +kernel, by decide +kernel⟩
theorem sc_c_Row___init : FnScope ["self", "name"] ["self", "name"] (defScope s_c_Row___init) := ⟨rfl, rfl, rfl, by decide +kernel, rfl, by decide +kernel, by decide +kernel⟩
theorem sc_c_Check___init : FnScope ["self", "name", "test", "firm"] ["self", "name", "test", "firm"] (defScope s_c_Check___init) := ⟨rfl, rfl, rfl, by decide +kernel, rfl, by decide +kernel, by decide +kernel⟩
theorem sc_c_Sheet___init : FnScope ["self", "name", "each", "rows", "ways"] ["self", "name", "each", "rows", "ways"] (defScope s_c_Sheet___init) := ⟨rfl, rfl, rfl, by decide +kernel, rfl, by decide +kernel, by decide +kernel⟩
theorem sc_c_Paper___init : FnScope ["self", "name", "sheets", "totals"] ["self", "name", "sheets", "totals"] (defScope s_c_Paper___init) := ⟨rfl, rfl, rfl, by decide +kernel, rfl, by decide +kernel, by decide +kernel⟩
theorem sc_c_Is___init : FnScope ["self", "name", "word", "place"] ["self", "name", "word", "place"] (defScope s_c_Is___init) := ⟨rfl, rfl, rfl, by decide +kernel, rfl, by decide +kernel, by decide +kernel⟩
theorem sc_c_Is_shown : FnScope ["self"] ["self"] (defScope s_c_Is_shown) := ⟨rfl, rfl, rfl, by decide +kernel, rfl, by decide +kernel, by decide +kernel⟩
theorem sc_c_Is_atoms : FnScope ["self"] ["self"] (defScope s_c_Is_atoms) := ⟨rfl, rfl, rfl, by decide +kernel, rfl, by decide +kernel, by decide +kernel⟩
theorem sc_c_Compare___init : FnScope ["self", "name", "how", "number"] ["self", "name", "how", "number"] (defScope s_c_Compare___init) := ⟨rfl, rfl, rfl, by decide +kernel, rfl, by decide +kernel, by decide +kernel⟩
theorem sc_c_Compare_shown : FnScope ["self"] ["self"] (defScope s_c_Compare_shown) := ⟨rfl, rfl, rfl, by decide +kernel, rfl, by decide +kernel, by decide +kernel⟩
theorem sc_c_Compare_atoms : FnScope ["self"] ["self"] (defScope s_c_Compare_atoms) := ⟨rfl, rfl, rfl, by decide +kernel, rfl, by decide +kernel, by decide +kernel⟩
theorem sc_c_Not___init : FnScope ["self", "test"] ["self", "test"] (defScope s_c_Not___init) := ⟨rfl, rfl, rfl, by decide +kernel, rfl, by decide +kernel, by decide +kernel⟩
theorem sc_c_Not_shown : FnScope ["self"] ["self"] (defScope s_c_Not_shown) := ⟨rfl, rfl, rfl, by decide +kernel, rfl, by decide +kernel, by decide +kernel⟩
theorem sc_c_Not_atoms : FnScope ["self"] ["self"] (defScope s_c_Not_atoms) := ⟨rfl, rfl, rfl, by decide +kernel, rfl, by decide +kernel, by decide +kernel⟩
theorem sc_c_Pair___init : FnScope ["self", "one", "other"] ["self", "one", "other"] (defScope s_c_Pair___init) := ⟨rfl, rfl, rfl, by decide +kernel, rfl, by decide +kernel, by decide +kernel⟩
theorem sc_c_Pair_shown_with : FnScope ["self", "word"] ["self", "word"] (defScope s_c_Pair_shown_with) := ⟨rfl, rfl, rfl, by decide +kernel, rfl, by decide +kernel, by decide +kernel⟩
theorem sc_c_Pair_atoms : FnScope ["self"] ["self"] (defScope s_c_Pair_atoms) := ⟨rfl, rfl, rfl, by decide +kernel, rfl, by decide +kernel, by decide +kernel⟩
theorem sc_c_Both_shown : FnScope ["self"] ["self"] (defScope s_c_Both_shown) := ⟨rfl, rfl, rfl, by decide +kernel, rfl, by decide +kernel, by decide +kernel⟩
theorem sc_c_Either_shown : FnScope ["self"] ["self"] (defScope s_c_Either_shown) := ⟨rfl, rfl, rfl, by decide +kernel, rfl, by decide +kernel, by decide +kernel⟩
theorem sc_c_WordsLeft___init : FnScope ["self", "words"] ["self", "words"] (defScope s_c_WordsLeft___init) := ⟨rfl, rfl, rfl, by decide +kernel, rfl, by decide +kernel, by decide +kernel⟩
theorem sc_c_WordsLeft_take : FnScope ["self", "word"] ["self"] (defScope s_c_WordsLeft_take) := ⟨rfl, rfl, rfl, by decide +kernel, rfl, by decide +kernel, by decide +kernel⟩
theorem sc_c_WordsLeft_are_all_taken : FnScope ["self"] ["self"] (defScope s_c_WordsLeft_are_all_taken) := ⟨rfl, rfl, rfl, by decide +kernel, rfl, by decide +kernel, by decide +kernel⟩
theorem sc_read_atom : FnScope ["name", "how", "what", "number"] ["name", "how", "what"] (defScope s_read_atom) := ⟨rfl, rfl, rfl, by decide +kernel, rfl, by decide +kernel, by decide +kernel⟩
theorem sc_read_pair : FnScope ["left", "deepest", "one", "word", "other", "closed"] ["left", "deepest"] (defScope s_read_pair) := ⟨rfl, rfl, rfl, by decide +kernel, rfl, by decide +kernel, by decide +kernel⟩
theorem sc_read_next : FnScope ["left", "deepest", "first"] ["left", "deepest"] (defScope s_read_next) := ⟨rfl, rfl, rfl, by decide +kernel, rfl, by decide +kernel, by decide +kernel⟩
theorem sc_read_saying : FnScope ["text", "left", "saying"] ["text"] (defScope s_read_saying) := ⟨rfl, rfl, rfl, by decide +kernel, rfl, by decide +kernel, by decide +kernel⟩
theorem sc_shown_when : FnScope ["saying"] ["saying"] (defScope s_shown_when) := ⟨rfl, rfl, rfl, by decide +kernel, rfl, by decide +kernel, by decide +kernel⟩
theorem sc_shown_row : FnScope ["row"] ["row"] (defScope s_shown_row) := ⟨rfl, rfl, rfl, by decide +kernel, rfl, by decide +kernel, by decide +kernel⟩
theorem sc_shown_sheet : FnScope ["sheet", "each", "rows", "ways"] ["sheet"] (defScope s_shown_sheet) := ⟨rfl, rfl, rfl, by decide +kernel, rfl, by decide +kernel, by decide +kernel⟩
theorem sc_shown_paper : FnScope ["paper", "lines", "sheet"] ["paper"] (defScope s_shown_paper) := ⟨rfl, rfl, rfl, by decide +kernel, rfl, by decide +kernel, by decide +kernel⟩
theorem sc_c_Draft___init : FnScope ["self"] ["self"] (defScope s_c_Draft___init) := ⟨rfl, rfl, rfl, by decide +kernel, rfl, by decide +kernel, by decide +kernel⟩
theorem sc_c_Draft_demand : FnScope ["self", "so"] ["self", "so"] (defScope s_c_Draft_demand) := ⟨rfl, rfl, rfl, by decide +kernel, rfl, by decide +kernel, by decide +kernel⟩
theorem sc_c_Draft_read_test : FnScope ["self", "text", "saying"] ["self", "text"] (defScope s_c_Draft_read_test) := ⟨rfl, rfl, rfl, by decide +kernel, rfl, by decide +kernel, by decide +kernel⟩
theorem sc_c_Draft_read_when : FnScope ["self", "parted"] ["self", "parted"] (defScope s_c_Draft_read_when) := ⟨rfl, rfl, rfl, by decide +kernel, rfl, by decide +kernel, by decide +kernel⟩
theorem sc_c_Draft_sheet_to_fill : FnScope ["self"] ["self"] (defScope s_c_Draft_sheet_to_fill) := ⟨rfl, rfl, rfl, by decide +kernel, rfl, by decide +kernel, by decide +kernel⟩
theorem sc_c_Draft_put_row : FnScope ["self", "row", "sheet"] ["self", "row"] (defScope s_c_Draft_put_row) := ⟨rfl, rfl, rfl, by decide +kernel, rfl, by decide +kernel, by decide +kernel⟩
theorem sc_c_Draft_take_paper : FnScope ["self", "rest"] ["self", "rest"] (defScope s_c_Draft_take_paper) := ⟨rfl, rfl, rfl, by decide +kernel, rfl, by decide +kernel, by decide +kernel⟩
theorem sc_c_Draft_take_sheet : FnScope ["self", "rest", "parted", "again"] ["self", "rest"] (defScope s_c_Draft_take_sheet) := ⟨rfl, rfl, rfl, by decide +kernel, rfl, by decide +kernel, by decide +kernel⟩
theorem sc_c_Draft_take_check : FnScope ["self", "rest", "firm", "parted"] ["self", "rest", "firm"] (defScope s_c_Draft_take_check) := ⟨rfl, rfl, rfl, by decide +kernel, rfl, by decide +kernel, by decide +kernel⟩
theorem sc_c_Draft_take_way : FnScope ["self", "rest", "parted", "sheet"] ["self", "rest"] (defScope s_c_Draft_take_way) := ⟨rfl, rfl, rfl, by decide +kernel, rfl, by decide +kernel, by decide +kernel⟩
theorem sc_c_Draft_take_row : FnScope ["self", "first", "rest"] ["self", "first", "rest"] (defScope s_c_Draft_take_row) := ⟨rfl, rfl, rfl, by decide +kernel, rfl, by decide +kernel, by decide +kernel⟩
theorem sc_c_Draft_take_line : FnScope ["self", "line", "parted"] ["self", "line"] (defScope s_c_Draft_take_line) := ⟨rfl, rfl, rfl, by decide +kernel, rfl, by decide +kernel, by decide +kernel⟩
theorem sc_read_paper : FnScope ["text", "draft", "line"] ["text"] (defScope s_read_paper) := ⟨rfl, rfl, rfl, by decide +kernel, rfl, by decide +kernel, by decide +kernel⟩
theorem sc_law_cell_at : FnScope ["_law_script", "_law_k"] ["_law_script", "_law_k"] (defScope s_law_cell_at) := ⟨rfl, rfl, rfl, by decide +kernel, rfl, by decide +kernel, by decide +kernel⟩
theorem sc_law_mixed : FnScope ["_law_cell", "_law_k", "_law_number_here"] ["_law_cell", "_law_k"] (defScope s_law_mixed) := ⟨rfl, rfl, rfl, by decide +kernel, rfl, by decide +kernel, by decide +kernel⟩
theorem sc_law_open : FnScope ["_law_word"] ["_law_word"] (defScope s_law_open) := ⟨rfl, rfl, rfl, by decide +kernel, rfl, by decide +kernel, by decide +kernel⟩
theorem sc_law_name : FnScope ["_law_cell", "_law_number_here", "_law_word", "_law_k"] ["_law_cell"] (defScope s_law_name) := ⟨rfl, rfl, rfl, by decide +kernel, rfl, by decide +kernel, by decide +kernel⟩
theorem sc_law_number : FnScope ["_law_cell"] ["_law_cell"] (defScope s_law_number) := ⟨rfl, rfl, rfl, by decide +kernel, rfl, by decide +kernel, by decide +kernel⟩
theorem sc_law_atom : FnScope ["_law_cell", "_law_name_here", "_law_word"] ["_law_cell"] (defScope s_law_atom) := ⟨rfl, rfl, rfl, by decide +kernel, rfl, by decide +kernel, by decide +kernel⟩
theorem sc_law_saying : FnScope ["_law_cell", "_law_deep", "_law_way", "_law_one", "_law_other"] ["_law_cell", "_law_deep"] (defScope s_law_saying) := ⟨rfl, rfl, rfl, by decide +kernel, rfl, by decide +kernel, by decide +kernel⟩
theorem sc_law_sheet : FnScope ["_law_cell", "_law_ways", "_law_k", "_law_one", "_law_target", "_law_saying_here", "_law_checks", "_law_each"] ["_law_cell"] (defScope s_law_sheet) := ⟨rfl, rfl, rfl, by decide +kernel, rfl, by decide +kernel, by decide +kernel⟩
theorem sc_law_sheet_rows : FnScope ["_law_sheet_here", "_law_rows", "_law_name_here", "_law_saying_here", "_law_firm", "_law_target"] ["_law_sheet_here"] (defScope s_law_sheet_rows) := ⟨rfl, rfl, rfl, by decide +kernel, rfl, by decide +kernel, by decide +kernel⟩
theorem sc_law_way_fits : FnScope ["_law_found", "_law_due"] ["_law_found", "_law_due"] (defScope s_law_way_fits) := ⟨rfl, rfl, rfl, by decide +kernel, rfl, by decide +kernel, by decide +kernel⟩
theorem sc_law_sheet_fits : FnScope ["_law_found", "_law_due", "_law_row", "_law_check", "_law_way", "_law_other"] ["_law_found", "_law_due"] (defScope s_law_sheet_fits) := ⟨rfl, rfl, rfl, by decide +kernel, rfl, by decide +kernel, by decide +kernel⟩
theorem sc_law : FnScope ["_law_script", "_law_sheets", "_law_name_here", "_law_rows", "_law_sheet_here", "_law_text", "_law_paper", "_law_found", "_law_due", "_law_told"] ["_law_script"] (defScope s_law) := ⟨rfl, rfl, rfl, by decide +kernel, rfl, by decide +kernel, by decide +kernel⟩
end K23
set_option maxHeartbeats 4000000
namespace K23
open PySem L2
seal PE PT PW PA PS PSs PG PGs PI PO PSet OpR UnR CallR TruR IxR SlR PC PPs
local macro_rules | `(tactic| walk_at "rd1") => `(tactic| first
  | (refine And.intro rfl ?_)
  | (refine And.intro (by assumption) ?_)
  | (refine And.intro (fun _ e => e) ?_)
  | (refine And.intro (TyOf.str _) ?_) | (refine And.intro (TyOf.int _) ?_) | (refine And.intro (TyOf.bl _) ?_) | (refine And.intro TyOf.non ?_)
  | (refine iteT ?_) | (refine iteF ?_)
  | (apply Exists.intro))
local macro_rules | `(tactic| walk_at "rd") => `(tactic| repeat (walk_at "rd1"))

def spFig : Sp := fun vs H Q _ => ∃ z, vs = [.str z] ∧ z.length ≤ sizeLine ∧ ∀ H', Same H H' → Q (.bl (figB (cd z))) H'
def spWorth : Sp := fun vs H Q _ => ∃ z, vs = [.str z] ∧ z.length ≤ 1000 ∧ (cd z).all inF = true ∧ Q (.int (val (cd z))) H
def spNum (K : PySem.W.Frag) (A : Adr) : Sp := fun vs H Q E => ∃ x most, vs = [x, .int most] ∧ 1 ≤ most ∧ ((∃ z, x = .str z ∧ Fine 1000 z ∧ (∀ n H', Same H H' → numB (cd z) most = some n → Q (.int n) H') ∧ (∀ H', Same H H' → numB (cd z) most = none → E (.ref A.c_NoNumber) none H')) ∨ (∃ t, TyE K H x t ∧ PySem.W.kitOne K t (.type "str") = some false ∧ ∀ H', Same H H' → E (.ref A.c_NoNumber) none H'))
section
variable {P : Program} {w : World} {K : PySem.W.Frag} {mg : Str → Option Value} {base : Heap} {A : Adr}
theorem ok_are_figures (T : Txt K mg A) : FnOk P w K mg base CX0 1 A.f_are_figures A.d_are_figures ["text"] spFig := by
  refine T.F_are_figures.ok sc_are_figures (fun vs H Q E h => ?_) (fun cdv A0 outer s H vs Q E hr h => ?_)
  · obtain ⟨x, rfl, _⟩ := h
    rfl
  obtain ⟨z, rfl, hz, q⟩ := h
  refine ⟨_, (pss_one (ps_ret (pe_and (pe_cmpR op_gt (pe_callB call_len_str (by rfl) T.n_len PySem.boot_len (pa_cons (pv 0) pa_nil)) pe_int (nomark _)) (pe_one (pe_callB (call_all rfl) (by rfl) T.n_all Bt.all (pa_cons (pe_compR (compOk_of (x := "sign") (M := ["text"]) rfl (by rfl)) rfl (pi_str (pv 0)) (fun _ _ _ _ => (pe_cmpR op_in_str (pv 0) (pe_gv rfl T.g_FIGURES) (by rfl)))) pa_nil)))))), ?_⟩
  walk_at "rd"
  refine ite2 (fun c => ?_) (fun c => ?_)
  · walk_at "rd"
    refine comp_strR hz (fun i ys H' => H' = H ∧ ys = ((cd z).take i).map fun c => V.bl (inF c)) ⟨rfl, rfl⟩ (fun i c ys H' hc hl hw => ?_) (fun ys H' hl hw p hp => ?_)
    · obtain ⟨rfl, rfl⟩ := hw
      walk_at "rd"
      rw [List.take_succ, hc]
      simp [inF, FIG]
    · obtain ⟨rfl, rfl⟩ := hw
      have e : (cd z).take z.length = cd z := List.take_of_length_le (by rw [len_cd]; exact Nat.le_refl _)
      rw [e]
      refine ⟨p, (cd z).map inF, rfl, SqL.of (by rw [upd_same, List.map_map]; rfl), ?_⟩
      have e2 : figB (cd z) = ((cd z).map inF).all id := by
        unfold figB
        have c' : (0 : Int) < z.length := of_decide_eq_true c
        rw [decide_eq_true (by rw [← len_cd]; omega), List.all_map]
        rfl
      rw [e2] at q
      exact q _ (same_new hp _)
  · have e : figB (cd z) = false := by
      unfold figB
      have c' : ¬ (0 : Int) < z.length := of_decide_eq_false (Bool.eq_false_iff.mpr c)
      rw [decide_eq_false (by rw [← len_cd]; omega)]
      rfl
    rw [e] at q
    exact q _ (Same.refl _)
theorem ok_figures_worth (T : Txt K mg A) : FnOk P w K mg base CX0 1 A.f_figures_worth A.d_figures_worth ["figures"] spWorth := by
  refine T.F_figures_worth.ok sc_figures_worth (fun vs H Q E h => ?_) (fun cdv A0 outer s H vs Q E hr h => ?_)
  · obtain ⟨x, rfl, _⟩ := h
    rfl
  obtain ⟨z, rfl, hz, hF, q⟩ := h
  refine ⟨_, (pss_cons (ps_set (i := 1) sc_figures_worth.nd rfl (by first | exact Or.inl rfl | exact Or.inr rfl) pe_int)
      (pss_cons (ps_forR PassesOwn.never rfl (pi_str (pv 0)) (pg_name (i := 2) sc_figures_worth.nd rfl (by first | exact Or.inl rfl | exact Or.inr rfl)) (pss_one (ps_set (i := 1) sc_figures_worth.nd rfl (by first | exact Or.inl rfl | exact Or.inr rfl) (pe_op op_add (pe_op op_mulB (pv 1) pe_int) (pe_bm PySem.F.plainAttrs_str PySem.F.slot_str_find PySem.F.type_str_find mt_find (pe_gv rfl T.g_FIGURES) (pa_cons (pv 2) pa_nil))))))
      (pss_one (ps_ret (pv 1))))), ?_⟩
  walk_at "rd"
  refine for_strR (fun i σ H' => H' = H ∧ ∃ v, σ = [some (.str z), some (.int (val ((cd z).take i))), v]) ⟨rfl, ⟨_, rfl⟩⟩ (fun i c σ H' hc hp => ?_) (fun σ H' hp => ?_)
  · obtain ⟨rfl, v, rfl⟩ := hp
    have hi : i < (cd z).length := (List.getElem?_eq_some_iff.mp hc).1
    have hcF : inF c = true := List.all_eq_true.mp hF c (List.mem_of_getElem? hc)
    have hb := val_bound i ((cd z).take i) (by rw [List.length_take]; omega) (by
      rw [List.all_eq_true]; intro x hx; exact List.all_eq_true.mp hF x (List.mem_of_mem_take hx))
    have hb2 := pow10_ib hb.1 hb.2
    rw [← len_cd] at hi
    refine ⟨_, rfl, _, _, rfl, rfl, ⟨by show ib _ ≤ 60000000; omega, by decide⟩, ?_⟩
    walk_at "rd"
    have e : Txt.find FIG (S [c]) = ((c - 48 : Nat) : Int) := findF hcF
    show some _ :: some (V.int (val ((cd z).take i) * 10 + Txt.find FIG (S [c]))) :: _ = _
    rw [e, val_take hc]
    rfl
  · obtain ⟨rfl, v, rfl⟩ := hp
    have e : (cd z).take z.length = cd z := List.take_of_length_le (by rw [len_cd]; exact Nat.le_refl _)
    rw [e]
    exact ⟨_, rfl, q⟩
theorem ok_number_of (T : Txt K mg A) : FnOk P w K mg base (CXW P w) 2 A.f_number_of A.d_number_of ["text", "most"] (spNum K A) := by
  have G_are_figures := ok_are_figures (P := P) (w := w) (base := base) T
  have G_figures_worth := ok_figures_worth (P := P) (w := w) (base := base) T
  refine T.F_number_of.okX sc_number_of (fun vs H Q E h => ?_) (fun cdv A0 outer s H vs Q E hr h => ?_)
  · obtain ⟨x, most, rfl, _⟩ := h
    rfl
  obtain ⟨x, most, rfl, hm, h⟩ := h
  refine ⟨_, (pss_cons (ps_if (pt_not (pt_val (pe_callB call_isi (by rfl) T.n_isinstance Bt.isinstance (pa_cons (pv 0) (pa_cons (pe_bltn (v := .ty "str") rfl T.n_str Bt.str rfl) pa_nil))))) (pss_one (ps_raise T.m_NoNumber T.x_NoNumber (pa_cons pe_str pa_nil) rfl)) pss_nil)
      (pss_cons (ps_if (pt_cmpR op_eq (pv 0) pe_str (nomark _)) (pss_one (ps_ret pe_int)) pss_nil)
      (pss_cons (ps_set (i := 2) sc_number_of.nd rfl (by first | exact Or.inl rfl | exact Or.inr rfl) (pe_bm PySem.F.plainAttrs_str PySem.F.slot_str_startswith PySem.F.type_str_startswith mt_startswith (pv 0) (pa_cons pe_str pa_nil)))
      (pss_cons (ps_set (i := 3) sc_number_of.nd rfl (by first | exact Or.inl rfl | exact Or.inr rfl) (pe_ifExp (pt_val (pv 2)) (pe_slice sl_str (pv 0) (po_some pe_int) po_none) (pv 0)))
      (pss_cons (ps_if (PW.pt (pw_or (pt_not (pt_val (pe_call G_are_figures (hr.mono (by first | decide | omega)) rfl T.m_are_figures T.k_are_figures T.b_are_figures .nil pass0 (pa_cons (pv 3) pa_nil)))) (pw_or (pt_cmpR op_eq (pe_ix ix_str (pv 3) pe_int (fun _ _ => rfl)) pe_str (nomark _)) (pw_or1 (pt_cmpR op_gt (pe_callB call_len_str (by rfl) T.n_len PySem.boot_len (pa_cons (pv 3) pa_nil)) (pv 1) (nomark _)))))) (pss_one (ps_raise T.m_NoNumber T.x_NoNumber (pa_cons (pe_fstrR (pv 0)) pa_nil) rfl)) pss_nil)
      (pss_cons (ps_set (i := 4) sc_number_of.nd rfl (by first | exact Or.inl rfl | exact Or.inr rfl) (pe_call G_figures_worth (hr.mono (by first | decide | omega)) rfl T.m_figures_worth T.k_figures_worth T.b_figures_worth .nil pass0 (pa_cons (pv 3) pa_nil)))
      (pss_one (ps_ret (pe_ifExp (pt_val (pv 2)) (pe_un un_neg (pv 4)) (pv 4)))))))))), ?_⟩
  rcases h with ⟨z, rfl, hz, qs, qn⟩ | ⟨t, ty, kt, q⟩
  · refine ⟨_, rfl, _, _, _, _, rfl, rfl, .old (.str z), T.i_str_str, _, rfl, iteF ?_⟩
    refine ⟨_, rfl, rfl, _, rfl, ?_⟩
    refine ite2 (fun c => ?_) (fun c => ?_) <;> rw [dec_cd, show cd (Str.ofString "0") = [48] by decide +kernel] at c
    · have c' : cd z = [48] := of_decide_eq_true c
      refine qs _ _ (Same.refl _) ?_
      rw [c']; exact numB_zero hm
    have c0 : cd z ≠ [48] := of_decide_eq_false (Bool.eq_false_iff.mpr c)
    have es := starts1 z 45
    rw [show S [45] = (Str.ofString "-") by decide +kernel] at es
    have hz2 : z.length ≤ sizeLine := hz.size
    cases hb : PySem.Txt.startswith z (Str.ofString "-") <;> rw [hb] at es
    · have c1 : ¬ (cd z).take 1 = [45] := of_decide_eq_false es.symm
      obtain ⟨f, rfl⟩ : ∃ f, z = f := ⟨z, rfl⟩
      have ef : cd z = fig (cd z) := (if_neg c1).symm
      have hf1 : z.length ≤ 1000 := hz.len
      have hf2 := hz2
      walk_at "rd"
      rw [hb]
      walk_at "rd" 
      intro H1 s1
      cases hf : figB (cd z)
      · refine ⟨_, rfl, iteT ⟨_, rfl, z, rfl, Nat.le_trans hz.len (by decide), hz.cod, fun y => ⟨(by show 1 ≤ sizeLine; decide), qn _ s1 (numB_no1 (by rw [← ef]; exact hf))⟩⟩⟩
      refine ⟨_, rfl, iteF ?_⟩
      obtain ⟨f1, f2⟩ := (figB_iff _).mp hf
      obtain ⟨k, hk, hk1⟩ := take1_at (l := cd z) f1
      refine ⟨_, rfl, z, 0, k, rfl, rfl, hf2, hk, rfl, _, rfl, ?_⟩
      refine ite2 (fun c2 => ?_) (fun c2 => ?_) <;> rw [dec_cd, show cd (Str.ofString "0") = [48] by decide +kernel] at c2
      · have c3 : (fig (cd z)).take 1 = [48] := by rw [← ef, hk1]; exact of_decide_eq_true c2
        exact ⟨_, rfl, z, rfl, Nat.le_trans hz.len (by decide), hz.cod, fun y => ⟨(by show 1 ≤ sizeLine; decide), qn _ s1 (numB_no2 c3 c0)⟩⟩
      have c3 : ¬ (fig (cd z)).take 1 = [48] := by rw [← ef, hk1]; exact of_decide_eq_false (Bool.eq_false_iff.mpr c2)
      refine ⟨_, rfl, _, rfl, hf2, _, rfl, _, _, rfl, rfl, _, rfl, ?_⟩
      rw [len_cd z, ef]
      refine ite2 (fun c4 => ?_) (fun c4 => ?_)
      · have c5 : most < ((fig (cd z)).length : Nat) := of_decide_eq_true c4
        exact ⟨_, rfl, z, rfl, Nat.le_trans hz.len (by decide), hz.cod, fun y => ⟨(by show 1 ≤ sizeLine; decide), qn _ s1 (numB_no3 c5)⟩⟩
      have c5 : ¬ most < ((fig (cd z)).length : Nat) := of_decide_eq_false (Bool.eq_false_iff.mpr c4)
      have yes := numB_yes (by rw [← ef]; exact hf) c3 c5
      rw [if_neg c1, ← ef] at yes
      refine ⟨_, rfl, z, rfl, hf1, f2, ?_⟩
      walk_at "rd"
      exact qs _ _ s1 yes
    · have c1 : (cd z).take 1 = [45] := of_decide_eq_true es.symm
      walk_at "rd"
      rw [hb]
      walk_at "rd"
      obtain ⟨f, hfe⟩ : ∃ f, S (cutN (cd z) (some 1) none) = f := ⟨_, rfl⟩
      rw [hfe]
      have ef : cd f = fig (cd z) := by rw [← hfe, cd_S]; exact (cutFrom (cd z) 1).trans (if_pos c1).symm
      have hf1 : f.length ≤ 1000 := by rw [← hfe]; exact (hz.cut _ _).len
      have hf2 : f.length ≤ sizeLine := by rw [← hfe]; exact (hz.cut _ _).size
      refine ⟨hf2, ?_⟩
      intro H1 s1
      cases hf : figB (cd f)
      · refine ⟨_, rfl, iteT ⟨_, rfl, z, rfl, Nat.le_trans hz.len (by decide), hz.cod, fun y => ⟨(by show 1 ≤ sizeLine; decide), qn _ s1 (numB_no1 (by rw [← ef]; exact hf))⟩⟩⟩
      refine ⟨_, rfl, iteF ?_⟩
      obtain ⟨f1, f2⟩ := (figB_iff _).mp hf
      obtain ⟨k, hk, hk1⟩ := take1_at (l := cd f) f1
      refine ⟨_, rfl, f, 0, k, rfl, rfl, hf2, hk, rfl, _, rfl, ?_⟩
      refine ite2 (fun c2 => ?_) (fun c2 => ?_) <;> rw [dec_cd, show cd (Str.ofString "0") = [48] by decide +kernel] at c2
      · have c3 : (fig (cd z)).take 1 = [48] := by rw [← ef, hk1]; exact of_decide_eq_true c2
        exact ⟨_, rfl, z, rfl, Nat.le_trans hz.len (by decide), hz.cod, fun y => ⟨(by show 1 ≤ sizeLine; decide), qn _ s1 (numB_no2 c3 c0)⟩⟩
      have c3 : ¬ (fig (cd z)).take 1 = [48] := by rw [← ef, hk1]; exact of_decide_eq_false (Bool.eq_false_iff.mpr c2)
      refine ⟨_, rfl, _, rfl, hf2, _, rfl, _, _, rfl, rfl, _, rfl, ?_⟩
      rw [len_cd f, ef]
      refine ite2 (fun c4 => ?_) (fun c4 => ?_)
      · have c5 : most < ((fig (cd z)).length : Nat) := of_decide_eq_true c4
        exact ⟨_, rfl, z, rfl, Nat.le_trans hz.len (by decide), hz.cod, fun y => ⟨(by show 1 ≤ sizeLine; decide), qn _ s1 (numB_no3 c5)⟩⟩
      have c5 : ¬ most < ((fig (cd z)).length : Nat) := of_decide_eq_false (Bool.eq_false_iff.mpr c4)
      have yes := numB_yes (by rw [← ef]; exact hf) c3 c5
      rw [if_pos c1, ← ef] at yes
      refine ⟨_, rfl, f, rfl, hf1, f2, ?_⟩
      walk_at "rd"
      exact qs _ _ s1 yes
  · refine ⟨_, rfl, _, _, _, _, rfl, rfl, ty, kt, _, rfl, iteT ?_⟩
    refine ⟨(by show 1 ≤ sizeLine; decide), q _ (Same.refl _)⟩
end
end K23
set_option maxHeartbeats 4000000
namespace K23
open PySem L2
seal PE PT PW PA PS PSs PG PGs PI PO PSet OpR UnR CallR TruR IxR SlR PC PPs
local macro_rules | `(tactic| walk_at "rd1") => `(tactic| first
  | (refine And.intro rfl ?_)
  | (refine And.intro (by assumption) ?_)
  | (refine And.intro (fun _ e => e) ?_)
  | (refine And.intro (TyOf.str _) ?_) | (refine And.intro (TyOf.int _) ?_) | (refine And.intro (TyOf.bl _) ?_) | (refine And.intro TyOf.non ?_)
  | (refine iteT ?_) | (refine iteF ?_)
  | (apply Exists.intro))
local macro_rules | `(tactic| walk_at "rd") => `(tactic| repeat (walk_at "rd1"))

def spNon : Sp := fun vs H Q _ => ∃ z, vs = [.str z] ∧ Fine 1000 z ∧ ∀ H', Same H H' → Q (numV (numB (cd z) 60)) H'
section
variable {P : Program} {w : World} {K : PySem.W.Frag} {mg : Str → Option Value} {base : Heap} {A : Adr}
theorem ok_number_or_none (T : Txt K mg A) : FnOk P w K mg base CX0 3 A.f_number_or_none A.d_number_or_none ["text"] spNon := by
  have G_number_of := ok_number_of (P := P) (w := w) (base := base) T
  refine T.F_number_or_none.ok sc_number_or_none (fun vs H Q E h => ?_) (fun cdv A0 outer s H vs Q E hr h => ?_)
  · obtain ⟨x, rfl, _⟩ := h
    rfl
  obtain ⟨z, rfl, hz, q⟩ := h
  refine ⟨_, (pss_one (ps_try rfl rfl (psx_one (psx_ret (pex_call G_number_of (hr.mono (by first | decide | omega)) rfl T.m_number_of T.k_number_of T.bd_number_of T.dv_number_of (pa_cons (pv 0) pa_nil)))) rfl T.m_NoNumber (fun _ => (pss_one (ps_ret pe_non))))), ?_⟩
  refine ⟨_, rfl, _, _, rfl, by decide, .inl ⟨z, rfl, hz, fun n H' s1 e => ?_, fun H' s1 e => ?_⟩⟩
  · rw [e] at q; exact q _ s1
  · refine ⟨T.em_NoNumber_NoNumber, ?_⟩
    rw [e] at q; exact q _ s1
end
end K23
namespace K23
open PySem L2
seal PE PT PW PA PS PSs PG PGs PI PO PSet OpR UnR CallR TruR IxR SlR PC PPs
local macro_rules | `(tactic| walk_at "rd1") => `(tactic| first
  | (refine And.intro rfl ?_)
  | (refine And.intro (by assumption) ?_)
  | (refine And.intro (fun _ e => e) ?_)
  | (refine And.intro (TyOf.str _) ?_) | (refine And.intro (TyOf.int _) ?_) | (refine And.intro (TyOf.bl _) ?_) | (refine And.intro TyOf.non ?_)
  | (refine iteT ?_) | (refine iteF ?_)
  | (apply Exists.intro))
local macro_rules | `(tactic| walk_at "rd") => `(tactic| repeat (walk_at "rd1"))

def thStr {K : PySem.W.Frag} {mg : Str → Option Value} {A : Adr} (T : Txt K mg A) (H : Hp) (z : Str) : Thing K H (.str z) := ⟨_, _, _, _, .old (.str z), T.i_str_int, T.i_str_bool, T.i_str_str, fun h => (by cases h), fun _ => ⟨z, rfl⟩, fun _ h => (by cases h), fun _ _ => rfl, fun h => (by cases h), fun _ h => (by cases h)⟩
def kws : List V := [.str "and", .str "each", .str "end", .str "is", .str "not", .str "or", .str "unless", .str "when"]
def inL (c : Nat) : Bool := !(Builtin.Str.occurrences "abcdefghijklmnopqrstuvwxyz" (S [c]) 0 ("abcdefghijklmnopqrstuvwxyz" : Str).length 1).isEmpty
def nameB (z : Str) : Bool := !(inV (.str z) kws) && decide ((1 : Int) ≤ z.length) && decide ((z.length : Int) ≤ 12) && (cd z).all inL
def nameV : V → Bool
  | .str z => nameB z
  | _ => false
/-- what is told of a thing, and its size if it is a text -/
def Ok (K : PySem.W.Frag) (H : Hp) (x : V) : Prop := (∃ _ : Thing K H x, True) ∧ ∀ z, x = .str z → Fine 1000 z
theorem Ok.same {K : PySem.W.Frag} {H H' : Hp} {x : V} (h : Ok K H x) (e : Same H H') : Ok K H' x := ⟨let ⟨⟨t, _⟩, _⟩ := h; ⟨t.same e, trivial⟩, h.2⟩
def strsOf (xs : List V) : List Str := xs.filterMap fun x => match x with | .str z => some z | _ => none
theorem strs_of : ∀ {xs : List V}, xs.all nameV = true → xs = (strsOf xs).map V.str
  | [], _ => rfl
  | x :: r, h => by
    rw [List.all_cons, Bool.and_eq_true] at h
    cases x with
    | str z => show V.str z :: r = V.str z :: (strsOf r).map V.str; rw [← strs_of h.2]
    | _ => cases h.1
def spIsName (K : PySem.W.Frag) : Sp := fun vs H Q _ => ∃ x, vs = [x] ∧ Ok K H x ∧ ∀ H', Same H H' → Q (.bl (nameV x)) H'
section
variable {P : Program} {w : World} {K : PySem.W.Frag} {mg : Str → Option Value} {base : Heap} {A : Adr}
theorem ok_is_name (T : Txt K mg A) : FnOk P w K mg base CX0 1 A.f_is_name A.d_is_name ["thing"] (spIsName K) := by
  refine T.F_is_name.ok sc_is_name (fun vs H Q E h => ?_) (fun cdv A0 outer s H vs Q E hr h => ?_)
  · obtain ⟨x, rfl, _⟩ := h
    rfl
  obtain ⟨x, rfl, ⟨⟨th, _⟩, hx⟩, q⟩ := h
  refine ⟨_, (pss_cons (ps_if (PW.pt (pw_or (pt_not (pt_val (pe_callB call_isi (by rfl) T.n_isinstance Bt.isinstance (pa_cons (pv 0) (pa_cons (pe_bltn (v := .ty "str") rfl T.n_str Bt.str rfl) pa_nil))))) (pw_or1 (pt_cmpR op_in_seq (pv 0) (pe_gv rfl T.g_NO_NAMES) (by rfl))))) (pss_one (ps_ret pe_bl)) pss_nil)
      (pss_one (ps_ret (pe_and (pe_chain op_le op_le pe_int (pe_callB call_len_str (by rfl) T.n_len PySem.boot_len (pa_cons (pv 0) pa_nil)) (pe_gv rfl T.g_LONGEST_NAME)) (pe_one (pe_callB (call_all rfl) (by rfl) T.n_all Bt.all (pa_cons (pe_compR (compOk_of (x := "sign") (M := ["thing"]) rfl (by rfl)) rfl (pi_str (pv 0)) (fun _ _ _ _ => (pe_cmpR op_in_str (pv 0) (pe_gv rfl T.g_LETTERS) (by rfl)))) pa_nil))))))), ?_⟩
  refine ⟨_, rfl, _, _, _, _, rfl, rfl, th.ty, th.ks, _, rfl, ?_⟩
  cases hb : th.bs with
  | false =>
    refine iteT ?_
    have e : nameV x = false := by cases x <;> first | rfl | (rw [th.ns _ rfl] at hb; cases hb)
    rw [e] at q
    exact q _ (Same.refl _)
  | true =>
    obtain ⟨z, rfl⟩ := th.hs hb
    have hz := (hx z rfl).size
    have q : ∀ H', Same H H' → Q (.bl (nameB z)) H' := q
    have qN := T.q_NO_NAMES H
    refine iteF ⟨_, rfl, _, _, rfl, .inr qN, rfl, rfl, _, rfl, ?_⟩
    refine ite2 (fun c => ?_) (fun c => ?_)
    · have e : nameB z = false := by
        unfold nameB
        rw [show inV (.str z) kws = true from c]
        rfl
      rw [e] at q
      exact q _ (Same.refl _)
    have c0 : inV (.str z) kws = false := by
      cases e : inV (.str z) kws with
      | false => rfl
      | true => exact absurd e c
    walk_at "rd"
    refine ite2 (fun c1 => ?_) (fun c1 => ?_)
    · walk_at "rd"
      refine ite2 (fun c2 => ?_) (fun c2 => ?_)
      · walk_at "rd"
        refine comp_strR hz (fun i ys H' => H = H' ∧ ys = ((cd z).take i).map fun c => V.bl (inL c)) ⟨rfl, rfl⟩ (fun i c ys H' hc hl hw => ?_) (fun ys H' hl hw p hp => ?_)
        · obtain ⟨rfl, rfl⟩ := hw
          walk_at "rd"
          rw [List.take_succ, hc]
          simp [inL]
        · obtain ⟨rfl, rfl⟩ := hw
          have e : (cd z).take z.length = cd z := List.take_of_length_le (by rw [len_cd]; exact Nat.le_refl _)
          rw [e]
          refine ⟨p, (cd z).map inL, rfl, SqL.of (by rw [upd_same, List.map_map]; rfl), ?_⟩
          have e2 : nameB z = ((cd z).map inL).all id := by
            unfold nameB
            rw [c0, c1, c2, List.all_map]
            rfl
          rw [e2] at q
          exact q _ (same_new hp _)
      · have e : nameB z = false := by
          unfold nameB
          rw [show decide ((z.length : Int) ≤ 12) = false from Bool.eq_false_iff.mpr c2]
          simp
        rw [e] at q
        exact q _ (Same.refl _)
    · have e : nameB z = false := by
        unfold nameB
        rw [show decide ((1 : Int) ≤ z.length) = false from Bool.eq_false_iff.mpr c1]
        simp
      rw [e] at q
      refine ⟨_, rfl, iteF ?_⟩
      exact q _ (Same.refl _)
end
end K23
set_option maxHeartbeats 4000000
namespace K23
open PySem L2
seal PE PT PW PA PS PSs PG PGs PI PO PSet OpR UnR CallR TruR IxR SlR PC PPs
local macro_rules | `(tactic| walk_at "rd1") => `(tactic| first
  | (refine And.intro rfl ?_)
  | (refine And.intro (by assumption) ?_)
  | (refine And.intro (fun _ e => e) ?_)
  | (refine And.intro (TyOf.str _) ?_) | (refine And.intro (TyOf.int _) ?_) | (refine And.intro (TyOf.bl _) ?_) | (refine And.intro TyOf.non ?_)
  | (refine iteT ?_) | (refine iteF ?_)
  | (apply Exists.intro))
local macro_rules | `(tactic| walk_at "rd") => `(tactic| repeat (walk_at "rd1"))

theorem inL_iff {c : Nat} (h : inL c = true) : 97 ≤ c ∧ c ≤ 122 := by
  have e0 : inL c = decide (c ∈ ("abcdefghijklmnopqrstuvwxyz" : Str).cps.toList) := StrLaws.found_one "abcdefghijklmnopqrstuvwxyz" c
  have e : ("abcdefghijklmnopqrstuvwxyz" : Str).cps.toList = (List.range 26).map (97 + ·) := by decide +kernel
  rw [e0, e, decide_eq_true_iff] at h
  obtain ⟨k, hk, rfl⟩ := List.mem_map.mp h
  have := List.mem_range.mp hk
  omega
theorem inL_of {c : Nat} (h : 97 ≤ c ∧ c ≤ 122) : inL c = true := by
  have e0 : inL c = decide (c ∈ ("abcdefghijklmnopqrstuvwxyz" : Str).cps.toList) := StrLaws.found_one "abcdefghijklmnopqrstuvwxyz" c
  have e : ("abcdefghijklmnopqrstuvwxyz" : Str).cps.toList = (List.range 26).map (97 + ·) := by decide +kernel
  rw [e0, e]
  refine decide_eq_true (List.mem_map.mpr ⟨c - 97, List.mem_range.mpr (by omega), by omega⟩)
theorem name_let {z : Str} (h : nameB z = true) : z.length ≤ 12 ∧ 1 ≤ z.length ∧ ∀ c ∈ cd z, 97 ≤ c ∧ c ≤ 122 := by
  unfold nameB at h
  simp only [Bool.and_eq_true, decide_eq_true_iff] at h
  obtain ⟨⟨⟨_, h1⟩, h2⟩, h3⟩ := h
  exact ⟨by omega, by omega, fun c hc => inL_iff (List.all_eq_true.mp h3 c hc)⟩
theorem name_fine {z : Str} (h : nameB z = true) : Fine 12 z := ⟨(name_let h).1, fun c hc => by have := (name_let h).2.2 c hc; omega⟩
theorem paired_app {α β : Type} {R : α → β → Prop} {as as' : List α} {bs bs' : List β} (h : Paired R as bs) (k : Paired R as' bs') : Paired R (as ++ as') (bs ++ bs') := by
  induction h with
  | nil => exact k
  | cons r _ ih => exact .cons r ih
theorem seq_mid {t u : TS} {D : Ends} {σ : St} {H : Hp} (R : St → Hp → Prop) (hk : ∀ σ' H', R σ' H' → u D σ' H') (hm : (∀ σ' H', R σ' H' → u D σ' H') → t { D with nx := u D } σ H) : tSeq t u D σ H := hm hk
abbrev KW : List Str := ["and", "each", "end", "is", "not", "or", "unless", "when"]
theorem inV_strs (z : Str) (ws : List Str) : inV (.str z) (ws.map V.str) = decide (z ∈ ws) := by
  unfold inV
  rw [List.any_map, Bool.eq_iff_iff, List.any_eq_true, decide_eq_true_iff]
  constructor
  · rintro ⟨y, hy, e⟩
    have : y = z := eq_of_beq e
    rw [← this]; exact hy
  · intro h; exact ⟨z, h, by show (z == z) = true; exact beq_self_eq_true z⟩
theorem name_of {l : List Nat} (h : l.length ≤ 12 ∧ 1 ≤ l.length ∧ ∀ c ∈ l, 97 ≤ c ∧ c ≤ 122) (k : S l ∉ KW) : nameB (S l) = true := by
  unfold nameB
  have e1 : inV (.str (S l)) kws = false := by
    show inV (.str (S l)) (KW.map V.str) = false
    rw [inV_strs]; exact decide_eq_false k
  have e2 : l.all inL = true := List.all_eq_true.mpr fun c hc => inL_of (h.2.2 c hc)
  rw [e1, len_S, cd_S, e2, decide_eq_true (by omega), decide_eq_true (by omega)]
  rfl
theorem kw_x : ∀ z ∈ KW, nameB (z ++ Str.ofString "x") = true := by decide +kernel
theorem kw_len : ∀ z ∈ KW, z.length ≤ 6 := by decide +kernel
theorem let_at (i : Int) (h0 : 0 ≤ i) (h1 : i < 26) : ∃ c, atI ("abcdefghijklmnopqrstuvwxyz" : Str).cps.toList i = some c ∧ 97 ≤ c ∧ c ≤ 122 := by
  have key : ∀ k : Nat, k < 26 → ("abcdefghijklmnopqrstuvwxyz" : Str).cps.toList[k]? = some (97 + k) := by decide +kernel
  refine ⟨97 + i.toNat, ?_, by omega, by omega⟩
  have := atI_nat (key i.toNat (by omega))
  rw [show ((i.toNat : Nat) : Int) = i by omega] at this
  exact this
theorem ibc {x : Int} (h : x.natAbs < 2 ^ 256) : ib x ≤ 60000000 := Nat.le_trans (ib_big (m := 256) h) (by decide)
theorem tt_true {σ : St} {H : Hp} {a b : Hp → Prop} (h : a H) : tTrue σ H (fun c H3 => if c = true then a H3 else b H3) := by
  show if true = true then a H else b H
  rw [if_pos rfl]; exact h
def spMixed : Sp := fun vs H Q _ => ∃ c k : Int, vs = [.int c, .int k] ∧ 0 ≤ k ∧ k < 100 ∧ ∀ r : Int, 0 ≤ r → r < 2147483587 → Q (.int r) H
def spOpen : Sp := fun vs H Q _ => ∃ l : List Nat, vs = [.str (S l)] ∧ l.length ≤ 12 ∧ 1 ≤ l.length ∧ (∀ c ∈ l, 97 ≤ c ∧ c ≤ 122) ∧ ∀ z H', nameB z = true → Same H H' → Q (.str z) H'
def spName : Sp := fun vs H Q _ => ∃ c : Int, vs = [.int c] ∧ ∀ z H', nameB z = true → Same H H' → Q (.str z) H'
def spNumber : Sp := fun vs H Q _ => ∃ n : Int, vs = [.int n] ∧ n.natAbs < 2 ^ 64 ∧ ∀ m : Int, m.natAbs < 10 ^ 60 → Q (.int m) H
def spCell (K : PySem.W.Frag) : Sp := fun vs H Q _ => ∃ (a : Addr) (ns : List Int) (k : Int), vs = [.ref a, .int k] ∧ SqL K H a (ns.map V.int) ∧ 0 ≤ k ∧ (∀ n ∈ ns, ib n ≤ 1048576) ∧ ∀ n : Int, ib n ≤ 1048576 → Q (.int n) H
section
variable {P : Program} {w : World} {K : PySem.W.Frag} {mg : Str → Option Value} {base : Heap} {A : Adr}
theorem ok_law_cell_at (T : Txt K mg A) : FnOk P w K mg base CX0 1 A.f_law_cell_at A.d_law_cell_at ["_law_script", "_law_k"] (spCell K) := by
  refine T.F_law_cell_at.ok sc_law_cell_at (fun vs H Q E h => ?_) (fun cdv A0 outer s H vs Q E hr h => ?_)
  · obtain ⟨a, ns, k, rfl, _⟩ := h
    rfl
  obtain ⟨a, ns, k, rfl, hS, hk, hb, q⟩ := h
  refine ⟨_, (pss_cons (ps_if (pt_cmpR op_lt (pv 1) (pe_callB call_len_seq (by rfl) T.n_len PySem.boot_len (pa_cons (pv 0) pa_nil)) (nomark _)) (pss_one (ps_ret (pe_ix ix_list (pv 0) (pv 1) (fun _ _ => rfl)))) pss_nil)
      (pss_one (ps_ret pe_int))), ?_⟩
  refine ⟨_, rfl, _, rfl, a, _, rfl, .inl hS, _, _, rfl, rfl, _, rfl, ?_⟩
  refine ite2 (fun c => ?_) (fun c => ?_)
  · have c' : k < ((ns.map V.int).length : Nat) := of_decide_eq_true c
    obtain ⟨v, hv, hv2⟩ := at_some (l := ns.map V.int) hk c'
    obtain ⟨n, hn, rfl⟩ := map_get hv2
    exact ⟨_, rfl, _, rfl, a, _, _, _, rfl, rfl, hS, hv, q _ (hb n (List.mem_of_getElem? hn))⟩
  · exact q _ (by decide)
theorem ib_e {x : Int} (h0 : 0 ≤ x) (h : x < 2 ^ 63) : ib x ≤ 60000000 := Nat.le_trans (ib_small (by omega) (by omega)) (by decide)
theorem ok_law_mixed (T : Txt K mg A) : FnOk P w K mg base CX0 1 A.f_law_mixed A.d_law_mixed ["_law_cell", "_law_k"] spMixed := by
  refine T.F_law_mixed.ok sc_law_mixed (fun vs H Q E h => ?_) (fun cdv A0 outer s H vs Q E hr h => ?_)
  · obtain ⟨c, k, rfl, _⟩ := h
    rfl
  obtain ⟨c, k, rfl, k0, k1, q⟩ := h
  refine ⟨_, (pss_cons (ps_set (i := 2) sc_law_mixed.nd rfl (by first | exact Or.inl rfl | exact Or.inr rfl) (pe_op op_mod (pe_op op_mulB (pe_op op_add (pe_op op_mod (pv 0) pe_int) pe_int) (pe_op op_add pe_int (pe_op op_mulB pe_int (pv 1)))) pe_int))
      (pss_one (ps_ret (pe_op op_mod (pe_op op_mulB (pv 2) (pv 2)) pe_int)))), ?_⟩
  have a0 := Int.emod_nonneg c (b := 2147483647) (by decide)
  have a1 := Int.emod_lt_of_pos c (b := 2147483647) (by decide)
  refine ⟨_, rfl, _, _, rfl, rfl, (by show (0 : Int) < 2147483647; decide), _, _, rfl, rfl, _, rfl, _, _, rfl, rfl, ⟨ib_e (by decide) (by decide), ib_e k0 (by omega)⟩, _, _, rfl, rfl, _, _, rfl, rfl, ⟨ib_e (by show (0 : Int) ≤ c % 2147483647 + 7; omega) (by show c % 2147483647 + 7 < 2 ^ 63; omega), ib_e (by show (0 : Int) ≤ 48271 + 2 * k; omega) (by show 48271 + 2 * k < 2 ^ 63; omega)⟩, _, _, rfl, rfl, (by show (0 : Int) < 2147483629; decide), ?_⟩
  have b0 := Int.emod_nonneg ((c % 2147483647 + 7) * (48271 + 2 * k)) (b := 2147483629) (by decide)
  have b1 := Int.emod_lt_of_pos ((c % 2147483647 + 7) * (48271 + 2 * k)) (b := 2147483629) (by decide)
  refine ⟨_, rfl, _, rfl, _, _, rfl, rfl, ⟨ib_e b0 (by omega), ib_e b0 (by omega)⟩, _, _, rfl, rfl, (by show (0 : Int) < 2147483587; decide), q _ (Int.emod_nonneg _ (by decide)) (Int.emod_lt_of_pos _ (by decide))⟩
theorem ok_law_open (T : Txt K mg A) : FnOk P w K mg base CX0 1 A.f_law_open A.d_law_open ["_law_word"] spOpen := by
  refine T.F_law_open.ok sc_law_open (fun vs H Q E h => ?_) (fun cdv A0 outer s H vs Q E hr h => ?_)
  · obtain ⟨l, rfl, _⟩ := h
    rfl
  obtain ⟨L, rfl, h1, h2, h3, q⟩ := h
  refine ⟨_, (pss_cons (ps_if (pt_cmpR op_in_seq (pv 0) (pe_lst (pa_cons pe_str (pa_cons pe_str (pa_cons pe_str (pa_cons pe_str (pa_cons pe_str (pa_cons pe_str (pa_cons pe_str (pa_cons pe_str pa_nil))))))))) (by rfl)) (pss_one (ps_ret (pe_op op_add_str (pv 0) pe_str))) pss_nil)
      (pss_one (ps_ret (pv 0)))), ?_⟩
  refine ⟨_, rfl, (by show 8 ≤ sizeLine; decide), fun p2 hp2 => ⟨p2, _, rfl, .inl (SqL.of upd_same), rfl, rfl, _, rfl, ?_⟩⟩
  have sp2 := same_new hp2 (.lst (KW.map V.str))
  show if (inV (.str (S L)) (KW.map V.str)) = true then _ else _
  rw [inV_strs]
  refine ite2 (fun c => ?_) (fun c => ?_)
  · have c' : S L ∈ KW := of_decide_eq_true c
    exact ⟨_, rfl, _, _, rfl, rfl, small_of (m := 100) (by have := kw_len _ c'; rw [show (Str.ofString "x").length = 1 by decide +kernel]; omega), q _ _ (kw_x _ c') sp2⟩
  · exact ⟨_, rfl, q _ _ (name_of ⟨h1, h2, h3⟩ fun z => c (decide_eq_true z)) sp2⟩
theorem ok_law_name (T : Txt K mg A) : FnOk P w K mg base CX0 2 A.f_law_name A.d_law_name ["_law_cell"] spName := by
  have G_law_open := ok_law_open (P := P) (w := w) (base := base) T
  refine T.F_law_name.ok sc_law_name (fun vs H Q E h => ?_) (fun cdv A0 outer s H vs Q E hr h => ?_)
  · obtain ⟨c, rfl, _⟩ := h
    rfl
  obtain ⟨c, rfl, q⟩ := h
  refine ⟨_, (pss_cons (ps_set (i := 1) sc_law_name.nd rfl (by first | exact Or.inl rfl | exact Or.inr rfl) (pe_op op_mod (pe_op op_fdiv (pv 0) pe_int) (pe_op op_pow pe_int pe_int)))
      (pss_cons (ps_set (i := 2) sc_law_name.nd rfl (by first | exact Or.inl rfl | exact Or.inr rfl) pe_str)
      (pss_cons (ps_forR PassesOwn.never rfl (pi_range1 rfl T.n_range (pa_cons (pe_op op_add pe_int (pe_op op_mod (pv 0) pe_int)) pa_nil)) (pg_name (i := 3) sc_law_name.nd rfl (by first | exact Or.inl rfl | exact Or.inr rfl)) (pss_cons (ps_set (i := 2) sc_law_name.nd rfl (by first | exact Or.inl rfl | exact Or.inr rfl) (pe_op op_add_str (pv 2) (pe_ix ix_str pe_str (pe_op op_mod (pv 1) pe_int) (fun _ _ => rfl))))
      (pss_one (ps_set (i := 1) sc_law_name.nd rfl (by first | exact Or.inl rfl | exact Or.inr rfl) (pe_op op_fdiv (pv 1) pe_int)))))
      (pss_one (ps_ret (pe_call G_law_open (hr.mono (by first | decide | omega)) rfl T.m_law_open T.k_law_open T.b_law_open .nil pass0 (pa_cons (pv 2) pa_nil))))))), ?_⟩
  refine ⟨_, rfl, _, _, rfl, rfl, ⟨by decide, by decide⟩, _, _, rfl, rfl, ⟨by decide, by decide, by decide⟩, _, _, rfl, rfl, (by show (0 : Int) < 26 ^ (12 : Int).toNat; decide +kernel), ?_⟩
  have m0 : 0 ≤ c % 12 := Int.emod_nonneg _ (by decide)
  have m1 : c % 12 < 12 := Int.emod_lt_of_pos _ (by decide)
  have e0 : 0 ≤ c / 12 % 26 ^ (12 : Int).toNat := Int.emod_nonneg _ (by decide +kernel)
  refine ⟨_, rfl, _, _, rfl, rfl, (by show (0 : Int) < 12; decide), _, _, rfl, rfl, _, rfl, (by show (-2 ^ 62 : Int) ≤ 1 + c % 12; omega), (by show 1 + c % 12 < _; omega), ?_⟩
  obtain ⟨n, hn⟩ : ∃ n : Nat, (1 + c % 12).toNat = n := ⟨_, rfl⟩
  dsimp only
  rw [hn]
  refine for_rangeR (n := n) (fun i σ H' => H = H' ∧ ∃ (u : Int) (l : List Nat) (x : Option V), σ = [some (.int c), some (.int u), some (.str (S l)), x] ∧ 0 ≤ u ∧ l.length = i ∧ ∀ d ∈ l, 97 ≤ d ∧ d ≤ 122) ⟨rfl, c / 12 % 26 ^ (12 : Int).toNat, [], none, rfl, e0, rfl, fun d hd => by cases hd⟩ (fun i σ H' hi hh => ?_) (fun σ H' hh => ?_)
  · obtain ⟨rfl, u, l, x, rfl, hu, hl, hc⟩ := hh
    obtain ⟨d, hd1, hd2⟩ := let_at (u % 26) (Int.emod_nonneg _ (by decide)) (Int.emod_lt_of_pos _ (by decide))
    refine ⟨_, rfl, _, rfl, _, _, rfl, rfl, (by show (0 : Int) < 26; decide), _, _, d, rfl, rfl, (by decide +kernel), hd1, _, _, rfl, rfl, small_of (m := 100) (by rw [len_S]; show l.length + 1 ≤ 100; omega), ?_⟩
    refine ⟨_, rfl, _, _, rfl, rfl, ⟨by decide, by decide⟩, rfl, u / 26, l ++ [d], some (.int (0 + (i : Nat))), ?_, Int.ediv_nonneg hu (by decide), (by rw [List.length_append, hl]; rfl), fun e he => ?_⟩
    · rw [← S_app]; rfl
    · rcases List.mem_append.mp he with z | z
      · exact hc e z
      · rw [List.mem_singleton.mp z]; exact hd2
  · obtain ⟨rfl, u, l, x, rfl, hu, hl, hc⟩ := hh
    exact ⟨_, rfl, l, rfl, by omega, by omega, hc, q⟩
theorem ok_law_number (T : Txt K mg A) : FnOk P w K mg base CX0 1 A.f_law_number A.d_law_number ["_law_cell"] spNumber := by
  refine T.F_law_number.ok sc_law_number (fun vs H Q E h => ?_) (fun cdv A0 outer s H vs Q E hr h => ?_)
  · obtain ⟨n, rfl, _⟩ := h
    rfl
  obtain ⟨n, rfl, hb, q⟩ := h
  refine ⟨_, (pss_cons (ps_if (pt_cmpR op_eq (pe_op op_mod (pv 0) pe_int) pe_int (nomark _)) (pss_one (ps_ret (pe_op op_sub (pe_op op_mod (pe_op op_fdiv (pv 0) pe_int) pe_int) pe_int))) pss_nil)
      (pss_one (ps_ret (pe_op op_sub (pe_op op_mod (pe_op op_pow (pv 0) pe_int) (pe_op op_sub (pe_op op_mulB pe_int (pe_op op_pow pe_int pe_int)) pe_int)) (pe_op op_pow pe_int pe_int))))), ?_⟩
  refine ⟨_, rfl, _, _, rfl, rfl, (by show (0 : Int) < 3; decide), rfl, _, rfl, ite2 (fun _ => ?_) (fun _ => ?_)⟩
  · have r0 : 0 ≤ n / 3 % 41 := Int.emod_nonneg _ (by decide)
    have r1 : n / 3 % 41 < 41 := Int.emod_lt_of_pos _ (by decide)
    have p60 : (1000 : Nat) < 10 ^ 60 := by decide +kernel
    refine ⟨_, rfl, _, _, rfl, rfl, ⟨by decide, by decide⟩, _, _, rfl, rfl, (by show (0 : Int) < 41; decide), _, _, rfl, rfl, q _ ?_⟩
    show (n / 3 % 41 - 20).natAbs < 10 ^ 60
    omega
  · refine ⟨_, rfl, _, _, rfl, rfl, ⟨by decide, by decide, hb⟩, _, _, rfl, rfl, ⟨by decide, by decide, by decide⟩, _, _, rfl, rfl, ⟨by decide, ibc (by decide +kernel)⟩, _, _, rfl, rfl, _, _, rfl, rfl, (by show (0 : Int) < 2 * 10 ^ (59 : Int).toNat - 1; decide +kernel), ?_⟩
    refine ⟨_, _, rfl, rfl, ⟨by decide, by decide, by decide⟩, _, _, rfl, rfl, q _ ?_⟩
    have r0 := Int.emod_nonneg (n ^ (7 : Int).toNat) (b := 2 * 10 ^ (59 : Int).toNat - 1) (by decide +kernel)
    have r1 := Int.emod_lt_of_pos (n ^ (7 : Int).toNat) (b := 2 * 10 ^ (59 : Int).toNat - 1) (by decide +kernel)
    show (n ^ (7 : Int).toNat % (2 * 10 ^ (59 : Int).toNat - 1) - 10 ^ (59 : Int).toNat).natAbs < 10 ^ 60
    generalize n ^ (7 : Int).toNat % (2 * 10 ^ (59 : Int).toNat - 1) = r at r0 r1
    have hb1 : (10 : Int) ^ (59 : Int).toNat + 9 < ((10 ^ 60 : Nat) : Int) := by decide +kernel
    have hb2 : (0 : Int) < (10 : Int) ^ (59 : Int).toNat := by decide +kernel
    generalize (10 : Int) ^ (59 : Int).toNat = y at r1 hb1 hb2
    generalize (10 : Nat) ^ 60 = z at hb1
    omega
end
end K23
set_option maxHeartbeats 4000000
namespace K23
open PySem L2
seal PE PT PW PA PS PSs PG PGs PI PO PSet OpR UnR CallR TruR IxR SlR PC PPs
local macro_rules | `(tactic| walk_at "rd1") => `(tactic| first
  | (refine And.intro rfl ?_)
  | (refine And.intro (by assumption) ?_)
  | (refine And.intro (fun _ e => e) ?_)
  | (refine And.intro (TyOf.str _) ?_) | (refine And.intro (TyOf.int _) ?_) | (refine And.intro (TyOf.bl _) ?_) | (refine And.intro TyOf.non ?_)
  | (refine iteT ?_) | (refine iteF ?_)
  | (apply Exists.intro))
local macro_rules | `(tactic| walk_at "rd") => `(tactic| repeat (walk_at "rd1"))

def pIs (zs : List Str) (n : Str) (v : V) : Prop := nameB n = true ∧ ∃ w : Str, v = .str w ∧ nameB w = true
def pCmp (zs : List Str) (n h : Str) (m : Int) : Prop := nameB n = true ∧ (h = "<" ∨ h = "=" ∨ h = ">") ∧ m.natAbs < 10 ^ 60
inductive Tr where
  | is (n : Str) (v : V)
  | cmp (n h : Str) (m : Int)
  | neg (t : Tr)
  | two (o : Bool) (s t : Tr)
def hw (o : Bool) : Str := if o = true then "or" else "and"
def Tr.depth : Tr → Nat
  | .is _ _ => 1
  | .cmp _ _ _ => 1
  | .neg t => t.depth + 1
  | .two _ s t => 1 + max s.depth t.depth
def Tr.size : Tr → Nat
  | .is _ _ => 1
  | .cmp _ _ _ => 1
  | .neg t => t.size
  | .two _ s t => s.size + t.size
def Tr.Ok (zs : List Str) : Tr → Prop
  | .is n v => pIs zs n v
  | .cmp n h m => pCmp zs n h m
  | .neg t => t.Ok zs
  | .two _ s t => s.Ok zs ∧ t.Ok zs
theorem Tr.size_pos : ∀ t : Tr, 1 ≤ t.size
  | .is _ _ => Nat.le_refl _
  | .cmp _ _ _ => Nat.le_refl _
  | .neg t => Tr.size_pos t
  | .two _ s t => Nat.le_trans (Tr.size_pos s) (Nat.le_add_right _ _)
end K23
namespace K23
open PySem L2
seal PE PT PW PA PS PSs PG PGs PI PO PSet OpR UnR CallR TruR IxR SlR PC PPs
local macro_rules | `(tactic| walk_at "rd1") => `(tactic| first
  | (refine And.intro rfl ?_)
  | (refine And.intro (by assumption) ?_)
  | (refine And.intro (fun _ e => e) ?_)
  | (refine And.intro (TyOf.str _) ?_) | (refine And.intro (TyOf.int _) ?_) | (refine And.intro (TyOf.bl _) ?_) | (refine And.intro TyOf.non ?_)
  | (refine iteT ?_) | (refine iteF ?_)
  | (apply Exists.intro))
local macro_rules | `(tactic| walk_at "rd") => `(tactic| repeat (walk_at "rd1"))

theorem eqS {a b : Str} {A B : Prop} (h : a = b) (k : A) : if decide (V.str a = V.str b) = true then A else B := by rw [if_pos (decide_eq_true (by rw [h]))]; exact k
theorem neS {a b : Str} {A B : Prop} (h : a ≠ b) (k : B) : if decide (V.str a = V.str b) = true then A else B := by
  rw [if_neg (fun e => h (V.str.inj (of_decide_eq_true e)))]; exact k
/-! sayings, as instances -/
def cT (A : Adr) (o : Bool) : Addr := if o = true then A.c_Either else A.c_Both
def SyR (A : Adr) (H : Hp) : Tr → V → Prop
  | .is n v, x => ∃ a dx, x = .ref a ∧ H a = some (.ins A.c_Is dx [("name", .str n), ("word", v), ("place", .non)])
  | .cmp n h m, x => ∃ a dx, x = .ref a ∧ H a = some (.ins A.c_Compare dx [("name", .str n), ("how", .str h), ("number", .int m)])
  | .neg t, x => ∃ a dx y, x = .ref a ∧ H a = some (.ins A.c_Not dx [("test", y)]) ∧ SyR A H t y
  | .two o s t, x => ∃ a dx y z, x = .ref a ∧ H a = some (.ins (cT A o) dx [("one", y), ("other", z)]) ∧ SyR A H s y ∧ SyR A H t z
theorem SyR.kt {A : Adr} {H H' : Hp} (s : ∀ b C dx fs, H b = some (.ins C dx fs) → C ≠ A.c_WordsLeft → H' b = some (.ins C dx fs)) (T : A.c_Is ≠ A.c_WordsLeft ∧ A.c_Compare ≠ A.c_WordsLeft ∧ A.c_Not ≠ A.c_WordsLeft ∧ A.c_Both ≠ A.c_WordsLeft ∧ A.c_Either ≠ A.c_WordsLeft) : ∀ {t : Tr} {x : V}, SyR A H t x → SyR A H' t x
  | .is _ _, _, ⟨a, dx, e, h⟩ => ⟨a, dx, e, s _ _ _ _ h T.1⟩
  | .cmp _ _ _, _, ⟨a, dx, e, h⟩ => ⟨a, dx, e, s _ _ _ _ h T.2.1⟩
  | .neg _, _, ⟨a, dx, y, e, h, k⟩ => ⟨a, dx, y, e, s _ _ _ _ h T.2.2.1, SyR.kt s T k⟩
  | .two o _ _, _, ⟨a, dx, y, z, e, h, k, l⟩ => ⟨a, dx, y, z, e, s _ _ _ _ h (by cases o; exact T.2.2.2.1; exact T.2.2.2.2), SyR.kt s T k, SyR.kt s T l⟩
theorem SyR.same {A : Adr} {H H' : Hp} (s : Same H H') : ∀ {t : Tr} {x : V}, SyR A H t x → SyR A H' t x
  | .is _ _, _, ⟨a, dx, e, h⟩ => ⟨a, dx, e, s _ _ h⟩
  | .cmp _ _ _, _, ⟨a, dx, e, h⟩ => ⟨a, dx, e, s _ _ h⟩
  | .neg _, _, ⟨a, dx, y, e, h, k⟩ => ⟨a, dx, y, e, s _ _ h, SyR.same s k⟩
  | .two o _ _, _, ⟨a, dx, y, z, e, h, k, l⟩ => ⟨a, dx, y, z, e, s _ _ h, SyR.same s k, SyR.same s l⟩
theorem SyR.lst {A : Adr} {H : Hp} {p : Addr} {xs : List V} {o : HO} (hp : H p = some (.lst xs)) : ∀ {t : Tr} {x : V}, SyR A H t x → SyR A (upd H p o) t x := by
  have k : ∀ {b C dx fs}, H b = some (.ins C dx fs) → upd H p o b = some (.ins C dx fs) := fun {b C dx fs} e => by
    rw [upd_ne (by rintro rfl; rw [hp] at e; cases e)]; exact e
  intro t
  induction t with
  | is n v => rintro x ⟨a, dx, e, h⟩; exact ⟨a, dx, e, k h⟩
  | cmp n h m => rintro x ⟨a, dx, e, h⟩; exact ⟨a, dx, e, k h⟩
  | neg t ih => rintro x ⟨a, dx, y, e, h, j⟩; exact ⟨a, dx, y, e, k h, ih j⟩
  | two o s t ih1 ih2 => rintro x ⟨a, dx, y, z, e, h, j, l⟩; exact ⟨a, dx, y, z, e, k h, ih1 j, ih2 l⟩
def NW (A : Adr) : Prop := A.c_Is ≠ A.c_WordsLeft ∧ A.c_Compare ≠ A.c_WordsLeft ∧ A.c_Not ≠ A.c_WordsLeft ∧ A.c_Both ≠ A.c_WordsLeft ∧ A.c_Either ≠ A.c_WordsLeft
theorem nw {K : PySem.W.Frag} {mg : Str → Option Value} {A : Adr} (T : Txt K mg A) : NW A := by
  have key : ∀ {a b : Addr}, PySem.W.kitOne K (.ref a) (.ref a) = some true → PySem.W.kitOne K (.ref a) (.ref b) = some false → a ≠ b := fun {a b} h1 h2 e => by
    rw [← e, h1] at h2; cases h2
  exact ⟨key T.kr_Is_Is T.kr_Is_WordsLeft, key T.kr_Compare_Compare T.kr_Compare_WordsLeft, key T.kr_Not_Not T.kr_Not_WordsLeft, key T.kr_Both_Both T.kr_Both_WordsLeft, key T.kr_Either_Either T.kr_Either_WordsLeft⟩
theorem SyR.sb {A : Adr} {H H' : Hp} {lw dx : Addr} {fs : List (Str × V)} (n : NW A) (sb : SameB lw H H') (hl : H lw = some (.ins A.c_WordsLeft dx fs)) {t : Tr} {x : V} (h : SyR A H t x) : SyR A H' t x :=
  SyR.kt (fun b C dx fs e m => sb _ _ (by rintro rfl; rw [hl] at e; cases e; exact m rfl) e) n h
def spIsI (A : Adr) : Sp := fun vs H Q _ => ∃ p dx u1 u2 u3, vs = [.ref p, u1, u2, u3] ∧ H p = some (.ins A.c_Is dx []) ∧ Q .non (upd H p (.ins A.c_Is dx [("name", u1), ("word", u2), ("place", u3)]))
def spCoI (A : Adr) : Sp := fun vs H Q _ => ∃ p dx u1 u2 u3, vs = [.ref p, u1, u2, u3] ∧ H p = some (.ins A.c_Compare dx []) ∧ Q .non (upd H p (.ins A.c_Compare dx [("name", u1), ("how", u2), ("number", u3)]))
def spNoI (A : Adr) : Sp := fun vs H Q _ => ∃ p dx u1, vs = [.ref p, u1] ∧ H p = some (.ins A.c_Not dx []) ∧ Q .non (upd H p (.ins A.c_Not dx [("test", u1)]))
def spPaI (A : Adr) : Sp := fun vs H Q _ => ∃ p dx u1 u2 o, vs = [.ref p, u1, u2] ∧ H p = some (.ins (cT A o) dx []) ∧ Q .non (upd H p (.ins (cT A o) dx [("one", u1), ("other", u2)]))
section
variable {P : Program} {w : World} {K : PySem.W.Frag} {mg : Str → Option Value} {base : Heap} {A : Adr}
theorem ok_is_init (T : Txt K mg A) : FnOk P w K mg base CX0 1 A.f_c_Is___init A.d_c_Is___init ["self", "name", "word", "place"] (spIsI A) := by
  refine T.F_c_Is___init.ok sc_c_Is___init (fun vs H Q E h => ?_) (fun cdv A0 outer s H vs Q E hr h => ?_)
  · obtain ⟨p, dx, u1, u2, u3, rfl, _⟩ := h
    rfl
  obtain ⟨p, dx, u1, u2, u3, rfl, hp, q⟩ := h
  refine ⟨_, (pss_cons (ps_fld (pv 0) (pv 1) rfl)
      (pss_cons (ps_fld (pv 0) (pv 2) rfl)
      (pss_one (ps_fld (pv 0) (pv 3) rfl)))), ?_⟩
  refine ⟨_, rfl, _, rfl, p, _, dx, _, rfl, hp, T.cl_Is, T.no_Is_name, by decide, ?_⟩
  refine ⟨_, rfl, _, rfl, p, _, dx, _, rfl, upd_same, T.cl_Is, T.no_Is_word, (by show 1 < 1000; decide), ?_⟩
  refine ⟨_, rfl, _, rfl, p, _, dx, _, rfl, upd_same, T.cl_Is, T.no_Is_place, (by show 2 < 1000; decide), ?_⟩
  rw [upd_upd, upd_upd]
  exact q
theorem ok_co_init (T : Txt K mg A) : FnOk P w K mg base CX0 1 A.f_c_Compare___init A.d_c_Compare___init ["self", "name", "how", "number"] (spCoI A) := by
  refine T.F_c_Compare___init.ok sc_c_Compare___init (fun vs H Q E h => ?_) (fun cdv A0 outer s H vs Q E hr h => ?_)
  · obtain ⟨p, dx, u1, u2, u3, rfl, _⟩ := h
    rfl
  obtain ⟨p, dx, u1, u2, u3, rfl, hp, q⟩ := h
  refine ⟨_, (pss_cons (ps_fld (pv 0) (pv 1) rfl)
      (pss_cons (ps_fld (pv 0) (pv 2) rfl)
      (pss_one (ps_fld (pv 0) (pv 3) rfl)))), ?_⟩
  refine ⟨_, rfl, _, rfl, p, _, dx, _, rfl, hp, T.cl_Compare, T.no_Compare_name, by decide, ?_⟩
  refine ⟨_, rfl, _, rfl, p, _, dx, _, rfl, upd_same, T.cl_Compare, T.no_Compare_how, (by show 1 < 1000; decide), ?_⟩
  refine ⟨_, rfl, _, rfl, p, _, dx, _, rfl, upd_same, T.cl_Compare, T.no_Compare_number, (by show 2 < 1000; decide), ?_⟩
  rw [upd_upd, upd_upd]
  exact q
theorem ok_no_init (T : Txt K mg A) : FnOk P w K mg base CX0 1 A.f_c_Not___init A.d_c_Not___init ["self", "test"] (spNoI A) := by
  refine T.F_c_Not___init.ok sc_c_Not___init (fun vs H Q E h => ?_) (fun cdv A0 outer s H vs Q E hr h => ?_)
  · obtain ⟨p, dx, u1, rfl, _⟩ := h
    rfl
  obtain ⟨p, dx, u1, rfl, hp, q⟩ := h
  refine ⟨_, (pss_one (ps_fld (pv 0) (pv 1) rfl)), ?_⟩
  exact ⟨_, rfl, _, rfl, p, _, dx, _, rfl, hp, T.cl_Not, T.no_Not_test, by decide, q⟩
theorem ok_pa_init (T : Txt K mg A) : FnOk P w K mg base CX0 1 A.f_c_Pair___init A.d_c_Pair___init ["self", "one", "other"] (spPaI A) := by
  refine T.F_c_Pair___init.ok sc_c_Pair___init (fun vs H Q E h => ?_) (fun cdv A0 outer s H vs Q E hr h => ?_)
  · obtain ⟨p, dx, u1, u2, o, rfl, _⟩ := h
    rfl
  obtain ⟨p, dx, u1, u2, o, rfl, hp, q⟩ := h
  refine ⟨_, (pss_cons (ps_fld (pv 0) (pv 1) rfl)
      (pss_one (ps_fld (pv 0) (pv 2) rfl))), ?_⟩
  have cl : Cls K (cT A o) ∧ NoAttr K (cT A o) "one" ∧ NoAttr K (cT A o) "other" := by
    cases o
    · exact ⟨T.cl_Both, T.no_Both_one, T.no_Both_other⟩
    · exact ⟨T.cl_Either, T.no_Either_one, T.no_Either_other⟩
  refine ⟨_, rfl, _, rfl, p, _, dx, _, rfl, hp, cl.1, cl.2.1, by decide, ?_⟩
  refine ⟨_, rfl, _, rfl, p, _, dx, _, rfl, upd_same, cl.1, cl.2.2, (by show 1 < 1000; decide), ?_⟩
  rw [upd_upd]
  exact q
theorem same_make {H : Hp} {x dx : Addr} (nx : H x = none) (nd : H dx = none) (o : HO) : Same H (upd (upd H dx (.own x)) x o) := fun b u e => by
  rw [upd_ne (ne_of_none e nx), upd_ne (ne_of_none e nd)]; exact e
end
end K23
set_option maxHeartbeats 4000000
namespace K23
open PySem L2
seal PE PT PW PA PS PSs PG PGs PI PO PSet OpR UnR CallR TruR IxR SlR PC PPs
local macro_rules | `(tactic| walk_at "rd1") => `(tactic| first
  | (refine And.intro rfl ?_)
  | (refine And.intro (by assumption) ?_)
  | (refine And.intro (fun _ e => e) ?_)
  | (refine And.intro (TyOf.str _) ?_) | (refine And.intro (TyOf.int _) ?_) | (refine And.intro (TyOf.bl _) ?_) | (refine And.intro TyOf.non ?_)
  | (refine iteT ?_) | (refine iteF ?_)
  | (apply Exists.intro))
local macro_rules | `(tactic| walk_at "rd") => `(tactic| repeat (walk_at "rd1"))

/-! the words of a saying -/
def sv : V → Str
  | .str z => z
  | _ => ""
def wL : Tr → List (List Nat)
  | .is n v => [cd n, cd (Str.ofString "is"), cd (sv v)]
  | .cmp n h m => [cd n, cd h, numL m]
  | .neg t => cd (Str.ofString "not") :: wL t
  | .two o s t => cd (Str.ofString "(") :: (wL s ++ (cd (hw o) :: (wL t ++ [cd (Str.ofString ")")])))
def txL (t : Tr) : List Nat := joinL [32] (wL t)
theorem wL_ne : ∀ t : Tr, wL t ≠ []
  | .is _ _ => by intro e; cases e
  | .cmp _ _ _ => by intro e; cases e
  | .neg _ => by intro e; cases e
  | .two _ _ _ => by intro e; cases e
theorem joinL_cons {s a : List Nat} {r : List (List Nat)} (h : r ≠ []) : joinL s (a :: r) = a ++ s ++ joinL s r := by
  cases r with
  | nil => exact absurd rfl h
  | cons b r => rfl
theorem joinL_app {s : List Nat} : ∀ {a b : List (List Nat)}, a ≠ [] → b ≠ [] → joinL s (a ++ b) = joinL s a ++ s ++ joinL s b
  | [], _, h, _ => absurd rfl h
  | [x], b, _, hb => by rw [List.singleton_append, joinL_cons hb]; rfl
  | x :: y :: r, b, _, hb => by
    rw [List.cons_append, joinL_cons (by simp), joinL_app (a := y :: r) (by simp) hb, joinL_cons (a := x) (by simp)]
    simp [List.append_assoc]
theorem txL_neg (t : Tr) : txL (.neg t) = cd (Str.ofString "not ") ++ txL t := by
  unfold txL
  rw [show wL (.neg t) = cd (Str.ofString "not") :: wL t from rfl, joinL_cons (wL_ne t)]
  rfl
theorem txL_two (o : Bool) (s t : Tr) : txL (.two o s t) = ((((cd (Str.ofString "( ") ++ txL s) ++ cd (Str.ofString " ")) ++ cd (hw o)) ++ cd (Str.ofString " ")) ++ txL t ++ cd (Str.ofString " )") := by
  unfold txL
  rw [show wL (.two o s t) = cd (Str.ofString "(") :: (wL s ++ (cd (hw o) :: (wL t ++ [cd (Str.ofString ")")]))) from rfl, joinL_cons (by simp), joinL_app (wL_ne s) (by simp), joinL_cons (by simp), joinL_app (wL_ne t) (by simp)]
  have e1 : cd (Str.ofString "( ") = cd (Str.ofString "(") ++ [32] := by decide +kernel
  have e2 : cd (Str.ofString " ") = [32] := by decide +kernel
  have e3 : cd (Str.ofString " )") = [32] ++ cd (Str.ofString ")") := by decide +kernel
  rw [e1, e2, e3]
  show _ ++ [32] ++ (_ ++ [32] ++ (_ ++ [32] ++ (_ ++ [32] ++ cd (Str.ofString ")")))) = _
  simp [List.append_assoc]
theorem txL_is (n : Str) (v : V) : txL (.is n v) = cd n ++ cd (Str.ofString " is ") ++ cd (sv v) := by
  show cd n ++ [32] ++ (cd (Str.ofString "is") ++ [32] ++ cd (sv v)) = _
  rw [show cd (Str.ofString " is ") = [32] ++ cd (Str.ofString "is") ++ [32] by decide +kernel]
  simp [List.append_assoc]
theorem txL_cmp (n h : Str) (m : Int) : txL (.cmp n h m) = cd n ++ cd (Str.ofString " ") ++ cd h ++ cd (Str.ofString " ") ++ numL m := by
  show cd n ++ [32] ++ (cd h ++ [32] ++ numL m) = _
  rw [show cd (Str.ofString " ") = [32] by decide +kernel]
  simp [List.append_assoc]
theorem how_cd {h : Str} (hh : h = "<" ∨ h = "=" ∨ h = ">") : (cd h).length = 1 ∧ 32 ∉ cd h := by
  rcases hh with rfl | rfl | rfl <;> exact ⟨by decide +kernel, by decide +kernel⟩
theorem hw_cd (o : Bool) : (cd (hw o)).length ≤ 3 ∧ 32 ∉ cd (hw o) := by cases o <;> exact ⟨by decide +kernel, by decide +kernel⟩
theorem numL_len {m : Int} (h : m.natAbs < 10 ^ 60) : (numL m).length ≤ 61 := by
  have := dig_len (k := 60) (by decide) h
  unfold numL
  split
  · rw [List.length_cons]; omega
  · omega
theorem txL_len {zs : List Str} : ∀ {t : Tr}, t.Ok zs → (txL t).length ≤ 100 * (t.size * t.depth)
  | .is n v, h => by
    obtain ⟨h1, w, rfl, h2⟩ := h
    have a := (name_let h1).1
    have b := (name_let h2).1
    rw [len_cd] at a b
    rw [txL_is, List.length_append, List.length_append]
    show (cd n).length + 4 + (cd w).length ≤ 100
    omega
  | .cmp n x m, h => by
    obtain ⟨h1, h2, h3⟩ := h
    have a := (name_let h1).1
    rw [len_cd] at a
    have b := (how_cd h2).1
    have c := numL_len h3
    rw [txL_cmp, List.length_append, List.length_append, List.length_append, List.length_append]
    show (cd n).length + 1 + (cd x).length + 1 + (numL m).length ≤ 100
    omega
  | .neg t, h => by
    have ih := txL_len (t := t) h
    rw [txL_neg, List.length_append]
    show 4 + (txL t).length ≤ 100 * (t.size * (t.depth + 1))
    have := t.size_pos
    rw [Nat.mul_add]; omega
  | .two o s t, h => by
    have i1 := txL_len h.1
    have i2 := txL_len h.2
    rw [txL_two, List.length_append, List.length_append, List.length_append, List.length_append, List.length_append, List.length_append]
    have e := (hw_cd o).1
    show 2 + (txL s).length + 1 + (cd (hw o)).length + 1 + (txL t).length + 2 ≤ 100 * ((s.size + t.size) * (1 + max s.depth t.depth))
    have p1 := s.size_pos
    have p2 : s.size * s.depth ≤ s.size * max s.depth t.depth := Nat.mul_le_mul_left _ (Nat.le_max_left _ _)
    have p3 : t.size * t.depth ≤ t.size * max s.depth t.depth := Nat.mul_le_mul_left _ (Nat.le_max_right _ _)
    rw [Nat.mul_add, Nat.mul_one, Nat.add_mul]
    omega
theorem two_bound {o : Bool} {s t : Tr} (h : (Tr.two o s t).size * (Tr.two o s t).depth ≤ 1000) : s.size * s.depth ≤ 1000 ∧ t.size * t.depth ≤ 1000 := by
  have h' : (s.size + t.size) * (1 + max s.depth t.depth) ≤ 1000 := h
  have a : s.size * s.depth ≤ (s.size + t.size) * (1 + max s.depth t.depth) := Nat.mul_le_mul (Nat.le_add_right _ _) (by omega)
  have b : t.size * t.depth ≤ (s.size + t.size) * (1 + max s.depth t.depth) := Nat.mul_le_mul (Nat.le_add_left _ _) (by omega)
  omega
theorem neg_bound {t : Tr} (h : (Tr.neg t).size * (Tr.neg t).depth ≤ 1000) : t.size * t.depth ≤ 1000 := by
  have h' : t.size * (t.depth + 1) ≤ 1000 := h
  have : t.size * t.depth ≤ t.size * (t.depth + 1) := Nat.mul_le_mul_left _ (by omega)
  omega
end K23
set_option maxHeartbeats 4000000
namespace K23
open PySem L2
seal PE PT PW PA PS PSs PG PGs PI PO PSet OpR UnR CallR TruR IxR SlR PC PPs
local macro_rules | `(tactic| walk_at "rd1") => `(tactic| first
  | (refine And.intro rfl ?_)
  | (refine And.intro (by assumption) ?_)
  | (refine And.intro (fun _ e => e) ?_)
  | (refine And.intro (TyOf.str _) ?_) | (refine And.intro (TyOf.int _) ?_) | (refine And.intro (TyOf.bl _) ?_) | (refine And.intro TyOf.non ?_)
  | (refine iteT ?_) | (refine iteF ?_)
  | (apply Exists.intro))
local macro_rules | `(tactic| walk_at "rd") => `(tactic| repeat (walk_at "rd1"))

theorem len_app (x y : Str) : (x ++ y).length = x.length + y.length := by rw [len_cd, cd_app, List.length_append, ← len_cd, ← len_cd]
theorem le_line {n : Nat} (h : n ≤ 200000) : n ≤ sizeLine := Nat.le_trans h (by decide)
theorem log_ok {m : Int} (h : m.natAbs < 10 ^ 60) : m.natAbs.log2 < 1920 := by
  by_cases z : m.natAbs = 0
  · rw [z]; decide
  · exact (Nat.log2_lt z).mpr (Nat.lt_of_lt_of_le h (by decide +kernel))
def kd : Tr → Nat
  | .is _ _ => 0
  | .cmp _ _ _ => 1
  | .neg _ => 2
  | .two false _ _ => 3
  | .two true _ _ => 4
section
variable {P : Program} {w : World} {K : PySem.W.Frag} {mg : Str → Option Value} {base : Heap} {A : Adr}
theorem is_txt (n w : Str) : (n ++ Str.ofString " is ") ++ w = S (txL (.is n (.str w))) := cd_inj (by rw [cd_app, cd_app, cd_S, txL_is]; rfl)
theorem cmp_txt (n h : Str) (m : Int) : (((n ++ Str.ofString " ") ++ h) ++ Str.ofString " ") ++ ((toString m : String) : Str) = S (txL (.cmp n h m)) := cd_inj (by rw [cd_app, cd_app, cd_app, cd_app, cd_S, txL_cmp, str_is, cd_S])
theorem neg_txt (t : Tr) : Str.ofString "not " ++ S (txL t) = S (txL (.neg t)) := cd_inj (by rw [cd_app, cd_S, cd_S, txL_neg])
theorem two_txt (o : Bool) (s t : Tr) : (((((Str.ofString "( " ++ S (txL s)) ++ Str.ofString " ") ++ hw o) ++ Str.ofString " ") ++ S (txL t)) ++ Str.ofString " )" = S (txL (.two o s t)) := cd_inj (by rw [cd_app, cd_app, cd_app, cd_app, cd_app, cd_app, cd_S, cd_S, cd_S, txL_two])
end
def spSh (A : Adr) (j n : Nat) : Sp := fun vs H Q _ => ∃ (x : V) (t : Tr) (zs : List Str), vs = [x] ∧ SyR A H t x ∧ t.depth < n ∧ kd t = j ∧ t.Ok zs ∧ t.size * t.depth ≤ 1000 ∧ Q (.str (S (txL t))) H
def spSW (A : Adr) (n : Nat) : Sp := fun vs H Q _ => ∃ (x : V) (o : Bool) (s t : Tr) (zs : List Str), vs = [x, .str (hw o)] ∧ SyR A H (.two o s t) x ∧ s.depth < n ∧ t.depth < n ∧ (Tr.two o s t).Ok zs ∧ (Tr.two o s t).size * (Tr.two o s t).depth ≤ 1000 ∧ Q (.str (S (txL (.two o s t)))) H
structure ShOk (P : Program) (w : World) (K : PySem.W.Frag) (mg : Str → Option Value) (base : Heap) (A : Adr) (n k : Nat) : Prop where
  a : FnOk P w K mg base CX0 k A.f_c_Is_shown A.d_c_Is_shown ["self"] (spSh A 0 n)
  b : FnOk P w K mg base CX0 k A.f_c_Compare_shown A.d_c_Compare_shown ["self"] (spSh A 1 n)
  c : FnOk P w K mg base CX0 k A.f_c_Not_shown A.d_c_Not_shown ["self"] (spSh A 2 n)
  d : FnOk P w K mg base CX0 k A.f_c_Both_shown A.d_c_Both_shown ["self"] (spSh A 3 n)
  e : FnOk P w K mg base CX0 k A.f_c_Either_shown A.d_c_Either_shown ["self"] (spSh A 4 n)
section
variable {P : Program} {w : World} {K : PySem.W.Frag} {mg : Str → Option Value} {base : Heap} {A : Adr}
theorem shown_of (T : Txt K mg A) {n k : Nat} (ih : ShOk P w K mg base A n k) {t : Tr} {x : V} {H : Hp} (hs : SyR A H t x) :
    ∃ (a C dx : Addr) (fs : List (Str × V)) (M : MethJ P w K mg base CX0 k C "shown"), x = .ref a ∧ H a = some (.ins C dx fs) ∧ fs.lookup (Str.ofString "shown") = none ∧ M.dvs = [] ∧ M.sp = spSh A (kd t) n := by
  cases t with
  | is nm v =>
    obtain ⟨a, dx, rfl, h⟩ := hs
    exact ⟨a, _, dx, _, ⟨A.f_c_Is_shown, A.d_c_Is_shown, ["self"], spSh A 0 n, [], [], T.cl_Is, T.me_Is_shown, ih.a, T.b_c_Is_shown, .nil⟩, rfl, h, rfl, rfl, rfl⟩
  | cmp nm h m =>
    obtain ⟨a, dx, rfl, h⟩ := hs
    exact ⟨a, _, dx, _, ⟨A.f_c_Compare_shown, A.d_c_Compare_shown, ["self"], spSh A 1 n, [], [], T.cl_Compare, T.me_Compare_shown, ih.b, T.b_c_Compare_shown, .nil⟩, rfl, h, rfl, rfl, rfl⟩
  | neg t =>
    obtain ⟨a, dx, y, rfl, h, _⟩ := hs
    exact ⟨a, _, dx, _, ⟨A.f_c_Not_shown, A.d_c_Not_shown, ["self"], spSh A 2 n, [], [], T.cl_Not, T.me_Not_shown, ih.c, T.b_c_Not_shown, .nil⟩, rfl, h, rfl, rfl, rfl⟩
  | two o s t =>
    obtain ⟨a, dx, y, z, rfl, h, _⟩ := hs
    cases o with
    | false => exact ⟨a, _, dx, _, ⟨A.f_c_Both_shown, A.d_c_Both_shown, ["self"], spSh A 3 n, [], [], T.cl_Both, T.me_Both_shown, ih.d, T.b_c_Both_shown, .nil⟩, rfl, h, rfl, rfl, rfl⟩
    | true => exact ⟨a, _, dx, _, ⟨A.f_c_Either_shown, A.d_c_Either_shown, ["self"], spSh A 4 n, [], [], T.cl_Either, T.me_Either_shown, ih.e, T.b_c_Either_shown, .nil⟩, rfl, h, rfl, rfl, rfl⟩
theorem swith_of (T : Txt K mg A) {n k : Nat} (ih : FnOk P w K mg base CX0 k A.f_c_Pair_shown_with A.d_c_Pair_shown_with ["self", "word"] (spSW A n)) {o : Bool} {s t : Tr} {x : V} {H : Hp} (hs : SyR A H (.two o s t) x) :
    ∃ (a C dx : Addr) (fs : List (Str × V)) (M : MethJ P w K mg base CX0 k C "shown_with"), x = .ref a ∧ H a = some (.ins C dx fs) ∧ fs.lookup (Str.ofString "shown_with") = none ∧ M.dvs = [] ∧ M.sp = spSW A n := by
  obtain ⟨a, dx, y, z, rfl, h, _⟩ := hs
  cases o with
  | false => exact ⟨a, _, dx, _, ⟨A.f_c_Pair_shown_with, A.d_c_Pair_shown_with, ["self", "word"], spSW A n, [], [], T.cl_Both, T.me_Both_shown_with, ih, T.b_c_Pair_shown_with, .nil⟩, rfl, h, rfl, rfl, rfl⟩
  | true => exact ⟨a, _, dx, _, ⟨A.f_c_Pair_shown_with, A.d_c_Pair_shown_with, ["self", "word"], spSW A n, [], [], T.cl_Either, T.me_Either_shown_with, ih, T.b_c_Pair_shown_with, .nil⟩, rfl, h, rfl, rfl, rfl⟩
theorem ok_is_shown (T : Txt K mg A) {n k : Nat} : FnOk P w K mg base CX0 (k + 1) A.f_c_Is_shown A.d_c_Is_shown ["self"] (spSh A 0 n) := by
  refine T.F_c_Is_shown.ok sc_c_Is_shown (fun vs H Q E h => ?_) (fun cdv A0 outer s H vs Q E hr h => ?_)
  · obtain ⟨x, t, zs, rfl, _⟩ := h
    rfl
  obtain ⟨x, t, zs, rfl, hs, hd, hk, hok, hb, q⟩ := h
  refine ⟨_, (pss_one (ps_ret (pe_op op_add_str (pe_op op_add_str (pe_fld (pv 0) rfl) pe_str) (pe_fld (pv 0) rfl)))), ?_⟩
  cases t with
  | is nm v =>
    obtain ⟨a, dx, rfl, h⟩ := hs
    obtain ⟨hn, wd, rfl, hwn⟩ := hok
    have l1 := (name_let hn).1
    have l2 := (name_let hwn).1
    refine ⟨_, rfl, a, _, dx, _, _, rfl, h, T.cl_Is, T.no_Is_name, rfl, _, _, rfl, rfl, le_line (by show nm.length + 4 ≤ _; omega), ?_⟩
    refine ⟨_, rfl, a, _, dx, _, _, rfl, h, T.cl_Is, T.no_Is_word, rfl, _, _, rfl, rfl, le_line (by rw [len_app]; show nm.length + 4 + _ ≤ _; omega), ?_⟩
    rw [is_txt]; exact q
  | cmp _ _ _ => cases hk
  | neg _ => cases hk
  | two o _ _ => cases o <;> cases hk
theorem ok_co_shown (T : Txt K mg A) {n k : Nat} : FnOk P w K mg base CX0 (k + 1) A.f_c_Compare_shown A.d_c_Compare_shown ["self"] (spSh A 1 n) := by
  refine T.F_c_Compare_shown.ok sc_c_Compare_shown (fun vs H Q E h => ?_) (fun cdv A0 outer s H vs Q E hr h => ?_)
  · obtain ⟨x, t, zs, rfl, _⟩ := h
    rfl
  obtain ⟨x, t, zs, rfl, hs, hd, hk, hok, hb, q⟩ := h
  refine ⟨_, (pss_one (ps_ret (pe_op op_add_str (pe_op op_add_str (pe_op op_add_str (pe_op op_add_str (pe_fld (pv 0) rfl) pe_str) (pe_fld (pv 0) rfl)) pe_str) (pe_callTy call_str_int (by rfl) T.n_str Bt.str (pa_cons (pe_fld (pv 0) rfl) pa_nil))))), ?_⟩
  cases t with
  | cmp nm h m =>
    obtain ⟨a, dx, rfl, ho⟩ := hs
    obtain ⟨hn, hh, hm⟩ := hok
    have l1 := (name_let hn).1
    have l2 := (how_cd hh).1
    rw [← len_cd] at l2
    have l3 := numL_len hm
    refine ⟨_, rfl, a, _, dx, _, _, rfl, ho, T.cl_Compare, T.no_Compare_name, rfl, _, _, rfl, rfl, le_line (by show nm.length + 1 ≤ _; omega), ?_⟩
    refine ⟨_, rfl, a, _, dx, _, _, rfl, ho, T.cl_Compare, T.no_Compare_how, rfl, _, _, rfl, rfl, le_line (by rw [len_app]; show nm.length + 1 + _ ≤ _; omega), ?_⟩
    refine ⟨_, _, rfl, rfl, le_line (by rw [len_app, len_app]; show nm.length + 1 + h.length + 1 ≤ _; omega), ?_⟩
    refine ⟨_, rfl, a, _, dx, _, _, rfl, ho, T.cl_Compare, T.no_Compare_number, rfl, _, rfl, log_ok hm, _, _, rfl, rfl, le_line (by rw [len_app, len_app, len_app, str_is, len_S]; show nm.length + 1 + h.length + 1 + _ ≤ _; omega), ?_⟩
    rw [cmp_txt]; exact q
  | is _ _ => cases hk
  | neg _ => cases hk
  | two o _ _ => cases o <;> cases hk
theorem ok_no_shown (T : Txt K mg A) {n kr k : Nat} (hle : kr ≤ k) (ih : ShOk P w K mg base A n kr) : FnOk P w K mg base CX0 (k + 1) A.f_c_Not_shown A.d_c_Not_shown ["self"] (spSh A 2 (n + 1)) := by
  refine T.F_c_Not_shown.ok sc_c_Not_shown (fun vs H Q E h => ?_) (fun cdv A0 outer s H vs Q E hr h => ?_)
  · obtain ⟨x, t, zs, rfl, _⟩ := h
    rfl
  obtain ⟨x, t, zs, rfl, hs, hd, hk, hok, hb, q⟩ := h
  refine ⟨_, (pss_one (ps_ret (pe_op op_add_str pe_str (pe_methG0 (CX := CX0) (k := kr) (hr.mono (by first | decide | omega)) pass0 (pe_fld (pv 0) rfl))))), ?_⟩
  cases t with
  | neg t =>
    obtain ⟨a, dx, y, rfl, h, hs1⟩ := hs
    have hd' : t.depth + 1 < n + 1 := hd
    have l1 := txL_len (t := t) hok
    have l2 := neg_bound hb
    obtain ⟨a1, C1, dx1, fs1, M, ey, h1, hl, hdv, hsp⟩ := shown_of T ih hs1
    refine ⟨_, rfl, a, _, dx, _, _, rfl, h, T.cl_Not, T.no_Not_test, rfl, a1, C1, dx1, fs1, M, ey, h1, hl, ?_⟩
    dsimp only [tNil]
    rw [hdv, hsp]
    refine ⟨y, t, zs, rfl, hs1, by omega, rfl, hok, l2, _, _, rfl, rfl, le_line (by rw [len_S]; show 4 + _ ≤ _; omega), ?_⟩
    rw [neg_txt]; exact q
  | is _ _ => cases hk
  | cmp _ _ _ => cases hk
  | two o _ _ => cases o <;> cases hk
theorem ok_pa_swith (T : Txt K mg A) {n kr : Nat} (ih : ShOk P w K mg base A n kr) : FnOk P w K mg base CX0 (kr + 1) A.f_c_Pair_shown_with A.d_c_Pair_shown_with ["self", "word"] (spSW A n) := by
  refine T.F_c_Pair_shown_with.ok sc_c_Pair_shown_with (fun vs H Q E h => ?_) (fun cdv A0 outer s H vs Q E hr h => ?_)
  · obtain ⟨x, o, s, t, zs, rfl, _⟩ := h
    rfl
  obtain ⟨x, o, t1, t2, zs, rfl, hs, hd1, hd2, hok, hb, q⟩ := h
  refine ⟨_, (pss_one (ps_ret (pe_op op_add_str (pe_op op_add_str (pe_op op_add_str (pe_op op_add_str (pe_op op_add_str (pe_op op_add_str pe_str (pe_methG0 (CX := CX0) (k := kr) (hr.mono (by first | decide | omega)) pass0 (pe_fld (pv 0) rfl))) pe_str) (pv 1)) pe_str) (pe_methG0 (CX := CX0) (k := kr) (hr.mono (by first | decide | omega)) pass0 (pe_fld (pv 0) rfl))) pe_str))), ?_⟩
  have hlen := txL_len hok
  obtain ⟨p1, p2⟩ := two_bound hb
  rw [txL_two, List.length_append, List.length_append, List.length_append, List.length_append, List.length_append, List.length_append] at hlen
  have hlen : 2 + (txL t1).length + 1 + (cd (hw o)).length + 1 + (txL t2).length + 2 ≤ 100000 := Nat.le_trans hlen (by omega)
  obtain ⟨a, dx, y, z, rfl, h, hs1, hs2⟩ := hs
  have cl : Cls K (cT A o) ∧ NoAttr K (cT A o) "one" ∧ NoAttr K (cT A o) "other" := by
    cases o
    · exact ⟨T.cl_Both, T.no_Both_one, T.no_Both_other⟩
    · exact ⟨T.cl_Either, T.no_Either_one, T.no_Either_other⟩
  obtain ⟨a1, C1, dx1, fs1, M, ey, h1, hl, hdv, hsp⟩ := shown_of T ih hs1
  refine ⟨_, rfl, a, _, dx, _, _, rfl, h, cl.1, cl.2.1, rfl, a1, C1, dx1, fs1, M, ey, h1, hl, ?_⟩
  dsimp only [tNil]
  rw [hdv, hsp]
  refine ⟨y, t1, zs, rfl, hs1, hd1, rfl, hok.1, p1, _, _, rfl, rfl, le_line (by rw [len_S]; show 2 + _ ≤ _; omega), ?_⟩
  refine ⟨_, _, rfl, rfl, le_line (by rw [len_app, len_S]; show 2 + _ + 1 ≤ _; omega), ?_⟩
  refine ⟨_, rfl, _, _, rfl, rfl, le_line (by rw [len_app, len_app, len_S, len_cd (hw o)]; show 2 + _ + 1 + _ ≤ _; omega), ?_⟩
  refine ⟨_, _, rfl, rfl, le_line (by rw [len_app, len_app, len_app, len_S, len_cd (hw o)]; show 2 + _ + 1 + _ + 1 ≤ _; omega), ?_⟩
  obtain ⟨a2, C2, dx2, fs2, M2, ez, h2, hl2, hdv2, hsp2⟩ := shown_of T ih hs2
  refine ⟨_, rfl, a, _, dx, _, _, rfl, h, cl.1, cl.2.2, rfl, a2, C2, dx2, fs2, M2, ez, h2, hl2, ?_⟩
  dsimp only [tNil]
  rw [hdv2, hsp2]
  refine ⟨z, t2, zs, rfl, hs2, hd2, rfl, hok.2, p2, _, _, rfl, rfl, le_line (by rw [len_app, len_app, len_app, len_app, len_S, len_S, len_cd (hw o)]; show 2 + _ + 1 + _ + 1 + _ ≤ _; omega), ?_⟩
  refine ⟨_, _, rfl, rfl, le_line (by rw [len_app, len_app, len_app, len_app, len_app, len_S, len_S, len_cd (hw o)]; show 2 + _ + 1 + _ + 1 + _ + 2 ≤ _; omega), ?_⟩
  rw [two_txt]; exact q
theorem ok_bo_shown (T : Txt K mg A) {n kb : Nat} (ih : FnOk P w K mg base CX0 kb A.f_c_Pair_shown_with A.d_c_Pair_shown_with ["self", "word"] (spSW A n)) : FnOk P w K mg base CX0 (kb + 1) A.f_c_Both_shown A.d_c_Both_shown ["self"] (spSh A 3 (n + 1)) := by
  refine T.F_c_Both_shown.ok sc_c_Both_shown (fun vs H Q E h => ?_) (fun cdv A0 outer s H vs Q E hr h => ?_)
  · obtain ⟨x, t, zs, rfl, _⟩ := h
    rfl
  obtain ⟨x, t, zs, rfl, hs, hd, hk, hok, hb, q⟩ := h
  refine ⟨_, (pss_one (ps_ret (pe_methG (CX := CX0) (k := kb) (hr.mono (by first | decide | omega)) pass0 (pv 0) (pa_cons pe_str pa_nil)))), ?_⟩
  cases t with
  | two o t1 t2 =>
    cases o with
    | true => cases hk
    | false =>
      have hd' : 1 + max t1.depth t2.depth < n + 1 := hd
      obtain ⟨a1, C1, dx1, fs1, M, ey, h1, hl, hdv, hsp⟩ := swith_of T ih hs
      refine ⟨_, rfl, a1, C1, dx1, fs1, M, ey, h1, hl, ?_⟩
      rw [hdv, hsp]
      exact ⟨x, false, t1, t2, zs, rfl, hs, by omega, by omega, hok, hb, q⟩
  | is _ _ => cases hk
  | cmp _ _ _ => cases hk
  | neg _ => cases hk
theorem ok_ei_shown (T : Txt K mg A) {n kb : Nat} (ih : FnOk P w K mg base CX0 kb A.f_c_Pair_shown_with A.d_c_Pair_shown_with ["self", "word"] (spSW A n)) : FnOk P w K mg base CX0 (kb + 1) A.f_c_Either_shown A.d_c_Either_shown ["self"] (spSh A 4 (n + 1)) := by
  refine T.F_c_Either_shown.ok sc_c_Either_shown (fun vs H Q E h => ?_) (fun cdv A0 outer s H vs Q E hr h => ?_)
  · obtain ⟨x, t, zs, rfl, _⟩ := h
    rfl
  obtain ⟨x, t, zs, rfl, hs, hd, hk, hok, hb, q⟩ := h
  refine ⟨_, (pss_one (ps_ret (pe_methG (CX := CX0) (k := kb) (hr.mono (by first | decide | omega)) pass0 (pv 0) (pa_cons pe_str pa_nil)))), ?_⟩
  cases t with
  | two o t1 t2 =>
    cases o with
    | false => cases hk
    | true =>
      have hd' : 1 + max t1.depth t2.depth < n + 1 := hd
      obtain ⟨a1, C1, dx1, fs1, M, ey, h1, hl, hdv, hsp⟩ := swith_of T ih hs
      refine ⟨_, rfl, a1, C1, dx1, fs1, M, ey, h1, hl, ?_⟩
      rw [hdv, hsp]
      exact ⟨x, true, t1, t2, zs, rfl, hs, by omega, by omega, hok, hb, q⟩
  | is _ _ => cases hk
  | cmp _ _ _ => cases hk
  | neg _ => cases hk
theorem ok_shown (T : Txt K mg A) : ∀ n : Nat, ShOk P w K mg base A n (2 * n + 1)
  | 0 => by
    have len : ∀ (j : Nat) (vs : List V) (H : Hp) (Q : VK) (E : XK), spSh A j 0 vs H Q E → False := fun j vs H Q E h => by
      obtain ⟨x, t, zs, rfl, _, hd, _⟩ := h
      exact absurd hd (by omega)
    exact ⟨⟨fun vs H Q E h => (len _ _ _ _ _ h).elim, fun _ _ _ _ _ _ _ _ _ _ _ _ _ h => (len _ _ _ _ _ h).elim⟩, ⟨fun vs H Q E h => (len _ _ _ _ _ h).elim, fun _ _ _ _ _ _ _ _ _ _ _ _ _ h => (len _ _ _ _ _ h).elim⟩, ⟨fun vs H Q E h => (len _ _ _ _ _ h).elim, fun _ _ _ _ _ _ _ _ _ _ _ _ _ h => (len _ _ _ _ _ h).elim⟩, ⟨fun vs H Q E h => (len _ _ _ _ _ h).elim, fun _ _ _ _ _ _ _ _ _ _ _ _ _ h => (len _ _ _ _ _ h).elim⟩, ⟨fun vs H Q E h => (len _ _ _ _ _ h).elim, fun _ _ _ _ _ _ _ _ _ _ _ _ _ h => (len _ _ _ _ _ h).elim⟩⟩
  | n + 1 =>
    have ih := ok_shown T n
    have bs := ok_pa_swith T ih
    ⟨ok_is_shown T, ok_co_shown T, ok_no_shown (k := 2 * n + 2) T (by omega) ih, ok_bo_shown T bs, ok_ei_shown T bs⟩
end
end K23
set_option maxHeartbeats 4000000
namespace K23
open PySem L2
seal PE PT PW PA PS PSs PG PGs PI PO PSet OpR UnR CallR TruR IxR SlR PC PPs
local macro_rules | `(tactic| walk_at "rd1") => `(tactic| first
  | (refine And.intro rfl ?_)
  | (refine And.intro (by assumption) ?_)
  | (refine And.intro (fun _ e => e) ?_)
  | (refine And.intro (TyOf.str _) ?_) | (refine And.intro (TyOf.int _) ?_) | (refine And.intro (TyOf.bl _) ?_) | (refine And.intro TyOf.non ?_)
  | (refine iteT ?_) | (refine iteF ?_)
  | (apply Exists.intro))
local macro_rules | `(tactic| walk_at "rd") => `(tactic| repeat (walk_at "rd1"))

/-! atoms, and the first open one -/
def atT : Tr → List Tr
  | .is n v => [.is n v]
  | .cmp n h m => [.cmp n h m]
  | .neg t => atT t
  | .two _ s t => atT s ++ atT t
theorem atT_len : ∀ t : Tr, (atT t).length = t.size
  | .is _ _ => rfl
  | .cmp _ _ _ => rfl
  | .neg t => atT_len t
  | .two _ s t => by show (atT s ++ atT t).length = s.size + t.size; rw [List.length_append, atT_len s, atT_len t]
theorem paired_mono {α β : Type} {R R' : α → β → Prop} (h : ∀ a b, R a b → R' a b) {as : List α} {bs : List β} (k : Paired R as bs) : Paired R' as bs := by
  induction k with
  | nil => exact .nil
  | cons r _ ih => exact .cons (h _ _ r) ih
theorem paired_at {α β : Type} {R : α → β → Prop} {as : List α} {bs : List β} (h : Paired R as bs) : ∀ {i : Nat} {x : α}, as[i]? = some x → ∃ b, bs[i]? = some b ∧ R x b := by
  induction h with
  | nil => intro i x e; simp at e
  | cons a _ ih =>
    intro i x e
    cases i with
    | zero => cases e; exact ⟨_, rfl, a⟩
    | succ j => exact ih e
theorem paired_len {α β : Type} {R : α → β → Prop} {as : List α} {bs : List β} (h : Paired R as bs) : as.length = bs.length := by
  induction h with
  | nil => rfl
  | cons _ _ ih => rw [List.length_cons, List.length_cons, ih]
def spA (A : Adr) (j n : Nat) : Sp := fun vs H Q _ => ∃ (x : V) (t : Tr), vs = [x] ∧ SyR A H t x ∧ t.depth < n ∧ t.size ≤ 1000 ∧ kd t = j ∧ ∀ a ys H', Same H H' → H' a = some (.lst ys) → Paired (fun y u => SyR A H' u y) ys (atT t) → Q (.ref a) H'
def spAP (A : Adr) (n : Nat) : Sp := fun vs H Q _ => ∃ (x : V) (o : Bool) (s t : Tr), vs = [x] ∧ SyR A H (.two o s t) x ∧ 1 + max s.depth t.depth < n ∧ s.size + t.size ≤ 1000 ∧ ∀ a ys H', Same H H' → H' a = some (.lst ys) → Paired (fun y u => SyR A H' u y) ys (atT s ++ atT t) → Q (.ref a) H'
structure AOk (P : Program) (w : World) (K : PySem.W.Frag) (mg : Str → Option Value) (base : Heap) (A : Adr) (n k : Nat) : Prop where
  a : FnOk P w K mg base CX0 k A.f_c_Is_atoms A.d_c_Is_atoms ["self"] (spA A 0 n)
  b : FnOk P w K mg base CX0 k A.f_c_Compare_atoms A.d_c_Compare_atoms ["self"] (spA A 1 n)
  c : FnOk P w K mg base CX0 k A.f_c_Not_atoms A.d_c_Not_atoms ["self"] (spA A 2 n)
  d : FnOk P w K mg base CX0 k A.f_c_Pair_atoms A.d_c_Pair_atoms ["self"] (spAP A n)
section
variable {P : Program} {w : World} {K : PySem.W.Frag} {mg : Str → Option Value} {base : Heap} {A : Adr}
theorem atoms_of (T : Txt K mg A) {n k : Nat} (ih : AOk P w K mg base A n k) {t : Tr} {x : V} {H : Hp} (hs : SyR A H t x) :
    ∃ (a C dx : Addr) (fs : List (Str × V)) (M : MethJ P w K mg base CX0 k C "atoms"), x = .ref a ∧ H a = some (.ins C dx fs) ∧ fs.lookup (Str.ofString "atoms") = none ∧ M.dvs = [] ∧ 
      ∀ Q E, (t.depth < n ∧ t.size ≤ 1000 ∧ ∀ a ys H', Same H H' → H' a = some (.lst ys) → Paired (fun y u => SyR A H' u y) ys (atT t) → Q (.ref a) H') → M.sp [x] H Q E := by
  cases t with
  | is nm v =>
    obtain ⟨a, dx, rfl, h⟩ := id hs
    exact ⟨a, _, dx, _, ⟨A.f_c_Is_atoms, A.d_c_Is_atoms, ["self"], spA A 0 n, [], [], T.cl_Is, T.me_Is_atoms, ih.a, T.b_c_Is_atoms, .nil⟩, rfl, h, rfl, rfl, fun Q E ⟨h1, h2, h3⟩ => ⟨_, _, rfl, hs, h1, h2, rfl, h3⟩⟩
  | cmp nm h m =>
    obtain ⟨a, dx, rfl, h⟩ := id hs
    exact ⟨a, _, dx, _, ⟨A.f_c_Compare_atoms, A.d_c_Compare_atoms, ["self"], spA A 1 n, [], [], T.cl_Compare, T.me_Compare_atoms, ih.b, T.b_c_Compare_atoms, .nil⟩, rfl, h, rfl, rfl, fun Q E ⟨h1, h2, h3⟩ => ⟨_, _, rfl, hs, h1, h2, rfl, h3⟩⟩
  | neg t =>
    obtain ⟨a, dx, y, rfl, h, _⟩ := id hs
    exact ⟨a, _, dx, _, ⟨A.f_c_Not_atoms, A.d_c_Not_atoms, ["self"], spA A 2 n, [], [], T.cl_Not, T.me_Not_atoms, ih.c, T.b_c_Not_atoms, .nil⟩, rfl, h, rfl, rfl, fun Q E ⟨h1, h2, h3⟩ => ⟨_, _, rfl, hs, h1, h2, rfl, h3⟩⟩
  | two o s t =>
    obtain ⟨a, dx, y, z, rfl, h, _⟩ := id hs
    have key : ∀ Q E, ((Tr.two o s t).depth < n ∧ (Tr.two o s t).size ≤ 1000 ∧ ∀ a ys H', Same H H' → H' a = some (.lst ys) → Paired (fun y u => SyR A H' u y) ys (atT (.two o s t)) → Q (.ref a) H') → spAP A n [.ref a] H Q E := fun Q E ⟨h1, h2, h3⟩ => by
      exact ⟨_, o, s, t, rfl, hs, h1, h2, h3⟩
    cases o with
    | false => exact ⟨a, _, dx, _, ⟨A.f_c_Pair_atoms, A.d_c_Pair_atoms, ["self"], spAP A n, [], [], T.cl_Both, T.me_Both_atoms, ih.d, T.b_c_Pair_atoms, .nil⟩, rfl, h, rfl, rfl, key⟩
    | true => exact ⟨a, _, dx, _, ⟨A.f_c_Pair_atoms, A.d_c_Pair_atoms, ["self"], spAP A n, [], [], T.cl_Either, T.me_Either_atoms, ih.d, T.b_c_Pair_atoms, .nil⟩, rfl, h, rfl, rfl, key⟩
theorem ok_is_atoms (T : Txt K mg A) {n k : Nat} : FnOk P w K mg base CX0 (k + 1) A.f_c_Is_atoms A.d_c_Is_atoms ["self"] (spA A 0 n) := by
  refine T.F_c_Is_atoms.ok sc_c_Is_atoms (fun vs H Q E h => ?_) (fun cdv A0 outer s H vs Q E hr h => ?_)
  · obtain ⟨x, t, rfl, _⟩ := h
    rfl
  obtain ⟨x, t, rfl, hs, _, _, hk, q⟩ := h
  refine ⟨_, (pss_one (ps_ret (pe_lst (pa_cons (pv 0) pa_nil)))), ?_⟩
  cases t with
  | is nm v =>
    refine ⟨_, rfl, (by show 1 ≤ sizeLine; decide), fun p hp => ?_⟩
    have sp := same_new hp (.lst [x])
    exact q p [x] _ sp upd_same (.cons (hs.same sp) .nil)
  | cmp _ _ _ => cases hk
  | neg _ => cases hk
  | two o _ _ => cases o <;> cases hk
theorem ok_co_atoms (T : Txt K mg A) {n k : Nat} : FnOk P w K mg base CX0 (k + 1) A.f_c_Compare_atoms A.d_c_Compare_atoms ["self"] (spA A 1 n) := by
  refine T.F_c_Compare_atoms.ok sc_c_Compare_atoms (fun vs H Q E h => ?_) (fun cdv A0 outer s H vs Q E hr h => ?_)
  · obtain ⟨x, t, rfl, _⟩ := h
    rfl
  obtain ⟨x, t, rfl, hs, _, _, hk, q⟩ := h
  refine ⟨_, (pss_one (ps_ret (pe_lst (pa_cons (pv 0) pa_nil)))), ?_⟩
  cases t with
  | cmp nm h m =>
    refine ⟨_, rfl, (by show 1 ≤ sizeLine; decide), fun p hp => ?_⟩
    have sp := same_new hp (.lst [x])
    exact q p [x] _ sp upd_same (.cons (hs.same sp) .nil)
  | is _ _ => cases hk
  | neg _ => cases hk
  | two o _ _ => cases o <;> cases hk
theorem ok_no_atoms (T : Txt K mg A) {n ka : Nat} (ih : AOk P w K mg base A n ka) : FnOk P w K mg base CX0 (ka + 1) A.f_c_Not_atoms A.d_c_Not_atoms ["self"] (spA A 2 (n + 1)) := by
  refine T.F_c_Not_atoms.ok sc_c_Not_atoms (fun vs H Q E h => ?_) (fun cdv A0 outer s H vs Q E hr h => ?_)
  · obtain ⟨x, t, rfl, _⟩ := h
    rfl
  obtain ⟨x, t, rfl, hs, hd, hz, hk, q⟩ := h
  refine ⟨_, (pss_one (ps_ret (pe_methG0 (CX := CX0) (k := ka) (hr.mono (by first | decide | omega)) pass0 (pe_fld (pv 0) rfl)))), ?_⟩
  cases t with
  | neg t =>
    obtain ⟨a, dx, y, rfl, h, hs1⟩ := hs
    have hd' : t.depth + 1 < n + 1 := hd
    obtain ⟨a1, C1, dx1, fs1, M, ey, h1, hl, hdv, hsp⟩ := atoms_of T ih hs1
    refine ⟨_, rfl, a, _, dx, _, _, rfl, h, T.cl_Not, T.no_Not_test, rfl, a1, C1, dx1, fs1, M, ey, h1, hl, ?_⟩
    dsimp only [tNil]
    rw [hdv]
    exact hsp _ _ ⟨by omega, hz, q⟩
  | is _ _ => cases hk
  | cmp _ _ _ => cases hk
  | two o _ _ => cases o <;> cases hk
theorem ok_pa_atoms (T : Txt K mg A) {n ka : Nat} (ih : AOk P w K mg base A n ka) : FnOk P w K mg base CX0 (ka + 1) A.f_c_Pair_atoms A.d_c_Pair_atoms ["self"] (spAP A (n + 1)) := by
  refine T.F_c_Pair_atoms.ok sc_c_Pair_atoms (fun vs H Q E h => ?_) (fun cdv A0 outer s H vs Q E hr h => ?_)
  · obtain ⟨x, o, s, t, rfl, _⟩ := h
    rfl
  obtain ⟨x, o, t1, t2, rfl, hs, hd, hz, q⟩ := h
  refine ⟨_, (pss_one (ps_ret (pe_op op_cat (pe_methG0 (CX := CX0) (k := ka) (hr.mono (by first | decide | omega)) pass0 (pe_fld (pv 0) rfl)) (pe_methG0 (CX := CX0) (k := ka) (hr.mono (by first | decide | omega)) pass0 (pe_fld (pv 0) rfl))))), ?_⟩
  obtain ⟨a, dx, y, z, rfl, h, hs1, hs2⟩ := hs
  have cl : Cls K (cT A o) ∧ NoAttr K (cT A o) "one" ∧ NoAttr K (cT A o) "other" := by
    cases o
    · exact ⟨T.cl_Both, T.no_Both_one, T.no_Both_other⟩
    · exact ⟨T.cl_Either, T.no_Either_one, T.no_Either_other⟩
  obtain ⟨a1, C1, dx1, fs1, M, ey, h1, hl, hdv, hsp⟩ := atoms_of T ih hs1
  refine ⟨_, rfl, a, _, dx, _, _, rfl, h, cl.1, cl.2.1, rfl, a1, C1, dx1, fs1, M, ey, h1, hl, ?_⟩
  dsimp only [tNil]
  rw [hdv]
  refine hsp _ _ ⟨by omega, by omega, fun l1 ys1 H1 s1 e1 p1 => ?_⟩
  have hs2' := hs2.same s1
  obtain ⟨a2, C2, dx2, fs2, M2, ez, h2, hl2, hdv2, hsp2⟩ := atoms_of T ih hs2'
  refine ⟨_, rfl, a, _, dx, _, _, rfl, s1 _ _ h, cl.1, cl.2.2, rfl, a2, C2, dx2, fs2, M2, ez, h2, hl2, ?_⟩
  dsimp only [tNil]
  rw [hdv2]
  refine hsp2 _ _ ⟨by omega, by omega, fun l2 ys2 H2 s2 e2 p2 => ?_⟩
  refine ⟨l1, l2, ys1, ys2, rfl, rfl, s2 _ _ e1, e2, ?_, fun p hp => ?_⟩
  · rw [paired_len p1, paired_len p2, atT_len, atT_len]; exact Nat.le_trans hz (by decide)
  have s3 := same_new hp (.lst (ys1 ++ ys2))
  exact q p _ _ (s1.trans (s2.trans s3)) upd_same (paired_app (paired_mono (fun y u r => SyR.same (s2.trans s3) r) p1) (paired_mono (fun y u r => SyR.same s3 r) p2))
theorem ok_atoms (T : Txt K mg A) : ∀ n : Nat, AOk P w K mg base A n (n + 1)
  | 0 => by
    have len : ∀ (j : Nat) (vs : List V) (H : Hp) (Q : VK) (E : XK), spA A j 0 vs H Q E → False := fun j vs H Q E h => by
      obtain ⟨x, t, rfl, _, hd, _⟩ := h
      exact absurd hd (by omega)
    have len2 : ∀ (vs : List V) (H : Hp) (Q : VK) (E : XK), spAP A 0 vs H Q E → False := fun vs H Q E h => by
      obtain ⟨x, o, s, t, rfl, _, hd, _⟩ := h
      exact absurd hd (by omega)
    exact ⟨⟨fun vs H Q E h => (len _ _ _ _ _ h).elim, fun _ _ _ _ _ _ _ _ _ _ _ _ _ h => (len _ _ _ _ _ h).elim⟩, ⟨fun vs H Q E h => (len _ _ _ _ _ h).elim, fun _ _ _ _ _ _ _ _ _ _ _ _ _ h => (len _ _ _ _ _ h).elim⟩, ⟨fun vs H Q E h => (len _ _ _ _ _ h).elim, fun _ _ _ _ _ _ _ _ _ _ _ _ _ h => (len _ _ _ _ _ h).elim⟩, ⟨fun vs H Q E h => (len2 _ _ _ _ h).elim, fun _ _ _ _ _ _ _ _ _ _ _ _ _ h => (len2 _ _ _ _ h).elim⟩⟩
  | n + 1 =>
    have ih := ok_atoms T n
    ⟨ok_is_atoms T, ok_co_atoms T, ok_no_atoms T ih, ok_pa_atoms T ih⟩
end
end K23
set_option maxHeartbeats 4000000
namespace K23
open PySem L2
seal PE PT PW PA PS PSs PG PGs PI PO PSet OpR UnR CallR TruR IxR SlR PC PPs
local macro_rules | `(tactic| walk_at "rd1") => `(tactic| first
  | (refine And.intro rfl ?_)
  | (refine And.intro (by assumption) ?_)
  | (refine And.intro (fun _ e => e) ?_)
  | (refine And.intro (TyOf.str _) ?_) | (refine And.intro (TyOf.int _) ?_) | (refine And.intro (TyOf.bl _) ?_) | (refine And.intro TyOf.non ?_)
  | (refine iteT ?_) | (refine iteF ?_)
  | (apply Exists.intro))
local macro_rules | `(tactic| walk_at "rd") => `(tactic| repeat (walk_at "rd1"))

/-! reading, as a function of words -/
abbrev Wd := List Nat
abbrev cNot : Wd := cd (Str.ofString "not")
abbrev cLp : Wd := cd (Str.ofString "(")
abbrev cRp : Wd := cd (Str.ofString ")")
abbrev cAnd : Wd := cd (Str.ofString "and")
abbrev cOr : Wd := cd (Str.ofString "or")
abbrev cIs : Wd := cd (Str.ofString "is")
def tk : Option (List Wd) → Wd × Option (List Wd)
  | some (w :: r) => (w, some r)
  | some [] => ([], none)
  | none => ([], none)
def rdA (x y z : Wd) : Option Tr :=
  if nameB (S x) = true ∧ y = cIs ∧ nameB (S z) = true then some (.is (S x) (.str (S z)))
  else match numB z 60 with
    | some n => if nameB (S x) = true ∧ (S y = "<" ∨ S y = "=" ∨ S y = ">") then some (.cmp (S x) (S y) n) else none
    | none => none
def rdP (p : Tr × Option (List Wd)) (q : Tr × Option (List Wd)) : Option (Tr × Option (List Wd)) :=
  if (tk q.2).1 = cRp ∧ (tk p.2).1 = cAnd then some (.two false p.1 q.1, (tk q.2).2) else if (tk q.2).1 = cRp ∧ (tk p.2).1 = cOr then some (.two true p.1 q.1, (tk q.2).2) else none
def rdN : Nat → Option (List Wd) → Option (Tr × Option (List Wd))
  | 0, _ => none
  | d + 1, s =>
    if (tk s).1 = cNot then (rdN d (tk s).2).map fun p => (.neg p.1, p.2)
    else if (tk s).1 = cLp then (rdN d (tk s).2).bind fun p => (rdN d (tk p.2).2).bind fun q => rdP p q
    else (rdA (tk s).1 (tk (tk s).2).1 (tk (tk (tk s).2).2).1).map fun t => (t, (tk (tk (tk s).2).2).2)
theorem rd_dp : ∀ {d : Nat} {s s' : Option (List Wd)} {t : Tr}, rdN d s = some (t, s') → t.depth ≤ d ∧ t.size ≤ 2 ^ d
  | 0, _, _, _, h => by cases h
  | d + 1, s, s', t, h => by
    have h2 : 0 < 2 ^ d := Nat.two_pow_pos d
    unfold rdN at h
    split at h
    · obtain ⟨⟨u, s1⟩, h1, e⟩ := Option.map_eq_some_iff.mp h
      cases e
      obtain ⟨a, b⟩ := rd_dp h1
      exact ⟨by show u.depth + 1 ≤ d + 1; omega, by show u.size ≤ 2 ^ (d + 1); rw [Nat.pow_succ]; omega⟩
    · split at h
      · obtain ⟨p, h1, h⟩ := Option.bind_eq_some_iff.mp h
        obtain ⟨q, h2', h⟩ := Option.bind_eq_some_iff.mp h
        obtain ⟨u, s1⟩ := p
        obtain ⟨v, s2⟩ := q
        obtain ⟨a, b⟩ := rd_dp h1
        obtain ⟨a', b'⟩ := rd_dp h2'
        have key : ∀ o, (Tr.two o u v).depth ≤ d + 1 ∧ (Tr.two o u v).size ≤ 2 ^ (d + 1) := fun o =>
          ⟨by show 1 + max u.depth v.depth ≤ d + 1; omega, by show u.size + v.size ≤ 2 ^ (d + 1); rw [Nat.pow_succ]; omega⟩
        unfold rdP at h
        split at h
        · cases h; exact key false
        · split at h
          · cases h; exact key true
          · cases h
      · obtain ⟨u, h1, e⟩ := Option.map_eq_some_iff.mp h
        cases e
        have key : t.depth = 1 ∧ t.size = 1 := by
          unfold rdA at h1
          split at h1
          · cases h1; exact ⟨rfl, rfl⟩
          · split at h1
            · split at h1
              · cases h1; exact ⟨rfl, rfl⟩
              · cases h1
            · cases h1
        exact ⟨by rw [key.1]; omega, by rw [key.2, Nat.pow_succ]; omega⟩
/-- how many are taken, and what is left -/
def SR' (ws : List Wd) (k : Nat) (st : Option (List Wd)) : Prop := (st = some (ws.drop k) ∧ k ≤ ws.length) ∨ (st = none ∧ ws.length < k)
theorem SR'.tk {ws : List Wd} {k : Nat} {st : Option (List Wd)} (h : SR' ws k st) : (tk st).1 = ws.getD k [] ∧ SR' ws (k + 1) (K23.tk st).2 := by
  rcases h with ⟨rfl, h⟩ | ⟨rfl, h⟩
  · by_cases e : k < ws.length
    · have hd : ws.drop k = ws[k] :: ws.drop (k + 1) := (List.getElem_cons_drop ..).symm
      rw [hd]
      exact ⟨by simp [K23.tk, List.getD, e], .inl ⟨rfl, e⟩⟩
    · have hd : ws.drop k = [] := List.drop_eq_nil_of_le (by omega)
      rw [hd]
      exact ⟨by simp [K23.tk, List.getD, Nat.not_lt.mp e], .inr ⟨rfl, by omega⟩⟩
  · exact ⟨by simp [K23.tk, List.getD, Nat.le_of_lt h], .inr ⟨rfl, by omega⟩⟩
theorem SR'.fine {ws : List Wd} (hf : ∀ l ∈ ws, Fine 1000 (S l)) (k : Nat) : Fine 1000 (S (ws.getD k [])) := by
  by_cases e : k < ws.length
  · have : ws.getD k [] = ws[k] := by simp [List.getD, e]
    rw [this]; exact hf _ (List.getElem_mem e)
  · have : ws.getD k [] = [] := by simp [List.getD, Nat.not_lt.mp e]
    rw [this]; exact ⟨by rw [len_S]; decide, fun c hc => by rw [cd_S] at hc; cases hc⟩
abbrev wv (ws : List (List Nat)) : List V := ws.map fun l => V.str (S l)
def WLeft (A : Adr) (H : Hp) (lw dx lws : Addr) (k : Nat) : Prop := H lw = some (.ins A.c_WordsLeft dx [("words", .ref lws), ("taken", .int (k : Nat))])
def spWI (A : Adr) : Sp := fun vs H Q _ => ∃ p dx u1, vs = [.ref p, u1] ∧ H p = some (.ins A.c_WordsLeft dx []) ∧ Q .non (upd H p (.ins A.c_WordsLeft dx [("words", u1), ("taken", .int 0)]))
def spTk (A : Adr) : Sp := fun vs H Q _ => ∃ (lw dx lws : Addr) (k : Nat) (ws : List (List Nat)), vs = [.ref lw] ∧ WLeft A H lw dx lws k ∧ H lws = some (.lst (wv ws)) ∧ ∀ H', SameB lw H H' → WLeft A H' lw dx lws (k + 1) → Q (.str (S (ws.getD k []))) H'
def spAll (A : Adr) : Sp := fun vs H Q _ => ∃ (lw dx lws : Addr) (k : Nat) (ws : List (List Nat)), vs = [.ref lw] ∧ WLeft A H lw dx lws k ∧ H lws = some (.lst (wv ws)) ∧ Q (.bl (decide (k = ws.length))) H
def spRA (A : Adr) (K : PySem.W.Frag) : Sp := fun vs H Q E => ∃ x y z : Wd, vs = [.str (S x), .str (S y), .str (S z)] ∧ Fine 1000 (S x) ∧ Fine 1000 (S y) ∧ Fine 1000 (S z) ∧ (∀ t, rdA x y z = some t → ∀ u H', Same H H' → SyR A H' t u → Q u H') ∧ (rdA x y z = none → ∀ H', Same H H' → E (.ref A.c_NoSaying) none H')
def spRN (A : Adr) (K : PySem.W.Frag) (n : Nat) : Sp := fun vs H Q E => ∃ (lw dx lws : Addr) (k : Nat) (ws : List Wd) (st : Option (List Wd)), vs = [.ref lw, .int (n : Nat)] ∧ WLeft A H lw dx lws k ∧ H lws = some (.lst (wv ws)) ∧ (∀ l ∈ ws, Fine 1000 (S l)) ∧ SR' ws k st ∧
  (∀ t st', rdN n st = some (t, st') → ∀ u H' k', SameB lw H H' → WLeft A H' lw dx lws k' → SR' ws k' st' → SyR A H' t u → Q u H') ∧ (rdN n st = none → ∀ H', SameB lw H H' → E (.ref A.c_NoSaying) none H')
def spRP (A : Adr) (K : PySem.W.Frag) (n : Nat) : Sp := fun vs H Q E => ∃ (lw dx lws : Addr) (k : Nat) (ws : List Wd) (st : Option (List Wd)), vs = [.ref lw, .int (n : Nat)] ∧ WLeft A H lw dx lws k ∧ H lws = some (.lst (wv ws)) ∧ (∀ l ∈ ws, Fine 1000 (S l)) ∧ SR' ws k st ∧
  (∀ t st', ((rdN n st).bind fun p => (rdN n (tk p.2).2).bind fun q => rdP p q) = some (t, st') → ∀ u H' k', SameB lw H H' → WLeft A H' lw dx lws k' → SR' ws k' st' → SyR A H' t u → Q u H') ∧ (((rdN n st).bind fun p => (rdN n (tk p.2).2).bind fun q => rdP p q) = none → ∀ H', SameB lw H H' → E (.ref A.c_NoSaying) none H')
theorem sbT {lw : Addr} {H H1 H2 : Hp} (a : SameB lw H H1) (b : SameB lw H1 H2) : SameB lw H H2 := fun c o n e => b c o n (a c o n e)
theorem sbO {lw : Addr} {H H' : Hp} (s : Same H H') : SameB lw H H' := fun c o _ e => s c o e
theorem sbR {lw : Addr} {H : Hp} : SameB lw H H := fun c o _ e => e
theorem sbL {lw dx lws : Addr} {k : Nat} {xs : List V} {A : Adr} {H H' : Hp} (s : SameB lw H H') (w : WLeft A H lw dx lws k) (h : H lws = some (.lst xs)) : H' lws = some (.lst xs) := s _ _ (by rintro rfl; rw [show H lws = _ from w] at h; cases h) h
section
variable {P : Program} {w : World} {K : PySem.W.Frag} {mg : Str → Option Value} {base : Heap} {A : Adr}
theorem ok_wl_init (T : Txt K mg A) : FnOk P w K mg base CX0 1 A.f_c_WordsLeft___init A.d_c_WordsLeft___init ["self", "words"] (spWI A) := by
  refine T.F_c_WordsLeft___init.ok sc_c_WordsLeft___init (fun vs H Q E h => ?_) (fun cdv A0 outer s H vs Q E hr h => ?_)
  · obtain ⟨p, dx, u1, rfl, _⟩ := h
    rfl
  obtain ⟨p, dx, u1, rfl, hp, q⟩ := h
  refine ⟨_, (pss_cons (ps_fld (pv 0) (pv 1) rfl)
      (pss_one (ps_fld (pv 0) pe_int rfl))), ?_⟩
  refine ⟨_, rfl, _, rfl, p, _, dx, _, rfl, hp, T.cl_WordsLeft, T.no_WordsLeft_words, by decide, ?_⟩
  refine ⟨_, rfl, p, _, dx, _, rfl, upd_same, T.cl_WordsLeft, T.no_WordsLeft_taken, (by show 1 < 1000; decide), ?_⟩
  rw [upd_upd]
  exact q
theorem ok_take (T : Txt K mg A) : FnOk P w K mg base CX0 1 A.f_c_WordsLeft_take A.d_c_WordsLeft_take ["self"] (spTk A) := by
  refine T.F_c_WordsLeft_take.ok sc_c_WordsLeft_take (fun vs H Q E h => ?_) (fun cdv A0 outer s H vs Q E hr h => ?_)
  · obtain ⟨lw, dx, lws, k, ws, rfl, _⟩ := h
    rfl
  obtain ⟨lw, dx, lws, k, ws, rfl, hw', hl, q⟩ := h
  refine ⟨_, (pss_cons (ps_set (i := 1) sc_c_WordsLeft_take.nd rfl (by first | exact Or.inl rfl | exact Or.inr rfl) (pe_ifExp (pt_cmpR op_lt (pe_fld (pv 0) rfl) (pe_callB call_len_seq (by rfl) T.n_len PySem.boot_len (pa_cons (pe_fld (pv 0) rfl) pa_nil)) (nomark _)) (pe_ix ix_list (pe_fld (pv 0) rfl) (pe_fld (pv 0) rfl) (fun _ _ => rfl)) pe_str))
      (pss_cons (ps_fldaug (pv 0) pe_int in_add)
      (pss_one (ps_ret (pv 1))))), ?_⟩
  refine ⟨_, rfl, lw, _, dx, _, _, rfl, hw', T.cl_WordsLeft, T.no_WordsLeft_taken, rfl, _, rfl, lw, _, dx, _, _, rfl, hw', T.cl_WordsLeft, T.no_WordsLeft_words, rfl, lws, _, rfl, .inl (SqL.of hl), _, _, rfl, rfl, _, rfl, ?_⟩
  by_cases hlt : k < ws.length
  · have hat : atI (wv ws) ((k : Nat) : Int) = some (.str (S (ws.getD k []))) := atI_nat (by rw [List.getElem?_map, List.getElem?_eq_getElem hlt]; simp [List.getD, hlt])
    rw [show decide (((k : Nat) : Int) < (((wv ws).length : Nat) : Int)) = true from decide_eq_true (by rw [List.length_map]; omega)]
    refine iteT ⟨_, rfl, lw, _, dx, _, _, rfl, hw', T.cl_WordsLeft, T.no_WordsLeft_words, rfl, _, rfl, lw, _, dx, _, _, rfl, hw', T.cl_WordsLeft, T.no_WordsLeft_taken, rfl, lws, _, _, _, rfl, rfl, SqL.of hl, hat, ?_⟩
    refine ⟨_, rfl, lw, _, dx, _, _, rfl, hw', T.cl_WordsLeft, T.no_WordsLeft_taken, rfl, _, _, rfl, rfl, dx, _, hw', (by show 2 < 1000; decide), ?_⟩
    exact ⟨_, rfl, q _ (fun b o n e => by rw [upd_ne n]; exact e) (by show upd _ _ _ _ = _; rw [upd_same]; rfl)⟩
  · rw [show decide (((k : Nat) : Int) < (((wv ws).length : Nat) : Int)) = false from decide_eq_false (by rw [List.length_map]; omega)]
    have e0 : S (ws.getD k []) = Str.ofString "" := by
      rw [show ws.getD k [] = [] by simp [List.getD, Nat.not_lt.mp hlt]]; decide +kernel
    rw [e0] at q
    refine iteF ?_
    refine ⟨_, rfl, lw, _, dx, _, _, rfl, hw', T.cl_WordsLeft, T.no_WordsLeft_taken, rfl, _, _, rfl, rfl, dx, _, hw', (by show 2 < 1000; decide), ?_⟩
    exact ⟨_, rfl, q _ (fun b o n e => by rw [upd_ne n]; exact e) (by show upd _ _ _ _ = _; rw [upd_same]; rfl)⟩
theorem ok_all_taken (T : Txt K mg A) : FnOk P w K mg base CX0 1 A.f_c_WordsLeft_are_all_taken A.d_c_WordsLeft_are_all_taken ["self"] (spAll A) := by
  refine T.F_c_WordsLeft_are_all_taken.ok sc_c_WordsLeft_are_all_taken (fun vs H Q E h => ?_) (fun cdv A0 outer s H vs Q E hr h => ?_)
  · obtain ⟨lw, dx, lws, k, ws, rfl, _⟩ := h
    rfl
  obtain ⟨lw, dx, lws, k, ws, rfl, hw', hl, q⟩ := h
  refine ⟨_, (pss_one (ps_ret (pe_cmpR op_eq (pe_fld (pv 0) rfl) (pe_callB call_len_seq (by rfl) T.n_len PySem.boot_len (pa_cons (pe_fld (pv 0) rfl) pa_nil)) (nomark _)))), ?_⟩
  refine ⟨_, rfl, lw, _, dx, _, _, rfl, hw', T.cl_WordsLeft, T.no_WordsLeft_taken, rfl, _, rfl, lw, _, dx, _, _, rfl, hw', T.cl_WordsLeft, T.no_WordsLeft_words, rfl, lws, _, rfl, .inl (SqL.of hl), rfl, ?_⟩
  rw [show decide (V.int ((k : Nat) : Int) = V.int (((wv ws).length : Nat) : Int)) = decide (k = ws.length) from decide_eq_decide.mpr (by rw [List.length_map]; constructor; (intro e; exact Int.ofNat.inj (V.int.inj e)); (intro e; rw [e]))]
  exact q
theorem take_of (T : Txt K mg A) {H : Hp} {lw dx lws : Addr} {k : Nat} (h : WLeft A H lw dx lws k) :
    ∃ (a C dx : Addr) (fs : List (Str × V)) (M : MethJ P w K mg base CX0 1 C "take"), V.ref lw = .ref a ∧ H a = some (.ins C dx fs) ∧ fs.lookup (Str.ofString "take") = none ∧ M.dvs = [] ∧ M.sp = spTk A :=
  ⟨lw, _, dx, _, ⟨A.f_c_WordsLeft_take, A.d_c_WordsLeft_take, ["self"], spTk A, [], [], T.cl_WordsLeft, T.me_WordsLeft_take, ok_take T, T.b_c_WordsLeft_take, .nil⟩, rfl, h, rfl, rfl, rfl⟩
theorem allt_of (T : Txt K mg A) {H : Hp} {lw dx lws : Addr} {k : Nat} (h : WLeft A H lw dx lws k) :
    ∃ (a C dx : Addr) (fs : List (Str × V)) (M : MethJ P w K mg base CX0 1 C "are_all_taken"), V.ref lw = .ref a ∧ H a = some (.ins C dx fs) ∧ fs.lookup (Str.ofString "are_all_taken") = none ∧ M.dvs = [] ∧ M.sp = spAll A :=
  ⟨lw, _, dx, _, ⟨A.f_c_WordsLeft_are_all_taken, A.d_c_WordsLeft_are_all_taken, ["self"], spAll A, [], [], T.cl_WordsLeft, T.me_WordsLeft_are_all_taken, ok_all_taken T, T.b_c_WordsLeft_are_all_taken, .nil⟩, rfl, h, rfl, rfl, rfl⟩
theorem ok_str (T : Txt K mg A) {H : Hp} {z : Str} (h : Fine 1000 z) : Ok K H (.str z) := ⟨⟨thStr T H z, trivial⟩, fun y e => by cases e; exact h⟩
end
end K23
set_option maxHeartbeats 4000000
namespace K23
open PySem L2
seal PE PT PW PA PS PSs PG PGs PI PO PSet OpR UnR CallR TruR IxR SlR PC PPs
local macro_rules | `(tactic| walk_at "rd1") => `(tactic| first
  | (refine And.intro rfl ?_)
  | (refine And.intro (by assumption) ?_)
  | (refine And.intro (fun _ e => e) ?_)
  | (refine And.intro (TyOf.str _) ?_) | (refine And.intro (TyOf.int _) ?_) | (refine And.intro (TyOf.bl _) ?_) | (refine And.intro TyOf.non ?_)
  | (refine iteT ?_) | (refine iteF ?_)
  | (apply Exists.intro))
local macro_rules | `(tactic| walk_at "rd") => `(tactic| repeat (walk_at "rd1"))

theorem how_in (y : Wd) : inV (.str (S y)) [.str (Str.ofString "<"), .str (Str.ofString "="), .str (Str.ofString ">")] = decide (S y = "<" ∨ S y = "=" ∨ S y = ">") := by
  show inV (.str (S y)) ((["<", "=", ">"] : List Str).map V.str) = _
  rw [inV_strs]
  exact decide_eq_decide.mpr (by simp)
section
variable {P : Program} {w : World} {K : PySem.W.Frag} {mg : Str → Option Value} {base : Heap} {A : Adr}
theorem ok_read_atom (T : Txt K mg A) : FnOk P w K mg base (CXW P w) 4 A.f_read_atom A.d_read_atom ["name", "how", "what"] (spRA A K) := by
  have G_is_name := ok_is_name (P := P) (w := w) (base := base) T
  have G_number_or_none := ok_number_or_none (P := P) (w := w) (base := base) T
  have G_c_Is___init := ok_is_init (P := P) (w := w) (base := base) T
  have G_c_Compare___init := ok_co_init (P := P) (w := w) (base := base) T
  refine T.F_read_atom.okX sc_read_atom (fun vs H Q E h => ?_) (fun cdv A0 outer s H vs Q E hr h => ?_)
  · obtain ⟨x, y, z, rfl, _⟩ := h
    rfl
  obtain ⟨x, y, z, rfl, fx, fy, fz, qs, qn⟩ := h
  refine ⟨_, (pss_cons (ps_if (PW.pt (pw_and (pt_val (pe_call G_is_name (hr.mono (by first | decide | omega)) rfl T.m_is_name T.k_is_name T.b_is_name .nil pass0 (pa_cons (pv 0) pa_nil))) (pw_and (pt_cmpR op_eq (pv 1) pe_str (nomark _)) (pw_and1 (pt_val (pe_call G_is_name (hr.mono (by first | decide | omega)) rfl T.m_is_name T.k_is_name T.b_is_name .nil pass0 (pa_cons (pv 2) pa_nil))))))) (pss_one (ps_ret (pe_make T.mk_Is G_c_Is___init (hr.mono (by first | decide | omega)) rfl T.m_Is T.bd_c_Is___init T.dv_c_Is___init pass0 (pa_cons (pv 0) (pa_cons (pv 2) pa_nil))))) pss_nil)
      (pss_cons (ps_set (i := 3) sc_read_atom.nd rfl (by first | exact Or.inl rfl | exact Or.inr rfl) (pe_call G_number_or_none (hr.mono (by first | decide | omega)) rfl T.m_number_or_none T.k_number_or_none T.b_number_or_none .nil pass0 (pa_cons (pv 2) pa_nil)))
      (pss_cons (ps_if (PW.pt (pw_and (pt_val (pe_call G_is_name (hr.mono (by first | decide | omega)) rfl T.m_is_name T.k_is_name T.b_is_name .nil pass0 (pa_cons (pv 0) pa_nil))) (pw_and (pt_cmpR op_in_seq (pv 1) (pe_gv rfl T.g_HOWS) (by rfl)) (pw_and1 (pt_cmpR op_notN (pv 3) pe_non (nomark _)))))) (pss_one (ps_ret (pe_make T.mk_Compare G_c_Compare___init (hr.mono (by first | decide | omega)) rfl T.m_Compare T.b_c_Compare___init .nil pass0 (pa_cons (pv 0) (pa_cons (pv 1) (pa_cons (pv 3) pa_nil)))))) pss_nil)
      (pss_one (ps_raise T.m_NoSaying T.x_NoSaying (pa_cons (pe_fstrJ (jp_c (jp_r (pv 0) (jp_c (jp_r (pv 1) (jp_c (jp_r (pv 2) jp_nil))))))) pa_nil) rfl))))), ?_⟩
  have lx : (S x).length ≤ 100000 := Nat.le_trans fx.len (by decide)
  have ly : (S y).length ≤ 100000 := Nat.le_trans fy.len (by decide)
  have lz : (S z).length ≤ 100000 := Nat.le_trans fz.len (by decide)
  have cx : ∀ k ∈ cd (S x), k < 1000 := fun k hk => Nat.lt_of_lt_of_le (fx.cod k hk) (Nat.le_refl _)
  have cy : ∀ k ∈ cd (S y), k < 1000 := fun k hk => Nat.lt_of_lt_of_le (fy.cod k hk) (Nat.le_refl _)
  have cz : ∀ k ∈ cd (S z), k < 1000 := fun k hk => Nat.lt_of_lt_of_le (fz.cod k hk) (Nat.le_refl _)
  refine seq_mid (fun σ' H' => Same H H' ∧ σ' = [some (.str (S x)), some (.str (S y)), some (.str (S z)), none] ∧ ¬ (nameB (S x) = true ∧ y = cIs ∧ nameB (S z) = true)) ?kk ?mm
  case mm =>
    intro key
    refine ⟨_, rfl, .str (S x), rfl, ok_str T fx, fun H1 s1 => ⟨_, rfl, ?_⟩⟩
    show if nameB (S x) = true then _ else _
    refine ite2 (fun c1 => ?_) (fun c1 => iteF (key _ _ ⟨s1, rfl, fun e => c1 e.1⟩))
    by_cases e2 : y = cIs
    · subst e2
      refine ⟨_, rfl, rfl, _, rfl, eqS (S_cd _) ⟨_, rfl, .str (S z), rfl, ok_str T fz, fun H2 s2 => ⟨_, rfl, ?_⟩⟩⟩
      show if nameB (S z) = true then _ else _
      refine ite2 (fun c3 => ?_) (fun c3 => key _ _ ⟨s1.trans s2, rfl, fun e => c3 e.2.2⟩)
      refine ⟨_, rfl, _, rfl, fun o dx nx nd ne => ⟨o, dx, _, _, _, rfl, upd_same, rfl, ?_⟩⟩
      rw [upd_upd]
      exact qs _ (if_pos ⟨c1, rfl, c3⟩) _ _ (s1.trans (s2.trans (same_make nx nd _))) ⟨o, dx, rfl, upd_same⟩
    · refine ⟨_, rfl, rfl, _, rfl, neS (fun e => e2 ?_) (iteF (key _ _ ⟨s1, rfl, fun e => e2 e.2.1⟩))⟩
      have := congrArg cd e
      rwa [cd_S] at this
  case kk =>
  rintro σ' H' ⟨s0, rfl, hnot⟩
  refine ⟨_, rfl, _, rfl, fz, fun H2 s2 => ?_⟩
  rw [cd_S]
  have s02 := s0.trans s2
  dsimp only [gName]
  refine seq_mid (fun σ' H' => Same H H' ∧ (∃ v, σ' = [some (.str (S x)), some (.str (S y)), some (.str (S z)), v]) ∧ rdA x y z = none) ?k2 ?m2
  case k2 =>
    rintro σ' H' ⟨s3, ⟨v, rfl⟩, hn⟩
    refine ⟨_, rfl, _, rfl, lx, cx, _, rfl, _, rfl, ly, cy, _, rfl, _, rfl, lz, cz, fun m => ?_⟩
    exact ⟨(by show 1 ≤ sizeLine; decide), qn hn _ s3⟩
  case m2 =>
    intro key
    have eA : rdA x y z = (match numB z 60 with
      | some n => if nameB (S x) = true ∧ (S y = "<" ∨ S y = "=" ∨ S y = ">") then some (.cmp (S x) (S y) n) else none
      | none => none) := if_neg hnot
    refine ⟨_, rfl, .str (S x), rfl, ok_str T fx, fun H3 s3 => ⟨_, rfl, ?_⟩⟩
    have s03 := s02.trans s3
    show if nameB (S x) = true then _ else _
    refine ite2 (fun c1 => ?_) (fun c1 => iteF (key _ _ ⟨s03, ⟨_, rfl⟩, ?_⟩))
    · refine ⟨_, rfl, _, _, rfl, .inr (T.q_HOWS _), rfl, rfl, _, rfl, ?_⟩
      rw [show (if false = true then !inV (.str (S y)) [.str (Str.ofString "<"), .str (Str.ofString "="), .str (Str.ofString ">")] else inV (.str (S y)) [.str (Str.ofString "<"), .str (Str.ofString "="), .str (Str.ofString ">")]) = decide (S y = "<" ∨ S y = "=" ∨ S y = ">") from how_in y]
      refine ite2 (fun c2 => ?_) (fun c2 => iteF (key _ _ ⟨s03, ⟨_, rfl⟩, ?_⟩))
      · have c2' := of_decide_eq_true c2
        cases en : numB z 60 with
        | none =>
          rw [en] at eA
          exact ⟨_, rfl, rfl, _, rfl, iteF (key _ _ ⟨s03, ⟨_, rfl⟩, eA⟩)⟩
        | some n =>
          rw [en] at eA
          refine ⟨_, rfl, rfl, _, rfl, iteT ?_⟩
          refine ⟨_, rfl, _, rfl, _, rfl, fun o dx nx nd ne => ⟨o, dx, _, _, _, rfl, upd_same, rfl, ?_⟩⟩
          rw [upd_upd]
          exact qs _ (eA.trans (if_pos ⟨c1, c2'⟩)) _ _ (s03.trans (same_make nx nd _)) ⟨o, dx, rfl, upd_same⟩
      · rw [eA]
        cases numB z 60 with
        | none => rfl
        | some n => exact if_neg fun e => c2 (decide_eq_true e.2)
    · rw [eA]
      cases numB z 60 with
      | none => rfl
      | some n => exact if_neg fun e => c1 e.1
/-- two in brackets -/
theorem ok_read_pair (T : Txt K mg A) {n k : Nat} (hk : 2 ≤ k) (ih : FnOk P w K mg base (CXW P w) k A.f_read_next A.d_read_next ["left", "deepest"] (spRN A K n)) : FnOk P w K mg base (CXW P w) (k + 1) A.f_read_pair A.d_read_pair ["left", "deepest"] (spRP A K n) := by
  have G_read_next := ih
  have G_c_Pair___init := ok_pa_init (P := P) (w := w) (base := base) T
  refine T.F_read_pair.okX sc_read_pair (fun vs H Q E h => ?_) (fun cdv A0 outer s H vs Q E hr h => ?_)
  · obtain ⟨lw, dx, lws, k, ws, st, rfl, _⟩ := h
    rfl
  obtain ⟨lw, dx, lws, k0, ws, st, rfl, hW, hl, hf, hst, qs, qn⟩ := h
  obtain ⟨kt, hkt⟩ : ∃ kt : Nat, kt = 1 := ⟨1, rfl⟩
  refine ⟨_, (pss_cons (ps_set (i := 2) sc_read_pair.nd rfl (by first | exact Or.inl rfl | exact Or.inr rfl) (pe_call G_read_next (hr.mono (by first | decide | omega)) rfl T.m_read_next T.k_read_next T.b_read_next .nil passX (pa_cons (pv 0) (pa_cons (pv 1) pa_nil))))
      (pss_cons (ps_set (i := 3) sc_read_pair.nd rfl (by first | exact Or.inl rfl | exact Or.inr rfl) (pe_methG0 (CX := CX0) (k := kt) (hr.mono (by first | decide | omega)) pass0 (pv 0)))
      (pss_cons (ps_set (i := 4) sc_read_pair.nd rfl (by first | exact Or.inl rfl | exact Or.inr rfl) (pe_call G_read_next (hr.mono (by first | decide | omega)) rfl T.m_read_next T.k_read_next T.b_read_next .nil passX (pa_cons (pv 0) (pa_cons (pv 1) pa_nil))))
      (pss_cons (ps_set (i := 5) sc_read_pair.nd rfl (by first | exact Or.inl rfl | exact Or.inr rfl) (pe_cmpR op_eq (pe_methG0 (CX := CX0) (k := kt) (hr.mono (by first | decide | omega)) pass0 (pv 0)) pe_str (nomark _)))
      (pss_cons (ps_if (PW.pt (pw_and (pt_val (pv 5)) (pw_and1 (pt_cmpR op_eq (pv 3) pe_str (nomark _))))) (pss_one (ps_ret (pe_make T.mk_Both G_c_Pair___init (hr.mono (by first | decide | omega)) rfl T.m_Both T.b_c_Pair___init .nil pass0 (pa_cons (pv 2) (pa_cons (pv 4) pa_nil))))) pss_nil)
      (pss_cons (ps_if (PW.pt (pw_and (pt_val (pv 5)) (pw_and1 (pt_cmpR op_eq (pv 3) pe_str (nomark _))))) (pss_one (ps_ret (pe_make T.mk_Either G_c_Pair___init (hr.mono (by first | decide | omega)) rfl T.m_Either T.b_c_Pair___init .nil pass0 (pa_cons (pv 2) (pa_cons (pv 4) pa_nil))))) pss_nil)
      (pss_one (ps_raise T.m_NoSaying T.x_NoSaying (pa_cons (pe_fstrJ (jp_c (jp_r (pv 3) (jp_c jp_nil)))) pa_nil) rfl)))))))), ?_⟩
  subst hkt
  refine ⟨_, rfl, _, rfl, lw, dx, lws, k0, ws, st, rfl, hW, hl, hf, hst, fun t1 st1 e1 u1 H1 k1 s1 W1 r1 y1 => ?_, fun e1 H1 s1 => qn (by rw [e1]; rfl) H1 s1⟩
  have l1 := sbL s1 hW hl
  obtain ⟨a1, C1, dx1, fs1, M, ey, h1, hl1, hdv, hsp⟩ := take_of (P := P) (w := w) (base := base) T W1
  refine ⟨_, rfl, a1, C1, dx1, fs1, M, ey, h1, hl1, ?_⟩
  dsimp only [tNil]
  rw [hdv, hsp]
  obtain ⟨g1, g2⟩ := r1.tk
  refine ⟨lw, dx, lws, k1, ws, rfl, W1, l1, fun H2 s2 W2 => ?_⟩
  rw [← g1]
  have l2 := sbL s2 W1 l1
  refine ⟨_, rfl, _, rfl, lw, dx, lws, _, ws, (tk st1).2, rfl, W2, l2, hf, g2, fun t2 st2 e2 u2 H3 k3 s3 W3 r3 y3 => ?_, fun e2 H3 s3 => qn (by rw [e1]; show (rdN n (tk st1).2).bind _ = none; rw [e2]; rfl) H3 (sbT s1 (sbT s2 s3))⟩
  have l3 := sbL s3 W2 l2
  obtain ⟨a2, C2, dx2, fs2, M2, ey2, h2, hl2, hdv2, hsp2⟩ := take_of (P := P) (w := w) (base := base) T W3
  refine ⟨_, rfl, a2, C2, dx2, fs2, M2, ey2, h2, hl2, ?_⟩
  dsimp only [tNil]
  rw [hdv2, hsp2]
  obtain ⟨g3, g4⟩ := r3.tk
  refine ⟨lw, dx, lws, k3, ws, rfl, W3, l3, fun H4 s4 W4 => ⟨rfl, ?_⟩⟩
  rw [← g3]
  have eR : ((rdN n st).bind fun p => (rdN n (tk p.2).2).bind fun q => rdP p q) = rdP (t1, st1) (t2, st2) := by
    rw [e1]; show (rdN n (tk st1).2).bind _ = _; rw [e2]; rfl
  have nwT := nw T
  have ra : SyR A H4 t1 u1 := (((y1.sb nwT s2 W1).sb nwT s3 W2)).sb nwT s4 W3
  have rb : SyR A H4 t2 u2 := y3.sb nwT s4 W3
  have sAll : SameB lw H H4 := sbT (sbT (sbT s1 s2) s3) s4
  have sS : ∀ {a : Wd} {b : Str}, S a = b ↔ a = cd b := fun {a b} => ⟨fun e => by rw [← e, cd_S], fun e => by rw [e, S_cd]⟩
  have lg : (S (tk st1).1).length ≤ 100000 ∧ ∀ k ∈ cd (S (tk st1).1), k < 1000 := by
    have f := SR'.fine hf k1
    rw [← g1] at f
    exact ⟨Nat.le_trans f.len (by decide), fun k hk => Nat.lt_of_lt_of_le (f.cod k hk) (Nat.le_refl _)⟩
  have raise : rdP (t1, st1) (t2, st2) = none → E (.ref A.c_NoSaying) none H4 := fun e => qn (eR.trans e) H4 sAll
  generalize hcl : decide (V.str (S (tk st2).1) = V.str (Str.ofString ")")) = cl
  have hcl' : cl = true ↔ (tk st2).1 = cRp := by
    rw [← hcl, decide_eq_true_iff]
    exact ⟨fun e => sS.mp (V.str.inj e), fun e => by rw [sS.mpr e]⟩
  have made : ∀ o, cl = true → (tk st1).1 = cd (hw o) → ∀ (x dx' : Addr), H4 x = none → H4 dx' = none → Q (.ref x) (upd (upd H4 dx' (.own x)) x (.ins (cT A o) dx' [("one", u1), ("other", u2)])) := fun o c1 c2 x dx' nx nd => by
    have sm := same_make nx nd (.ins (cT A o) dx' [("one", u1), ("other", u2)])
    refine qs (.two o t1 t2) (tk st2).2 ?_ _ _ _ (sbT sAll (sbO sm)) (sm _ _ W4) g4 ⟨x, dx', u1, u2, rfl, upd_same, ra.same sm, rb.same sm⟩
    rw [eR]
    unfold rdP
    cases o with
    | false => exact if_pos ⟨hcl'.mp c1, c2⟩
    | true =>
      rw [if_neg (fun e => by have := e.2.symm.trans c2; exact absurd this (by decide +kernel))]
      exact if_pos ⟨hcl'.mp c1, c2⟩
  have fail : (¬ (cl = true ∧ (tk st1).1 = cAnd)) → (¬ (cl = true ∧ (tk st1).1 = cOr)) → rdP (t1, st1) (t2, st2) = none := fun c1 c2 => by
    unfold rdP
    rw [if_neg (fun e => c1 ⟨hcl'.mpr e.1, e.2⟩), if_neg (fun e => c2 ⟨hcl'.mpr e.1, e.2⟩)]
  refine seq_mid (fun σ' H' => H4 = H' ∧ (∃ a b, σ' = [some (.ref lw), some (.int (n : Nat)), a, some (.str (S (tk st1).1)), b, some (.bl cl)]) ∧ σ' = [some (.ref lw), some (.int (n : Nat)), some u1, some (.str (S (tk st1).1)), some u2, some (.bl cl)] ∧ ¬ (cl = true ∧ (tk st1).1 = cAnd)) ?kk ?mm
  case mm =>
    intro key
    refine ⟨_, rfl, _, rfl, ite2 (fun c1 => ?_) (fun c1 => iteF (key _ _ ⟨rfl, ⟨_, _, rfl⟩, rfl, fun e => c1 e.1⟩))⟩
    by_cases e : (tk st1).1 = cAnd
    · refine ⟨_, rfl, rfl, _, rfl, eqS (sS.mpr e) ?_⟩
      refine ⟨_, rfl, _, rfl, fun x dx nx nd ne => ⟨x, dx, _, _, false, rfl, upd_same, rfl, ?_⟩⟩
      rw [upd_upd]
      exact made false c1 e x dx nx nd
    · exact ⟨_, rfl, rfl, _, rfl, neS (fun z => e (sS.mp z)) (key _ _ ⟨rfl, ⟨_, _, rfl⟩, rfl, fun z => e z.2⟩)⟩
  case kk =>
  rintro σ' H' ⟨rfl, _, rfl, hna⟩
  refine seq_mid (fun σ' H' => H4 = H' ∧ σ' = [some (.ref lw), some (.int (n : Nat)), some u1, some (.str (S (tk st1).1)), some u2, some (.bl cl)] ∧ ¬ (cl = true ∧ (tk st1).1 = cOr)) ?k2 ?m2
  case m2 =>
    intro key
    refine ⟨_, rfl, _, rfl, ite2 (fun c1 => ?_) (fun c1 => iteF (key _ _ ⟨rfl, rfl, fun e => c1 e.1⟩))⟩
    by_cases e : (tk st1).1 = cOr
    · refine ⟨_, rfl, rfl, _, rfl, eqS (sS.mpr e) ?_⟩
      refine ⟨_, rfl, _, rfl, fun x dx nx nd ne => ⟨x, dx, _, _, true, rfl, upd_same, rfl, ?_⟩⟩
      rw [upd_upd]
      exact made true c1 e x dx nx nd
    · exact ⟨_, rfl, rfl, _, rfl, neS (fun z => e (sS.mp z)) (key _ _ ⟨rfl, rfl, fun z => e z.2⟩)⟩
  case k2 =>
  rintro σ' H' ⟨rfl, rfl, hno⟩
  refine ⟨_, rfl, _, rfl, lg.1, lg.2, fun m => ?_⟩
  exact ⟨(by show 1 ≤ sizeLine; decide), raise (fail hna hno)⟩
end
end K23
set_option maxHeartbeats 4000000
namespace K23
open PySem L2
seal PE PT PW PA PS PSs PG PGs PI PO PSet OpR UnR CallR TruR IxR SlR PC PPs
local macro_rules | `(tactic| walk_at "rd1") => `(tactic| first
  | (refine And.intro rfl ?_)
  | (refine And.intro (by assumption) ?_)
  | (refine And.intro (fun _ e => e) ?_)
  | (refine And.intro (TyOf.str _) ?_) | (refine And.intro (TyOf.int _) ?_) | (refine And.intro (TyOf.bl _) ?_) | (refine And.intro TyOf.non ?_)
  | (refine iteT ?_) | (refine iteF ?_)
  | (apply Exists.intro))
local macro_rules | `(tactic| walk_at "rd") => `(tactic| repeat (walk_at "rd1"))

/-- a saying read whole -/
def rdS (ws : List Wd) : Option Tr := match rdN 8 (some ws) with
  | some (t, some []) => if t.size ≤ 16 then some t else none
  | _ => none
def spRS (A : Adr) (K : PySem.W.Frag) : Sp := fun vs H Q E => ∃ x, vs = [x] ∧ ((∃ z, x = .str z ∧ Fine 100000 z ∧ (∀ l ∈ splitL (cd z), Fine 1000 (S l)) ∧ (∀ t, rdS (splitL (cd z)) = some t → ∀ u H', Same H H' → SyR A H' t u → Q u H') ∧ (rdS (splitL (cd z)) = none → ∀ H', Same H H' → E (.ref A.c_NoSaying) none H')) ∨
  (∃ t, TyE K H x t ∧ PySem.W.kitOne K t (.type "str") = some false ∧ ∀ H', Same H H' → E (.ref A.c_NoSaying) none H'))
theorem neN {a b : Nat} {X Y : Prop} (h : a ≠ b) (k : Y) : if decide (V.int ((a : Nat) : Int) = V.int ((b : Nat) : Int)) = true then X else Y := by
  rw [if_neg (fun e => h (by have := V.int.inj (of_decide_eq_true e); omega))]; exact k
section
variable {P : Program} {w : World} {K : PySem.W.Frag} {mg : Str → Option Value} {base : Heap} {A : Adr}
theorem ok_read_next (T : Txt K mg A) : ∀ n : Nat, FnOk P w K mg base (CXW P w) (2 * n + 5) A.f_read_next A.d_read_next ["left", "deepest"] (spRN A K n)
  | 0 => by
    have G_read_next : FnOk P w K mg base (CXW P w) 0 A.f_read_next A.d_read_next ["left", "deepest"] (fun _ _ _ _ => False) := ⟨fun vs H Q E h => h.elim, fun _ _ _ _ _ _ _ _ _ _ _ _ _ h => h.elim⟩
    have G_read_pair : FnOk P w K mg base (CXW P w) 0 A.f_read_pair A.d_read_pair ["left", "deepest"] (fun _ _ _ _ => False) := ⟨fun vs H Q E h => h.elim, fun _ _ _ _ _ _ _ _ _ _ _ _ _ h => h.elim⟩
    have G_read_atom := ok_read_atom (P := P) (w := w) (base := base) T
    have G_c_Not___init := ok_no_init (P := P) (w := w) (base := base) T
    refine T.F_read_next.okX sc_read_next (fun vs H Q E h => ?_) (fun cdv A0 outer s H vs Q E hr h => ?_)
    · obtain ⟨lw, dx, lws, k, ws, st, rfl, _⟩ := h
      rfl
    obtain ⟨lw, dx, lws, k0, ws, st, rfl, hW, hl, hf, hst, qs, qn⟩ := h
    obtain ⟨kt, hkt⟩ : ∃ kt : Nat, kt = 1 := ⟨1, rfl⟩
    refine ⟨_, (pss_cons (ps_if (pt_cmpR op_eq (pv 1) pe_int (nomark _)) (pss_one (ps_raise T.m_NoSaying T.x_NoSaying (pa_cons pe_str pa_nil) rfl)) pss_nil)
      (pss_cons (ps_set (i := 2) sc_read_next.nd rfl (by first | exact Or.inl rfl | exact Or.inr rfl) (pe_methG0 (CX := CX0) (k := kt) (hr.mono (by first | decide | omega)) pass0 (pv 0)))
      (pss_cons (ps_if (pt_cmpR op_eq (pv 2) pe_str (nomark _)) (pss_one (ps_ret (pe_make T.mk_Not G_c_Not___init (hr.mono (by first | decide | omega)) rfl T.m_Not T.b_c_Not___init .nil pass0 (pa_cons (pe_call G_read_next (hr.mono (by first | decide | omega)) rfl T.m_read_next T.k_read_next T.b_read_next .nil passX (pa_cons (pv 0) (pa_cons (pe_op op_sub (pv 1) pe_int) pa_nil))) pa_nil)))) pss_nil)
      (pss_cons (ps_if (pt_cmpR op_eq (pv 2) pe_str (nomark _)) (pss_one (ps_ret (pe_call G_read_pair (hr.mono (by first | decide | omega)) rfl T.m_read_pair T.k_read_pair T.b_read_pair .nil passX (pa_cons (pv 0) (pa_cons (pe_op op_sub (pv 1) pe_int) pa_nil))))) pss_nil)
      (pss_one (ps_ret (pe_call G_read_atom (hr.mono (by first | decide | omega)) rfl T.m_read_atom T.k_read_atom T.b_read_atom .nil passX (pa_cons (pv 2) (pa_cons (pe_methG0 (CX := CX0) (k := kt) (hr.mono (by first | decide | omega)) pass0 (pv 0)) (pa_cons (pe_methG0 (CX := CX0) (k := kt) (hr.mono (by first | decide | omega)) pass0 (pv 0)) pa_nil)))))))))), ?_⟩
    refine ⟨_, rfl, rfl, _, rfl, iteT ?_⟩
    exact ⟨(by show 1 ≤ sizeLine; decide), qn rfl _ sbR⟩
  | n + 1 => by
    have G_read_next := ok_read_next T n
    have G_read_pair := ok_read_pair T (by omega) G_read_next
    have G_read_atom := ok_read_atom (P := P) (w := w) (base := base) T
    have G_c_Not___init := ok_no_init (P := P) (w := w) (base := base) T
    refine T.F_read_next.okX (k := 2 * n + 6) sc_read_next (fun vs H Q E h => ?_) (fun cdv A0 outer s H vs Q E hr h => ?_)
    · obtain ⟨lw, dx, lws, k, ws, st, rfl, _⟩ := h
      rfl
    obtain ⟨lw, dx, lws, k0, ws, st, rfl, hW, hl, hf, hst, qs, qn⟩ := h
    obtain ⟨kt, hkt⟩ : ∃ kt : Nat, kt = 1 := ⟨1, rfl⟩
    refine ⟨_, (pss_cons (ps_if (pt_cmpR op_eq (pv 1) pe_int (nomark _)) (pss_one (ps_raise T.m_NoSaying T.x_NoSaying (pa_cons pe_str pa_nil) rfl)) pss_nil)
      (pss_cons (ps_set (i := 2) sc_read_next.nd rfl (by first | exact Or.inl rfl | exact Or.inr rfl) (pe_methG0 (CX := CX0) (k := kt) (hr.mono (by first | decide | omega)) pass0 (pv 0)))
      (pss_cons (ps_if (pt_cmpR op_eq (pv 2) pe_str (nomark _)) (pss_one (ps_ret (pe_make T.mk_Not G_c_Not___init (hr.mono (by first | decide | omega)) rfl T.m_Not T.b_c_Not___init .nil pass0 (pa_cons (pe_call G_read_next (hr.mono (by first | decide | omega)) rfl T.m_read_next T.k_read_next T.b_read_next .nil passX (pa_cons (pv 0) (pa_cons (pe_op op_sub (pv 1) pe_int) pa_nil))) pa_nil)))) pss_nil)
      (pss_cons (ps_if (pt_cmpR op_eq (pv 2) pe_str (nomark _)) (pss_one (ps_ret (pe_call G_read_pair (hr.mono (by first | decide | omega)) rfl T.m_read_pair T.k_read_pair T.b_read_pair .nil passX (pa_cons (pv 0) (pa_cons (pe_op op_sub (pv 1) pe_int) pa_nil))))) pss_nil)
      (pss_one (ps_ret (pe_call G_read_atom (hr.mono (by first | decide | omega)) rfl T.m_read_atom T.k_read_atom T.b_read_atom .nil passX (pa_cons (pv 2) (pa_cons (pe_methG0 (CX := CX0) (k := kt) (hr.mono (by first | decide | omega)) pass0 (pv 0)) (pa_cons (pe_methG0 (CX := CX0) (k := kt) (hr.mono (by first | decide | omega)) pass0 (pv 0)) pa_nil)))))))))), ?_⟩
    subst hkt
    have em : ((n + 1 : Nat) : Int) - 1 = (n : Nat) := by omega
    refine ⟨_, rfl, rfl, _, rfl, neN (b := 0) (by omega) ?_⟩
    obtain ⟨a1, C1, dx1, fs1, M, ey, h1, hl1, hdv, hsp⟩ := take_of (P := P) (w := w) (base := base) T hW
    refine ⟨_, rfl, a1, C1, dx1, fs1, M, ey, h1, hl1, ?_⟩
    dsimp only [tNil]
    rw [hdv, hsp]
    obtain ⟨g1, g2⟩ := hst.tk
    refine ⟨lw, dx, lws, k0, ws, rfl, hW, hl, fun H1 s1 W1 => ?_⟩
    rw [← g1]
    have l1 := sbL s1 hW hl
    have sS : ∀ {a : Wd} {b : Str}, S a = b ↔ a = cd b := fun {a b} => ⟨fun e => by rw [← e, cd_S], fun e => by rw [e, S_cd]⟩
    by_cases c1 : (tk st).1 = cNot
    · have eR : rdN (n + 1) st = (rdN n (tk st).2).map fun p => (.neg p.1, p.2) := if_pos c1
      refine ⟨_, rfl, rfl, _, rfl, eqS (sS.mpr c1) ?_⟩
      refine ⟨_, rfl, _, rfl, _, _, rfl, rfl, lw, dx, lws, k0 + 1, ws, (tk st).2, (by show [V.ref lw, V.int (((n + 1 : Nat) : Int) - 1)] = _; rw [em]), W1, l1, hf, g2, fun t1 st1 e1 u1 H2 k2 s2 W2 r2 y2 => ?_, fun e1 H2 s2 => qn (by rw [eR, e1]; rfl) H2 (sbT s1 s2)⟩
      intro x dx' nx nd ne
      refine ⟨x, dx', _, rfl, upd_same, rfl, ?_⟩
      rw [upd_upd]
      have sm := same_make nx nd (.ins A.c_Not dx' [("test", u1)])
      exact qs (.neg t1) st1 (by rw [eR, e1]; rfl) _ _ _ (sbT (sbT s1 s2) (sbO sm)) (sm _ _ W2) r2 ⟨x, dx', u1, rfl, upd_same, y2.same sm⟩
    refine ⟨_, rfl, rfl, _, rfl, neS (fun e => c1 (sS.mp e)) ?_⟩
    by_cases c2 : (tk st).1 = cLp
    · have eR : rdN (n + 1) st = (rdN n (tk st).2).bind fun p => (rdN n (tk p.2).2).bind fun q => rdP p q := (if_neg c1).trans (if_pos c2)
      refine ⟨_, rfl, rfl, _, rfl, eqS (sS.mpr c2) ?_⟩
      exact ⟨_, rfl, _, rfl, _, _, rfl, rfl, lw, dx, lws, k0 + 1, ws, (tk st).2, (by show [V.ref lw, V.int (((n + 1 : Nat) : Int) - 1)] = _; rw [em]), W1, l1, hf, g2, fun t1 st1 e1 u1 H2 k2 s2 W2 r2 y2 => qs t1 st1 (eR.trans e1) u1 H2 k2 (sbT s1 s2) W2 r2 y2, fun e1 H2 s2 => qn (eR.trans e1) H2 (sbT s1 s2)⟩
    refine ⟨_, rfl, rfl, _, rfl, neS (fun e => c2 (sS.mp e)) ?_⟩
    have eR : rdN (n + 1) st = (rdA (tk st).1 (tk (tk st).2).1 (tk (tk (tk st).2).2).1).map fun t => (t, (tk (tk (tk st).2).2).2) := (if_neg c1).trans (if_neg c2)
    obtain ⟨a2, C2, dx2, fs2, M2, ey2, h2, hl2, hdv2, hsp2⟩ := take_of (P := P) (w := w) (base := base) T W1
    refine ⟨_, rfl, _, rfl, a2, C2, dx2, fs2, M2, ey2, h2, hl2, ?_⟩
    dsimp only [tNil]
    rw [hdv2, hsp2]
    obtain ⟨g3, g4⟩ := g2.tk
    refine ⟨lw, dx, lws, _, ws, rfl, W1, l1, fun H2 s2 W2 => ?_⟩
    rw [← g3]
    have l2 := sbL s2 W1 l1
    obtain ⟨a3, C3, dx3, fs3, M3, ey3, h3, hl3, hdv3, hsp3⟩ := take_of (P := P) (w := w) (base := base) T W2
    refine ⟨_, rfl, a3, C3, dx3, fs3, M3, ey3, h3, hl3, ?_⟩
    dsimp only [tNil]
    rw [hdv3, hsp3]
    obtain ⟨g5, g6⟩ := g4.tk
    refine ⟨lw, dx, lws, _, ws, rfl, W2, l2, fun H3 s3 W3 => ?_⟩
    rw [← g5]
    have f1 := SR'.fine hf k0
    have f2 := SR'.fine hf (k0 + 1)
    have f3 := SR'.fine hf (k0 + 1 + 1)
    rw [← g1] at f1
    rw [← g3] at f2
    rw [← g5] at f3
    exact ⟨_, _, _, rfl, f1, f2, f3, fun t e u H4 s4 y4 => qs t _ (by rw [eR, e]; rfl) u H4 _ (sbT (sbT (sbT s1 s2) s3) (sbO s4)) (s4 _ _ W3) g6 y4, fun e H4 s4 => qn (by rw [eR, e]; rfl) H4 (sbT (sbT (sbT s1 s2) s3) (sbO s4))⟩
theorem ok_read_saying (T : Txt K mg A) : FnOk P w K mg base (CXW P w) 25 A.f_read_saying A.d_read_saying ["text"] (spRS A K) := by
  have G_read_next := ok_read_next (P := P) (w := w) (base := base) T 8
  have G_c_WordsLeft___init := ok_wl_init (P := P) (w := w) (base := base) T
  have G_A := ok_atoms (P := P) (w := w) (base := base) T 9
  refine T.F_read_saying.okX sc_read_saying (fun vs H Q E h => ?_) (fun cdv A0 outer s H vs Q E hr h => ?_)
  · obtain ⟨x, rfl, _⟩ := h
    rfl
  obtain ⟨x, rfl, hx⟩ := h
  obtain ⟨kt, hkt⟩ : ∃ kt : Nat, kt = 1 := ⟨1, rfl⟩
  obtain ⟨ka, hka⟩ : ∃ ka : Nat, ka = 10 := ⟨10, rfl⟩
  refine ⟨_, (pss_cons (ps_if (pt_not (pt_val (pe_callB call_isi (by rfl) T.n_isinstance Bt.isinstance (pa_cons (pv 0) (pa_cons (pe_bltn (v := .ty "str") rfl T.n_str Bt.str rfl) pa_nil))))) (pss_one (ps_raise T.m_NoSaying T.x_NoSaying (pa_cons pe_str pa_nil) rfl)) pss_nil)
      (pss_cons (ps_set (i := 1) sc_read_saying.nd rfl (by first | exact Or.inl rfl | exact Or.inr rfl) (pe_make T.mk_WordsLeft G_c_WordsLeft___init (hr.mono (by first | decide | omega)) rfl T.m_WordsLeft T.b_c_WordsLeft___init .nil pass0 (pa_cons (pe_bm PySem.F.plainAttrs_str PySem.F.slot_str_split PySem.F.type_str_split mt_split (pv 0) (pa_cons pe_str pa_nil)) pa_nil)))
      (pss_cons (ps_set (i := 2) sc_read_saying.nd rfl (by first | exact Or.inl rfl | exact Or.inr rfl) (pe_call G_read_next (hr.mono (by first | decide | omega)) rfl T.m_read_next T.k_read_next T.b_read_next .nil passX (pa_cons (pv 1) (pa_cons (pe_gv rfl T.g_DEEPEST) pa_nil))))
      (pss_cons (ps_if (PW.pt (pw_or (pt_not (pt_val (pe_methG0 (CX := CX0) (k := kt) (hr.mono (by first | decide | omega)) pass0 (pv 1)))) (pw_or1 (pt_cmpR op_gt (pe_callB call_len_seq (by rfl) T.n_len PySem.boot_len (pa_cons (pe_methG0 (CX := CX0) (k := ka) (hr.mono (by first | decide | omega)) pass0 (pv 2)) pa_nil)) (pe_gv rfl T.g_MOST_ATOMS_sayings) (nomark _))))) (pss_one (ps_raise T.m_NoSaying T.x_NoSaying (pa_cons (pe_fstrR (pv 0)) pa_nil) rfl)) pss_nil)
      (pss_one (ps_ret (pv 2))))))), ?_⟩
  subst hkt
  subst hka
  rcases hx with ⟨z, rfl, hz, hf, qs, qn⟩ | ⟨t, ty, kt, q⟩
  · refine ⟨_, rfl, _, _, _, _, rfl, rfl, .old (.str _), T.i_str_str, _, rfl, iteF ?_⟩
    refine ⟨_, rfl, rfl, z, _, rfl, rfl, (by decide +kernel), hz.len, fun l hl => ?_⟩
    have ew : (Txt.split z (Str.ofString " ")).map V.str = wv (splitL (cd z)) := by
      rw [show Str.ofString " " = S [32] by decide +kernel, split_is, List.map_map]; rfl
    rw [ew] at *
    generalize hws : splitL (cd z) = ws at *
    have sl := same_new hl (.lst (wv ws))
    intro x dx nx nd ne
    refine ⟨x, dx, _, rfl, upd_same, rfl, ?_⟩
    rw [upd_upd]
    have sm := same_make nx nd (.ins A.c_WordsLeft dx [("words", .ref l), ("taken", .int 0)])
    have W0 : WLeft A (upd (upd (upd H l (.lst (wv ws))) dx (.own x)) x (.ins A.c_WordsLeft dx [("words", .ref l), ("taken", .int 0)])) x dx l 0 := upd_same
    have l0 := sm _ _ (upd_same (H := H) (a := l) (o := .lst (wv ws)))
    have xH : H x = none := by
      cases e : H x with
      | none => rfl
      | some o => rw [sl x o e] at nx; cases nx
    have back : ∀ {H'}, SameB x (upd (upd (upd H l (.lst (wv ws))) dx (.own x)) x (.ins A.c_WordsLeft dx [("words", .ref l), ("taken", .int 0)])) H' → Same H H' := fun {H'} s2 b o hb => s2 _ _ (ne_of_none hb xH) (sm _ _ (sl _ _ hb))
    refine ⟨_, rfl, x, dx, l, 0, ws, some ws, rfl, W0, l0, hf, .inl ⟨rfl, Nat.zero_le _⟩, fun t st' e u H2 k' s2 W2 r2 y2 => ?_, fun e H2 s2 => qn (by unfold rdS; rw [e]) H2 (back s2)⟩
    have l2 := sbL s2 W0 l0
    have hdp := rd_dp e
    dsimp only [gName]
    refine seq_mid (fun σ' H' => Same H H' ∧ (∃ v, σ' = [some (.str z), v, some u]) ∧ rdS ws = some t ∧ SyR A H' t u) ?kk ?mm
    case kk =>
      rintro σ' H' ⟨s3, ⟨v, rfl⟩, e3, y3⟩
      exact ⟨_, rfl, qs t e3 u H' s3 y3⟩
    case mm =>
      intro key
      obtain ⟨a1, C1, dx1, fs1, M, ey, h1, hl1, hdv, hsp⟩ := allt_of (P := P) (w := w) (base := base) T W2
      refine ⟨_, rfl, a1, C1, dx1, fs1, M, ey, h1, hl1, ?_⟩
      dsimp only [tNil]
      rw [hdv, hsp]
      refine ⟨x, dx, l, k', ws, rfl, W2, l2, _, rfl, ?_⟩
      have fin : rdS ws = none → ∀ H', Same H H' → E (.ref A.c_NoSaying) none H' := qn
      by_cases hk : k' = ws.length
      · have es : st' = some [] := by
          rcases r2 with ⟨e1, _⟩ | ⟨_, e1⟩
          · rw [e1, hk, List.drop_length]
          · omega
        subst es
        rw [decide_eq_true hk]
        refine iteF ?_
        obtain ⟨a2, C2, dx2, fs2, M2, ey2, h2, hl2, hdv2, hsp2⟩ := atoms_of T G_A y2
        refine ⟨_, rfl, a2, C2, dx2, fs2, M2, ey2, h2, hl2, ?_⟩
        dsimp only [tNil]
        rw [hdv2]
        have h256 : t.size ≤ 256 := hdp.2
        refine hsp2 _ _ ⟨by omega, by omega, fun la ys H3 s3 e3 p3 => ?_⟩
        have eys : ys.length = t.size := by rw [paired_len p3, atT_len]
        refine ⟨la, _, rfl, .inl (SqL.of e3), _, _, rfl, rfl, _, rfl, ?_⟩
        have sB : Same H H3 := (back s2).trans s3
        by_cases h16 : t.size ≤ 16
        · rw [show decide ((16 : Int) < ((ys.length : Nat) : Int)) = false from decide_eq_false (by omega)]
          exact iteF (key _ _ ⟨sB, ⟨_, rfl⟩, by unfold rdS; rw [e]; exact if_pos h16, y2.same s3⟩)
        · rw [show decide ((16 : Int) < ((ys.length : Nat) : Int)) = true from decide_eq_true (by omega)]
          refine iteT ⟨_, rfl, z, rfl, hz.len, hz.cod, fun m => ?_⟩
          exact ⟨(by show 1 ≤ sizeLine; decide), fin (by unfold rdS; rw [e]; exact if_neg h16) _ sB⟩
      · rw [decide_eq_false hk]
        refine iteT (iteT ⟨_, rfl, z, rfl, hz.len, hz.cod, fun m => ?_⟩)
        refine ⟨(by show 1 ≤ sizeLine; decide), fin ?_ _ (back s2)⟩
        unfold rdS
        rw [e]
        rcases r2 with ⟨e1, e2⟩ | ⟨e1, _⟩
        · rw [e1]
          have : ws.drop k' ≠ [] := fun z => by
            have := congrArg List.length z
            rw [List.length_drop] at this
            have h0 : ([] : List Wd).length = 0 := rfl
            omega
          cases hd : ws.drop k' with
          | nil => exact absurd hd this
          | cons a r => rfl
        · rw [e1]
  · refine ⟨_, rfl, _, _, _, _, rfl, rfl, ty, kt, _, rfl, iteT ?_⟩
    exact ⟨(by show 1 ≤ sizeLine; decide), q _ (Same.refl _)⟩
end
end K23
set_option maxHeartbeats 4000000
namespace K23
open PySem L2
seal PE PT PW PA PS PSs PG PGs PI PO PSet OpR UnR CallR TruR IxR SlR PC PPs
local macro_rules | `(tactic| walk_at "rd1") => `(tactic| first
  | (refine And.intro rfl ?_)
  | (refine And.intro (by assumption) ?_)
  | (refine And.intro (fun _ e => e) ?_)
  | (refine And.intro (TyOf.str _) ?_) | (refine And.intro (TyOf.int _) ?_) | (refine And.intro (TyOf.bl _) ?_) | (refine And.intro TyOf.non ?_)
  | (refine iteT ?_) | (refine iteF ?_)
  | (apply Exists.intro))
local macro_rules | `(tactic| walk_at "rd") => `(tactic| repeat (walk_at "rd1"))

/-! what is read, and what is refused -/
theorem kw_not {z : Str} (h : nameB z = true) : z ≠ "not" ∧ z ≠ "(" := by
  refine ⟨fun e => ?_, fun e => ?_⟩
  · rw [e] at h; exact absurd h (by decide +kernel)
  · rw [e] at h; exact absurd h (by decide +kernel)
theorem nm_cd {n : Str} (h : nameB n = true) : cd n ≠ cNot ∧ cd n ≠ cLp := ⟨fun e => (kw_not h).1 (cd_inj e), fun e => (kw_not h).2 (cd_inj e)⟩
theorem rd_atom {d : Nat} {x y z : Wd} {post : List Wd} (h1 : x ≠ cNot) (h2 : x ≠ cLp) : rdN (d + 1) (some (x :: y :: z :: post)) = (rdA x y z).map fun t => (t, some post) := (if_neg h1).trans (if_neg h2)
theorem rdA_is {n w : Str} (h : nameB n = true) (k : nameB w = true) : rdA (cd n) cIs (cd w) = some (.is n (.str w)) := by
  unfold rdA
  rw [if_pos ⟨by rw [S_cd]; exact h, rfl, by rw [S_cd]; exact k⟩, S_cd, S_cd]
theorem how_ne {h : Str} (hh : h = "<" ∨ h = "=" ∨ h = ">") : cd h ≠ cIs := by rcases hh with rfl | rfl | rfl <;> decide +kernel
theorem rdA_cmp {n h : Str} {m : Int} (hn : nameB n = true) (hh : h = "<" ∨ h = "=" ∨ h = ">") (hm : m.natAbs < 10 ^ 60) : rdA (cd n) (cd h) (numL m) = some (.cmp n h m) := by
  unfold rdA
  rw [if_neg (fun e => how_ne hh e.2.1), numB_str hm]
  show (if _ then _ else _) = _
  rw [if_pos ⟨by rw [S_cd]; exact hn, by rw [S_cd]; exact hh⟩, S_cd, S_cd]
theorem rd_lp {d : Nat} {ws : List Wd} : rdN (d + 1) (some (cLp :: ws)) = (rdN d (some ws)).bind fun p => (rdN d (tk p.2).2).bind fun q => rdP p q := (if_neg (show cLp ≠ cNot by decide +kernel)).trans (if_pos rfl)
theorem rd_not {d : Nat} {ws : List Wd} : rdN (d + 1) (some (cNot :: ws)) = (rdN d (some ws)).map fun p => (.neg p.1, p.2) := if_pos rfl
theorem two_w (o : Bool) (a b : List Wd) (post : List Wd) : (cLp :: (a ++ (cd (hw o) :: (b ++ [cRp])))) ++ post = cLp :: (a ++ (cd (hw o) :: (b ++ (cRp :: post)))) := by simp [List.append_assoc]
theorem rdP_ok (o : Bool) (s t : Tr) (r post : List Wd) : rdP (s, some (cd (hw o) :: r)) (t, some (cRp :: post)) = some (.two o s t, some post) := by
  unfold rdP
  cases o with
  | false => exact if_pos ⟨rfl, rfl⟩
  | true => rw [if_neg (fun e => absurd (show cd (hw true) = cAnd from e.2) (by decide +kernel))]; exact if_pos ⟨rfl, rfl⟩
theorem rd_good {zs : List Str} : ∀ {t : Tr} {d : Nat} {post : List Wd}, t.Ok zs → t.depth ≤ d → rdN d (some (wL t ++ post)) = some (t, some post)
  | .is n v, d, post, h, hd => by
    obtain ⟨h1, w, rfl, h2⟩ := h
    obtain ⟨d, rfl⟩ : ∃ e, d = e + 1 := ⟨d - 1, by have : (1 : Nat) ≤ d := hd; omega⟩
    show rdN (d + 1) (some (cd n :: cIs :: cd w :: post)) = _
    rw [rd_atom (nm_cd h1).1 (nm_cd h1).2, rdA_is h1 h2]; rfl
  | .cmp n x m, d, post, h, hd => by
    obtain ⟨h1, h2, h3⟩ := h
    obtain ⟨d, rfl⟩ : ∃ e, d = e + 1 := ⟨d - 1, by have : (1 : Nat) ≤ d := hd; omega⟩
    show rdN (d + 1) (some (cd n :: cd x :: numL m :: post)) = _
    rw [rd_atom (nm_cd h1).1 (nm_cd h1).2, rdA_cmp h1 h2 h3]; rfl
  | .neg t, d, post, h, hd => by
    have hd' : t.depth + 1 ≤ d := hd
    obtain ⟨d, rfl⟩ : ∃ e, d = e + 1 := ⟨d - 1, by omega⟩
    show rdN (d + 1) (some (cNot :: (wL t ++ post))) = _
    rw [rd_not, rd_good (t := t) h (by omega)]; rfl
  | .two o s t, d, post, h, hd => by
    have hd' : 1 + max s.depth t.depth ≤ d := hd
    obtain ⟨d, rfl⟩ : ∃ e, d = e + 1 := ⟨d - 1, by omega⟩
    show rdN (d + 1) (some ((cLp :: (wL s ++ (cd (hw o) :: (wL t ++ [cRp])))) ++ post)) = _
    rw [two_w, rd_lp, rd_good h.1 (by omega)]
    show (rdN d (some (wL t ++ (cRp :: post)))).bind _ = _
    rw [rd_good h.2 (by omega)]
    exact rdP_ok o s t _ post
/-- a word that stands for nothing -/
structure BW (w : Wd) : Prop where
  n1 : w ≠ cNot
  n2 : w ≠ cLp
  n3 : w ≠ cRp
  n4 : w ≠ cIs
  n5 : nameB (S w) = false
  n6 : numB w 60 = none
  n7 : ¬ (S w = "<" ∨ S w = "=" ∨ S w = ">")
end K23
set_option maxHeartbeats 4000000
namespace K23
open PySem L2
seal PE PT PW PA PS PSs PG PGs PI PO PSet OpR UnR CallR TruR IxR SlR PC PPs
local macro_rules | `(tactic| walk_at "rd1") => `(tactic| first
  | (refine And.intro rfl ?_)
  | (refine And.intro (by assumption) ?_)
  | (refine And.intro (fun _ e => e) ?_)
  | (refine And.intro (TyOf.str _) ?_) | (refine And.intro (TyOf.int _) ?_) | (refine And.intro (TyOf.bl _) ?_) | (refine And.intro TyOf.non ?_)
  | (refine iteT ?_) | (refine iteF ?_)
  | (apply Exists.intro))
local macro_rules | `(tactic| walk_at "rd") => `(tactic| repeat (walk_at "rd1"))

abbrev w' (z : String) : Wd := cd (Str.ofString z)
def FW (ws : List Wd) : Prop := ∀ l ∈ ws, Fine 1000 (S l) ∧ 32 ∉ l
def FL (n : Nat) (l : List Nat) : Prop := l.length ≤ n ∧ ∀ c ∈ l, c < 1000
theorem FL.fine {n : Nat} {l : List Nat} (h : FL n l) : Fine n (S l) := ⟨by rw [len_S]; exact h.1, fun c hc => by rw [cd_S] at hc; exact h.2 c hc⟩
theorem joinL_cod : ∀ {ws : List Wd}, (∀ l ∈ ws, ∀ c ∈ l, c < 1000) → ∀ c ∈ joinL [32] ws, c < 1000
  | [], _, c, hc => by cases hc
  | [x], h, c, hc => h x (List.mem_singleton.mpr rfl) c hc
  | x :: y :: r, h, c, hc => by
    rw [joinL_cons (by simp)] at hc
    rcases List.mem_append.mp hc with e | e
    · rcases List.mem_append.mp e with e | e
      · exact h x List.mem_cons_self c e
      · rw [List.mem_singleton.mp e]; decide
    · exact joinL_cod (ws := y :: r) (fun l hl => h l (List.mem_cons_of_mem _ hl)) c e
theorem FW.fine {ws : List Wd} (h : FW ws) {n : Nat} (hl : (joinL [32] ws).length ≤ n) : Fine n (S (joinL [32] ws)) := by
  refine FL.fine ⟨hl, joinL_cod fun l hl' c hc => ?_⟩
  have := (h l hl').1.cod c (by rw [cd_S]; exact hc)
  exact this
theorem FW.split {ws : List Wd} (h : FW ws) (hn : ws ≠ []) : splitL (cd (S (joinL [32] ws))) = ws := by
  rw [cd_S]; exact splitL_of hn fun p hp => (h p hp).2
theorem FW.app {a b : List Wd} (h : FW a) (k : FW b) : FW (a ++ b) := fun l hl => by
  rcases List.mem_append.mp hl with e | e
  · exact h l e
  · exact k l e
theorem FW.cons {a : Wd} {b : List Wd} (h : Fine 1000 (S a) ∧ 32 ∉ a) (k : FW b) : FW (a :: b) := fun l hl => by
  rcases List.mem_cons.mp hl with e | e
  · rw [e]; exact h
  · exact k l e
theorem FW.nil : FW [] := fun l hl => by cases hl
theorem fw_cd {z : Str} (h1 : z.length ≤ 1000) (h2 : ∀ c ∈ cd z, c < 1000 ∧ c ≠ 32) : Fine 1000 (S (cd z)) ∧ 32 ∉ cd z := ⟨by rw [S_cd]; exact ⟨h1, fun c hc => (h2 c hc).1⟩, fun e => (h2 32 e).2 rfl⟩
theorem fw_name {z : Str} (h : nameB z = true) : Fine 1000 (S (cd z)) ∧ 32 ∉ cd z := fw_cd (Nat.le_trans (name_fine h).1 (by decide)) fun c hc => by have := (name_let h).2.2 c hc; omega
theorem fw_num {m : Int} (h : m.natAbs < 10 ^ 60) : Fine 1000 (S (numL m)) ∧ 32 ∉ numL m := ⟨⟨by rw [len_S]; have := numL_len h; omega, fun c hc => by rw [cd_S] at hc; rcases numL_mem hc with z | z <;> omega⟩, fun e => by rcases numL_mem e with z | z <;> omega⟩
theorem fw_how {h : Str} (hh : h = "<" ∨ h = "=" ∨ h = ">") : Fine 1000 (S (cd h)) ∧ 32 ∉ cd h := by
  rcases hh with rfl | rfl | rfl <;> exact fw_cd (by decide +kernel) (by decide +kernel)
theorem fw_hw (o : Bool) : Fine 1000 (S (cd (hw o))) ∧ 32 ∉ cd (hw o) := by cases o <;> exact fw_cd (by decide +kernel) (by decide +kernel)
theorem fw_c (z : String) (h : (Str.ofString z).length ≤ 1000 ∧ ∀ c ∈ cd (Str.ofString z), c < 1000 ∧ c ≠ 32 := by decide +kernel) : Fine 1000 (S (w' z)) ∧ 32 ∉ w' z := fw_cd h.1 h.2
theorem fw_wL {zs : List Str} : ∀ {t : Tr}, t.Ok zs → FW (wL t)
  | .is n v, h => by
    obtain ⟨h1, u, rfl, h2⟩ := h
    exact FW.cons (fw_name h1) (FW.cons (fw_c "is") (FW.cons (fw_name h2) FW.nil))
  | .cmp n x m, h => FW.cons (fw_name h.1) (FW.cons (fw_how h.2.1) (FW.cons (fw_num h.2.2) FW.nil))
  | .neg t, h => FW.cons (fw_c "not") (fw_wL (t := t) h)
  | .two o s t, h => FW.cons (fw_c "(") ((fw_wL h.1).app (FW.cons (fw_hw o) ((fw_wL h.2).app (FW.cons (fw_c ")") FW.nil))))
theorem rdS_good {zs : List Str} {t : Tr} (h : t.Ok zs) (h1 : t.depth ≤ 8) (h2 : t.size ≤ 16) : rdS (wL t) = some t := by
  have := rd_good (post := []) h h1
  rw [List.append_nil] at this
  unfold rdS
  rw [this]
  exact if_pos h2
/-! the rows of a paper -/
abbrev Ck := Str × Tr × Bool
abbrev Wy := Str × Option Tr
structure Sh where
  nm : Str
  ea : Option Str
  cs : List Ck
  ws : List Wy
def eaL : Option Str → List Nat
  | none => []
  | some e => w' " each " ++ cd e
def whL : Option Tr → List Nat
  | none => []
  | some t => w' " when " ++ txL t
def shT (z : Str) (e : Option Str) : List Nat := cd z ++ eaL e
def ckT (z : Str) (t : Tr) : List Nat := cd z ++ w' " unless " ++ txL t
def wyT (z : Str) (o : Option Tr) : List Nat := cd z ++ whL o
def fm (b : Bool) : Str := if b = true then "refuse" else "warn"
def ln (f : Str) (r : List Nat) : List Nat := cd f ++ 32 :: r
def ckL (c : Ck) : List Nat := ln (fm c.2.2) (ckT c.1 c.2.1)
def wyL (c : Wy) : List Nat := ln "way" (wyT c.1 c.2)
def shL (s : Sh) : List Nat := ln "sheet" (shT s.nm s.ea)
def linesS (s : Sh) : List (List Nat) := shL s :: (s.cs.map ckL ++ s.ws.map wyL)
def linesP (z : Str) (ss : List Sh) : List (List Nat) := ln "paper" (cd z) :: (ss.map linesS).flatten
def GT (t : Tr) : Prop := t.Ok [] ∧ t.depth ≤ 2 ∧ t.size ≤ 2
def CkG (c : Ck) : Prop := nameB c.1 = true ∧ GT c.2.1
def tgB (z : Str) : Prop := z = "end" ∨ nameB z = true
def WyG (c : Wy) : Prop := tgB c.1 ∧ ∀ t, c.2 = some t → GT t
def EaG (e : Option Str) : Prop := ∀ z, e = some z → nameB z = true
structure ShG (s : Sh) : Prop where
  nm : nameB s.nm = true
  ea : EaG s.ea
  cs : ∀ c ∈ s.cs, CkG c
  ws : ∀ c ∈ s.ws, WyG c
  c3 : s.cs.length ≤ 3
  w4 : s.ws.length ≤ 4
theorem tg_let {z : Str} (h : tgB z) : z.length ≤ 12 ∧ ∀ c ∈ cd z, 97 ≤ c ∧ c ≤ 122 := by
  rcases h with rfl | h
  · exact ⟨by decide +kernel, by decide +kernel⟩
  · exact ⟨(name_let h).1, (name_let h).2.2⟩
theorem no32 {z : Str} (h : ∀ c ∈ cd z, 97 ≤ c ∧ c ≤ 122) : 32 ∉ cd z := fun e => by have := h _ e; omega
theorem GT.len {t : Tr} (h : GT t) : (txL t).length ≤ 400 := by
  have := txL_len h.1
  have h2 : t.size * t.depth ≤ 2 * 2 := Nat.mul_le_mul h.2.2 h.2.1
  omega
theorem GT.b {t : Tr} (h : GT t) : t.depth ≤ 8 ∧ t.size ≤ 16 ∧ t.size * t.depth ≤ 1000 := by
  have h2 : t.size * t.depth ≤ 2 * 2 := Nat.mul_le_mul h.2.2 h.2.1
  have h3 := h.2.1
  have h4 := h.2.2
  exact ⟨by omega, by omega, by omega⟩
theorem txL_ch {zs : List Str} : ∀ {t : Tr}, t.Ok zs → ∀ c ∈ txL t, 32 ≤ c
  | .is n v, h, c, hc => by
    obtain ⟨h1, u, rfl, h2⟩ := h
    rw [txL_is] at hc
    rcases List.mem_append.mp hc with hc | hc
    · rcases List.mem_append.mp hc with hc | hc
      · have := (name_let h1).2.2 c hc; omega
      · exact (by decide +kernel : ∀ c ∈ cd (Str.ofString " is "), 32 ≤ c) c hc
    · have := (name_let h2).2.2 c hc; omega
  | .cmp n x m, h, c, hc => by
    have hb : ∀ c ∈ cd (Str.ofString " "), 32 ≤ c := by decide +kernel
    rw [txL_cmp] at hc
    rcases List.mem_append.mp hc with hc | hc
    · rcases List.mem_append.mp hc with hc | hc
      · rcases List.mem_append.mp hc with hc | hc
        · rcases List.mem_append.mp hc with hc | hc
          · have := (name_let h.1).2.2 c hc; omega
          · exact hb c hc
        · rcases h.2.1 with rfl | rfl | rfl
          · exact (by decide +kernel : ∀ c ∈ cd (Str.ofString "<"), 32 ≤ c) c hc
          · exact (by decide +kernel : ∀ c ∈ cd (Str.ofString "="), 32 ≤ c) c hc
          · exact (by decide +kernel : ∀ c ∈ cd (Str.ofString ">"), 32 ≤ c) c hc
      · exact hb c hc
    · rcases numL_mem hc with e | e <;> omega
  | .neg t, h, c, hc => by
    rw [txL_neg] at hc
    rcases List.mem_append.mp hc with hc | hc
    · exact (by decide +kernel : ∀ c ∈ cd (Str.ofString "not "), 32 ≤ c) c hc
    · exact txL_ch (t := t) h c hc
  | .two o s t, h, c, hc => by
    have hb : ∀ c ∈ cd (Str.ofString " "), 32 ≤ c := by decide +kernel
    rw [txL_two] at hc
    rcases List.mem_append.mp hc with hc | hc
    · rcases List.mem_append.mp hc with hc | hc
      · rcases List.mem_append.mp hc with hc | hc
        · rcases List.mem_append.mp hc with hc | hc
          · rcases List.mem_append.mp hc with hc | hc
            · rcases List.mem_append.mp hc with hc | hc
              · exact (by decide +kernel : ∀ c ∈ cd (Str.ofString "( "), 32 ≤ c) c hc
              · exact txL_ch h.1 c hc
            · exact hb c hc
          · exact (by cases o <;> decide +kernel : ∀ c ∈ cd (hw o), 32 ≤ c) c hc
        · exact hb c hc
      · exact txL_ch h.2 c hc
    · exact (by decide +kernel : ∀ c ∈ cd (Str.ofString " )"), 32 ≤ c) c hc
def LG (l : List Nat) : Prop := l.length ≤ 500 ∧ 10 ∉ l
theorem lg_ln {f : Str} {r : List Nat} (hf : (cd f).length ≤ 6 ∧ ∀ c ∈ cd f, 32 ≤ c) (hr : r.length ≤ 450 ∧ ∀ c ∈ r, 32 ≤ c) : LG (ln f r) := by
  refine ⟨by unfold ln; rw [List.length_append, List.length_cons]; omega, fun e => ?_⟩
  rcases List.mem_append.mp e with e | e
  · have := hf.2 _ e; omega
  · rcases List.mem_cons.mp e with e | e
    · cases e
    · have := hr.2 _ e; omega
theorem mem2 {a b : List Nat} (h : ∀ c ∈ a, 32 ≤ c) (k : ∀ c ∈ b, 32 ≤ c) : ∀ c ∈ a ++ b, 32 ≤ c := fun c hc => by
  rcases List.mem_append.mp hc with e | e
  · exact h c e
  · exact k c e
theorem tg_32 {z : Str} (h : tgB z) : (cd z).length ≤ 12 ∧ ∀ c ∈ cd z, 32 ≤ c := ⟨by rw [← len_cd]; exact (tg_let h).1, fun c hc => by have := (tg_let h).2 c hc; omega⟩
theorem ck_lg {c : Ck} (h : CkG c) : LG (ckL c) := by
  obtain ⟨z, t, b⟩ := c
  have hl := h.2.len
  have hz := tg_32 (.inr h.1)
  refine lg_ln (f := fm b) (by cases b <;> exact ⟨by decide +kernel, by decide +kernel⟩) ⟨?_, mem2 (mem2 hz.2 (by decide +kernel)) (txL_ch h.2.1)⟩
  show (cd z ++ w' " unless " ++ txL t).length ≤ 450
  have hl : (txL t).length ≤ 400 := hl
  have hz : (cd z).length ≤ 12 := hz.1
  rw [List.length_append, List.length_append, show (w' " unless ").length = 8 by decide +kernel]
  omega
theorem wy_lg {c : Wy} (h : WyG c) : LG (wyL c) := by
  obtain ⟨z, o⟩ := c
  have hz := tg_32 h.1
  have h1 : (cd z).length ≤ 12 := hz.1
  cases o with
  | none =>
    refine lg_ln ⟨by decide +kernel, by decide +kernel⟩ ⟨?_, mem2 hz.2 (fun c hc => by cases hc)⟩
    show (cd z ++ []).length ≤ 450
    rw [List.append_nil]; omega
  | some t =>
    have ht := h.2 t rfl
    have hl := ht.len
    refine lg_ln ⟨by decide +kernel, by decide +kernel⟩ ⟨?_, mem2 hz.2 (mem2 (by decide +kernel) (txL_ch ht.1))⟩
    show (cd z ++ (w' " when " ++ txL t)).length ≤ 450
    rw [List.length_append, List.length_append, show (w' " when ").length = 6 by decide +kernel]
    omega
theorem sh_lg {s : Sh} (h : ShG s) : LG (shL s) := by
  obtain ⟨z, e, cs, ws⟩ := s
  have hz := tg_32 (.inr h.nm)
  have h1 : (cd z).length ≤ 12 := hz.1
  cases e with
  | none =>
    refine lg_ln ⟨by decide +kernel, by decide +kernel⟩ ⟨?_, mem2 hz.2 (fun c hc => by cases hc)⟩
    show (cd z ++ []).length ≤ 450
    rw [List.append_nil]; omega
  | some e =>
    have ht := tg_32 (.inr (h.ea e rfl))
    have h2 := ht.1
    refine lg_ln ⟨by decide +kernel, by decide +kernel⟩ ⟨?_, mem2 hz.2 (mem2 (by decide +kernel) ht.2)⟩
    show (cd z ++ (w' " each " ++ cd e)).length ≤ 450
    rw [List.length_append, List.length_append, show (w' " each ").length = 6 by decide +kernel]
    omega
theorem linesS_lg {s : Sh} (h : ShG s) : ∀ l ∈ linesS s, LG l := fun l hl => by
  rcases List.mem_cons.mp hl with e | e
  · rw [e]; exact sh_lg h
  · rcases List.mem_append.mp e with e | e
    · obtain ⟨c, hc, rfl⟩ := List.mem_map.mp e; exact ck_lg (h.cs c hc)
    · obtain ⟨c, hc, rfl⟩ := List.mem_map.mp e; exact wy_lg (h.ws c hc)
theorem linesP_lg {z : Str} {ss : List Sh} (hz : nameB z = true) (h : ∀ s ∈ ss, ShG s) : ∀ l ∈ linesP z ss, LG l := fun l hl => by
  rcases List.mem_cons.mp hl with e | e
  · have hz := tg_32 (.inr hz)
    rw [e]; exact lg_ln ⟨by decide +kernel, by decide +kernel⟩ ⟨by omega, hz.2⟩
  · obtain ⟨L, hL, e⟩ := List.mem_flatten.mp e
    obtain ⟨s, hs, rfl⟩ := List.mem_map.mp hL
    exact linesS_lg (h s hs) l e
def ct (s : Sh) : Nat := 1 + (s.cs.length + s.ws.length)
theorem linesS_len (s : Sh) : (linesS s).length = ct s := by
  unfold linesS ct; rw [List.length_cons, List.length_append, List.length_map, List.length_map]; omega
def cts (ss : List Sh) : Nat := (ss.map ct).sum
theorem linesP_len (z : Str) (ss : List Sh) : (linesP z ss).length = 1 + cts ss := by
  unfold linesP cts
  rw [List.length_cons, List.length_flatten, List.map_map, show List.length ∘ linesS = ct from funext linesS_len]; omega
theorem cts_le {ss : List Sh} (h : ∀ s ∈ ss, ShG s) : cts ss ≤ 8 * ss.length := by
  unfold cts
  induction ss with
  | nil => exact Nat.le_refl _
  | cons s r ih =>
    have h1 := ih fun s hs => h s (List.mem_cons_of_mem _ hs)
    have h2 := (h s List.mem_cons_self).c3
    have h3 := (h s List.mem_cons_self).w4
    rw [List.map_cons, List.sum_cons, List.length_cons]
    unfold ct at *
    omega
theorem sum_lg : ∀ {ls : List (List Nat)}, (∀ l ∈ ls, LG l) → (ls.map List.length).sum ≤ 500 * ls.length
  | [], _ => Nat.le_refl _
  | l :: r, h => by
    have h1 := sum_lg fun l hl => h l (List.mem_cons_of_mem _ hl)
    have h2 := (h l List.mem_cons_self).1
    rw [List.map_cons, List.sum_cons, List.length_cons]
    omega
theorem jl_len (sep : List Nat) : ∀ ys : List (List Nat), (joinL sep ys).length ≤ (ys.map List.length).sum + ys.length * sep.length
  | [] => Nat.zero_le _
  | [x] => by show x.length ≤ x.length + 0 + 1 * _; omega
  | x :: y :: r => by
    have ih := jl_len sep (y :: r)
    show (x ++ sep ++ joinL sep (y :: r)).length ≤ _
    rw [List.length_append, List.length_append, List.map_cons, List.sum_cons, List.length_cons (a := x), Nat.succ_mul]
    omega
theorem vs_strs (ws : List (List Nat)) : wv ws = (ws.map S).map V.str := by rw [List.map_map]; rfl
theorem map_cdS (ls : List (List Nat)) : (ls.map S).map cd = ls := by
  rw [List.map_map]
  conv => rhs; rw [← List.map_id ls]
  exact List.map_congr_left fun l _ => cd_S l
/-- a paper that fits -/
def PpG (z : Str) (ss : List Sh) : Prop := nameB z = true ∧ (∀ s ∈ ss, ShG s) ∧ ss.length ≤ 4
theorem PpG.len {z : Str} {ss : List Sh} (h : PpG z ss) : (linesP z ss).length ≤ 33 ∧ ((linesP z ss).map List.length).sum ≤ 16500 := by
  have h1 := cts_le h.2.1
  have h2 := h.2.2
  have h3 := linesP_len z ss
  have h4 := sum_lg (linesP_lg h.1 h.2.1)
  exact ⟨by omega, by omega⟩
theorem join_size {z : Str} {ss : List Sh} (h : PpG z ss) : ((((linesP z ss).map S).map (·.length)).sum + ((linesP z ss).map S).length * (Str.ofString "\n").length) ≤ 16777216 := by
  obtain ⟨h1, h2⟩ := h.len
  have e : ((linesP z ss).map S).map (·.length) = (linesP z ss).map List.length := by rw [List.map_map]; exact List.map_congr_left fun l _ => len_S l
  rw [e, List.length_map, show (Str.ofString "\n").length = 1 by decide +kernel]
  omega
theorem text_len {z : Str} {ss : List Sh} (h : PpG z ss) : (S (joinL [10] (linesP z ss))).length ≤ 100000 := by
  obtain ⟨h1, h2⟩ := h.len
  have h3 := jl_len [10] (linesP z ss)
  rw [len_S, show [10].length = 1 from rfl] at *
  omega
theorem split_lines {z : Str} {ss : List Sh} (h : PpG z ss) : Txt.split (S (joinL [10] (linesP z ss))) (Str.ofString "\n") = (linesP z ss).map S := by
  rw [show Str.ofString "\n" = S [10] by decide +kernel]
  exact splitK_is (by unfold linesP; simp) fun l hl => (linesP_lg h.1 h.2.1 l hl).2
/-! parted rows -/
theorem pt_at {sep : String} {y : List Nat} (hy : w' sep = 32 :: y) {z : Str} (hz : 32 ∉ cd z) (b : List Nat) : Txt.partition (S (cd z ++ w' sep ++ b)) (Str.ofString sep) = (z, Str.ofString sep, S b) := by
  have h := part_sep (y := y) (b := b) hz
  rw [← hy, S_cd, S_cd] at h
  exact h
theorem pt_no {sep : String} {y : List Nat} (hy : w' sep = 32 :: y) {z : Str} (hz : 32 ∉ cd z) : Txt.partition z (Str.ofString sep) = (z, Str.ofString "", Str.ofString "") := by
  have h := part_non (y := y) hz
  rw [← hy, S_cd, S_cd] at h
  rw [h, show Str.empty = Str.ofString "" by decide +kernel]
def pE : Option Str → Str × Str
  | none => (Str.ofString "", Str.ofString "")
  | some e => (Str.ofString " each ", e)
def pW : Option Tr → Str × Str
  | none => (Str.ofString "", Str.ofString "")
  | some t => (Str.ofString " when ", S (txL t))
theorem pt_sh {z : Str} (hz : 32 ∉ cd z) (e : Option Str) : Txt.partition (S (shT z e)) (Str.ofString " each ") = (z, (pE e).1, (pE e).2) := by
  cases e with
  | none => unfold shT eaL; rw [List.append_nil, S_cd]; exact pt_no (y := [101, 97, 99, 104, 32]) (by decide +kernel) hz
  | some e =>
    have := pt_at (sep := " each ") (y := [101, 97, 99, 104, 32]) (by decide +kernel) hz (cd e)
    rw [List.append_assoc, S_cd] at this
    exact this
theorem pt_wy {z : Str} (hz : 32 ∉ cd z) (o : Option Tr) : Txt.partition (S (wyT z o)) (Str.ofString " when ") = (z, (pW o).1, (pW o).2) := by
  cases o with
  | none => unfold wyT whL; rw [List.append_nil, S_cd]; exact pt_no (y := [119, 104, 101, 110, 32]) (by decide +kernel) hz
  | some t =>
    have := pt_at (sep := " when ") (y := [119, 104, 101, 110, 32]) (by decide +kernel) hz (txL t)
    rw [List.append_assoc] at this
    exact this
theorem pt_ck {z : Str} (hz : 32 ∉ cd z) (t : Tr) : Txt.partition (S (ckT z t)) (Str.ofString " unless ") = (z, Str.ofString " unless ", S (txL t)) :=
  pt_at (sep := " unless ") (y := [117, 110, 108, 101, 115, 115, 32]) (by decide +kernel) hz (txL t)
theorem pt_ln {f : Str} (hf : 32 ∉ cd f) (r : List Nat) : Txt.partition (S (ln f r)) (Str.ofString " ") = (f, Str.ofString " ", S r) := by
  unfold ln
  rw [show Str.ofString " " = S [32] by decide +kernel, part_at hf, S_cd]
end K23
set_option maxHeartbeats 4000000
namespace K23
open PySem L2
seal PE PT PW PA PS PSs PG PGs PI PO PSet OpR UnR CallR TruR IxR SlR PC PPs
local macro_rules | `(tactic| walk_at "rd1") => `(tactic| first
  | (refine And.intro rfl ?_)
  | (refine And.intro (by assumption) ?_)
  | (refine And.intro (fun _ e => e) ?_)
  | (refine And.intro (TyOf.str _) ?_) | (refine And.intro (TyOf.int _) ?_) | (refine And.intro (TyOf.bl _) ?_) | (refine And.intro TyOf.non ?_)
  | (refine iteT ?_) | (refine iteF ?_)
  | (apply Exists.intro))
local macro_rules | `(tactic| walk_at "rd") => `(tactic| repeat (walk_at "rd1"))

theorem upd_none {H : Hp} {a b : Addr} {o : HO} (h : upd H a o b = none) : b ≠ a ∧ H b = none := by
  by_cases e : b = a
  · subst e; rw [upd_same] at h; cases h
  · exact ⟨e, by rw [upd_ne e] at h; exact h⟩
theorem same_none {H H' : Hp} (s : Same H H') {b : Addr} (h : H' b = none) : H b = none := by
  cases e : H b with
  | none => rfl
  | some o => rw [s b o e] at h; cases h
def Fr (M : List Addr) (H H' : Hp) : Prop := ∀ b o, H b = some o → b ∉ M → H' b = some o
theorem Fr.of {M : List Addr} {H H' : Hp} (s : Same H H') : Fr M H H' := fun b o h _ => s b o h
theorem Fr.trans {M : List Addr} {H H' H'' : Hp} (a : Fr M H H') (b : Fr M H' H'') : Fr M H H'' := fun x o h n => b x o (a x o h n) n
theorem Fr.upd {M : List Addr} {H H' : Hp} (a : Fr M H H') {m : Addr} (h : m ∈ M) (o : HO) : Fr M H (upd H' m o) := fun x u hx n => by
  rw [upd_ne (fun e => n (by rw [e]; exact h))]; exact a x u hx n
theorem Fr.new {M : List Addr} {H H' : Hp} (a : Fr M H H') {m : Addr} (h : H' m = none) (o : HO) : Fr M H (L2.upd H' m o) := fun x u hx n => by
  have := a x u hx n
  rw [upd_ne (ne_of_none this h)]; exact this
theorem Fr.more {M M' : List Addr} {H H' : Hp} (a : Fr M H H') (h : ∀ m ∈ M, m ∈ M') : Fr M' H H' := fun x u hx n => a x u hx fun e => n (h x e)
/-- what these hold are lists and drafts -/
def Mu (M : List Addr) (H : Hp) : Prop := ∀ m ∈ M, ∀ o, H m = some o → (∃ ys, o = .lst ys) ∨ ∃ C dx fs, o = .ins C dx fs ∧ fs.length = 5
theorem mu_nil {H : Hp} : Mu [] H := fun m h => by cases h
theorem Mu.one {H : Hp} {a : Addr} {o : HO} (h : H a = some o) (k : (∃ ys, o = .lst ys) ∨ ∃ C dx fs, o = .ins C dx fs ∧ fs.length = 5) : Mu [a] H := fun m hm u hu => by
  rw [List.mem_singleton.mp hm, h] at hu; cases hu; exact k
theorem Mu.cons {H : Hp} {a : Addr} {o : HO} {M : List Addr} (h : H a = some o) (k : (∃ ys, o = .lst ys) ∨ ∃ C dx fs, o = .ins C dx fs ∧ fs.length = 5) (m : Mu M H) : Mu (a :: M) H := fun x hx u hu => by
  rcases List.mem_cons.mp hx with e | e
  · rw [e, h] at hu; cases hu; exact k
  · exact m x e u hu
section
variable {A : Adr} {M : List Addr} {H H' : Hp}
theorem Fr.ins {b C dx : Addr} {fs : List (Str × V)} (f : Fr M H H') (m : Mu M H) (h : H b = some (.ins C dx fs)) (l : fs.length ≠ 5) : H' b = some (.ins C dx fs) := f _ _ h fun e => by
  rcases m _ e _ h with ⟨_, z⟩ | ⟨_, _, _, z, l'⟩
  · cases z
  · cases z; exact l l'
theorem Fr.tup {b : Addr} {xs : List V} (f : Fr M H H') (m : Mu M H) (h : H b = some (.tup xs)) : H' b = some (.tup xs) := f _ _ h fun e => by
  rcases m _ e _ h with ⟨_, z⟩ | ⟨_, _, _, z, _⟩ <;> cases z
theorem SyR.fr (f : Fr M H H') (m : Mu M H) : ∀ {t : Tr} {x : V}, SyR A H t x → SyR A H' t x
  | .is _ _, _, ⟨a, dx, e, h⟩ => ⟨a, dx, e, f.ins m h (by show (3 : Nat) ≠ 5; decide)⟩
  | .cmp _ _ _, _, ⟨a, dx, e, h⟩ => ⟨a, dx, e, f.ins m h (by show (3 : Nat) ≠ 5; decide)⟩
  | .neg _, _, ⟨a, dx, y, e, h, k⟩ => ⟨a, dx, y, e, f.ins m h (by show (1 : Nat) ≠ 5; decide), SyR.fr f m k⟩
  | .two o _ _, _, ⟨a, dx, y, z, e, h, k, l⟩ => ⟨a, dx, y, z, e, f.ins m h (by show (2 : Nat) ≠ 5; decide), SyR.fr f m k, SyR.fr f m l⟩
def OSy (A : Adr) (H : Hp) : Option Tr → V → Prop
  | none, v => v = .non
  | some t, v => SyR A H t v
theorem OSy.fr (f : Fr M H H') (m : Mu M H) {o : Option Tr} {v : V} (h : OSy A H o v) : OSy A H' o v := by
  cases o with
  | none => exact h
  | some t => exact SyR.fr (t := t) f m h
abbrev oCk (A : Adr) (dx : Addr) (u1 u2 u3 : V) : HO := .ins A.c_Check dx [("name", u1), ("test", u2), ("firm", u3)]
abbrev oSh (A : Adr) (dx : Addr) (u1 u2 : V) (q1 q2 : Addr) : HO := .ins A.c_Sheet dx [("name", u1), ("each", u2), ("rows", .ref q1), ("ways", .ref q2)]
abbrev oPa (A : Adr) (dx : Addr) (u1 : V) (q1 q2 : Addr) : HO := .ins A.c_Paper dx [("name", u1), ("sheets", .ref q1), ("totals", .ref q2)]
def eV : Option Str → V
  | none => .non
  | some e => .str e
def CkR (A : Adr) (H : Hp) (x : V) (c : Ck) : Prop := ∃ b dx v, x = .ref b ∧ H b = some (oCk A dx (.str c.1) v (.bl c.2.2)) ∧ SyR A H c.2.1 v
def WyR (A : Adr) (H : Hp) (x : V) (c : Wy) : Prop := ∃ a v, x = .ref a ∧ H a = some (.tup [.str c.1, v]) ∧ OSy A H c.2 v
def ShR (A : Adr) (Z : Addr → Prop) (H : Hp) (x : V) (s : Sh) : Prop := ∃ a dx pr pw rs ws, x = .ref a ∧ H a = some (oSh A dx (.str s.nm) (eV s.ea) pr pw) ∧ Z pr ∧ Z pw ∧ H pr = some (.lst rs) ∧ H pw = some (.lst ws) ∧ Paired (CkR A H) rs s.cs ∧ Paired (WyR A H) ws s.ws
theorem CkR.fr (f : Fr M H H') (m : Mu M H) {x : V} {c : Ck} (h : CkR A H x c) : CkR A H' x c := let ⟨b, dx, v, e, h1, h2⟩ := h; ⟨b, dx, v, e, f.ins m h1 (by show (3 : Nat) ≠ 5; decide), h2.fr f m⟩
theorem WyR.fr (f : Fr M H H') (m : Mu M H) {x : V} {c : Wy} (h : WyR A H x c) : WyR A H' x c := let ⟨a, v, e, h1, h2⟩ := h; ⟨a, v, e, f.tup m h1, h2.fr f m⟩
theorem ShR.fr (f : Fr M H H') (m : Mu M H) {Z : Addr → Prop} (hz : ∀ b, Z b → b ∉ M) {x : V} {s : Sh} (h : ShR A Z H x s) : ShR A Z H' x s := by
  obtain ⟨a, dx, pr, pw, rs, ws, e, h1, h2, h3, h4, h5, h6, h7⟩ := h
  exact ⟨a, dx, pr, pw, rs, ws, e, f.ins m h1 (by show (4 : Nat) ≠ 5; decide), h2, h3, f _ _ h4 (hz _ h2), f _ _ h5 (hz _ h3), paired_mono (fun _ _ k => k.fr f m) h6, paired_mono (fun _ _ k => k.fr f m) h7⟩
theorem ShR.mono {Z Z' : Addr → Prop} (hz : ∀ b ys, H b = some (.lst ys) → Z b → Z' b) {x : V} {s : Sh} (h : ShR A Z H x s) : ShR A Z' H x s := by
  obtain ⟨a, dx, pr, pw, rs, ws, e, h1, h2, h3, h4, h5, h6, h7⟩ := h
  exact ⟨a, dx, pr, pw, rs, ws, e, h1, hz _ _ h4 h2, hz _ _ h5 h3, h4, h5, h6, h7⟩
theorem ShR.same (f : Same H H') {Z : Addr → Prop} {x : V} {s : Sh} (h : ShR A Z H x s) : ShR A Z H' x s := h.fr (Fr.of f) mu_nil (fun _ _ z => by cases z)
def PapR (A : Adr) (H : Hp) (x : V) (z : Str) (ss : List Sh) : Prop := ∃ a dx q1 q2 xs, x = .ref a ∧ H a = some (oPa A dx (.str z) q1 q2) ∧ H q1 = some (.lst xs) ∧ H q2 = some (.lst []) ∧ Paired (ShR A (fun _ => True) H) xs ss
theorem PapR.same (f : Same H H') {x : V} {z : Str} {ss : List Sh} (h : PapR A H x z ss) : PapR A H' x z ss := by
  obtain ⟨a, dx, q1, q2, xs, e, h1, h2, h3, h4⟩ := h
  exact ⟨a, dx, q1, q2, xs, e, f _ _ h1, f _ _ h2, f _ _ h3, paired_mono (fun _ _ k => k.same f) h4⟩
end
def spRowI (A : Adr) : Sp := fun vs H Q _ => ∃ p dx u1, vs = [.ref p, u1] ∧ H p = some (.ins A.c_Check dx []) ∧ Q .non (upd H p (.ins A.c_Check dx [("name", u1)]))
def spCkI (A : Adr) : Sp := fun vs H Q _ => ∃ p dx u1 u2 u3, vs = [.ref p, u1, u2, u3] ∧ H p = some (.ins A.c_Check dx []) ∧ Q .non (upd H p (oCk A dx u1 u2 u3))
def spSheetI (A : Adr) (K : PySem.W.Frag) : Sp := fun vs H Q _ => ∃ p dx u1 u2 l1 l2 xs ys, vs = [.ref p, u1, u2, .ref l1, .ref l2] ∧ H p = some (.ins A.c_Sheet dx []) ∧ H l1 = some (.lst xs) ∧ H l2 = some (.lst ys) ∧
  ∀ q1 q2 H', q1 ≠ q2 → H q1 = none → H q2 = none → Fr [p] H H' → H' p = some (oSh A dx u1 u2 q1 q2) → H' q1 = some (.lst xs) → H' q2 = some (.lst ys) → Q .non H'
def spPaperI (A : Adr) (K : PySem.W.Frag) : Sp := fun vs H Q _ => ∃ p dx u1 l1 l2 xs, vs = [.ref p, u1, .ref l1, .ref l2] ∧ H p = some (.ins A.c_Paper dx []) ∧ H l1 = some (.lst xs) ∧ H l2 = some (.lst []) ∧
  ∀ q1 q2 H', Fr [p] H H' → H' p = some (oPa A dx u1 q1 q2) → H' q1 = some (.lst xs) → H' q2 = some (.lst []) → Q .non H'
section
variable {P : Program} {w : World} {K : PySem.W.Frag} {mg : Str → Option Value} {base : Heap} {A : Adr}
theorem ok_row_init (T : Txt K mg A) : FnOk P w K mg base CX0 1 A.f_c_Row___init A.d_c_Row___init ["self", "name"] (spRowI A) := by
  refine T.F_c_Row___init.ok sc_c_Row___init (fun vs H Q E h => ?_) (fun cdv A0 outer s H vs Q E hr h => ?_)
  · obtain ⟨p, dx, u1, rfl, _⟩ := h
    rfl
  obtain ⟨p, dx, u1, rfl, hp, q⟩ := h
  refine ⟨_, (pss_one (ps_fld (pv 0) (pv 1) rfl)), ?_⟩
  exact ⟨_, rfl, _, rfl, p, _, dx, _, rfl, hp, T.cl_Check, T.no_Check_name, by decide, q⟩
theorem ok_ck_init (T : Txt K mg A) : FnOk P w K mg base CX0 3 A.f_c_Check___init A.d_c_Check___init ["self", "name", "test", "firm"] (spCkI A) := by
  have G_c_Row___init := ok_row_init (P := P) (w := w) (base := base) T
  refine T.F_c_Check___init.ok sc_c_Check___init (fun vs H Q E h => ?_) (fun cdv A0 outer s H vs Q E hr h => ?_)
  · obtain ⟨p, dx, u1, u2, u3, rfl, _⟩ := h
    rfl
  obtain ⟨p, dx, u1, u2, u3, rfl, hp, q⟩ := h
  refine ⟨_, (pss_cons (ps_expr (pe_clsfn T.cf_Row_init G_c_Row___init (hr.mono (by first | decide | omega)) rfl T.m_Row T.b_c_Row___init pass0 (pa_cons (pv 0) (pa_cons (pv 1) pa_nil))))
      (pss_cons (ps_fld (pv 0) (pv 2) rfl)
      (pss_one (ps_fld (pv 0) (pv 3) rfl)))), ?_⟩
  refine ⟨_, rfl, _, rfl, p, dx, u1, rfl, hp, ?_⟩
  refine ⟨_, rfl, _, rfl, p, _, dx, _, rfl, upd_same, T.cl_Check, T.no_Check_test, (by show 1 < 1000; decide), ?_⟩
  refine ⟨_, rfl, _, rfl, p, _, dx, _, rfl, upd_same, T.cl_Check, T.no_Check_firm, (by show 2 < 1000; decide), ?_⟩
  rw [upd_upd, upd_upd]
  exact q
theorem ok_sheet_init (T : Txt K mg A) : FnOk P w K mg base CX0 1 A.f_c_Sheet___init A.d_c_Sheet___init ["self", "name", "each", "rows", "ways"] (spSheetI A K) := by
  refine T.F_c_Sheet___init.ok sc_c_Sheet___init (fun vs H Q E h => ?_) (fun cdv A0 outer s H vs Q E hr h => ?_)
  · obtain ⟨p, dx, u1, u2, l1, l2, xs, ys, rfl, _⟩ := h
    rfl
  obtain ⟨p, dx, u1, u2, l1, l2, xs, ys, rfl, hp, h1, h2, q⟩ := h
  refine ⟨_, (pss_cons (ps_fld (pv 0) (pv 1) rfl)
      (pss_cons (ps_fld (pv 0) (pv 2) rfl)
      (pss_cons (ps_fld (pv 0) (pe_callTy call_list_of (by rfl) T.n_list Bt.list (pa_cons (pv 3) pa_nil)) rfl)
      (pss_one (ps_fld (pv 0) (pe_callTy call_list_of (by rfl) T.n_list Bt.list (pa_cons (pv 4) pa_nil)) rfl))))), ?_⟩
  have n1 : l1 ≠ p := ne_of h1 hp (by intro z; cases z)
  have n2 : l2 ≠ p := ne_of h2 hp (by intro z; cases z)
  refine ⟨_, rfl, _, rfl, p, _, dx, _, rfl, hp, T.cl_Sheet, T.no_Sheet_name, by decide, ?_⟩
  refine ⟨_, rfl, _, rfl, p, _, dx, _, rfl, upd_same, T.cl_Sheet, T.no_Sheet_each, (by show 1 < 1000; decide), ?_⟩
  rw [upd_upd]
  refine ⟨_, rfl, l1, xs, rfl, .inl (SqL.of (by rw [upd_ne n1]; exact h1)), fun q1 hq1 => ?_⟩
  obtain ⟨e1, f1⟩ := upd_none hq1
  refine ⟨_, rfl, p, _, dx, _, rfl, (by rw [upd_ne (Ne.symm e1)]; exact upd_same), T.cl_Sheet, T.no_Sheet_rows, (by show 2 < 1000; decide), ?_⟩
  refine ⟨_, rfl, l2, ys, rfl, .inl (SqL.of (by rw [upd_ne n2, upd_ne (ne_of_none h2 f1), upd_ne n2]; exact h2)), fun q2 hq2 => ?_⟩
  obtain ⟨e2, g2⟩ := upd_none hq2
  obtain ⟨e3, g3⟩ := upd_none g2
  obtain ⟨e4, f2⟩ := upd_none g3
  refine ⟨_, rfl, p, _, dx, _, rfl, (by rw [upd_ne (Ne.symm e2)]; exact upd_same), T.cl_Sheet, T.no_Sheet_ways, (by show 3 < 1000; decide), ?_⟩
  refine q q1 q2 _ (Ne.symm e3) f1 f2 (fun b o hb hn => ?_) upd_same ?_ ?_
  · have nb : b ≠ p := fun e => hn (by rw [e]; exact List.mem_singleton.mpr rfl)
    rw [upd_ne nb, upd_ne (ne_of_none hb f2), upd_ne nb, upd_ne (ne_of_none hb f1), upd_ne nb]; exact hb
  · rw [upd_ne e1, upd_ne (Ne.symm e3), upd_ne e1]; exact upd_same
  · rw [upd_ne e2]; exact upd_same
theorem ok_paper_init (T : Txt K mg A) : FnOk P w K mg base CX0 1 A.f_c_Paper___init A.d_c_Paper___init ["self", "name", "sheets", "totals"] (spPaperI A K) := by
  refine T.F_c_Paper___init.ok sc_c_Paper___init (fun vs H Q E h => ?_) (fun cdv A0 outer s H vs Q E hr h => ?_)
  · obtain ⟨p, dx, u1, l1, l2, xs, rfl, _⟩ := h
    rfl
  obtain ⟨p, dx, u1, l1, l2, xs, rfl, hp, h1, h2, q⟩ := h
  refine ⟨_, (pss_cons (ps_fld (pv 0) (pv 1) rfl)
      (pss_cons (ps_fld (pv 0) (pe_callTy call_list_of (by rfl) T.n_list Bt.list (pa_cons (pv 2) pa_nil)) rfl)
      (pss_one (ps_fld (pv 0) (pe_compT (compOk2_of (compOk_of (x := "total") (M := ["self", "name", "sheets", "totals"]) rfl (by rfl)) (by rfl) (by decide +kernel)) rfl (pi_list (pv 3)) (fun _ _ _ _ => pifs_nil) (fun _ _ _ _ => pe_eqv (by exact (pe_tup (pa_cons (pv 0) (pa_cons (pe_callTy call_list_of (by rfl) T.n_list Bt.list (pa_cons (pv 1) pa_nil)) pa_nil)))) (by dsimp only [compCx2] <;> rfl))) rfl)))), ?_⟩
  have n1 : l1 ≠ p := ne_of h1 hp (by intro z; cases z)
  have n2 : l2 ≠ p := ne_of h2 hp (by intro z; cases z)
  refine ⟨_, rfl, _, rfl, p, _, dx, _, rfl, hp, T.cl_Paper, T.no_Paper_name, by decide, ?_⟩
  refine ⟨_, rfl, l1, xs, rfl, .inl (SqL.of (by rw [upd_ne n1]; exact h1)), fun q1 hq1 => ?_⟩
  obtain ⟨e1, f1⟩ := upd_none hq1
  refine ⟨_, rfl, p, _, dx, _, rfl, (by rw [upd_ne (Ne.symm e1)]; exact upd_same), T.cl_Paper, T.no_Paper_sheets, (by show 1 < 1000; decide), ?_⟩
  generalize hG : upd (upd (upd H p (.ins A.c_Paper dx (putF (Str.ofString "name") u1 []))) q1 (.lst xs)) p (.ins A.c_Paper dx (putF (Str.ofString "sheets") (V.ref q1) (putF (Str.ofString "name") u1 []))) = H1
  have F1 : Fr [p] H H1 := by rw [← hG]; exact (((Fr.of (Same.refl _)).upd (List.mem_singleton.mpr rfl) _).new hq1 _).upd (List.mem_singleton.mpr rfl) _
  have hp1 : H1 p = some (.ins A.c_Paper dx [("name", u1), ("sheets", .ref q1)]) := by rw [← hG]; exact upd_same
  have hq1' : H1 q1 = some (.lst xs) := by rw [← hG, upd_ne e1]; exact upd_same
  have hl2 : H1 l2 = some (.lst []) := F1 _ _ h2 (fun e => n2 (List.mem_singleton.mp e))
  refine ⟨_, rfl, l2, rfl, ⟨_, SqL.of hl2⟩, ?_⟩
  refine comp_listT (xs := []) (small_of (m := 1) (by decide)) (fun i zs H' => H1 = H' ∧ zs = []) ⟨rfl, rfl⟩ (fun i zs H' hw => hw.1 ▸ SqL.of hl2) (fun i x zs H' hx _ hw => by simp at hx) (fun zs H' hw p2 hp2 => ?_)
  obtain ⟨rfl, rfl⟩ := hw
  have s2 := same_new hp2 (.lst [])
  have np2 : p2 ≠ p := fun e => by rw [e, hp1] at hp2; cases hp2
  refine ⟨_, rfl, p, _, dx, _, rfl, s2 _ _ hp1, T.cl_Paper, T.no_Paper_totals, (by show 2 < 1000; decide), ?_⟩
  have F2 : Fr [p] H1 (upd (upd H1 p2 (.lst [])) p (oPa A dx u1 q1 p2)) := (Fr.of s2).upd (List.mem_singleton.mpr rfl) _
  refine q q1 p2 _ (F1.trans F2) upd_same (F2 _ _ hq1' (fun z => e1 (List.mem_singleton.mp z))) ?_
  show (upd (upd H1 p2 (.lst [])) p (oPa A dx u1 q1 p2)) p2 = _
  rw [upd_ne np2]; exact upd_same
end
end K23
set_option maxHeartbeats 4000000
namespace K23
open PySem L2
seal PE PT PW PA PS PSs PG PGs PI PO PSet OpR UnR CallR TruR IxR SlR PC PPs
local macro_rules | `(tactic| walk_at "rd1") => `(tactic| first
  | (refine And.intro rfl ?_)
  | (refine And.intro (by assumption) ?_)
  | (refine And.intro (fun _ e => e) ?_)
  | (refine And.intro (TyOf.str _) ?_) | (refine And.intro (TyOf.int _) ?_) | (refine And.intro (TyOf.bl _) ?_) | (refine And.intro TyOf.non ?_)
  | (refine iteT ?_) | (refine iteF ?_)
  | (apply Exists.intro))
local macro_rules | `(tactic| walk_at "rd") => `(tactic| repeat (walk_at "rd1"))

def spSWn (A : Adr) : Sp := fun vs H Q _ => ∃ v o, vs = [v] ∧ OSy A H o v ∧ (∀ t, o = some t → GT t) ∧ Q (.str (S (whL o))) H
def spSRow (A : Adr) : Sp := fun vs H Q _ => ∃ x c, vs = [x] ∧ CkR A H x c ∧ CkG c ∧ Q (.str (S (ckL c))) H
def spSSheet (A : Adr) : Sp := fun vs H Q _ => ∃ x s Z, vs = [x] ∧ ShR A Z H x s ∧ ShG s ∧ ∀ p H', Same H H' → H' p = some (.lst (wv (linesS s))) → Q (.ref p) H'
def spSPaper (A : Adr) : Sp := fun vs H Q _ => ∃ x z ss, vs = [x] ∧ PapR A H x z ss ∧ PpG z ss ∧ ∀ H', Same H H' → Q (.str (S (joinL [10] (linesP z ss)))) H'
theorem ck_txt (z : Str) (t : Tr) (b : Bool) : (((if b = true then Str.ofString "refuse " else Str.ofString "warn ") ++ z) ++ Str.ofString " unless ") ++ S (txL t) = S (ckL (z, t, b)) := cd_inj (by
  rw [cd_app, cd_app, cd_app]
  show _ ++ cd z ++ w' " unless " ++ txL t = cd (fm b) ++ 32 :: (cd z ++ w' " unless " ++ txL t)
  have e : cd (if b = true then Str.ofString "refuse " else Str.ofString "warn ") = cd (fm b) ++ [32] := by cases b <;> decide +kernel
  rw [e]
  simp only [List.append_assoc, List.singleton_append, List.cons_append, List.nil_append])
theorem wy_txt (z : Str) (o : Option Tr) : (Str.ofString "way " ++ z) ++ S (whL o) = S (wyL (z, o)) := cd_inj (by
  rw [cd_app, cd_app]
  show cd (Str.ofString "way ") ++ cd z ++ whL o = cd (Str.ofString "way") ++ 32 :: (cd z ++ whL o)
  rw [show cd (Str.ofString "way ") = cd (Str.ofString "way") ++ [32] by decide +kernel]
  simp only [List.append_assoc, List.singleton_append, List.cons_append, List.nil_append])
theorem sh_txt (s : Sh) : (Str.ofString "sheet " ++ s.nm) ++ S (eaL s.ea) = S (shL s) := cd_inj (by
  rw [cd_app, cd_app]
  show cd (Str.ofString "sheet ") ++ cd s.nm ++ eaL s.ea = cd (Str.ofString "sheet") ++ 32 :: (cd s.nm ++ eaL s.ea)
  rw [show cd (Str.ofString "sheet ") = cd (Str.ofString "sheet") ++ [32] by decide +kernel]
  simp only [List.append_assoc, List.singleton_append, List.cons_append, List.nil_append])
theorem pa_txt (z : Str) : Str.ofString "paper " ++ z = S (ln "paper" (cd z)) := cd_inj (by
  rw [cd_app]
  show cd (Str.ofString "paper ") ++ cd z = cd (Str.ofString "paper") ++ 32 :: cd z
  rw [show cd (Str.ofString "paper ") = cd (Str.ofString "paper") ++ [32] by decide +kernel]
  simp only [List.append_assoc, List.singleton_append, List.cons_append, List.nil_append])
theorem wv_take {α : Type} {f : α → List Nat} {cs : List α} {i : Nat} {c : α} (h : cs[i]? = some c) : wv ((cs.take i).map f) ++ [V.str (S (f c))] = wv ((cs.take (i + 1)).map f) := by
  rw [List.take_succ, h, List.map_append]
  show _ = List.map (fun l => V.str (S l)) (_ ++ [f c])
  rw [List.map_append]; rfl
theorem ea_len {e : Option Str} (h : EaG e) : (eaL e).length ≤ 18 := by
  cases e with
  | none => decide
  | some e =>
    have := (tg_32 (.inr (h e rfl))).1
    show (w' " each " ++ cd e).length ≤ 18
    rw [List.length_append, show (w' " each ").length = 6 by decide +kernel]; omega
theorem wh_len {o : Option Tr} (h : ∀ t, o = some t → GT t) : (whL o).length ≤ 406 := by
  cases o with
  | none => show 0 ≤ 406; decide
  | some t =>
    have := (h t rfl).len
    show (w' " when " ++ txL t).length ≤ 406
    rw [List.length_append, show (w' " when ").length = 6 by decide +kernel]; omega
section
variable {P : Program} {w : World} {K : PySem.W.Frag} {mg : Str → Option Value} {base : Heap} {A : Adr}
theorem ok_shown_when (T : Txt K mg A) : FnOk P w K mg base CX0 8 A.f_shown_when A.d_shown_when ["saying"] (spSWn A) := by
  have G_S := ok_shown (P := P) (w := w) (base := base) T 3
  refine T.F_shown_when.ok sc_shown_when (fun vs H Q E h => ?_) (fun cdv A0 outer s H vs Q E hr h => ?_)
  · obtain ⟨v, o, rfl, _⟩ := h
    rfl
  obtain ⟨v, o, rfl, ho, hg, q⟩ := h
  obtain ⟨kr, hkr⟩ : ∃ kr : Nat, kr = 7 := ⟨7, rfl⟩
  refine ⟨_, (pss_one (ps_ret (pe_ifExp (pt_cmpR op_isN (pv 0) pe_non (nomark _)) pe_str (pe_op op_add_str pe_str (pe_methG0 (CX := CX0) (k := kr) (hr.mono (by first | decide | omega)) pass0 (pv 0)))))), ?_⟩
  subst hkr
  cases o with
  | none =>
    have ho : v = .non := ho
    subst ho
    rw [show S (whL none) = Str.ofString "" by decide +kernel] at q
    exact ⟨_, rfl, rfl, _, rfl, iteT q⟩
  | some t =>
    have g := hg t rfl
    have hl := g.len
    obtain ⟨a1, C1, dx1, fs1, M1, ey1, h1, hl1, hdv1, hsp1⟩ := shown_of T G_S (t := t) ho
    subst ey1
    refine ⟨_, rfl, rfl, _, rfl, iteF ⟨_, rfl, a1, C1, dx1, fs1, M1, rfl, h1, hl1, ?_⟩⟩
    dsimp only [tNil]
    rw [hdv1, hsp1]
    refine ⟨_, t, [], rfl, ho, by have := g.2.1; omega, rfl, g.1, g.b.2.2, _, _, rfl, rfl, small_of (m := 1000) (by rw [len_S, show (Str.ofString " when ").length = 6 by decide +kernel]; omega), ?_⟩
    have e : Str.ofString " when " ++ S (txL t) = S (whL (some t)) := cd_inj (by rw [cd_app]; rfl)
    rw [e]; exact q
theorem ok_shown_row (T : Txt K mg A) : FnOk P w K mg base CX0 9 A.f_shown_row A.d_shown_row ["row"] (spSRow A) := by
  have G_shown_when := ok_shown_when (P := P) (w := w) (base := base) T
  have G_S := ok_shown (P := P) (w := w) (base := base) T 3
  refine T.F_shown_row.ok sc_shown_row (fun vs H Q E h => ?_) (fun cdv A0 outer s H vs Q E hr h => ?_)
  · obtain ⟨x, c, rfl, _⟩ := h
    rfl
  obtain ⟨x, ⟨z, t, f⟩, rfl, ⟨b, dxb, v, rfl, hb, hs⟩, hg, q⟩ := h
  obtain ⟨kr, hkr⟩ : ∃ kr : Nat, kr = 7 := ⟨7, rfl⟩
  refine ⟨_, (pss_cons (ps_if (pt_val (pe_callB call_isi (by rfl) T.n_isinstance Bt.isinstance (pa_cons (pv 0) (pa_cons (pe_gv rfl T.v_Ask) pa_nil)))) (pss_one (ps_ret (pe_op op_add_str (pe_op op_add_str (pe_op op_add_str (pe_op op_add_str pe_str (pe_fld (pv 0) rfl)) pe_str) pe_no) (pe_call G_shown_when (hr.mono (by first | decide | omega)) rfl T.m_shown_when T.k_shown_when T.b_shown_when .nil pass0 (pa_cons (pe_fld (pv 0) rfl) pa_nil))))) pss_nil)
      (pss_one (ps_ret (pe_op op_add_str (pe_op op_add_str (pe_op op_add_str (pe_ifExp (pt_val (pe_fld (pv 0) rfl)) pe_str pe_str) (pe_fld (pv 0) rfl)) pe_str) (pe_methG0 (CX := CX0) (k := kr) (hr.mono (by first | decide | omega)) pass0 (pe_fld (pv 0) rfl)))))), ?_⟩
  subst hkr
  have g : GT t := hg.2
  have hl := g.len
  have hz : z.length ≤ 12 := (name_fine hg.1).len
  obtain ⟨a1, C1, dx1, fs1, M1, ey1, h1, hl1, hdv1, hsp1⟩ := shown_of T G_S (t := t) hs
  have l1 : ∀ f : Bool, (if f = true then Str.ofString "refuse " else Str.ofString "warn ").length ≤ 7 := by decide +kernel
  have l2 : (Str.ofString " unless ").length = 8 := by decide +kernel
  refine ⟨_, rfl, _, _, _, _, rfl, rfl, .old (T.ty_Check _ _ _ _ hb), T.kr_Check_Ask, _, rfl, iteF ?_⟩
  refine ⟨_, rfl, b, _, dxb, _, _, rfl, hb, T.cl_Check, T.no_Check_firm, rfl, _, rfl, ?_⟩
  have key : ∀ y : Str, y = (if f = true then Str.ofString "refuse " else Str.ofString "warn ") → y.length ≤ 7 := fun y e => by rw [e]; exact l1 f
  cases f with
  | true =>
    have k1 := key (Str.ofString "refuse ") rfl
    refine iteT ⟨_, rfl, b, _, dxb, _, _, rfl, hb, T.cl_Check, T.no_Check_name, rfl, _, _, rfl, rfl, small_of (m := 1000) (by show _ + z.length ≤ 1000; omega), _, _, rfl, rfl, small_of (m := 1000) (by rw [len_app, l2]; show _ + z.length + 8 ≤ 1000; omega), ?_⟩
    refine ⟨_, rfl, b, _, dxb, _, _, rfl, hb, T.cl_Check, T.no_Check_test, rfl, a1, C1, dx1, fs1, M1, ey1, h1, hl1, ?_⟩
    dsimp only [tNil]
    rw [hdv1, hsp1]
    refine ⟨_, t, [], rfl, hs, by have := g.2.1; omega, rfl, g.1, g.b.2.2, _, _, rfl, rfl, small_of (m := 1000) (by rw [len_app, len_app, len_S, l2]; show _ + z.length + 8 + _ ≤ 1000; omega), ?_⟩
    have e := ck_txt z t true
    rw [if_pos rfl] at e
    rw [e]; exact q
  | false =>
    have k1 := key (Str.ofString "warn ") rfl
    refine iteF ⟨_, rfl, b, _, dxb, _, _, rfl, hb, T.cl_Check, T.no_Check_name, rfl, _, _, rfl, rfl, small_of (m := 1000) (by show _ + z.length ≤ 1000; omega), _, _, rfl, rfl, small_of (m := 1000) (by rw [len_app, l2]; show _ + z.length + 8 ≤ 1000; omega), ?_⟩
    refine ⟨_, rfl, b, _, dxb, _, _, rfl, hb, T.cl_Check, T.no_Check_test, rfl, a1, C1, dx1, fs1, M1, ey1, h1, hl1, ?_⟩
    dsimp only [tNil]
    rw [hdv1, hsp1]
    refine ⟨_, t, [], rfl, hs, by have := g.2.1; omega, rfl, g.1, g.b.2.2, _, _, rfl, rfl, small_of (m := 1000) (by rw [len_app, len_app, len_S, l2]; show _ + z.length + 8 + _ ≤ 1000; omega), ?_⟩
    have e := ck_txt z t false
    rw [if_neg (by decide)] at e
    rw [e]; exact q
theorem ok_shown_sheet (T : Txt K mg A) : FnOk P w K mg base CX0 10 A.f_shown_sheet A.d_shown_sheet ["sheet"] (spSSheet A) := by
  have G_shown_when := ok_shown_when (P := P) (w := w) (base := base) T
  have G_shown_row := ok_shown_row (P := P) (w := w) (base := base) T
  refine T.F_shown_sheet.ok sc_shown_sheet (fun vs H Q E h => ?_) (fun cdv A0 outer s H vs Q E hr h => ?_)
  · obtain ⟨x, s, Z, rfl, _⟩ := h
    rfl
  obtain ⟨x, sh, Z, rfl, ⟨s', dxs, pr, pw, rs, ws, rfl, hs, _, _, hpr, hpw, hrs, hws⟩, g, q⟩ := h
  refine ⟨_, (pss_cons (ps_set (i := 1) sc_shown_sheet.nd rfl (by first | exact Or.inl rfl | exact Or.inr rfl) (pe_ifExp (pt_cmpR op_isN (pe_fld (pv 0) rfl) pe_non (nomark _)) pe_str (pe_op op_add_str pe_str (pe_fld (pv 0) rfl))))
      (pss_cons (ps_compR (i := 2) sc_shown_sheet.nd rfl (by first | exact Or.inl rfl | exact Or.inr rfl) (compOk_of (x := "row") (M := ["sheet", "each", "rows", "ways"]) rfl (by rfl)) rfl (pi_list (pe_fld (pv 0) rfl)) (fun _ _ _ _ => (pe_call G_shown_row (hr.mono (by first | decide | omega)) rfl T.m_shown_row T.k_shown_row T.b_shown_row .nil pass0 (pa_cons (pv 0) pa_nil))))
      (pss_cons (ps_compT (i := 3) sc_shown_sheet.nd rfl (by first | exact Or.inl rfl | exact Or.inr rfl) (compOk2_of (compOk_of (x := "target") (M := ["sheet", "each", "rows", "ways"]) rfl (by rfl)) (by rfl) (by decide +kernel)) rfl (pi_list (pe_fld (pv 0) rfl)) (fun _ _ _ _ => pifs_nil) (fun _ _ _ _ => (pe_op op_add_str (pe_op op_add_str pe_str (pv 0)) (pe_call G_shown_when (hr.mono (by first | decide | omega)) rfl T.m_shown_when T.k_shown_when T.b_shown_when .nil pass0 (pa_cons (pv 1) pa_nil)))))
      (pss_one (ps_ret (pe_op op_cat (pe_op op_cat (pe_lst (pa_cons (pe_op op_add_str (pe_op op_add_str pe_str (pe_fld (pv 0) rfl)) (pv 1)) pa_nil)) (pv 2)) (pv 3))))))), ?_⟩
  have le := ea_len g.ea
  have ln1 := (name_fine g.nm).len
  refine seq_mid (fun σ' H' => H = H' ∧ σ' = [some (.ref s'), some (.str (S (eaL sh.ea))), none, none]) ?kk ?mm
  case mm =>
    intro key
    refine ⟨_, rfl, s', _, dxs, _, _, rfl, hs, T.cl_Sheet, T.no_Sheet_each, rfl, rfl, _, rfl, ?_⟩
    generalize sh.ea = e at hs le key
    cases e with
    | none => exact iteT (key _ _ ⟨rfl, by rw [show S (eaL none) = Str.ofString "" by decide +kernel]; rfl⟩)
    | some e =>
      refine iteF ⟨_, rfl, s', _, dxs, _, _, rfl, hs, T.cl_Sheet, T.no_Sheet_each, rfl, _, _, rfl, rfl, small_of (m := 1000) ?_, key _ _ ⟨rfl, ?_⟩⟩
      · have le : (w' " each " ++ cd e).length ≤ 18 := le
        rw [List.length_append] at le
        rw [len_cd, len_cd]; show (w' " each ").length + (cd e).length ≤ 1000; omega
      · rw [show S (eaL (some e)) = Str.ofString " each " ++ e from (cd_inj (by rw [cd_app]; rfl))]; rfl
  case kk =>
    rintro σ' H' ⟨rfl, rfl⟩
    refine ⟨_, rfl, s', _, dxs, _, _, rfl, hs, T.cl_Sheet, T.no_Sheet_rows, rfl, pr, rfl, ⟨_, SqL.of hpr⟩, ?_⟩
    refine comp_listR (xs := rs) (small_of (m := 3) (by rw [paired_len hrs]; exact g.c3)) (fun i ys H' => H = H' ∧ ys = wv ((sh.cs.take i).map ckL)) ⟨rfl, rfl⟩ (fun i ys H' hw => hw.1 ▸ SqL.of hpr) (fun i x ys H' hx _ hw => ?_) (fun ys H' _ hw r hr => ?_)
    · obtain ⟨rfl, rfl⟩ := hw
      obtain ⟨c, hci, hc⟩ := paired_at hrs hx
      exact ⟨_, rfl, x, c, rfl, hc, g.cs c (List.mem_of_getElem? hci), rfl, wv_take hci⟩
    obtain ⟨rfl, rfl⟩ := hw
    rw [paired_len hrs, List.take_length]
    have s1 := same_new hr (.lst (wv (sh.cs.map ckL)))
    refine ⟨_, rfl, s', _, dxs, _, _, rfl, s1 _ _ hs, T.cl_Sheet, T.no_Sheet_ways, rfl, pw, rfl, ⟨_, SqL.of (s1 _ _ hpw)⟩, ?_⟩
    refine comp_listT (xs := ws) (small_of (m := 4) (by rw [paired_len hws]; exact g.w4)) (fun i ys H' => upd H r (.lst (wv (sh.cs.map ckL))) = H' ∧ ys = wv ((sh.ws.take i).map wyL)) ⟨rfl, rfl⟩ (fun i ys H' hw => hw.1 ▸ SqL.of (s1 _ _ hpw)) (fun i x ys H' hx _ hw => ?_) (fun ys H' hw r2 hr2 => ?_)
    · obtain ⟨rfl, rfl⟩ := hw
      obtain ⟨c, hci, a, v, rfl, ha, ho⟩ := paired_at hws hx
      have gc := g.ws c (List.mem_of_getElem? hci)
      have l1 := (tg_let gc.1).1
      have l2 := wh_len gc.2
      refine ⟨a, _, _, rfl, SqT.of (s1 _ _ ha), tt_true ?_⟩
      refine ⟨_, rfl, _, _, rfl, rfl, small_of (m := 1000) (by rw [show (Str.ofString "way ").length = 4 by decide +kernel]; omega), ?_⟩
      refine ⟨_, rfl, v, c.2, rfl, ho.fr (Fr.of s1) mu_nil, gc.2, _, _, rfl, rfl, small_of (m := 1000) (by rw [len_app, len_S, show (Str.ofString "way ").length = 4 by decide +kernel]; omega), rfl, ?_⟩
      rw [wy_txt]
      exact wv_take hci
    obtain ⟨rfl, rfl⟩ := hw
    rw [paired_len hws, List.take_length]
    have s2 := same_new hr2 (.lst (wv (sh.ws.map wyL)))
    refine ⟨_, rfl, s', _, dxs, _, _, rfl, s2 _ _ (s1 _ _ hs), T.cl_Sheet, T.no_Sheet_name, rfl, _, _, rfl, rfl, small_of (m := 1000) (by rw [show (Str.ofString "sheet ").length = 6 by decide +kernel]; omega), _, rfl, _, _, rfl, rfl, small_of (m := 1000) (by rw [len_app, len_S, show (Str.ofString "sheet ").length = 6 by decide +kernel]; omega), (by show 1 ≤ sizeLine; decide), fun r3 hr3 => ?_⟩
    rw [sh_txt] at *
    have s3 := same_new hr3 (.lst [V.str (S (shL sh))])
    have c3 := g.c3
    have w4 := g.w4
    refine ⟨_, rfl, r3, r, _, _, rfl, rfl, upd_same, s3 _ _ (s2 _ _ upd_same), small_of (m := 100) (by rw [List.length_map, List.length_map]; show 1 + _ ≤ 100; omega), fun r4 hr4 => ?_⟩
    have s4 := same_new hr4 (.lst ([V.str (S (shL sh))] ++ wv (sh.cs.map ckL)))
    refine ⟨_, rfl, r4, r2, _, _, rfl, rfl, upd_same, s4 _ _ (s3 _ _ upd_same), small_of (m := 100) (by rw [List.length_append, List.length_map, List.length_map, List.length_map, List.length_map]; show 1 + _ + _ ≤ 100; omega), fun r5 hr5 => ?_⟩
    refine q r5 _ (s1.trans (s2.trans (s3.trans (s4.trans (same_new hr5 _))))) ?_
    rw [upd_same]
    show some (HO.lst (V.str (S (shL sh)) :: wv (sh.cs.map ckL) ++ wv (sh.ws.map wyL))) = some (HO.lst (V.str (S (shL sh)) :: List.map (fun l => V.str (S l)) (sh.cs.map ckL ++ sh.ws.map wyL)))
    rw [List.map_append]; rfl
theorem ok_shown_paper (T : Txt K mg A) : FnOk P w K mg base CX0 11 A.f_shown_paper A.d_shown_paper ["paper"] (spSPaper A) := by
  have G_shown_sheet := ok_shown_sheet (P := P) (w := w) (base := base) T
  refine T.F_shown_paper.ok sc_shown_paper (fun vs H Q E h => ?_) (fun cdv A0 outer s H vs' Q E hr h => ?_)
  · obtain ⟨x, z, ss, rfl, _⟩ := h
    rfl
  obtain ⟨x, z, ss, rfl, ⟨a, dx, q1, q2, xs, rfl, ha, hq1, hq2, hss⟩, g, q⟩ := h
  refine ⟨_, (pss_cons (ps_set (i := 1) sc_shown_paper.nd rfl (by first | exact Or.inl rfl | exact Or.inr rfl) (pe_lst (pa_cons (pe_op op_add_str pe_str (pe_fld (pv 0) rfl)) pa_nil)))
      (pss_cons (ps_forR PassesOwn.never rfl (pi_list (pe_fld (pv 0) rfl)) (pg_name (i := 2) sc_shown_paper.nd rfl (by first | exact Or.inl rfl | exact Or.inr rfl)) (pss_one (ps_expr (pe_bm PySem.F.plainAttrs_list PySem.F.slot_list_extend PySem.F.type_list_extend mt_extend (pv 1) (pa_cons (pe_call G_shown_sheet (hr.mono (by first | decide | omega)) rfl T.m_shown_sheet T.k_shown_sheet T.b_shown_sheet .nil pass0 (pa_cons (pv 2) pa_nil)) pa_nil)))))
      (pss_cons (ps_expr (pe_bm PySem.F.plainAttrs_list PySem.F.slot_list_extend PySem.F.type_list_extend mt_extend (pv 1) (pa_cons (pe_compT (compOk2_of (compOk_of (x := "name") (M := ["paper", "lines", "sheet"]) rfl (by rfl)) (by rfl) (by decide +kernel)) rfl (pi_list (pe_fld (pv 0) rfl)) (fun _ _ _ _ => pifs_nil) (fun _ _ _ _ => (pe_op op_add_str (pe_op op_add_str (pe_op op_add_str pe_str (pv 0)) pe_str) pe_no))) pa_nil)))
      (pss_one (ps_ret (pe_bm PySem.F.plainAttrs_str PySem.F.slot_str_join PySem.F.type_str_join mt_join pe_str (pa_cons (pv 1) pa_nil))))))), ?_⟩
  have lz := (name_fine g.1).len
  refine ⟨_, rfl, a, _, dx, _, _, rfl, ha, T.cl_Paper, T.no_Paper_name, rfl, _, _, rfl, rfl, small_of (m := 1000) (by rw [show (Str.ofString "paper ").length = 6 by decide +kernel]; omega), (by show 1 ≤ sizeLine; decide), fun pl hpl => ?_⟩
  rw [pa_txt]
  have s1 := same_new hpl (.lst [V.str (S (ln "paper" (cd z)))])
  refine ⟨_, rfl, a, _, dx, _, _, rfl, s1 _ _ ha, T.cl_Paper, T.no_Paper_sheets, rfl, q1, rfl, ⟨_, SqL.of (s1 _ _ hq1)⟩, ?_⟩
  have lim := g.len.1
  refine for_listR (xs := xs) (fun i σ H' => (∃ u, σ = [some (.ref a), some (.ref pl), u]) ∧ Same H H' ∧ H' pl = some (.lst (wv (linesP z (ss.take i))))) ⟨⟨_, rfl⟩, s1, upd_same⟩ (fun i σ H' _ hh => SqL.of (hh.2.1 _ _ hq1)) (fun i x σ H' hx hh => ?_) (fun σ H' hh => ?_)
  · obtain ⟨⟨u, rfl⟩, sH, hpl'⟩ := hh
    obtain ⟨sh, hsi, hsh⟩ := paired_at hss hx
    have gs := g.2.1 sh (List.mem_of_getElem? hsi)
    refine ⟨_, rfl, Or.inl ⟨rfl, _, SqL.of hpl'⟩, _, rfl, x, sh, _, rfl, hsh.same sH, gs, fun p H2 s2 hp2 => ?_⟩
    have e : wv (linesP z (ss.take i)) ++ wv (linesS sh) = wv (linesP z (ss.take (i + 1))) := by
      rw [← List.map_append]
      unfold linesP
      rw [List.take_succ, hsi, List.cons_append, List.map_append, List.flatten_append]
      show _ = List.map _ (_ :: (_ ++ [linesS sh].flatten))
      rw [List.flatten_singleton]
    refine ⟨pl, p, _, _, rfl, rfl, s2 _ _ hpl', hp2, ?_, ⟨_, rfl⟩, fun c o hc => ?_, ?_⟩
    · rw [← List.length_append, e, List.length_map]
      have h1 : (linesP z (ss.take (i + 1))).length ≤ 33 := (PpG.len ⟨g.1, fun s hs => g.2.1 s (List.mem_of_mem_take hs), by rw [List.length_take]; have := g.2.2; omega⟩).1
      exact small_of (m := 100) (by omega)
    · rw [upd_ne (ne_of_none hc hpl)]; exact (sH.trans s2) c o hc
    · rw [upd_same, e]
  obtain ⟨⟨u, rfl⟩, sH, hpl'⟩ := hh
  rw [paired_len hss, List.take_length] at hpl'
  refine ⟨_, rfl, Or.inl ⟨rfl, _, SqL.of hpl'⟩, _, rfl, a, _, dx, _, _, rfl, sH _ _ ha, T.cl_Paper, T.no_Paper_totals, rfl, q2, rfl, ⟨_, SqL.of (sH _ _ hq2)⟩, ?_⟩
  refine comp_listT (xs := []) (small_of (m := 1) (by decide)) (fun i ys G => H' = G ∧ ys = []) ⟨rfl, rfl⟩ (fun i ys G hw => hw.1 ▸ SqL.of (sH _ _ hq2)) (fun i x ys G hx _ hw => by simp at hx) (fun ys G hw r hr => ?_)
  obtain ⟨rfl, rfl⟩ := hw
  have s3 := same_new hr (.lst [])
  refine ⟨pl, r, _, _, rfl, rfl, s3 _ _ hpl', upd_same, ?_, ?_⟩
  · rw [List.length_map]; exact small_of (m := 100) (by show _ + 0 ≤ 100; omega)
  rw [List.append_nil, vs_strs]
  generalize hH4 : upd (upd H' r (.lst [])) pl (.lst (((linesP z ss).map S).map V.str)) = H4
  have s4 : Same H H4 := fun c o hc => by rw [← hH4, upd_ne (ne_of_none hc hpl)]; exact (sH.trans s3) c o hc
  have h4 : H4 pl = some (.lst (((linesP z ss).map S).map V.str)) := by rw [← hH4]; exact upd_same
  refine ⟨rfl, _, rfl, _, pl, (linesP z ss).map S, rfl, rfl, .inl (SqL.of h4), join_size g, ?_⟩
  rw [joinS_is, map_cdS, show cd (Str.ofString "\n") = [10] by decide +kernel]
  exact q _ s4
end
end K23
set_option maxHeartbeats 4000000
namespace K23
open PySem L2
seal PE PT PW PA PS PSs PG PGs PI PO PSet OpR UnR CallR TruR IxR SlR PC PPs
local macro_rules | `(tactic| walk_at "rd1") => `(tactic| first
  | (refine And.intro rfl ?_)
  | (refine And.intro (by assumption) ?_)
  | (refine And.intro (fun _ e => e) ?_)
  | (refine And.intro (TyOf.str _) ?_) | (refine And.intro (TyOf.int _) ?_) | (refine And.intro (TyOf.bl _) ?_) | (refine And.intro TyOf.non ?_)
  | (refine iteT ?_) | (refine iteF ?_)
  | (apply Exists.intro))
local macro_rules | `(tactic| walk_at "rd") => `(tactic| repeat (walk_at "rd1"))

theorem atI_last {α : Type} (l : List α) (x : α) : atI (l ++ [x]) (-1) = some x := by
  unfold atI ixN
  rw [if_neg (by decide), List.length_append]
  have : -(((l.length + [x].length : Nat) : Int)) ≤ -1 := by show -(((l.length + 1 : Nat) : Int)) ≤ -1; omega
  rw [if_pos this]
  show (l ++ [x])[((-1 : Int) + ((l.length + 1 : Nat) : Int)).toNat]? = some x
  rw [show ((-1 : Int) + ((l.length + 1 : Nat) : Int)).toNat = l.length by omega]
  simp
theorem iteB {c : Bool} {A B : Prop} (h : c = true) (k : A) : if c = true then A else B := by rw [if_pos h]; exact k
theorem iteO {c : Bool} {A B : Prop} (h : c = false) (k : B) : if c = true then A else B := by rw [if_neg (by rw [h]; decide)]; exact k
abbrev oDr (A : Adr) (dx : Addr) (nm : V) (ps pt : Addr) (n k : Int) : HO := .ins A.c_Draft dx [("name", nm), ("sheets", .ref ps), ("totals", .ref pt), ("atoms_read", .int n), ("place", .int k)]
def szO : Option Tr → Nat
  | none => 0
  | some t => t.size
def spDrI (A : Adr) : Sp := fun vs H Q _ => ∃ p dx, vs = [.ref p] ∧ H p = some (.ins A.c_Draft dx []) ∧
  ∀ ps pt H', ps ≠ pt → H ps = none → H pt = none → Fr [p] H H' → H' p = some (oDr A dx .non ps pt 0 0) → H' ps = some (.lst []) → H' pt = some (.lst []) → Q .non H'
def spDem : Sp := fun vs H Q _ => ∃ x b, vs = [x, .bl b] ∧ b = true ∧ Q .non H
def spRT (A : Adr) : Sp := fun vs H Q _ => ∃ d dx nm ps pt n k t, vs = [.ref d, .str (S (txL t))] ∧ H d = some (oDr A dx nm ps pt n k) ∧ GT t ∧ n + (t.size : Nat) ≤ 60 ∧ ∀ v H', Fr [d] H H' → H' d = some (oDr A dx nm ps pt (n + (t.size : Nat)) k) → SyR A H' t v → Q v H'
def spRW (A : Adr) (K : PySem.W.Frag) : Sp := fun vs H Q _ => ∃ d dx nm ps pt n k a z o, vs = [.ref d, .ref a] ∧ SqT K H a [.str z, .str (pW o).1, .str (pW o).2] ∧ H d = some (oDr A dx nm ps pt n k) ∧ (∀ t, o = some t → GT t) ∧ n + (szO o : Nat) ≤ 60 ∧ ∀ v H', Fr [d] H H' → H' d = some (oDr A dx nm ps pt (n + (szO o : Nat)) k) → OSy A H' o v → Q v H'
def spFill (A : Adr) : Sp := fun vs H Q _ => ∃ d dx nm ps pt n k xs s, vs = [.ref d] ∧ H d = some (oDr A dx nm ps pt n k) ∧ H ps = some (.lst (xs ++ [.ref s])) ∧ H pt = some (.lst []) ∧ Q (.ref s) H
def spPut (A : Adr) : Sp := fun vs H Q _ => ∃ d dx nm ps pt n k xs s dxs u1 u2 pr pw rs x, vs = [.ref d, x] ∧ H d = some (oDr A dx nm ps pt n k) ∧ H ps = some (.lst (xs ++ [.ref s])) ∧ H pt = some (.lst []) ∧ H s = some (oSh A dxs u1 u2 pr pw) ∧ H pw = some (.lst []) ∧ H pr = some (.lst rs) ∧ rs.length ≤ 10 ∧ Q .non (upd H pr (.lst (rs ++ [x])))
def TP (A : Adr) (d : Addr) (r : Str) (H : Hp) (R : Hp → Prop) : Prop := ∃ dx nm ps pt n k, H d = some (oDr A dx nm ps pt n k) ∧ nameB r = true ∧ ∀ H', Same H H' → R (upd H' d (oDr A dx (.str r) ps pt n k))
def TSh (A : Adr) (d : Addr) (r : Str) (H : Hp) (R : Hp → Prop) : Prop := ∃ z e dx nm ps pt n k xs, r = S (shT z e) ∧ nameB z = true ∧ EaG e ∧ H d = some (oDr A dx nm ps pt n k) ∧ H ps = some (.lst xs) ∧ H pt = some (.lst []) ∧ xs.length < 12 ∧
  ∀ s dxs pr pw H', Fr [ps] H H' → H' ps = some (.lst (xs ++ [.ref s])) → H' s = some (oSh A dxs (.str z) (eV e) pr pw) → H' pr = some (.lst []) → H' pw = some (.lst []) → H s = none → H pr = none → H pw = none → pr ≠ pw → R H'
def TC (A : Adr) (d : Addr) (r : Str) (f : Bool) (H : Hp) (R : Hp → Prop) : Prop := ∃ z t dx nm ps pt n k xs s dxs u1 u2 pr pw rs, r = S (ckT z t) ∧ nameB z = true ∧ GT t ∧ (n : Int) + (t.size : Nat) ≤ 60 ∧ H d = some (oDr A dx nm ps pt n k) ∧ H ps = some (.lst (xs ++ [.ref s])) ∧ H pt = some (.lst []) ∧ H s = some (oSh A dxs u1 u2 pr pw) ∧ H pw = some (.lst []) ∧ H pr = some (.lst rs) ∧ rs.length ≤ 10 ∧ ps ≠ pr ∧ pt ≠ pr ∧ pw ≠ pr ∧
  ∀ b dxb v H', Fr [d, pr] H H' → H' d = some (oDr A dx nm ps pt (n + (t.size : Nat)) k) → H' pr = some (.lst (rs ++ [.ref b])) → H' b = some (oCk A dxb (.str z) v (.bl f)) → SyR A H' t v → R H'
def TW (A : Adr) (d : Addr) (r : Str) (H : Hp) (R : Hp → Prop) : Prop := ∃ z o dx nm ps pt n k xs s dxs u1 u2 pr pw ws, r = S (wyT z o) ∧ WyG (z, o) ∧ (n : Int) + (szO o : Nat) ≤ 60 ∧ H d = some (oDr A dx nm ps pt n k) ∧ H ps = some (.lst (xs ++ [.ref s])) ∧ H pt = some (.lst []) ∧ H s = some (oSh A dxs u1 u2 pr pw) ∧ H pw = some (.lst ws) ∧ ws.length < 4 ∧
  ∀ a v H', Fr [d, pw] H H' → H' d = some (oDr A dx nm ps pt (n + (szO o : Nat)) k) → H' pw = some (.lst (ws ++ [.ref a])) → H' a = some (.tup [.str z, v]) → OSy A H' o v → R H'
def spTP (A : Adr) : Sp := fun vs H Q _ => ∃ d r, vs = [.ref d, .str r] ∧ TP A d r H fun H' => Q .non H'
def spTSh (A : Adr) : Sp := fun vs H Q _ => ∃ d r, vs = [.ref d, .str r] ∧ TSh A d r H fun H' => Q .non H'
def spTC (A : Adr) : Sp := fun vs H Q _ => ∃ d r f, vs = [.ref d, .str r, .bl f] ∧ TC A d r f H fun H' => Q .non H'
def spTW (A : Adr) : Sp := fun vs H Q _ => ∃ d r, vs = [.ref d, .str r] ∧ TW A d r H fun H' => Q .non H'
theorem ins_ne {H : Hp} {a b C C' dx dx' : Addr} {fs fs' : List (Str × V)} (h : H a = some (.ins C dx fs)) (k : H b = some (.ins C' dx' fs')) (l : fs'.length ≠ fs.length) : a ≠ b := fun e => by
  rw [e, k] at h
  exact l (congrArg List.length (HO.ins.inj (Option.some.inj h)).2.2)
theorem ni1 {x a : Addr} (h : x ≠ a) : x ∉ [a] := fun e => h (List.mem_singleton.mp e)
theorem ni2 {x a b : Addr} (h : x ≠ a) (k : x ≠ b) : x ∉ [a, b] := fun e => by
  rcases List.mem_cons.mp e with e | e
  · exact h e
  · exact k (List.mem_singleton.mp e)
section
variable {P : Program} {w : World} {K : PySem.W.Frag} {mg : Str → Option Value} {base : Heap} {A : Adr}
theorem ok_dr_init (T : Txt K mg A) : FnOk P w K mg base CX0 1 A.f_c_Draft___init A.d_c_Draft___init ["self"] (spDrI A) := by
  refine T.F_c_Draft___init.ok sc_c_Draft___init (fun vs H Q E h => ?_) (fun cdv A0 outer s H vs Q E hr h => ?_)
  · obtain ⟨p, dx, rfl, _⟩ := h
    rfl
  obtain ⟨p, dx, rfl, hp, q⟩ := h
  refine ⟨_, (pss_cons (ps_fld (pv 0) pe_non rfl)
      (pss_cons (ps_fld (pv 0) (pe_lst pa_nil) rfl)
      (pss_cons (ps_fld (pv 0) (pe_lst pa_nil) rfl)
      (pss_cons (ps_fld (pv 0) pe_int rfl)
      (pss_one (ps_fld (pv 0) pe_int rfl)))))), ?_⟩
  refine ⟨_, rfl, p, _, dx, _, rfl, hp, T.cl_Draft, T.no_Draft_name, by decide, ?_⟩
  refine ⟨(by show 0 ≤ sizeLine; decide), fun q1 hq1 => ⟨_, rfl, p, _, dx, _, rfl, (by rw [upd_ne (Ne.symm (upd_none hq1).1)]; exact upd_same), T.cl_Draft, T.no_Draft_sheets, (by show 1 < 1000; decide), ?_⟩⟩
  obtain ⟨e1, f1⟩ := upd_none hq1
  refine ⟨(by show 0 ≤ sizeLine; decide), fun q2 hq2 => ⟨_, rfl, p, _, dx, _, rfl, (by rw [upd_ne (Ne.symm (upd_none hq2).1)]; exact upd_same), T.cl_Draft, T.no_Draft_totals, (by show 2 < 1000; decide), ?_⟩⟩
  obtain ⟨e2, g2⟩ := upd_none hq2
  obtain ⟨e3, g3⟩ := upd_none g2
  obtain ⟨e4, f2⟩ := upd_none g3
  refine ⟨_, rfl, p, _, dx, _, rfl, upd_same, T.cl_Draft, T.no_Draft_atoms_read, (by show 3 < 1000; decide), ?_⟩
  refine ⟨_, rfl, p, _, dx, _, rfl, upd_same, T.cl_Draft, T.no_Draft_place, (by show 4 < 1000; decide), ?_⟩
  refine q q1 q2 _ (Ne.symm e3) f1 f2 (fun b o hb hn => ?_) upd_same ?_ ?_
  · have nb : b ≠ p := fun e => hn (by rw [e]; exact List.mem_singleton.mpr rfl)
    rw [upd_ne nb, upd_ne nb, upd_ne nb, upd_ne (ne_of_none hb f2), upd_ne nb, upd_ne (ne_of_none hb f1), upd_ne nb]; exact hb
  · rw [upd_ne e1, upd_ne e1, upd_ne e1, upd_ne (Ne.symm e3), upd_ne e1]; exact upd_same
  · rw [upd_ne e2, upd_ne e2, upd_ne e2]; exact upd_same
theorem ok_demand (T : Txt K mg A) : FnOk P w K mg base CX0 1 A.f_c_Draft_demand A.d_c_Draft_demand ["self", "so"] spDem := by
  refine T.F_c_Draft_demand.ok sc_c_Draft_demand (fun vs H Q E h => ?_) (fun cdv A0 outer s H vs Q E hr h => ?_)
  · obtain ⟨x, b, rfl, _⟩ := h
    rfl
  obtain ⟨x, b, rfl, rfl, q⟩ := h
  refine ⟨_, (pss_one (ps_if (pt_not (pt_val (pv 1))) (pss_one ps_no) pss_nil)), ?_⟩
  exact ⟨_, rfl, _, rfl, iteF q⟩
def mjDem (T : Txt K mg A) : MethJ P w K mg base CX0 1 A.c_Draft "demand" := ⟨A.f_c_Draft_demand, A.d_c_Draft_demand, ["self", "so"], spDem, [], [], T.cl_Draft, T.me_Draft_demand, ok_demand T, T.b_c_Draft_demand, .nil⟩
theorem ok_rt (T : Txt K mg A) : FnOk P w K mg base CX0 26 A.f_c_Draft_read_test A.d_c_Draft_read_test ["self", "text"] (spRT A) := by
  have G_read_saying := ok_read_saying (P := P) (w := w) (base := base) T
  have G_A := ok_atoms (P := P) (w := w) (base := base) T 9
  refine T.F_c_Draft_read_test.ok sc_c_Draft_read_test (fun vs H Q E h => ?_) (fun cdv A0 outer s H vs Q E hr h => ?_)
  · obtain ⟨d, dx, nm, ps, pt, n, k, t, rfl, _⟩ := h
    rfl
  obtain ⟨d, dx, nm, ps, pt, n, k, t, rfl, hd, g, h60, q⟩ := h
  obtain ⟨kdemd, hk⟩ : ∃ k : Nat, k = 1 := ⟨_, rfl⟩
  obtain ⟨ka, hka⟩ : ∃ k : Nat, k = 10 := ⟨_, rfl⟩
  refine ⟨_, (pss_cons (ps_set (i := 2) sc_c_Draft_read_test.nd rfl (by first | exact Or.inl rfl | exact Or.inr rfl) (pe_call G_read_saying (hr.mono (by first | decide | omega)) rfl T.m_read_saying T.k_read_saying T.b_read_saying .nil passW0 (pa_cons (pv 1) pa_nil)))
      (pss_cons (ps_fldaug (pv 0) (pe_callB call_len_seq (by rfl) T.n_len PySem.boot_len (pa_cons (pe_methG0 (CX := CX0) (k := ka) (hr.mono (by first | decide | omega)) pass0 (pv 2)) pa_nil)) in_add)
      (pss_cons (ps_expr (pe_methG (CX := CX0) (k := kdemd) (hr.mono (by first | decide | omega)) pass0 (pv 0) (pa_cons (pe_cmpR op_le (pe_fld (pv 0) rfl) (pe_gv rfl T.g_MOST_ATOMS_reading) (nomark _)) pa_nil)))
      (pss_one (ps_ret (pv 2)))))), ?_⟩
  subst hk hka
  have fw := fw_wL g.1
  have es : splitL (cd (S (txL t))) = wL t := fw.split (wL_ne t)
  have hl := g.len
  have rg := rdS_good g.1 g.b.1 g.b.2.1
  refine ⟨_, rfl, .str (S (txL t)), rfl, .inl ⟨_, rfl, fw.fine (by show (txL t).length ≤ 100000; omega), (by rw [es]; exact fun l hl => (fw l hl).1), fun t' e u H1 s1 y1 => ?_, fun e => ?_⟩⟩
  rotate_left
  · rw [es, rg] at e; cases e
  rw [es, rg] at e
  cases e
  have hd1 := s1 _ _ hd
  obtain ⟨a2, C2, dx2, fs2, M2, ey2, h2, hl2, hdv2, hsp2⟩ := atoms_of T G_A y1
  refine ⟨_, rfl, d, _, dx, _, _, rfl, hd1, T.cl_Draft, T.no_Draft_atoms_read, rfl, _, rfl, a2, C2, dx2, fs2, M2, ey2, h2, hl2, ?_⟩
  dsimp only [tNil]
  rw [hdv2]
  refine hsp2 _ _ ⟨by have := g.b.1; omega, by have := g.b.2.1; omega, fun la ys H3 s3 e3 p3 => ?_⟩
  have eys : ys.length = t.size := by rw [paired_len p3, atT_len]
  have hd3 := s3 _ _ hd1
  refine ⟨la, _, rfl, .inl (SqL.of e3), _, _, rfl, rfl, dx, _, hd3, (by show 5 < 1000; decide), ?_⟩
  refine ⟨_, rfl, d, _, dx, _, mjDem T, rfl, upd_same, rfl, ?_⟩
  refine ⟨_, rfl, d, _, dx, _, _, rfl, upd_same, T.cl_Draft, T.no_Draft_atoms_read, rfl, _, _, rfl, rfl, _, _, rfl, decide_eq_true (by rw [eys]; exact h60), ?_⟩
  have F3 : Fr [d] H3 (upd H3 d (oDr A dx nm ps pt (n + (ys.length : Nat)) k)) := (Fr.of (Same.refl _)).upd (List.mem_singleton.mpr rfl) _
  refine ⟨_, rfl, q u _ ((Fr.of (s1.trans s3)).trans F3) ?_ ((y1.same s3).fr F3 (Mu.one hd3 (.inr ⟨_, _, _, rfl, rfl⟩)))⟩
  rw [upd_same, eys]; rfl
def mjRT (T : Txt K mg A) : MethJ P w K mg base CX0 26 A.c_Draft "read_test" := ⟨A.f_c_Draft_read_test, A.d_c_Draft_read_test, ["self", "text"], spRT A, [], [], T.cl_Draft, T.me_Draft_read_test, ok_rt T, T.b_c_Draft_read_test, .nil⟩
theorem ok_rw (T : Txt K mg A) : FnOk P w K mg base CX0 27 A.f_c_Draft_read_when A.d_c_Draft_read_when ["self", "parted"] (spRW A K) := by
  refine T.F_c_Draft_read_when.ok sc_c_Draft_read_when (fun vs H Q E h => ?_) (fun cdv A0 outer s H vs Q E hr h => ?_)
  · obtain ⟨d, dx, nm, ps, pt, n, k, a, z, o, rfl, _⟩ := h
    rfl
  obtain ⟨d, dx, nm, ps, pt, n, k, a, z, o, rfl, ha, hd, hg, h60, q⟩ := h
  obtain ⟨kreat, hk⟩ : ∃ k : Nat, k = 26 := ⟨_, rfl⟩
  refine ⟨_, (pss_one (ps_ret (pe_ifExp (pt_cmpR op_eq (pe_ix ix_tup (pv 1) pe_int (fun _ _ => rfl)) pe_str (nomark _)) pe_non (pe_methG (CX := CX0) (k := kreat) (hr.mono (by first | decide | omega)) pass0 (pv 0) (pa_cons (pe_ix ix_tup (pv 1) pe_int (fun _ _ => rfl)) pa_nil))))), ?_⟩
  subst hk
  have a1 : atI [V.str z, .str (pW o).1, .str (pW o).2] ((1 : Nat) : Int) = some (V.str (pW o).1) := atI_nat rfl
  have a2 : atI [V.str z, .str (pW o).1, .str (pW o).2] ((2 : Nat) : Int) = some (V.str (pW o).2) := atI_nat rfl
  refine ⟨_, rfl, a, _, _, _, rfl, rfl, ha, a1, rfl, _, rfl, ?_⟩
  cases o with
  | none =>
    refine eqS rfl (q .non H (Fr.of (Same.refl _)) ?_ rfl)
    rw [show n + ((szO none : Nat) : Int) = n by show n + 0 = n; omega]; exact hd
  | some t =>
    refine neS (by show ¬ (Str.ofString " when " = Str.ofString ""); decide +kernel) ?_
    exact ⟨_, rfl, d, _, dx, _, mjRT T, rfl, hd, rfl, _, rfl, a, _, _, _, rfl, rfl, ha, a2, d, dx, nm, ps, pt, n, k, t, rfl, hd, hg t rfl, h60, fun v H' F h1 h2 => q v H' F h1 h2⟩
def mjRW (T : Txt K mg A) : MethJ P w K mg base CX0 27 A.c_Draft "read_when" := ⟨A.f_c_Draft_read_when, A.d_c_Draft_read_when, ["self", "parted"], spRW A K, [], [], T.cl_Draft, T.me_Draft_read_when, ok_rw T, T.b_c_Draft_read_when, .nil⟩
theorem ok_fill (T : Txt K mg A) : FnOk P w K mg base CX0 2 A.f_c_Draft_sheet_to_fill A.d_c_Draft_sheet_to_fill ["self"] (spFill A) := by
  refine T.F_c_Draft_sheet_to_fill.ok sc_c_Draft_sheet_to_fill (fun vs H Q E h => ?_) (fun cdv A0 outer s H vs Q E hr h => ?_)
  · obtain ⟨d, dx, nm, ps, pt, n, k, xs, s, rfl, _⟩ := h
    rfl
  obtain ⟨d, dx, nm, ps, pt, n, k, xs, s', rfl, hd, hps, hpt, q⟩ := h
  obtain ⟨kdemd, hk⟩ : ∃ k : Nat, k = 1 := ⟨_, rfl⟩
  refine ⟨_, (pss_cons (ps_expr (pe_methG (CX := CX0) (k := kdemd) (hr.mono (by first | decide | omega)) pass0 (pv 0) (pa_cons (pe_and (pe_cmpR op_gt (pe_callB call_len_seq (by rfl) T.n_len PySem.boot_len (pa_cons (pe_fld (pv 0) rfl) pa_nil)) pe_int (nomark _)) (pe_one (pe_cmpR op_eq (pe_callB call_len_seq (by rfl) T.n_len PySem.boot_len (pa_cons (pe_fld (pv 0) rfl) pa_nil)) pe_int (nomark _)))) pa_nil)))
      (pss_one (ps_ret (pe_ix ix_list (pe_fld (pv 0) rfl) (pe_un un_neg pe_int) (fun _ _ => rfl))))), ?_⟩
  subst hk
  refine ⟨_, rfl, d, _, dx, _, mjDem T, rfl, hd, rfl, ?_⟩
  refine ⟨_, rfl, d, _, dx, _, _, rfl, hd, T.cl_Draft, T.no_Draft_sheets, rfl, ps, _, rfl, .inl (SqL.of hps), _, _, rfl, rfl, _, rfl, iteB (decide_eq_true (by rw [List.length_append]; show (0 : Int) < ((xs.length + 1 : Nat) : Int); omega)) ?_⟩
  refine ⟨_, rfl, d, _, dx, _, _, rfl, hd, T.cl_Draft, T.no_Draft_totals, rfl, pt, _, rfl, .inl (SqL.of hpt), rfl, ?_⟩
  refine ⟨_, _, rfl, (by decide), ?_⟩
  exact ⟨_, rfl, d, _, dx, _, _, rfl, hd, T.cl_Draft, T.no_Draft_sheets, rfl, _, rfl, ps, _, _, _, rfl, rfl, SqL.of hps, atI_last xs (V.ref s'), q⟩
def mjFill (T : Txt K mg A) : MethJ P w K mg base CX0 2 A.c_Draft "sheet_to_fill" := ⟨A.f_c_Draft_sheet_to_fill, A.d_c_Draft_sheet_to_fill, ["self"], spFill A, [], [], T.cl_Draft, T.me_Draft_sheet_to_fill, ok_fill T, T.b_c_Draft_sheet_to_fill, .nil⟩
theorem ok_put (T : Txt K mg A) : FnOk P w K mg base CX0 3 A.f_c_Draft_put_row A.d_c_Draft_put_row ["self", "row"] (spPut A) := by
  refine T.F_c_Draft_put_row.ok sc_c_Draft_put_row (fun vs H Q E h => ?_) (fun cdv A0 outer s H vs Q E hr h => ?_)
  · obtain ⟨d, dx, nm, ps, pt, n, k, xs, s, dxs, u1, u2, pr, pw, rs, x, rfl, _⟩ := h
    rfl
  obtain ⟨d, dx, nm, ps, pt, n, k, xs, s', dxs, u1, u2, pr, pw, rs, x, rfl, hd, hps, hpt, hs, hpw, hpr, h10, q⟩ := h
  obtain ⟨kdemd, hk⟩ : ∃ k : Nat, k = 1 := ⟨_, rfl⟩
  obtain ⟨kshel, hk2⟩ : ∃ k : Nat, k = 2 := ⟨_, rfl⟩
  refine ⟨_, (pss_cons (ps_set (i := 2) sc_c_Draft_put_row.nd rfl (by first | exact Or.inl rfl | exact Or.inr rfl) (pe_methG0 (CX := CX0) (k := kshel) (hr.mono (by first | decide | omega)) pass0 (pv 0)))
      (pss_cons (ps_expr (pe_methG (CX := CX0) (k := kdemd) (hr.mono (by first | decide | omega)) pass0 (pv 0) (pa_cons (pe_cmpR op_eq (pe_callB call_len_seq (by rfl) T.n_len PySem.boot_len (pa_cons (pe_fld (pv 2) rfl) pa_nil)) pe_int (nomark _)) pa_nil)))
      (pss_one (ps_expr (pe_bm PySem.F.plainAttrs_list PySem.F.slot_list_append PySem.F.type_list_append mt_append (pe_fld (pv 2) rfl) (pa_cons (pv 1) pa_nil)))))), ?_⟩
  subst hk hk2
  refine ⟨_, rfl, d, _, dx, _, mjFill T, rfl, hd, rfl, d, dx, nm, ps, pt, n, k, xs, s', rfl, hd, hps, hpt, ?_⟩
  refine ⟨_, rfl, d, _, dx, _, mjDem T, rfl, hd, rfl, ?_⟩
  refine ⟨_, rfl, s', _, dxs, _, _, rfl, hs, T.cl_Sheet, T.no_Sheet_ways, rfl, pw, _, rfl, .inl (SqL.of hpw), rfl, ?_⟩
  refine ⟨_, _, rfl, (by decide), ?_⟩
  exact ⟨_, rfl, s', _, dxs, _, _, rfl, hs, T.cl_Sheet, T.no_Sheet_rows, rfl, Or.inl ⟨rfl, _, SqL.of hpr⟩, _, rfl, pr, _, _, rfl, rfl, hpr, Nat.lt_of_lt_of_le (by omega : rs.length < 100) (small_of (m := 100) (Nat.le_refl _)), q⟩
def mjPut (T : Txt K mg A) : MethJ P w K mg base CX0 3 A.c_Draft "put_row" := ⟨A.f_c_Draft_put_row, A.d_c_Draft_put_row, ["self", "row"], spPut A, [], [], T.cl_Draft, T.me_Draft_put_row, ok_put T, T.b_c_Draft_put_row, .nil⟩
theorem ok_tp (T : Txt K mg A) : FnOk P w K mg base CX0 2 A.f_c_Draft_take_paper A.d_c_Draft_take_paper ["self", "rest"] (spTP A) := by
  have G_is_name := ok_is_name (P := P) (w := w) (base := base) T
  refine T.F_c_Draft_take_paper.ok sc_c_Draft_take_paper (fun vs H Q E h => ?_) (fun cdv A0 outer s H vs Q E hr h => ?_)
  · obtain ⟨d, r, rfl, _⟩ := h
    rfl
  obtain ⟨d, r, rfl, dx, nm, ps, pt, n, k, hd, hn, q⟩ := h
  obtain ⟨kdemd, hk⟩ : ∃ k : Nat, k = 1 := ⟨_, rfl⟩
  refine ⟨_, (pss_cons (ps_expr (pe_methG (CX := CX0) (k := kdemd) (hr.mono (by first | decide | omega)) pass0 (pv 0) (pa_cons (pe_call G_is_name (hr.mono (by first | decide | omega)) rfl T.m_is_name T.k_is_name T.b_is_name .nil pass0 (pa_cons (pv 1) pa_nil)) pa_nil)))
      (pss_one (ps_fld (pv 0) (pv 1) rfl))), ?_⟩
  subst hk
  refine ⟨_, rfl, d, _, dx, _, mjDem T, rfl, hd, rfl, _, rfl, _, rfl, ok_str T ((name_fine hn).mono (by decide)), fun H1 s1 => ?_⟩
  refine ⟨_, _, rfl, hn, ?_⟩
  exact ⟨_, rfl, _, rfl, d, _, dx, _, rfl, s1 _ _ hd, T.cl_Draft, T.no_Draft_name, (by show 5 < 1000; decide), q _ s1⟩
def mjTP (T : Txt K mg A) : MethJ P w K mg base CX0 2 A.c_Draft "take_paper" := ⟨A.f_c_Draft_take_paper, A.d_c_Draft_take_paper, ["self", "rest"], spTP A, [], [], T.cl_Draft, T.me_Draft_take_paper, ok_tp T, T.b_c_Draft_take_paper, .nil⟩
end
end K23
set_option maxHeartbeats 4000000
namespace K23
open PySem L2
seal PE PT PW PA PS PSs PG PGs PI PO PSet OpR UnR CallR TruR IxR SlR PC PPs
local macro_rules | `(tactic| walk_at "rd1") => `(tactic| first
  | (refine And.intro rfl ?_)
  | (refine And.intro (by assumption) ?_)
  | (refine And.intro (fun _ e => e) ?_)
  | (refine And.intro (TyOf.str _) ?_) | (refine And.intro (TyOf.int _) ?_) | (refine And.intro (TyOf.bl _) ?_) | (refine And.intro TyOf.non ?_)
  | (refine iteT ?_) | (refine iteF ?_)
  | (apply Exists.intro))
local macro_rules | `(tactic| walk_at "rd") => `(tactic| repeat (walk_at "rd1"))

theorem shT_len {z : Str} {e : Option Str} (hz : nameB z = true) (he : EaG e) : (S (shT z e)).length ≤ 100000 := by
  have h1 := (tg_32 (.inr hz)).1
  have h2 : (eaL e).length ≤ 18 := ea_len he
  rw [len_S]; unfold shT; rw [List.length_append]; omega
theorem ckT_len {z : Str} {t : Tr} (hz : nameB z = true) (g : GT t) : (S (ckT z t)).length ≤ 100000 := by
  have h1 := (tg_32 (.inr hz)).1
  have h2 := g.len
  rw [len_S]; unfold ckT; rw [List.length_append, List.length_append, show (w' " unless ").length = 8 by decide +kernel]; omega
theorem wyT_len {z : Str} {o : Option Tr} (h : WyG (z, o)) : (S (wyT z o)).length ≤ 100000 := by
  have h1 : (cd z).length ≤ 12 := (tg_32 h.1).1
  have h2 : (whL o).length ≤ 406 := wh_len h.2
  rw [len_S]; unfold wyT; rw [List.length_append]; omega
section
variable {P : Program} {w : World} {K : PySem.W.Frag} {mg : Str → Option Value} {base : Heap} {A : Adr}
theorem ok_tsh (T : Txt K mg A) : FnOk P w K mg base CX0 3 A.f_c_Draft_take_sheet A.d_c_Draft_take_sheet ["self", "rest"] (spTSh A) := by
  have G_is_name := ok_is_name (P := P) (w := w) (base := base) T
  have G_c_Sheet___init := ok_sheet_init (P := P) (w := w) (base := base) T
  refine T.F_c_Draft_take_sheet.ok sc_c_Draft_take_sheet (fun vs H Q E h => ?_) (fun cdv A0 outer s H vs Q E hr h => ?_)
  · obtain ⟨d, r, rfl, _⟩ := h
    rfl
  obtain ⟨d, r, rfl, z, e, dx, nm, ps, pt, n, k, xs, rfl, hz, he, hd, hps, hpt, h12, q⟩ := h
  obtain ⟨kdemd, hk⟩ : ∃ k : Nat, k = 1 := ⟨_, rfl⟩
  refine ⟨_, (pss_cons (ps_set (i := 2) sc_c_Draft_take_sheet.nd rfl (by first | exact Or.inl rfl | exact Or.inr rfl) (pe_bm PySem.F.plainAttrs_str PySem.F.slot_str_partition PySem.F.type_str_partition mt_partition (pv 1) (pa_cons pe_str pa_nil)))
      (pss_cons (ps_set (i := 3) sc_c_Draft_take_sheet.nd rfl (by first | exact Or.inl rfl | exact Or.inr rfl) (pe_cmpR op_ne (pe_ix ix_tup (pv 2) pe_int (fun _ _ => rfl)) pe_str (nomark _)))
      (pss_cons (ps_expr (pe_methG (CX := CX0) (k := kdemd) (hr.mono (by first | decide | omega)) pass0 (pv 0) (pa_cons (pe_and (pe_call G_is_name (hr.mono (by first | decide | omega)) rfl T.m_is_name T.k_is_name T.b_is_name .nil pass0 (pa_cons (pe_ix ix_tup (pv 2) pe_int (fun _ _ => rfl)) pa_nil)) (pe_one (pe_or (pe_call G_is_name (hr.mono (by first | decide | omega)) rfl T.m_is_name T.k_is_name T.b_is_name .nil pass0 (pa_cons (pe_ix ix_tup (pv 2) pe_int (fun _ _ => rfl)) pa_nil)) (pe_one (pe_not (pv 3)))))) pa_nil)))
      (pss_cons (ps_expr (pe_methG (CX := CX0) (k := kdemd) (hr.mono (by first | decide | omega)) pass0 (pv 0) (pa_cons (pe_and (pe_cmpR op_eq (pe_callB call_len_seq (by rfl) T.n_len PySem.boot_len (pa_cons (pe_fld (pv 0) rfl) pa_nil)) pe_int (nomark _)) (pe_one (pe_cmpR op_lt (pe_callB call_len_seq (by rfl) T.n_len PySem.boot_len (pa_cons (pe_fld (pv 0) rfl) pa_nil)) (pe_gv rfl T.g_MOST_SHEETS) (nomark _)))) pa_nil)))
      (pss_one (ps_expr (pe_bm PySem.F.plainAttrs_list PySem.F.slot_list_append PySem.F.type_list_append mt_append (pe_fld (pv 0) rfl) (pa_cons (pe_make T.mk_Sheet G_c_Sheet___init (hr.mono (by first | decide | omega)) rfl T.m_Sheet T.b_c_Sheet___init .nil pass0 (pa_cons (pe_ix ix_tup (pv 2) pe_int (fun _ _ => rfl)) (pa_cons (pe_ifExp (pt_val (pv 3)) (pe_ix ix_tup (pv 2) pe_int (fun _ _ => rfl)) pe_non) (pa_cons (pe_lst pa_nil) (pa_cons (pe_lst pa_nil) pa_nil))))) pa_nil)))))))), ?_⟩
  subst hk
  refine ⟨_, rfl, rfl, _, _, rfl, rfl, (by decide +kernel), shT_len hz he, fun p hp => ?_⟩
  rw [pt_sh (no32 (name_let hz).2.2)]
  have s1 := same_new hp (.tup [.str z, .str (pE e).1, .str (pE e).2])
  have hp1 : (upd H p (.tup [.str z, .str (pE e).1, .str (pE e).2])) p = some (.tup [.str z, .str (pE e).1, .str (pE e).2]) := upd_same
  dsimp only
  generalize upd H p (.tup [.str z, .str (pE e).1, .str (pE e).2]) = H1 at s1 hp1
  have a0 : atI [V.str z, .str (pE e).1, .str (pE e).2] ((0 : Nat) : Int) = some (V.str z) := atI_nat rfl
  have a1 : atI [V.str z, .str (pE e).1, .str (pE e).2] ((1 : Nat) : Int) = some (V.str (pE e).1) := atI_nat rfl
  have a2 : atI [V.str z, .str (pE e).1, .str (pE e).2] ((2 : Nat) : Int) = some (V.str (pE e).2) := atI_nat rfl
  have fz : Fine 1000 z := (name_fine hz).mono (by decide)
  have fe : Fine 1000 (pE e).2 := by
    cases e with
    | none => exact ⟨by decide +kernel, by decide +kernel⟩
    | some e => exact (name_fine (he e rfl)).mono (by decide)
  refine ⟨_, rfl, p, _, _, _, rfl, rfl, SqT.of hp1, a1, rfl, ?_⟩
  dsimp only [gName]
  refine seq_mid (fun σ' H' => σ' = [some (.ref d), some (.str (S (shT z e))), some (.ref p), some (.bl (!decide (V.str (pE e).1 = V.str (Str.ofString ""))))] ∧ Same H1 H') ?kk ?mm
  case mm =>
    intro key
    refine ⟨_, rfl, d, _, dx, _, mjDem T, rfl, s1 _ _ hd, rfl, ?_⟩
    refine ⟨_, rfl, p, _, _, _, rfl, rfl, SqT.of hp1, a0, _, rfl, ok_str T fz, fun H2 s2 => ?_⟩
    refine ⟨_, rfl, iteB hz ⟨_, rfl, p, _, _, _, rfl, rfl, SqT.of (s2 _ _ hp1), a2, _, rfl, ok_str T fe, fun H3 s3 => ?_⟩⟩
    cases e with
    | none => exact ⟨_, rfl, iteO (by decide +kernel) ⟨_, rfl, _, rfl, _, _, rfl, (by decide +kernel), key _ _ ⟨rfl, s2.trans s3⟩⟩⟩
    | some e => exact ⟨_, rfl, iteB (he e rfl) ⟨_, _, rfl, rfl, key _ _ ⟨rfl, s2.trans s3⟩⟩⟩
  case kk =>
    rintro σ' H3 ⟨rfl, s3⟩
    have s13 := s1.trans s3
    have hp3 := s3 _ _ hp1
    have hps3 := s13 _ _ hps
    refine ⟨_, rfl, d, _, dx, _, mjDem T, rfl, s13 _ _ hd, rfl, ?_⟩
    refine ⟨_, rfl, d, _, dx, _, _, rfl, s13 _ _ hd, T.cl_Draft, T.no_Draft_totals, rfl, pt, _, rfl, .inl (SqL.of (s13 _ _ hpt)), rfl, _, rfl, iteB (by decide +kernel) ?_⟩
    refine ⟨_, rfl, d, _, dx, _, _, rfl, s13 _ _ hd, T.cl_Draft, T.no_Draft_sheets, rfl, ps, _, rfl, .inl (SqL.of hps3), _, _, rfl, rfl, ?_⟩
    refine ⟨_, _, rfl, decide_eq_true (by omega), ?_⟩
    refine ⟨_, rfl, d, _, dx, _, _, rfl, s13 _ _ hd, T.cl_Draft, T.no_Draft_sheets, rfl, Or.inl ⟨rfl, _, SqL.of hps3⟩, ?_⟩
    refine ⟨_, rfl, p, _, _, _, rfl, rfl, SqT.of hp3, a0, _, rfl, _, rfl, ?_⟩
    have fin : ∀ r1, H3 r1 = none → ∀ r2, upd H3 r1 (.lst []) r2 = none → ∀ x dxs, upd (upd H3 r1 (.lst [])) r2 (.lst []) x = none → upd (upd H3 r1 (.lst [])) r2 (.lst []) dxs = none → dxs ≠ x → ∀ q1 q2 H', q1 ≠ q2 → upd (upd (upd (upd H3 r1 (.lst [])) r2 (.lst [])) dxs (.own x)) x (.ins A.c_Sheet dxs []) q1 = none → upd (upd (upd (upd H3 r1 (.lst [])) r2 (.lst [])) dxs (.own x)) x (.ins A.c_Sheet dxs []) q2 = none → Fr [x] (upd (upd (upd (upd H3 r1 (.lst [])) r2 (.lst [])) dxs (.own x)) x (.ins A.c_Sheet dxs [])) H' → H' x = some (oSh A dxs (.str z) (eV e) q1 q2) → H' q1 = some (.lst []) → H' q2 = some (.lst []) → H' ps = some (.lst xs) ∧ Q .non (upd H' ps (.lst (xs ++ [.ref x]))) := by
      intro r1 hr1 r2 hr2 x dxs nx nd _ q1 q2 H' n12 f1 f2 F hx hq1 hq2
      have s4 := same_new hr1 (.lst [])
      have s5 := same_new hr2 (.lst [])
      have s15 := s13.trans (s4.trans s5)
      have hps5 := (s4.trans s5) _ _ hps3
      generalize upd (upd H3 r1 (.lst [])) r2 (.lst []) = H5 at *
      have s6 := same_make nx nd (.ins A.c_Sheet dxs [])
      have nps : ps ≠ x := ne_of_none hps5 nx
      have hps' : H' ps = some (.lst xs) := F _ _ (s6 _ _ hps5) (ni1 nps)
      have hH0 : ∀ {b : Addr}, H5 b = none → H b = none := fun h => same_none s15 h
      have g1 := same_none s6 f1
      have g2 := same_none s6 f2
      have m1 : q1 ≠ ps := fun e => by rw [e, hps5] at g1; cases g1
      have m2 : q2 ≠ ps := fun e => by rw [e, hps5] at g2; cases g2
      refine ⟨hps', q x dxs q1 q2 _ (fun b o hb hn => ?_) upd_same ?_ ?_ ?_ (hH0 nx) (hH0 g1) (hH0 g2) n12⟩
      · have nb : b ≠ ps := fun e => hn (by rw [e]; exact List.mem_singleton.mpr rfl)
        rw [upd_ne nb]
        have h5 := s15 _ _ hb
        exact F _ _ (s6 _ _ h5) (ni1 (ne_of_none h5 nx))
      · rw [upd_ne (Ne.symm nps)]; exact hx
      · rw [upd_ne m1]; exact hq1
      · rw [upd_ne m2]; exact hq2
    have lim : xs.length < sizeLine := Nat.lt_of_lt_of_le (by omega : xs.length < 100) (small_of (m := 100) (Nat.le_refl _))
    cases e with
    | none =>
      refine iteO (by decide +kernel) ⟨(by show 0 ≤ sizeLine; decide), fun r1 hr1 => ⟨(by show 0 ≤ sizeLine; decide), fun r2 hr2 => ?_⟩⟩
      intro x dxs nx nd ne
      refine ⟨x, dxs, _, _, r1, r2, [], [], rfl, upd_same, same_make nx nd _ _ _ (same_new hr2 _ _ _ upd_same), same_make nx nd _ _ _ upd_same, fun q1 q2 H' n12 f1 f2 F hx hq1 hq2 => ⟨rfl, ?_⟩⟩
      obtain ⟨h1, h2⟩ := fin r1 hr1 r2 hr2 x dxs nx nd ne q1 q2 H' n12 f1 f2 F hx hq1 hq2
      exact ⟨ps, _, _, rfl, rfl, h1, lim, h2⟩
    | some e =>
      refine iteB (by show (!decide (V.str (Str.ofString " each ") = V.str (Str.ofString ""))) = true; decide +kernel) ⟨_, rfl, p, _, _, _, rfl, rfl, SqT.of hp3, a2, (by show 0 ≤ sizeLine; decide), fun r1 hr1 => ⟨(by show 0 ≤ sizeLine; decide), fun r2 hr2 => ?_⟩⟩
      intro x dxs nx nd ne
      refine ⟨x, dxs, _, _, r1, r2, [], [], rfl, upd_same, same_make nx nd _ _ _ (same_new hr2 _ _ _ upd_same), same_make nx nd _ _ _ upd_same, fun q1 q2 H' n12 f1 f2 F hx hq1 hq2 => ⟨rfl, ?_⟩⟩
      obtain ⟨h1, h2⟩ := fin r1 hr1 r2 hr2 x dxs nx nd ne q1 q2 H' n12 f1 f2 F hx hq1 hq2
      exact ⟨ps, _, _, rfl, rfl, h1, lim, h2⟩
def mjTSh (T : Txt K mg A) : MethJ P w K mg base CX0 3 A.c_Draft "take_sheet" := ⟨A.f_c_Draft_take_sheet, A.d_c_Draft_take_sheet, ["self", "rest"], spTSh A, [], [], T.cl_Draft, T.me_Draft_take_sheet, ok_tsh T, T.b_c_Draft_take_sheet, .nil⟩
theorem ok_tc (T : Txt K mg A) : FnOk P w K mg base CX0 27 A.f_c_Draft_take_check A.d_c_Draft_take_check ["self", "rest", "firm"] (spTC A) := by
  have G_is_name := ok_is_name (P := P) (w := w) (base := base) T
  have G_c_Check___init := ok_ck_init (P := P) (w := w) (base := base) T
  refine T.F_c_Draft_take_check.ok sc_c_Draft_take_check (fun vs H Q E h => ?_) (fun cdv A0 outer s H vs Q E hr h => ?_)
  · obtain ⟨d, r, f, rfl, _⟩ := h
    rfl
  obtain ⟨d, r, f, rfl, z, t, dx, nm, ps, pt, n, k, xs, s', dxs, u1, u2, pr, pw, rs, rfl, hz, g, h60, hd, hps, hpt, hs, hpw, hpr, h10, nps, npt, npw, q⟩ := h
  obtain ⟨kdemd, hk⟩ : ∃ k : Nat, k = 1 := ⟨_, rfl⟩
  obtain ⟨kputw, hk2⟩ : ∃ k : Nat, k = 3 := ⟨_, rfl⟩
  obtain ⟨kreat, hk3⟩ : ∃ k : Nat, k = 26 := ⟨_, rfl⟩
  refine ⟨_, (pss_cons (ps_set (i := 3) sc_c_Draft_take_check.nd rfl (by first | exact Or.inl rfl | exact Or.inr rfl) (pe_bm PySem.F.plainAttrs_str PySem.F.slot_str_partition PySem.F.type_str_partition mt_partition (pv 1) (pa_cons pe_str pa_nil)))
      (pss_cons (ps_expr (pe_methG (CX := CX0) (k := kdemd) (hr.mono (by first | decide | omega)) pass0 (pv 0) (pa_cons (pe_call G_is_name (hr.mono (by first | decide | omega)) rfl T.m_is_name T.k_is_name T.b_is_name .nil pass0 (pa_cons (pe_ix ix_tup (pv 3) pe_int (fun _ _ => rfl)) pa_nil)) pa_nil)))
      (pss_one (ps_expr (pe_methG (CX := CX0) (k := kputw) (hr.mono (by first | decide | omega)) pass0 (pv 0) (pa_cons (pe_make T.mk_Check G_c_Check___init (hr.mono (by first | decide | omega)) rfl T.m_Check T.b_c_Check___init .nil pass0 (pa_cons (pe_ix ix_tup (pv 3) pe_int (fun _ _ => rfl)) (pa_cons (pe_methG (CX := CX0) (k := kreat) (hr.mono (by first | decide | omega)) pass0 (pv 0) (pa_cons (pe_ix ix_tup (pv 3) pe_int (fun _ _ => rfl)) pa_nil)) (pa_cons (pv 2) pa_nil)))) pa_nil)))))), ?_⟩
  subst hk hk2 hk3
  refine ⟨_, rfl, rfl, _, _, rfl, rfl, (by decide +kernel), ckT_len hz g, fun p hp => ?_⟩
  rw [pt_ck (no32 (name_let hz).2.2)]
  have s1 := same_new hp (.tup [.str z, .str (Str.ofString " unless "), .str (S (txL t))])
  have hp1 : (upd H p (.tup [.str z, .str (Str.ofString " unless "), .str (S (txL t))])) p = some (.tup [.str z, .str (Str.ofString " unless "), .str (S (txL t))]) := upd_same
  dsimp only
  generalize upd H p (.tup [.str z, .str (Str.ofString " unless "), .str (S (txL t))]) = H1 at s1 hp1
  have a0 : atI [V.str z, .str (Str.ofString " unless "), .str (S (txL t))] ((0 : Nat) : Int) = some (V.str z) := atI_nat rfl
  have a2 : atI [V.str z, .str (Str.ofString " unless "), .str (S (txL t))] ((2 : Nat) : Int) = some (V.str (S (txL t))) := atI_nat rfl
  refine ⟨_, rfl, d, _, dx, _, mjDem T, rfl, s1 _ _ hd, rfl, ?_⟩
  refine ⟨_, rfl, p, _, _, _, rfl, rfl, SqT.of hp1, a0, _, rfl, ok_str T ((name_fine hz).mono (by decide)), fun H2 s2 => ?_⟩
  have s12 := s1.trans s2
  have hd2 := s12 _ _ hd
  refine ⟨_, _, rfl, hz, ?_⟩
  refine ⟨_, rfl, d, _, dx, _, mjPut T, rfl, hd2, rfl, ?_⟩
  refine ⟨_, rfl, p, _, _, _, rfl, rfl, SqT.of (s2 _ _ hp1), a0, ?_⟩
  refine ⟨_, rfl, d, _, dx, _, mjRT T, rfl, hd2, rfl, _, rfl, p, _, _, _, rfl, rfl, SqT.of (s2 _ _ hp1), a2, d, dx, nm, ps, pt, n, k, t, rfl, hd2, g, h60, fun v H3 F3 hd3 hv => ?_⟩
  refine ⟨_, rfl, ?_⟩
  intro x dxb nx nd ne
  refine ⟨x, dxb, _, _, _, rfl, upd_same, rfl, ?_⟩
  rw [upd_upd]
  have s5 := same_make nx nd (oCk A dxb (.str z) v (.bl f))
  have F5 : Fr [d] H (upd (upd H3 dxb (.own x)) x (oCk A dxb (.str z) v (.bl f))) := ((Fr.of s12).trans F3).trans (Fr.of s5)
  have dl : ∀ {b ys}, H b = some (.lst ys) → b ≠ d := fun h => ne_of h hd (by intro z; cases z)
  have nsd : s' ≠ d := ins_ne hs hd (by show (5 : Nat) ≠ 4; decide)
  have hpr5 := F5 _ _ hpr (ni1 (dl hpr))
  refine ⟨d, dx, nm, ps, pt, _, k, xs, s', dxs, u1, u2, pr, pw, rs, _, rfl, s5 _ _ hd3, F5 _ _ hps (ni1 (dl hps)), F5 _ _ hpt (ni1 (dl hpt)), F5 _ _ hs (ni1 nsd), F5 _ _ hpw (ni1 (dl hpw)), hpr5, h10, ?_⟩
  have nxr : x ≠ pr := fun e => by rw [← e, upd_same] at hpr5; cases hpr5
  refine q x dxb v _ (((F5.more (M' := [d, pr]) (fun m hm => by rw [List.mem_singleton.mp hm]; exact List.mem_cons_self)).upd (List.mem_cons_of_mem _ (List.mem_singleton.mpr rfl)) _)) ?_ upd_same ?_ ?_
  · rw [upd_ne (Ne.symm (dl hpr))]; exact s5 _ _ hd3
  · rw [upd_ne nxr]; exact upd_same
  · exact (hv.same s5).lst hpr5
def mjTC (T : Txt K mg A) : MethJ P w K mg base CX0 27 A.c_Draft "take_check" := ⟨A.f_c_Draft_take_check, A.d_c_Draft_take_check, ["self", "rest", "firm"], spTC A, [], [], T.cl_Draft, T.me_Draft_take_check, ok_tc T, T.b_c_Draft_take_check, .nil⟩
theorem ok_tw (T : Txt K mg A) : FnOk P w K mg base CX0 28 A.f_c_Draft_take_way A.d_c_Draft_take_way ["self", "rest"] (spTW A) := by
  have G_is_name := ok_is_name (P := P) (w := w) (base := base) T
  refine T.F_c_Draft_take_way.ok sc_c_Draft_take_way (fun vs H Q E h => ?_) (fun cdv A0 outer s H vs Q E hr h => ?_)
  · obtain ⟨d, r, rfl, _⟩ := h
    rfl
  obtain ⟨d, r, rfl, z, o, dx, nm, ps, pt, n, k, xs, s', dxs, u1, u2, pr, pw, ws, rfl, g, h60, hd, hps, hpt, hs, hpw, h4, q⟩ := h
  obtain ⟨kdemd, hk⟩ : ∃ k : Nat, k = 1 := ⟨_, rfl⟩
  obtain ⟨kshel, hk2⟩ : ∃ k : Nat, k = 2 := ⟨_, rfl⟩
  obtain ⟨krean, hk3⟩ : ∃ k : Nat, k = 27 := ⟨_, rfl⟩
  refine ⟨_, (pss_cons (ps_set (i := 2) sc_c_Draft_take_way.nd rfl (by first | exact Or.inl rfl | exact Or.inr rfl) (pe_bm PySem.F.plainAttrs_str PySem.F.slot_str_partition PySem.F.type_str_partition mt_partition (pv 1) (pa_cons pe_str pa_nil)))
      (pss_cons (ps_expr (pe_methG (CX := CX0) (k := kdemd) (hr.mono (by first | decide | omega)) pass0 (pv 0) (pa_cons (pe_or (pe_cmpR op_eq (pe_ix ix_tup (pv 2) pe_int (fun _ _ => rfl)) pe_str (nomark _)) (pe_one (pe_call G_is_name (hr.mono (by first | decide | omega)) rfl T.m_is_name T.k_is_name T.b_is_name .nil pass0 (pa_cons (pe_ix ix_tup (pv 2) pe_int (fun _ _ => rfl)) pa_nil)))) pa_nil)))
      (pss_cons (ps_set (i := 3) sc_c_Draft_take_way.nd rfl (by first | exact Or.inl rfl | exact Or.inr rfl) (pe_methG0 (CX := CX0) (k := kshel) (hr.mono (by first | decide | omega)) pass0 (pv 0)))
      (pss_cons (ps_expr (pe_methG (CX := CX0) (k := kdemd) (hr.mono (by first | decide | omega)) pass0 (pv 0) (pa_cons (pe_cmpR op_lt (pe_callB call_len_seq (by rfl) T.n_len PySem.boot_len (pa_cons (pe_fld (pv 3) rfl) pa_nil)) (pe_gv rfl T.g_MOST_WAYS) (nomark _)) pa_nil)))
      (pss_one (ps_expr (pe_bm PySem.F.plainAttrs_list PySem.F.slot_list_append PySem.F.type_list_append mt_append (pe_fld (pv 3) rfl) (pa_cons (pe_tup (pa_cons (pe_ix ix_tup (pv 2) pe_int (fun _ _ => rfl)) (pa_cons (pe_methG (CX := CX0) (k := krean) (hr.mono (by first | decide | omega)) pass0 (pv 0) (pa_cons (pv 2) pa_nil)) pa_nil))) pa_nil)))))))), ?_⟩
  subst hk hk2 hk3
  have tz : tgB z := g.1
  refine ⟨_, rfl, rfl, _, _, rfl, rfl, (by decide +kernel), wyT_len g, fun p hp => ?_⟩
  rw [pt_wy (no32 (tg_let tz).2)]
  have s1 := same_new hp (.tup [.str z, .str (pW o).1, .str (pW o).2])
  have hp1 : (upd H p (.tup [.str z, .str (pW o).1, .str (pW o).2])) p = some (.tup [.str z, .str (pW o).1, .str (pW o).2]) := upd_same
  dsimp only
  generalize upd H p (.tup [.str z, .str (pW o).1, .str (pW o).2]) = H1 at s1 hp1
  have a0 : atI [V.str z, .str (pW o).1, .str (pW o).2] ((0 : Nat) : Int) = some (V.str z) := atI_nat rfl
  dsimp only [gName]
  refine seq_mid (fun σ' H' => σ' = [some (.ref d), some (.str (S (wyT z o))), some (.ref p), none] ∧ Same H1 H') ?kk ?mm
  case mm =>
    intro key
    refine ⟨_, rfl, d, _, dx, _, mjDem T, rfl, s1 _ _ hd, rfl, ?_⟩
    refine ⟨_, rfl, p, _, _, _, rfl, rfl, SqT.of hp1, a0, rfl, _, rfl, ?_⟩
    by_cases c : z = "end"
    · exact eqS c ⟨_, _, rfl, rfl, key _ _ ⟨rfl, Same.refl _⟩⟩
    · have hz : nameB z = true := by
        rcases tz with e | e
        · exact absurd e c
        · exact e
      exact neS c ⟨_, rfl, p, _, _, _, rfl, rfl, SqT.of hp1, a0, _, rfl, ok_str T ((name_fine hz).mono (by decide)), fun H2 s2 => ⟨_, _, rfl, hz, key _ _ ⟨rfl, s2⟩⟩⟩
  case kk =>
    rintro σ' H2 ⟨rfl, s2⟩
    have s12 := s1.trans s2
    have hd2 := s12 _ _ hd
    have hs2 := s12 _ _ hs
    have hpw2 := s12 _ _ hpw
    refine ⟨_, rfl, d, _, dx, _, mjFill T, rfl, hd2, rfl, d, dx, nm, ps, pt, n, k, xs, s', rfl, hd2, s12 _ _ hps, s12 _ _ hpt, ?_⟩
    refine ⟨_, rfl, d, _, dx, _, mjDem T, rfl, hd2, rfl, ?_⟩
    refine ⟨_, rfl, s', _, dxs, _, _, rfl, hs2, T.cl_Sheet, T.no_Sheet_ways, rfl, pw, _, rfl, .inl (SqL.of hpw2), _, _, rfl, rfl, ?_⟩
    refine ⟨_, _, rfl, decide_eq_true (by omega), ?_⟩
    refine ⟨_, rfl, s', _, dxs, _, _, rfl, hs2, T.cl_Sheet, T.no_Sheet_ways, rfl, Or.inl ⟨rfl, _, SqL.of hpw2⟩, ?_⟩
    refine ⟨_, rfl, p, _, _, _, rfl, rfl, SqT.of (s2 _ _ hp1), a0, ?_⟩
    refine ⟨_, rfl, d, _, dx, _, mjRW T, rfl, hd2, rfl, _, rfl, d, dx, nm, ps, pt, n, k, p, z, o, rfl, SqT.of (s2 _ _ hp1), hd2, g.2, h60, fun v H3 F3 hd3 hv => ?_⟩
    refine ⟨(by show 2 ≤ sizeLine; decide), fun a ha => ?_⟩
    have s4 := same_new ha (.tup [.str z, v])
    have npd : pw ≠ d := ne_of hpw hd (by intro z; cases z)
    have hpw4 := s4 _ _ (F3 _ _ hpw2 (ni1 npd))
    have nap : a ≠ pw := fun e => by have := F3 _ _ hpw2 (ni1 npd); rw [← e, ha] at this; cases this
    refine ⟨pw, _, _, rfl, rfl, hpw4, Nat.lt_of_lt_of_le (by omega : ws.length < 100) (small_of (m := 100) (Nat.le_refl _)), ?_⟩
    have F4 : Fr [d] H (upd H3 a (.tup [.str z, v])) := ((Fr.of s12).trans F3).trans (Fr.of s4)
    refine q a v _ (((F4.more (M' := [d, pw]) (fun m hm => by rw [List.mem_singleton.mp hm]; exact List.mem_cons_self)).upd (List.mem_cons_of_mem _ (List.mem_singleton.mpr rfl)) _)) ?_ upd_same ?_ ?_
    · rw [upd_ne (Ne.symm npd)]; exact s4 _ _ hd3
    · rw [upd_ne nap]; exact upd_same
    · exact (hv.fr (Fr.of s4) mu_nil).fr ((Fr.of (Same.refl _)).upd (List.mem_singleton.mpr rfl) _) (Mu.one hpw4 (.inl ⟨_, rfl⟩))
def mjTW (T : Txt K mg A) : MethJ P w K mg base CX0 28 A.c_Draft "take_way" := ⟨A.f_c_Draft_take_way, A.d_c_Draft_take_way, ["self", "rest"], spTW A, [], [], T.cl_Draft, T.me_Draft_take_way, ok_tw T, T.b_c_Draft_take_way, .nil⟩
end
end K23
set_option maxHeartbeats 4000000
namespace K23
open PySem L2
seal PE PT PW PA PS PSs PG PGs PI PO PSet OpR UnR CallR TruR IxR SlR PC PPs
local macro_rules | `(tactic| walk_at "rd1") => `(tactic| first
  | (refine And.intro rfl ?_)
  | (refine And.intro (by assumption) ?_)
  | (refine And.intro (fun _ e => e) ?_)
  | (refine And.intro (TyOf.str _) ?_) | (refine And.intro (TyOf.int _) ?_) | (refine And.intro (TyOf.bl _) ?_) | (refine And.intro TyOf.non ?_)
  | (refine iteT ?_) | (refine iteF ?_)
  | (apply Exists.intro))
local macro_rules | `(tactic| walk_at "rd") => `(tactic| repeat (walk_at "rd1"))

def RowT (A : Adr) (d : Addr) (f r : Str) (H : Hp) (R : Hp → Prop) : Prop := (f = "paper" ∧ TP A d r H R) ∨ (f = "sheet" ∧ TSh A d r H R) ∨ (∃ b, f = fm b ∧ TC A d r b H R) ∨ (f = "way" ∧ TW A d r H R)
def spRow (A : Adr) : Sp := fun vs H Q _ => ∃ d dx nm ps pt n k f r, vs = [.ref d, .str f, .str r] ∧ H d = some (oDr A dx nm ps pt n k) ∧ k < 100 ∧ (f = "paper" ↔ k = 0) ∧ RowT A d f r H fun H' => Q .non H'
theorem RowT.imp {A : Adr} {d : Addr} {f r : Str} {H : Hp} {R R' : Hp → Prop} (i : ∀ H', R H' → R' H') (h : RowT A d f r H R) : RowT A d f r H R' := by
  rcases h with ⟨e, h⟩ | ⟨e, h⟩ | ⟨b, e, h⟩ | ⟨e, h⟩
  · obtain ⟨dx, nm, ps, pt, n, k, h1, h2, h3⟩ := h
    exact .inl ⟨e, dx, nm, ps, pt, n, k, h1, h2, fun H' s => i _ (h3 H' s)⟩
  · obtain ⟨z, y, dx, nm, ps, pt, n, k, xs, h1, h2, h3, h4, h5, h6, h7, h8⟩ := h
    exact .inr (.inl ⟨e, z, y, dx, nm, ps, pt, n, k, xs, h1, h2, h3, h4, h5, h6, h7, fun s dxs pr pw H' a1 a2 a3 a4 a5 a6 a7 a8 a9 => i _ (h8 s dxs pr pw H' a1 a2 a3 a4 a5 a6 a7 a8 a9)⟩)
  · obtain ⟨z, t, dx, nm, ps, pt, n, k, xs, s, dxs, u1, u2, pr, pw, rs, h1, h2, h3, h4, h5, h6, h7, h8, h9, h10, h11, h12, h13, h14, h15⟩ := h
    exact .inr (.inr (.inl ⟨b, e, z, t, dx, nm, ps, pt, n, k, xs, s, dxs, u1, u2, pr, pw, rs, h1, h2, h3, h4, h5, h6, h7, h8, h9, h10, h11, h12, h13, h14, fun b dxb v H' a1 a2 a3 a4 a5 => i _ (h15 b dxb v H' a1 a2 a3 a4 a5)⟩))
  · obtain ⟨z, o, dx, nm, ps, pt, n, k, xs, s, dxs, u1, u2, pr, pw, ws, h1, h2, h3, h4, h5, h6, h7, h8, h9, h10⟩ := h
    exact .inr (.inr (.inr ⟨e, z, o, dx, nm, ps, pt, n, k, xs, s, dxs, u1, u2, pr, pw, ws, h1, h2, h3, h4, h5, h6, h7, h8, h9, fun a v H' a1 a2 a3 a4 a5 => i _ (h10 a v H' a1 a2 a3 a4 a5)⟩))
theorem pl_ok {f : Str} {k : Int} (h : f = "paper" ↔ k = 0) : decide (V.bl (decide (V.str f = V.str (Str.ofString "paper"))) = V.bl (decide (V.int k = V.int 0))) = true := by
  refine decide_eq_true ?_
  congr 1
  rw [Bool.eq_iff_iff, decide_eq_true_iff, decide_eq_true_iff]
  exact ⟨fun e => congrArg V.int (h.mp (V.str.inj e)), fun e => congrArg V.str (h.mpr (V.int.inj e))⟩
/-! what has been read -/
def szS (s : Sh) : Nat := (s.cs.map fun c => c.2.1.size).sum + (s.ws.map fun c => szO c.2).sum
def szs (ss : List Sh) : Nat := (ss.map szS).sum
theorem szs_one (ss : List Sh) (s : Sh) : szs (ss ++ [s]) = szs ss + szS s := by unfold szs; rw [List.map_append, List.sum_append]; simp
theorem szS_ck (z : Str) (e : Option Str) (cs : List Ck) (c : Ck) (ws : List Wy) : szS ⟨z, e, cs ++ [c], ws⟩ = szS ⟨z, e, cs, ws⟩ + c.2.1.size := by
  unfold szS; dsimp only; rw [List.map_append, List.sum_append, List.map_singleton, List.sum_singleton]; omega
theorem szS_wy (z : Str) (e : Option Str) (cs : List Ck) (ws : List Wy) (c : Wy) : szS ⟨z, e, cs, ws ++ [c]⟩ = szS ⟨z, e, cs, ws⟩ + szO c.2 := by
  unfold szS; dsimp only; rw [List.map_append, List.sum_append, List.map_singleton, List.sum_singleton]; omega
def Last (A : Adr) (Z : Addr → Prop) (H : Hp) (xs : List V) (ss : List Sh) : Prop := (xs = [] ∧ ss = []) ∨ ∃ xs0 ss0 s a dx pr pw rs ws, xs = xs0 ++ [.ref a] ∧ ss = ss0 ++ [s] ∧ H a = some (oSh A dx (.str s.nm) (eV s.ea) pr pw) ∧ Z pr ∧ Z pw ∧ pr ≠ pw ∧ H pr = some (.lst rs) ∧ H pw = some (.lst ws) ∧ Paired (CkR A H) rs s.cs ∧ Paired (WyR A H) ws s.ws ∧ Paired (ShR A (fun b => b ≠ pr ∧ b ≠ pw ∧ Z b) H) xs0 ss0
theorem Last.all {A : Adr} {Z : Addr → Prop} {H : Hp} {xs : List V} {ss : List Sh} (h : Last A Z H xs ss) : Paired (ShR A Z H) xs ss := by
  rcases h with ⟨rfl, rfl⟩ | ⟨xs0, ss0, s, a, dx, pr, pw, rs, ws, rfl, rfl, h1, h2, h3, h4, h5, h6, h7, h8, h9⟩
  · exact .nil
  · exact paired_app (paired_mono (fun _ _ k => k.mono fun _ _ _ z => z.2.2) h9) (.cons ⟨a, dx, pr, pw, rs, ws, rfl, h1, h2, h3, h5, h6, h7, h8⟩ .nil)
abbrev Stt := V × Nat × List Sh
def Zd (H0 : Hp) (d ps pt : Addr) (b : Addr) : Prop := b ≠ d ∧ b ≠ ps ∧ b ≠ pt ∧ H0 b = none
def Dst (A : Adr) (H0 : Hp) (d : Addr) (st : Stt) (H : Hp) : Prop := ∃ dx ps pt xs, Same H0 H ∧ H0 d = none ∧ H0 ps = none ∧ ps ≠ pt ∧ H d = some (oDr A dx st.1 ps pt (szs st.2.2 : Nat) (st.2.1 : Nat)) ∧ H ps = some (.lst xs) ∧ H pt = some (.lst []) ∧ Last A (Zd H0 d ps pt) H xs st.2.2
theorem Dst.same {A : Adr} {H0 H H' : Hp} {d : Addr} {st : Stt} (f : Same H H') (h : Dst A H0 d st H) : Dst A H0 d st H' := by
  obtain ⟨dx, ps, pt, xs, h1, h2, h3, h4, h5, h6, h7, h8⟩ := h
  refine ⟨dx, ps, pt, xs, h1.trans f, h2, h3, h4, f _ _ h5, f _ _ h6, f _ _ h7, ?_⟩
  rcases h8 with h | ⟨xs0, ss0, s, a, dx, pr, pw, rs, ws, e1, e2, k1, k2, k3, k4, k5, k6, k7, k8, k9⟩
  · exact .inl h
  · exact .inr ⟨xs0, ss0, s, a, dx, pr, pw, rs, ws, e1, e2, f _ _ k1, k2, k3, k4, f _ _ k5, f _ _ k6, paired_mono (fun _ _ k => k.fr (Fr.of f) mu_nil) k7, paired_mono (fun _ _ k => k.fr (Fr.of f) mu_nil) k8, paired_mono (fun _ _ k => k.same f) k9⟩
inductive Step : Stt → Str → List Nat → Stt → Prop
  | paper {z : Str} : nameB z = true → Step (.non, 0, []) "paper" (cd z) (.str z, 1, [])
  | sheet {v : V} {k : Nat} {ss : List Sh} {z : Str} {e : Option Str} : 0 < k → k < 100 → ss.length < 12 → nameB z = true → EaG e → Step (v, k, ss) "sheet" (shT z e) (v, k + 1, ss ++ [⟨z, e, [], []⟩])
  | check {v : V} {k : Nat} {ss : List Sh} {z : Str} {e : Option Str} {cs : List Ck} {c : Ck} : 0 < k → k < 100 → CkG c → cs.length ≤ 10 → szs (ss ++ [⟨z, e, cs ++ [c], []⟩]) ≤ 60 → Step (v, k, ss ++ [⟨z, e, cs, []⟩]) (fm c.2.2) (ckT c.1 c.2.1) (v, k + 1, ss ++ [⟨z, e, cs ++ [c], []⟩])
  | way {v : V} {k : Nat} {ss : List Sh} {z : Str} {e : Option Str} {cs : List Ck} {ws : List Wy} {c : Wy} : 0 < k → k < 100 → WyG c → ws.length < 4 → szs (ss ++ [⟨z, e, cs, ws ++ [c]⟩]) ≤ 60 → Step (v, k, ss ++ [⟨z, e, cs, ws⟩]) "way" (wyT c.1 c.2) (v, k + 1, ss ++ [⟨z, e, cs, ws ++ [c]⟩])
theorem Step.f {st st' : Stt} {f : Str} {r : List Nat} (h : Step st f r st') : 32 ∉ cd f ∧ (S (ln f r)).length ≤ 100000 ∧ st.2.1 < 100 ∧ (f = "paper" ↔ ((st.2.1 : Nat) : Int) = 0) := by
  cases h with
  | paper hz =>
    have h1 := (tg_32 (.inr hz)).1
    refine ⟨by decide +kernel, by rw [len_S]; exact Nat.le_trans (lg_ln ⟨by decide +kernel, by decide +kernel⟩ ⟨by omega, (tg_32 (.inr hz)).2⟩).1 (by decide), by decide, fun _ => rfl, fun _ => rfl⟩
  | sheet h0 h1 h2 hz he =>
    rename_i v k ss z e
    have l := (sh_lg (s := ⟨z, e, [], []⟩) ⟨hz, he, (fun _ h => by cases h), (fun _ h => by cases h), Nat.zero_le _, Nat.zero_le _⟩).1
    exact ⟨by decide +kernel, by rw [len_S]; exact Nat.le_trans l (by decide), h1, fun e => absurd e (by decide +kernel), fun e => by have e : ((k : Nat) : Int) = 0 := e; omega⟩
  | check h0 h1 hc h2 h3 =>
    rename_i v k ss z e cs c
    have l := (ck_lg hc).1
    exact ⟨by generalize c.2.2 = b; cases b <;> decide +kernel, by rw [len_S]; exact Nat.le_trans l (by decide), h1, fun e => absurd e (by generalize c.2.2 = b; cases b <;> decide +kernel), fun e => by have e : ((k : Nat) : Int) = 0 := e; omega⟩
  | way h0 h1 hc h2 h3 =>
    rename_i v k ss z e cs ws c
    have l := (wy_lg hc).1
    exact ⟨by decide +kernel, by rw [len_S]; exact Nat.le_trans l (by decide), h1, fun e => absurd e (by decide +kernel), fun e => by have e : ((k : Nat) : Int) = 0 := e; omega⟩
def Fin (A : Adr) (H0 : Hp) (d : Addr) (st : Stt) (H2 : Hp) : Prop := ∃ dx nm ps pt n k, H2 d = some (oDr A dx nm ps pt n k) ∧ Dst A H0 d st (upd H2 d (oDr A dx nm ps pt n (k + 1)))
theorem step_ok {A : Adr} {H0 H : Hp} {d : Addr} {st st' : Stt} {f : Str} {r : List Nat} (h : Step st f r st') (hD : Dst A H0 d st H) : RowT A d f (S r) H (Fin A H0 d st') := by
  obtain ⟨dx, ps, pt, xs, sH, d0, ps0, nst, hd, hps, hpt, hl⟩ := hD
  have npsd : ps ≠ d := ne_of hps hd (by intro z; cases z)
  have nptd : pt ≠ d := ne_of hpt hd (by intro z; cases z)
  have md : ∀ {M : List Addr}, Mu M H → Mu (d :: M) H := fun m => Mu.cons hd (.inr ⟨_, _, _, rfl, rfl⟩) m
  cases h with
  | paper hz =>
    rcases hl with ⟨rfl, _⟩ | ⟨_, ss0, s, _, _, _, _, _, _, _, e, _⟩
    · refine .inl ⟨rfl, dx, _, ps, pt, _, _, hd, by rw [S_cd]; exact hz, fun H' s => ⟨dx, _, ps, pt, _, _, upd_same, dx, ps, pt, [], fun b o hb => ?_, d0, ps0, nst, ?_, ?_, ?_, .inl ⟨rfl, rfl⟩⟩⟩
      · rw [upd_upd, upd_ne (ne_of_none hb d0)]; exact (sH.trans s) _ _ hb
      · rw [upd_same, S_cd]; rfl
      · rw [upd_upd, upd_ne npsd]; exact s _ _ hps
      · rw [upd_upd, upd_ne nptd]; exact s _ _ hpt
    · exact absurd e (by simp)
  | sheet h0 h1 h12 hz he =>
    rename_i v k ss z e
    have hlen : xs.length = ss.length := paired_len hl.all
    refine .inr (.inl ⟨rfl, z, e, dx, _, ps, pt, _, _, xs, rfl, hz, he, hd, hps, hpt, by omega, fun s dxs pr pw H' F hps' hs' hpr' hpw' ns npr npw n12 => ?_⟩)
    have hd' := F _ _ hd (ni1 (Ne.symm npsd))
    have lf : ∀ {b u}, H b = none → H' b = some u → u ≠ .lst [] → True := fun _ _ _ => trivial
    have nz : ∀ {b : Addr}, H b = none → Zd H0 d ps pt b := fun {b} hb => ⟨(fun e => by rw [e, hd] at hb; cases hb), (fun e => by rw [e, hps] at hb; cases hb), (fun e => by rw [e, hpt] at hb; cases hb), same_none sH hb⟩
    have nsd : s ≠ d := fun e => by rw [e, hd] at ns; cases ns
    have F2 : Fr [d, ps] H (upd H' d (oDr A dx v ps pt (szs ss : Nat) ((k : Nat) + 1))) := (F.more (fun m hm => List.mem_cons_of_mem _ hm)).upd List.mem_cons_self _
    refine ⟨dx, _, ps, pt, _, _, hd', dx, ps, pt, xs ++ [.ref s], fun b o hb => F2 _ _ (sH _ _ hb) (ni2 (ne_of_none hb d0) (ne_of_none hb ps0)), d0, ps0, nst, ?_, ?_, ?_, .inr ⟨xs, ss, ⟨z, e, [], []⟩, s, dxs, pr, pw, [], [], rfl, rfl, ?_, nz npr, nz npw, n12, ?_, ?_, .nil, .nil, ?_⟩⟩
    · rw [upd_same, szs_one]; rfl
    · rw [upd_ne npsd]; exact hps'
    · exact F2 _ _ hpt (ni2 nptd (Ne.symm nst))
    · rw [upd_ne nsd]; exact hs'
    · rw [upd_ne (nz npr).1]; exact hpr'
    · rw [upd_ne (nz npw).1]; exact hpw'
    · refine paired_mono (fun x s' k' => ?_) hl.all
      refine ShR.fr F2 (md (Mu.one hps (.inl ⟨_, rfl⟩))) (fun b hb => ni2 hb.2.2.1 hb.2.2.2.1) (k'.mono fun b ys hb hz => ⟨(fun e => by rw [e, npr] at hb; cases hb), (fun e => by rw [e, npw] at hb; cases hb), hz⟩)
  | check h0 h1 hc h10 h60 =>
    rename_i v k ss z e cs c
    rcases hl with ⟨_, e'⟩ | ⟨xs0, ss0, s, a, dxs, pr, pw, rs, ws, rfl, e', hs, zr, zw, nrw, hpr, hpw, hrs, hws, hold⟩
    · exact absurd e' (by simp)
    obtain ⟨e1, e2⟩ := List.append_inj' e' rfl
    cases e2
    subst e1
    have ew : ws = [] := by cases hws; rfl
    subst ew
    rw [szs_one, szS_ck] at h60
    have hd : H d = some (oDr A dx v ps pt (szs (ss ++ [⟨z, e, cs, []⟩]) : Nat) (k : Nat)) := hd
    rw [szs_one] at hd
    refine .inr (.inr (.inl ⟨c.2.2, rfl, c.1, c.2.1, dx, _, ps, pt, _, _, xs0, a, dxs, _, _, pr, pw, rs, rfl, hc.1, hc.2, by omega, hd, hps, hpt, hs, hpw, hpr, by rw [paired_len hrs]; exact h10, Ne.symm zr.2.1, Ne.symm zr.2.2.1, Ne.symm nrw, fun b dxb y H' F hd' hpr' hb' hy' => ?_⟩))
    have F2 : Fr [d, pr] H (upd H' d (oDr A dx v ps pt ((szs ss + szS ⟨z, e, cs, []⟩ : Nat) + (c.2.1.size : Nat)) ((k : Nat) + 1))) := F.upd List.mem_cons_self _
    have mu := md (Mu.one hpr (.inl ⟨_, rfl⟩))
    have F3 : Fr [d] H' (upd H' d (oDr A dx v ps pt ((szs ss + szS ⟨z, e, cs, []⟩ : Nat) + (c.2.1.size : Nat)) ((k : Nat) + 1))) := (Fr.of (Same.refl _)).upd (List.mem_singleton.mpr rfl) _
    have mu3 : Mu [d] H' := Mu.one hd' (.inr ⟨_, _, _, rfl, rfl⟩)
    have nrd := zr.1
    refine ⟨dx, _, ps, pt, _, _, hd', dx, ps, pt, xs0 ++ [.ref a], fun b o hb => F2 _ _ (sH _ _ hb) (ni2 (ne_of_none hb d0) (ne_of_none hb zr.2.2.2)), d0, ps0, nst, ?_, F2 _ _ hps (ni2 npsd (Ne.symm zr.2.1)), F2 _ _ hpt (ni2 nptd (Ne.symm zr.2.2.1)), .inr ⟨xs0, ss, ⟨z, e, cs ++ [c], []⟩, a, dxs, pr, pw, rs ++ [.ref b], [], rfl, rfl, F2.ins mu hs (by show (4 : Nat) ≠ 5; decide), zr, zw, nrw, ?_, F2 _ _ hpw (ni2 zw.1 (Ne.symm nrw)), ?_, .nil, ?_⟩⟩
    · rw [upd_same, szs_one, szS_ck]
      have e3 : ((szs ss + (szS ⟨z, e, cs, []⟩ + c.2.1.size) : Nat) : Int) = ((szs ss + szS ⟨z, e, cs, []⟩ : Nat) : Int) + ((c.2.1.size : Nat) : Int) := by omega
      rw [e3]; rfl
    · rw [upd_ne nrd]; exact hpr'
    · exact paired_app (paired_mono (fun _ _ k => k.fr F2 mu) hrs) (.cons ⟨b, dxb, y, rfl, F3.ins mu3 hb' (by show (3 : Nat) ≠ 5; decide), hy'.fr F3 mu3⟩ .nil)
    · exact paired_mono (fun x s' k' => ShR.fr F2 mu (fun b hb => ni2 hb.2.2.1 hb.1) k') hold
  | way h0 h1 hc h4 h60 =>
    rename_i v k ss z e cs ws' c
    rcases hl with ⟨_, e'⟩ | ⟨xs0, ss0, s, a, dxs, pr, pw, rs, ws, rfl, e', hs, zr, zw, nrw, hpr, hpw, hrs, hws, hold⟩
    · exact absurd e' (by simp)
    obtain ⟨e1, e2⟩ := List.append_inj' e' rfl
    cases e2
    subst e1
    rw [szs_one, szS_wy] at h60
    have hd : H d = some (oDr A dx v ps pt (szs (ss ++ [⟨z, e, cs, ws'⟩]) : Nat) (k : Nat)) := hd
    rw [szs_one] at hd
    have hlw : ws.length = ws'.length := paired_len hws
    refine .inr (.inr (.inr ⟨rfl, c.1, c.2, dx, _, ps, pt, _, _, xs0, a, dxs, _, _, pr, pw, ws, rfl, hc, by omega, hd, hps, hpt, hs, hpw, by omega, fun b y H' F hd' hpw' hb' hy' => ?_⟩))
    have F2 : Fr [d, pw] H (upd H' d (oDr A dx v ps pt ((szs ss + szS ⟨z, e, cs, ws'⟩ : Nat) + (szO c.2 : Nat)) ((k : Nat) + 1))) := F.upd List.mem_cons_self _
    have mu := md (Mu.one hpw (.inl ⟨_, rfl⟩))
    have F3 : Fr [d] H' (upd H' d (oDr A dx v ps pt ((szs ss + szS ⟨z, e, cs, ws'⟩ : Nat) + (szO c.2 : Nat)) ((k : Nat) + 1))) := (Fr.of (Same.refl _)).upd (List.mem_singleton.mpr rfl) _
    have mu3 : Mu [d] H' := Mu.one hd' (.inr ⟨_, _, _, rfl, rfl⟩)
    refine ⟨dx, _, ps, pt, _, _, hd', dx, ps, pt, xs0 ++ [.ref a], fun b o hb => F2 _ _ (sH _ _ hb) (ni2 (ne_of_none hb d0) (ne_of_none hb zw.2.2.2)), d0, ps0, nst, ?_, F2 _ _ hps (ni2 npsd (Ne.symm zw.2.1)), F2 _ _ hpt (ni2 nptd (Ne.symm zw.2.2.1)), .inr ⟨xs0, ss, ⟨z, e, cs, ws' ++ [c]⟩, a, dxs, pr, pw, rs, ws ++ [.ref b], rfl, rfl, F2.ins mu hs (by show (4 : Nat) ≠ 5; decide), zr, zw, nrw, F2 _ _ hpr (ni2 zr.1 nrw), ?_, ?_, ?_, ?_⟩⟩
    · rw [upd_same, szs_one, szS_wy]
      have e3 : ((szs ss + (szS ⟨z, e, cs, ws'⟩ + szO c.2) : Nat) : Int) = ((szs ss + szS ⟨z, e, cs, ws'⟩ : Nat) : Int) + ((szO c.2 : Nat) : Int) := by omega
      rw [e3]; rfl
    · rw [upd_ne zw.1]; exact hpw'
    · exact paired_mono (fun _ _ k => k.fr F2 mu) hrs
    · exact paired_app (paired_mono (fun _ _ k => k.fr F2 mu) hws) (.cons ⟨b, y, rfl, F3.tup mu3 hb', hy'.fr F3 mu3⟩ .nil)
    · exact paired_mono (fun x s' k' => ShR.fr F2 mu (fun b hb => ni2 hb.2.2.1 hb.2.1) k') hold
end K23
set_option maxHeartbeats 4000000
namespace K23
open PySem L2
seal PE PT PW PA PS PSs PG PGs PI PO PSet OpR UnR CallR TruR IxR SlR PC PPs
local macro_rules | `(tactic| walk_at "rd1") => `(tactic| first
  | (refine And.intro rfl ?_)
  | (refine And.intro (by assumption) ?_)
  | (refine And.intro (fun _ e => e) ?_)
  | (refine And.intro (TyOf.str _) ?_) | (refine And.intro (TyOf.int _) ?_) | (refine And.intro (TyOf.bl _) ?_) | (refine And.intro TyOf.non ?_)
  | (refine iteT ?_) | (refine iteF ?_)
  | (apply Exists.intro))
local macro_rules | `(tactic| walk_at "rd") => `(tactic| repeat (walk_at "rd1"))

def spLine (A : Adr) : Sp := fun vs H Q _ => ∃ d f r H0 st st', vs = [.ref d, .str (S (ln f r))] ∧ Step st f r st' ∧ Dst A H0 d st H ∧ ∀ H', Dst A H0 d st' H' → Q .non H'
def Go : Stt → List (List Nat) → Stt → Prop
  | a, [], b => a = b
  | a, l :: r, b => ∃ f x c, l = ln f x ∧ Step a f x c ∧ Go c r b
theorem Go.app : ∀ {l1 l2 : List (List Nat)} {a b c : Stt}, Go a l1 b → Go b l2 c → Go a (l1 ++ l2) c
  | [], _, _, _, _, h, k => by
    have h : _ = _ := h
    rw [h]; exact k
  | _ :: _, _, _, _, _, ⟨f, x, c, e, h1, h2⟩, k => ⟨f, x, c, e, h1, Go.app h2 k⟩
theorem goC {v : V} {ss : List Sh} {z : Str} {e : Option Str} : ∀ {cs2 cs1 : List Ck} {k : Nat}, 0 < k → k + cs2.length ≤ 100 → (∀ c ∈ cs2, CkG c) → cs1.length + cs2.length ≤ 10 → szs (ss ++ [⟨z, e, cs1 ++ cs2, []⟩]) ≤ 60 → Go (v, k, ss ++ [⟨z, e, cs1, []⟩]) (cs2.map ckL) (v, k + cs2.length, ss ++ [⟨z, e, cs1 ++ cs2, []⟩])
  | [], cs1, k, _, _, _, _, _ => by
    show _ = _
    rw [List.append_nil]; rfl
  | c :: r, cs1, k, h0, h1, hc, h10, h60 => by
    rw [List.length_cons] at h1 h10
    have e1 : cs1 ++ c :: r = (cs1 ++ [c]) ++ r := by simp
    refine ⟨fm c.2.2, ckT c.1 c.2.1, _, rfl, .check (c := c) h0 (by omega) (hc c List.mem_cons_self) (by omega) ?_, ?_⟩
    · refine Nat.le_trans ?_ h60
      rw [szs_one, szs_one, e1]
      unfold szS
      dsimp only
      rw [List.map_append (l₂ := r), List.sum_append]
      omega
    · rw [e1] at h60 ⊢
      rw [List.length_cons, show k + (r.length + 1) = (k + 1) + r.length by omega]
      exact goC (by omega) (by omega) (fun x hx => hc x (List.mem_cons_of_mem _ hx)) (by rw [List.length_append]; show cs1.length + 1 + r.length ≤ 10; omega) h60
theorem goW {v : V} {ss : List Sh} {z : Str} {e : Option Str} {cs : List Ck} : ∀ {w2 w1 : List Wy} {k : Nat}, 0 < k → k + w2.length ≤ 100 → (∀ c ∈ w2, WyG c) → w1.length + w2.length ≤ 4 → szs (ss ++ [⟨z, e, cs, w1 ++ w2⟩]) ≤ 60 → Go (v, k, ss ++ [⟨z, e, cs, w1⟩]) (w2.map wyL) (v, k + w2.length, ss ++ [⟨z, e, cs, w1 ++ w2⟩])
  | [], w1, k, _, _, _, _, _ => by
    show _ = _
    rw [List.append_nil]; rfl
  | c :: r, w1, k, h0, h1, hc, h10, h60 => by
    rw [List.length_cons] at h1 h10
    have e1 : w1 ++ c :: r = (w1 ++ [c]) ++ r := by simp
    refine ⟨"way", wyT c.1 c.2, _, rfl, .way (c := c) h0 (by omega) (hc c List.mem_cons_self) (by omega) ?_, ?_⟩
    · refine Nat.le_trans ?_ h60
      rw [szs_one, szs_one, e1]
      unfold szS
      dsimp only
      rw [List.map_append (l₂ := r), List.sum_append]
      omega
    · rw [e1] at h60 ⊢
      rw [List.length_cons, show k + (r.length + 1) = (k + 1) + r.length by omega]
      exact goW (by omega) (by omega) (fun x hx => hc x (List.mem_cons_of_mem _ hx)) (by rw [List.length_append]; show w1.length + 1 + r.length ≤ 4; omega) h60
theorem goS {v : V} {ss : List Sh} {s : Sh} {k : Nat} (g : ShG s) (h0 : 0 < k) (h1 : k + ct s ≤ 100) (h12 : ss.length < 12) (h60 : szs ss + szS s ≤ 60) : Go (v, k, ss) (linesS s) (v, k + ct s, ss ++ [s]) := by
  obtain ⟨z, e, cs, ws⟩ := s
  have h1 : k + (1 + (cs.length + ws.length)) ≤ 100 := h1
  have c3 : cs.length ≤ 3 := g.c3
  have w4 : ws.length ≤ 4 := g.w4
  refine ⟨"sheet", shT z e, _, rfl, .sheet h0 (by omega) h12 g.nm g.ea, ?_⟩
  have a := goC (v := v) (ss := ss) (z := z) (e := e) (cs2 := cs) (cs1 := []) (k := k + 1) (by omega) (by omega) g.cs (by show 0 + cs.length ≤ 10; omega) (by
    rw [szs_one]; refine Nat.le_trans ?_ h60; unfold szS; dsimp only; rw [List.nil_append, List.map_nil (f := fun c : Wy => szO c.2), List.sum_nil]; omega)
  have b := goW (v := v) (ss := ss) (z := z) (e := e) (cs := cs) (w2 := ws) (w1 := []) (k := k + 1 + cs.length) (by omega) (by omega) g.ws (by show 0 + ws.length ≤ 4; omega) (by rw [szs_one]; exact h60)
  have e3 : k + ct ⟨z, e, cs, ws⟩ = k + 1 + cs.length + ws.length := by show k + (1 + (cs.length + ws.length)) = _; omega
  rw [e3]
  exact Go.app a b
theorem szS_le {s : Sh} (g : ShG s) : szS s ≤ 14 := by
  have key : ∀ {l : List Nat} {n : Nat}, (∀ x ∈ l, x ≤ 2) → l.length ≤ n → l.sum ≤ 2 * n := by
    intro l
    induction l with
    | nil => intro n _ _; exact Nat.zero_le _
    | cons x r ih =>
      intro n h hn
      have h1 := h x List.mem_cons_self
      rw [List.length_cons] at hn
      have h2 := ih (n := n - 1) (fun y hy => h y (List.mem_cons_of_mem _ hy)) (by omega)
      rw [List.sum_cons]; omega
  have a := key (l := s.cs.map fun c => c.2.1.size) (n := 3) (fun x hx => by obtain ⟨c, hc, rfl⟩ := List.mem_map.mp hx; exact (g.cs c hc).2.2.2) (by rw [List.length_map]; exact g.c3)
  have b := key (l := s.ws.map fun c => szO c.2) (n := 4) (fun x hx => by
    obtain ⟨c, hc, rfl⟩ := List.mem_map.mp hx
    cases h : c.2 with
    | none => exact Nat.zero_le _
    | some t => exact ((g.ws c hc).2 t h).2.2) (by rw [List.length_map]; exact g.w4)
  unfold szS; omega
theorem goSs {v : V} : ∀ {s2 s1 : List Sh} {k : Nat}, 0 < k → k + 8 * s2.length ≤ 100 → (∀ s ∈ s2, ShG s) → s1.length + s2.length ≤ 4 → szs s1 ≤ 14 * s1.length → Go (v, k, s1) ((s2.map linesS).flatten) (v, k + cts s2, s1 ++ s2)
  | [], s1, k, _, _, _, _, _ => by
    show _ = _
    rw [List.append_nil]; rfl
  | s :: r, s1, k, h0, h1, g, h4, hz => by
    rw [List.length_cons] at h1 h4
    have gs := g s List.mem_cons_self
    have a := szS_le gs
    have c8 : ct s ≤ 8 := by have := gs.c3; have := gs.w4; unfold ct; omega
    rw [List.map_cons, List.flatten_cons, show s1 ++ s :: r = (s1 ++ [s]) ++ r by simp, show k + cts (s :: r) = k + ct s + cts r by unfold cts; rw [List.map_cons, List.sum_cons]; omega]
    refine Go.app (goS gs h0 (by omega) (by omega) (by omega)) (goSs (by omega) (by omega) (fun x hx => g x (List.mem_cons_of_mem _ hx)) (by rw [List.length_append]; show s1.length + 1 + r.length ≤ 4; omega) ?_)
    rw [szs_one, List.length_append]; show _ ≤ 14 * (s1.length + 1); omega
theorem goP {z : Str} {ss : List Sh} (g : PpG z ss) : ∃ k, Go (.non, 0, []) (linesP z ss) (.str z, k, ss) :=
  ⟨1 + cts ss, "paper", cd z, _, rfl, .paper g.1, goSs (by decide) (by have := g.2.2; omega) g.2.1 (by have := g.2.2; show 0 + ss.length ≤ 4; omega) (Nat.zero_le _)⟩
def spRead (A : Adr) : Sp := fun vs H Q _ => ∃ z ss, vs = [.str (S (joinL [10] (linesP z ss)))] ∧ PpG z ss ∧ ss ≠ [] ∧ ∀ x H', Same H H' → PapR A H' x z ss → Q x H'
section
variable {P : Program} {w : World} {K : PySem.W.Frag} {mg : Str → Option Value} {base : Heap} {A : Adr}
theorem ok_row (T : Txt K mg A) : FnOk P w K mg base CX0 29 A.f_c_Draft_take_row A.d_c_Draft_take_row ["self", "first", "rest"] (spRow A) := by
  refine T.F_c_Draft_take_row.ok sc_c_Draft_take_row (fun vs H Q E h => ?_) (fun cdv A0 outer s H vs Q E hr h => ?_)
  · obtain ⟨d, dx, nm, ps, pt, n, k, f, r, rfl, _⟩ := h
    rfl
  obtain ⟨d, dx, nm, ps, pt, n, k, f, r, rfl, hd, hk100, hfk, q⟩ := h
  obtain ⟨kdemd, hk⟩ : ∃ k : Nat, k = 1 := ⟨_, rfl⟩
  obtain ⟨ktakr, hk1⟩ : ∃ k : Nat, k = 2 := ⟨_, rfl⟩
  obtain ⟨ktakt, hk2⟩ : ∃ k : Nat, k = 3 := ⟨_, rfl⟩
  obtain ⟨ktakk, hk3⟩ : ∃ k : Nat, k = 27 := ⟨_, rfl⟩
  obtain ⟨ktaky, hk4⟩ : ∃ k : Nat, k = 28 := ⟨_, rfl⟩
  refine ⟨_, (pss_cons (ps_expr (pe_methG (CX := CX0) (k := kdemd) (hr.mono (by first | decide | omega)) pass0 (pv 0) (pa_cons (pe_cmpR op_lt (pe_fld (pv 0) rfl) (pe_gv rfl T.g_MOST_ROWS) (nomark _)) pa_nil)))
      (pss_cons (ps_expr (pe_methG (CX := CX0) (k := kdemd) (hr.mono (by first | decide | omega)) pass0 (pv 0) (pa_cons (pe_cmpR op_eq (pe_cmpR op_eq (pv 1) pe_str (nomark _)) (pe_cmpR op_eq (pe_fld (pv 0) rfl) pe_int (nomark _)) (nomark _)) pa_nil)))
      (pss_one (ps_if (pt_cmpR op_eq (pv 1) pe_str (nomark _)) (pss_one (ps_expr (pe_methG (CX := CX0) (k := ktakr) (hr.mono (by first | decide | omega)) pass0 (pv 0) (pa_cons (pv 2) pa_nil)))) (pss_one (ps_if (pt_cmpR op_eq (pv 1) pe_str (nomark _)) (pss_one (ps_expr (pe_methG (CX := CX0) (k := ktakt) (hr.mono (by first | decide | omega)) pass0 (pv 0) (pa_cons (pv 2) pa_nil)))) (pss_one (ps_if (pt_cmpR op_eq (pv 1) pe_str (nomark _)) (pss_one (ps_expr pe_no)) (pss_one (ps_if (PW.pt (pw_or (pt_cmpR op_eq (pv 1) pe_str (nomark _)) (pw_or1 (pt_cmpR op_eq (pv 1) pe_str (nomark _))))) (pss_one (ps_expr (pe_methG (CX := CX0) (k := ktakk) (hr.mono (by first | decide | omega)) pass0 (pv 0) (pa_cons (pv 2) (pa_cons (pe_cmpR op_eq (pv 1) pe_str (nomark _)) pa_nil))))) (pss_one (ps_if (pt_cmpR op_eq (pv 1) pe_str (nomark _)) (pss_one (ps_expr (pe_methG (CX := CX0) (k := ktaky) (hr.mono (by first | decide | omega)) pass0 (pv 0) (pa_cons (pv 2) pa_nil)))) (pss_cons (ps_expr (pe_methG (CX := CX0) (k := kdemd) (hr.mono (by first | decide | omega)) pass0 (pv 0) (pa_cons (pe_cmpR op_eq (pv 1) pe_str (nomark _)) pa_nil)))
      (pss_one (ps_expr pe_no))))))))))))))), ?_⟩
  subst hk hk1 hk2 hk3 hk4
  refine ⟨_, rfl, d, _, dx, _, mjDem T, rfl, hd, rfl, ?_⟩
  refine ⟨_, rfl, d, _, dx, _, _, rfl, hd, T.cl_Draft, T.no_Draft_place, rfl, _, _, rfl, rfl, _, _, rfl, decide_eq_true hk100, ?_⟩
  refine ⟨_, rfl, d, _, dx, _, mjDem T, rfl, hd, rfl, ?_⟩
  refine ⟨_, rfl, rfl, _, rfl, d, _, dx, _, _, rfl, hd, T.cl_Draft, T.no_Draft_place, rfl, rfl, rfl, _, _, rfl, pl_ok hfk, ?_⟩
  rcases q with ⟨rfl, q⟩ | ⟨rfl, q⟩ | ⟨b, rfl, q⟩ | ⟨rfl, q⟩
  · refine ⟨_, rfl, rfl, _, rfl, eqS rfl ?_⟩
    exact ⟨_, rfl, d, _, dx, _, mjTP T, rfl, hd, rfl, _, rfl, d, r, rfl, q⟩
  · refine ⟨_, rfl, rfl, _, rfl, neS (by decide +kernel) ⟨_, rfl, rfl, _, rfl, eqS rfl ?_⟩⟩
    exact ⟨_, rfl, d, _, dx, _, mjTSh T, rfl, hd, rfl, _, rfl, d, r, rfl, q⟩
  · refine ⟨_, rfl, rfl, _, rfl, neS (by cases b <;> decide +kernel) ⟨_, rfl, rfl, _, rfl, neS (by cases b <;> decide +kernel) ⟨_, rfl, rfl, _, rfl, neS (by cases b <;> decide +kernel) ⟨_, rfl, rfl, _, rfl, ?_⟩⟩⟩⟩
    cases b with
    | true =>
      refine eqS (by decide +kernel) ⟨_, rfl, d, _, dx, _, mjTC T, rfl, hd, rfl, _, rfl, _, rfl, rfl, d, r, _, rfl, ?_⟩
      rw [show decide (V.str (fm true) = V.str (Str.ofString "refuse")) = true by decide +kernel]
      exact q
    | false =>
      refine neS (by decide +kernel) ⟨_, rfl, rfl, _, rfl, eqS (by decide +kernel) ⟨_, rfl, d, _, dx, _, mjTC T, rfl, hd, rfl, _, rfl, _, rfl, rfl, d, r, _, rfl, ?_⟩⟩
      rw [show decide (V.str (fm false) = V.str (Str.ofString "refuse")) = false by decide +kernel]
      exact q
  · refine ⟨_, rfl, rfl, _, rfl, neS (by decide +kernel) ⟨_, rfl, rfl, _, rfl, neS (by decide +kernel) ⟨_, rfl, rfl, _, rfl, neS (by decide +kernel) ?_⟩⟩⟩
    refine ⟨_, rfl, rfl, _, rfl, neS (by decide +kernel) ⟨_, rfl, rfl, _, rfl, neS (by decide +kernel) ?_⟩⟩
    refine ⟨_, rfl, rfl, _, rfl, eqS rfl ?_⟩
    exact ⟨_, rfl, d, _, dx, _, mjTW T, rfl, hd, rfl, _, rfl, d, r, rfl, q⟩
def mjRow (T : Txt K mg A) : MethJ P w K mg base CX0 29 A.c_Draft "take_row" := ⟨A.f_c_Draft_take_row, A.d_c_Draft_take_row, ["self", "first", "rest"], spRow A, [], [], T.cl_Draft, T.me_Draft_take_row, ok_row T, T.b_c_Draft_take_row, .nil⟩
theorem ok_line (T : Txt K mg A) : FnOk P w K mg base CX0 30 A.f_c_Draft_take_line A.d_c_Draft_take_line ["self", "line"] (spLine A) := by
  refine T.F_c_Draft_take_line.ok sc_c_Draft_take_line (fun vs H Q E h => ?_) (fun cdv A0 outer s H vs Q E hr h => ?_)
  · obtain ⟨d, f, r, _, _, _, rfl, _⟩ := h
    rfl
  obtain ⟨d, f, r, H0, st, st', rfl, hst, hD, q⟩ := h
  obtain ⟨ktakw, hk⟩ : ∃ k : Nat, k = 29 := ⟨_, rfl⟩
  refine ⟨_, (pss_cons (ps_set (i := 2) sc_c_Draft_take_line.nd rfl (by first | exact Or.inl rfl | exact Or.inr rfl) (pe_bm PySem.F.plainAttrs_str PySem.F.slot_str_partition PySem.F.type_str_partition mt_partition (pv 1) (pa_cons pe_str pa_nil)))
      (pss_cons (ps_tryN (fun _ _ h => h) (pss_one (ps_expr (pe_methG (CX := CX0) (k := ktakw) (hr.mono (by first | decide | omega)) pass0 (pv 0) (pa_cons (pe_ix ix_tup (pv 2) pe_int (fun _ _ => rfl)) (pa_cons (pe_ix ix_tup (pv 2) pe_int (fun _ _ => rfl)) pa_nil))))))
      (pss_one (ps_fldaug (pv 0) pe_int in_add)))), ?_⟩
  subst hk
  obtain ⟨f1, f2, f3, f4⟩ := hst.f
  refine ⟨_, rfl, rfl, _, _, rfl, rfl, (by decide +kernel), f2, fun p hp => ?_⟩
  rw [pt_ln f1]
  have s1 := same_new hp (.tup [.str f, .str (Str.ofString " "), .str (S r)])
  have hp1 : (upd H p (.tup [.str f, .str (Str.ofString " "), .str (S r)])) p = some (.tup [.str f, .str (Str.ofString " "), .str (S r)]) := upd_same
  dsimp only
  generalize upd H p (.tup [.str f, .str (Str.ofString " "), .str (S r)]) = H1 at s1 hp1
  have a0 : atI [V.str f, .str (Str.ofString " "), .str (S r)] ((0 : Nat) : Int) = some (V.str f) := atI_nat rfl
  have a2 : atI [V.str f, .str (Str.ofString " "), .str (S r)] ((2 : Nat) : Int) = some (V.str (S r)) := atI_nat rfl
  have hD1 := hD.same s1
  have hst' := step_ok hst hD1
  obtain ⟨dx, ps, pt, xs, _, _, _, _, hd, _⟩ := hD1
  refine ⟨_, rfl, d, _, dx, _, mjRow T, rfl, hd, rfl, ?_⟩
  refine ⟨_, rfl, p, _, _, _, rfl, rfl, SqT.of hp1, a0, _, rfl, p, _, _, _, rfl, rfl, SqT.of hp1, a2, ?_⟩
  refine ⟨d, dx, _, ps, pt, _, _, f, S r, rfl, hd, by omega, f4, hst'.imp fun H2 h2 => ?_⟩
  obtain ⟨dx2, nm, ps2, pt2, n, k, hd2, hD2⟩ := h2
  exact ⟨_, rfl, d, _, dx2, _, _, rfl, hd2, T.cl_Draft, T.no_Draft_place, rfl, _, _, rfl, rfl, dx2, _, hd2, (by show 5 < 1000; decide), q _ hD2⟩
def mjLine (T : Txt K mg A) : MethJ P w K mg base CX0 30 A.c_Draft "take_line" := ⟨A.f_c_Draft_take_line, A.d_c_Draft_take_line, ["self", "line"], spLine A, [], [], T.cl_Draft, T.me_Draft_take_line, ok_line T, T.b_c_Draft_take_line, .nil⟩
theorem ok_read (T : Txt K mg A) : FnOk P w K mg base CX0 32 A.f_read_paper A.d_read_paper ["text"] (spRead A) := by
  have G_c_Draft___init := ok_dr_init (P := P) (w := w) (base := base) T
  have G_c_Paper___init := ok_paper_init (P := P) (w := w) (base := base) T
  refine T.F_read_paper.ok sc_read_paper (fun vs H Q E h => ?_) (fun cdv A0 outer s H vs' Q E hr h => ?_)
  · obtain ⟨z, ss, rfl, _⟩ := h
    rfl
  obtain ⟨z, ss, rfl, g, gne, q⟩ := h
  obtain ⟨kdemd, hk⟩ : ∃ k : Nat, k = 1 := ⟨_, rfl⟩
  obtain ⟨ktake, hk2⟩ : ∃ k : Nat, k = 30 := ⟨_, rfl⟩
  refine ⟨_, (pss_cons (ps_if (pt_not (pt_val (pe_callB call_isi (by rfl) T.n_isinstance Bt.isinstance (pa_cons (pv 0) (pa_cons (pe_bltn (v := .ty "str") rfl T.n_str Bt.str rfl) pa_nil))))) (pss_one ps_no) pss_nil)
      (pss_cons (ps_set (i := 1) sc_read_paper.nd rfl (by first | exact Or.inl rfl | exact Or.inr rfl) (pe_make0 T.mk_Draft G_c_Draft___init (hr.mono (by first | decide | omega)) rfl T.m_Draft T.b_c_Draft___init .nil pass0))
      (pss_cons (ps_forR PassesOwn.never rfl (pi_list (pe_bm PySem.F.plainAttrs_str PySem.F.slot_str_split PySem.F.type_str_split mt_split (pv 0) (pa_cons pe_str pa_nil))) (pg_name (i := 2) sc_read_paper.nd rfl (by first | exact Or.inl rfl | exact Or.inr rfl)) (pss_one (ps_expr (pe_methG (CX := CX0) (k := ktake) (hr.mono (by first | decide | omega)) pass0 (pv 1) (pa_cons (pv 2) pa_nil)))))
      (pss_cons (ps_expr (pe_methG (CX := CX0) (k := kdemd) (hr.mono (by first | decide | omega)) pass0 (pv 1) (pa_cons (pe_cmpR op_gt (pe_callB call_len_seq (by rfl) T.n_len PySem.boot_len (pa_cons (pe_fld (pv 1) rfl) pa_nil)) pe_int (nomark _)) pa_nil)))
      (pss_one (ps_ret (pe_make T.mk_Paper G_c_Paper___init (hr.mono (by first | decide | omega)) rfl T.m_Paper T.b_c_Paper___init .nil pass0 (pa_cons (pe_fld (pv 1) rfl) (pa_cons (pe_fld (pv 1) rfl) (pa_cons (pe_fld (pv 1) rfl) pa_nil)))))))))), ?_⟩
  subst hk hk2
  obtain ⟨kend, hgo⟩ := goP g
  refine ⟨_, rfl, _, _, _, _, rfl, rfl, .old (.str _), T.i_str_str, _, rfl, iteF ?_⟩
  intro d dx nx nd ne
  refine ⟨d, dx, rfl, upd_same, fun ps pt H1 nst ps0 pt0 F1 hd hps hpt => ⟨rfl, ?_⟩⟩
  obtain ⟨nps1, ps1⟩ := upd_none ps0
  obtain ⟨nps2, ps2⟩ := upd_none ps1
  have s1 : Same H H1 := fun b o hb => F1 _ _ (same_make nx nd _ _ _ hb) (ni1 (ne_of_none hb nx))
  refine ⟨_, rfl, rfl, _, _, rfl, rfl, (by decide +kernel), text_len g, fun l hl => ?_⟩
  rw [split_lines g, ← vs_strs]
  generalize hL : linesP z ss = L at *
  have s2 := same_new hl (.lst (wv L))
  refine ⟨l, rfl, ⟨_, SqL.of upd_same⟩, ?_⟩
  have hl0 : H l = none := same_none s1 hl
  have nld : l ≠ d := fun e => by rw [e, hd] at hl; cases hl
  have nls : l ≠ ps := fun e => by rw [e, hps] at hl; cases hl
  have sB : Same (upd H l (.lst (wv L))) (upd H1 l (.lst (wv L))) := fun b o hb => by
    by_cases e : b = l
    · rw [e, upd_same] at hb ⊢; exact hb
    · rw [upd_ne e] at hb ⊢; exact s1 _ _ hb
  have hB : (upd H l (.lst (wv L))) l = some (.lst (wv L)) := upd_same
  have sHB := same_new hl0 (.lst (wv L))
  refine for_listR (xs := wv L) (fun i σ H' => (∃ u, σ = [some (.str (S (joinL [10] L))), some (.ref d), u]) ∧ ∃ st, Go st (L.drop i) (.str z, kend, ss) ∧ Dst A (upd H l (.lst (wv L))) d st H') ⟨⟨_, rfl⟩, (.non, 0, []), hgo, ?_⟩ (fun i σ H' _ hh => ?_) (fun i x σ H' hx hh => ?_) (fun σ H' hh => ?_)
  · refine ⟨dx, ps, pt, [], sB, ?_, ?_, nst, s2 _ _ hd, s2 _ _ hps, s2 _ _ hpt, .inl ⟨rfl, rfl⟩⟩
    · rw [upd_ne (Ne.symm nld)]; exact nx
    · rw [upd_ne (Ne.symm nls)]; exact ps2
  · obtain ⟨_, st, _, _, _, _, _, sH, _⟩ := hh
    exact SqL.of (sH _ _ hB)
  · obtain ⟨⟨u, rfl⟩, st, hg, hD⟩ := hh
    obtain ⟨ll, hli, rfl⟩ := map_get hx
    have hlt := (List.getElem?_eq_some_iff.mp hli).1
    rw [List.drop_eq_getElem_cons hlt, (List.getElem?_eq_some_iff.mp hli).2] at hg
    obtain ⟨f, r, st', rfl, hs, hg'⟩ := hg
    obtain ⟨dx', ps', pt', _, _, _, _, _, hd', _⟩ := id hD
    exact ⟨_, rfl, d, _, dx', _, mjLine T, rfl, hd', rfl, _, rfl, d, f, r, _, st, st', rfl, hs, hD, fun H2 hD2 => ⟨⟨_, rfl⟩, st', hg', hD2⟩⟩
  · obtain ⟨⟨u, rfl⟩, st, hg, hD⟩ := hh
    rw [List.length_map, List.drop_length] at hg
    have hg : st = _ := hg
    subst hg
    obtain ⟨dx', ps', pt', xs, sH, d0, _, _, hd', hps', hpt', hla⟩ := hD
    have hall := hla.all
    have hlen : xs.length = ss.length := paired_len hall
    have hpos : 0 < ss.length := List.length_pos_iff.mpr gne
    refine ⟨_, rfl, d, _, dx', _, mjDem T, rfl, hd', rfl, _, rfl, d, _, dx', _, _, rfl, hd', T.cl_Draft, T.no_Draft_sheets, rfl, ps', _, rfl, .inl (SqL.of hps'), _, _, rfl, rfl, _, _, rfl, decide_eq_true (by omega), ?_⟩
    refine ⟨_, rfl, d, _, dx', _, _, rfl, hd', T.cl_Draft, T.no_Draft_name, rfl, _, rfl, d, _, dx', _, _, rfl, hd', T.cl_Draft, T.no_Draft_sheets, rfl, _, rfl, d, _, dx', _, _, rfl, hd', T.cl_Draft, T.no_Draft_totals, rfl, ?_⟩
    intro x dxp mx md me
    have sM := same_make mx md (.ins A.c_Paper dxp [])
    refine ⟨x, dxp, _, ps', pt', xs, rfl, upd_same, sM _ _ hps', sM _ _ hpt', fun q1 q2 H2 F hx2 hq1 hq2 => ⟨rfl, ?_⟩⟩
    have keep : Same H' H2 := fun b o h => F _ _ (sM _ _ h) (ni1 (ne_of_none h mx))
    exact q _ _ (fun b o hb => keep _ _ (sH _ _ (sHB _ _ hb))) ⟨x, dxp, q1, q2, xs, rfl, hx2, hq1, hq2, paired_mono (fun _ _ k => (k.mono fun _ _ _ _ => trivial).same keep) hall⟩
end
end K23
set_option maxHeartbeats 4000000
namespace K23
open PySem L2
seal PE PT PW PA PS PSs PG PGs PI PO PSet OpR UnR CallR TruR IxR SlR PC PPs
local macro_rules | `(tactic| walk_at "rd1") => `(tactic| first
  | (refine And.intro rfl ?_)
  | (refine And.intro (by assumption) ?_)
  | (refine And.intro (fun _ e => e) ?_)
  | (refine And.intro (TyOf.str _) ?_) | (refine And.intro (TyOf.int _) ?_) | (refine And.intro (TyOf.bl _) ?_) | (refine And.intro TyOf.non ?_)
  | (refine iteT ?_) | (refine iteF ?_)
  | (apply Exists.intro))
local macro_rules | `(tactic| walk_at "rd") => `(tactic| repeat (walk_at "rd1"))

def spAtm : Sp := fun vs H Q _ => ∃ c : Int, vs = [.int c] ∧ ∀ t H', t.Ok [] → t.depth = 1 → t.size = 1 → Same H H' → Q (.str (S (txL t))) H'
def spSay (n : Nat) : Sp := fun vs H Q _ => ∃ (c : Int) (d : Nat), vs = [.int c, .int (d : Nat)] ∧ d ≤ 1 ∧ d < n ∧ ∀ t H', t.Ok [] → t.depth ≤ d + 1 → t.size ≤ d + 1 → Same H H' → Q (.str (S (txL t))) H'
def ov : Option Tr → V
  | none => .non
  | some t => .str (S (txL t))
def LCk (H : Hp) (x : V) (c : Ck) : Prop := ∃ a, x = .ref a ∧ H a = some (.tup [.str c.1, .str (S (txL c.2.1)), .bl c.2.2])
def LWy (H : Hp) (x : V) (c : Wy) : Prop := ∃ a, x = .ref a ∧ H a = some (.tup [.str c.1, ov c.2])
theorem LCk.fr {M : List Addr} {H H' : Hp} (f : Fr M H H') (m : Mu M H) {x : V} {c : Ck} (h : LCk H x c) : LCk H' x c := let ⟨a, e, k⟩ := h; ⟨a, e, f.tup m k⟩
theorem LWy.fr {M : List Addr} {H H' : Hp} (f : Fr M H H') (m : Mu M H) {x : V} {c : Wy} (h : LWy H x c) : LWy H' x c := let ⟨a, e, k⟩ := h; ⟨a, e, f.tup m k⟩
def LSh (H : Hp) (x : V) (s : Sh) : Prop := ∃ a pc pw cs ws, x = .ref a ∧ H a = some (.tup [.str s.nm, eV s.ea, .ref pc, .ref pw]) ∧ H pc = some (.lst cs) ∧ H pw = some (.lst ws) ∧ Paired (LCk H) cs s.cs ∧ Paired (LWy H) ws s.ws
theorem LSh.same {H H' : Hp} (f : Same H H') {x : V} {s : Sh} (h : LSh H x s) : LSh H' x s := by
  obtain ⟨a, pc, pw, cs, ws, e, h1, h2, h3, h4, h5⟩ := h
  exact ⟨a, pc, pw, cs, ws, e, f _ _ h1, f _ _ h2, f _ _ h3, paired_mono (fun _ _ k => k.fr (Fr.of f) mu_nil) h4, paired_mono (fun _ _ k => k.fr (Fr.of f) mu_nil) h5⟩
def spSheet : Sp := fun vs H Q _ => ∃ c : Int, vs = [.int c] ∧ ∀ x s H', Same H H' → LSh H' x s → ShG s → Q x H'
theorem cmp_txt2 {n y h : Str} {m : Int} (e : cd y = cd (Str.ofString " ") ++ cd h ++ cd (Str.ofString " ")) : (n ++ y) ++ ((toString m : String) : Str) = S (txL (.cmp n h m)) := cd_inj (by
  rw [cd_app, cd_app, cd_str, cd_S, txL_cmp, e]
  simp only [List.append_assoc])
theorem two_txt2 {y : Str} {o : Bool} {s t : Tr} (e : cd y = cd (Str.ofString " ") ++ cd (hw o) ++ cd (Str.ofString " ")) : (((Str.ofString "( " ++ S (txL s)) ++ y) ++ S (txL t)) ++ Str.ofString " )" = S (txL (.two o s t)) := cd_inj (by
  rw [cd_app, cd_app, cd_app, cd_app, cd_S, cd_S, cd_S, txL_two, e]
  simp only [List.append_assoc])
theorem m3 (r : Int) : r % 3 = ((0 : Nat) : Int) ∨ r % 3 = ((1 : Nat) : Int) ∨ r % 3 = ((2 : Nat) : Int) := by omega
section
variable {P : Program} {w : World} {K : PySem.W.Frag} {mg : Str → Option Value} {base : Heap} {A : Adr}
theorem ok_law_atom (T : Txt K mg A) : FnOk P w K mg base CX0 3 A.f_law_atom A.d_law_atom ["_law_cell"] spAtm := by
  have G_law_name := ok_law_name (P := P) (w := w) (base := base) T
  have G_law_mixed := ok_law_mixed (P := P) (w := w) (base := base) T
  have G_law_number := ok_law_number (P := P) (w := w) (base := base) T
  refine T.F_law_atom.ok sc_law_atom (fun vs H Q E h => ?_) (fun cdv A0 outer s H vs Q E hr h => ?_)
  · obtain ⟨c, rfl, _⟩ := h
    rfl
  obtain ⟨c, rfl, q⟩ := h
  refine ⟨_, (pss_cons (ps_set (i := 1) sc_law_atom.nd rfl (by first | exact Or.inl rfl | exact Or.inr rfl) (pe_call G_law_name (hr.mono (by first | decide | omega)) rfl T.m_law_name T.k_law_name T.b_law_name .nil pass0 (pa_cons (pe_call G_law_mixed (hr.mono (by first | decide | omega)) rfl T.m_law_mixed T.k_law_mixed T.b_law_mixed .nil pass0 (pa_cons (pv 0) (pa_cons pe_int pa_nil))) pa_nil)))
      (pss_cons (ps_if (pt_cmpR op_eq (pe_op op_mod (pv 0) pe_int) pe_int (nomark _)) (pss_cons (ps_set (i := 2) sc_law_atom.nd rfl (by first | exact Or.inl rfl | exact Or.inr rfl) (pe_ix ix_list (pe_lst (pa_cons pe_str (pa_cons pe_str (pa_cons (pe_call G_law_name (hr.mono (by first | decide | omega)) rfl T.m_law_name T.k_law_name T.b_law_name .nil pass0 (pa_cons (pe_call G_law_mixed (hr.mono (by first | decide | omega)) rfl T.m_law_mixed T.k_law_mixed T.b_law_mixed .nil pass0 (pa_cons (pv 0) (pa_cons pe_int pa_nil))) pa_nil)) pa_nil)))) (pe_op op_mod (pe_call G_law_mixed (hr.mono (by first | decide | omega)) rfl T.m_law_mixed T.k_law_mixed T.b_law_mixed .nil pass0 (pa_cons (pv 0) (pa_cons pe_int pa_nil))) pe_int) (fun _ _ => rfl)))
      (pss_one (ps_ret (pe_op op_add_str (pe_op op_add_str (pv 1) pe_str) (pv 2))))) pss_nil)
      (pss_one (ps_ret (pe_op op_add_str (pe_op op_add_str (pv 1) (pe_ix ix_list (pe_lst (pa_cons pe_str (pa_cons pe_str (pa_cons pe_str pa_nil)))) (pe_op op_mod (pe_call G_law_mixed (hr.mono (by first | decide | omega)) rfl T.m_law_mixed T.k_law_mixed T.b_law_mixed .nil pass0 (pa_cons (pv 0) (pa_cons pe_int pa_nil))) pe_int) (fun _ _ => rfl))) (pe_callTy call_str_int (by rfl) T.n_str Bt.str (pa_cons (pe_call G_law_number (hr.mono (by first | decide | omega)) rfl T.m_law_number T.k_law_number T.b_law_number .nil pass0 (pa_cons (pe_call G_law_mixed (hr.mono (by first | decide | omega)) rfl T.m_law_mixed T.k_law_mixed T.b_law_mixed .nil pass0 (pa_cons (pv 0) (pa_cons pe_int pa_nil))) pa_nil)) pa_nil))))))), ?_⟩
  refine ⟨_, rfl, c, 4, rfl, by decide, by decide, fun r _ _ => ⟨r, rfl, fun z H1 hz s1 => ?_⟩⟩
  have lz := (name_fine hz).len
  refine ⟨_, rfl, _, _, rfl, rfl, (by show (0 : Int) < 2; decide), rfl, _, rfl, ite2 (fun _ => ?_) (fun _ => ?_)⟩
  · refine ⟨_, rfl, c, 5, rfl, by decide, by decide, fun r5 _ _ => ⟨r5, rfl, fun z2 H2 hz2 s2 => ⟨(by show 3 ≤ sizeLine; decide), fun p hp => ?_⟩⟩⟩
    have s3 := same_new hp (.lst [.str (Str.ofString "yes"), .str (Str.ofString "no"), .str z2])
    refine ⟨_, rfl, c, 6, rfl, by decide, by decide, fun r6 _ _ => ?_⟩
    obtain ⟨u, hu, hu2⟩ : ∃ u : Str, atI [V.str (Str.ofString "yes"), .str (Str.ofString "no"), .str z2] (r6 % 3) = some (.str u) ∧ nameB u = true := by
      rcases m3 r6 with e | e | e <;> rw [e]
      · exact ⟨_, atI_nat rfl, by decide +kernel⟩
      · exact ⟨_, atI_nat rfl, by decide +kernel⟩
      · exact ⟨_, atI_nat rfl, hz2⟩
    have lu := (name_fine hu2).len
    refine ⟨_, _, rfl, rfl, (by show (0 : Int) < 3; decide), p, _, _, _, rfl, rfl, SqL.of upd_same, hu, ?_⟩
    refine ⟨_, rfl, _, _, rfl, rfl, small_of (m := 100) (by rw [show (Str.ofString " is ").length = 4 by decide +kernel]; omega), _, rfl, _, _, rfl, rfl, small_of (m := 100) (by rw [len_app, show (Str.ofString " is ").length = 4 by decide +kernel]; omega), ?_⟩
    rw [is_txt]
    exact q (.is z (.str u)) _ ⟨hz, u, rfl, hu2⟩ rfl rfl (s1.trans (s2.trans s3))
  · refine ⟨_, rfl, (by show 3 ≤ sizeLine; decide), fun p hp => ⟨_, rfl, c, 6, rfl, by decide, by decide, fun r6 _ _ => ?_⟩⟩
    have s3 := same_new hp (.lst [.str (Str.ofString " < "), .str (Str.ofString " = "), .str (Str.ofString " > ")])
    obtain ⟨y, h, hy, hh, e⟩ : ∃ y h : Str, atI [V.str (Str.ofString " < "), .str (Str.ofString " = "), .str (Str.ofString " > ")] (r6 % 3) = some (.str y) ∧ (h = "<" ∨ h = "=" ∨ h = ">") ∧ cd y = cd (Str.ofString " ") ++ cd h ++ cd (Str.ofString " ") := by
      rcases m3 r6 with e | e | e <;> rw [e]
      · exact ⟨_, "<", atI_nat rfl, .inl rfl, by decide +kernel⟩
      · exact ⟨_, "=", atI_nat rfl, .inr (.inl rfl), by decide +kernel⟩
      · exact ⟨_, ">", atI_nat rfl, .inr (.inr rfl), by decide +kernel⟩
    have ly : y.length = 3 := by
      rw [len_cd, e, List.length_append, List.length_append, (how_cd hh).1]; decide +kernel
    refine ⟨_, _, rfl, rfl, (by show (0 : Int) < 3; decide), p, _, _, _, rfl, rfl, SqL.of upd_same, hy, _, _, rfl, rfl, small_of (m := 100) (by omega), ?_⟩
    refine ⟨_, rfl, c, 7, rfl, by decide, by decide, fun r7 r0 r1 => ⟨_, rfl, by omega, fun m hm => ⟨_, rfl, log_ok hm, _, _, rfl, rfl, small_of (m := 1000) ?_, ?_⟩⟩⟩
    · have := numL_len hm
      rw [len_app, len_cd (x := ((toString m : String) : Str)), cd_str]; omega
    · rw [cmp_txt2 e]
      exact q (.cmp z h m) _ ⟨hz, hh, hm⟩ rfl rfl (s1.trans s3)
theorem ok_law_saying (T : Txt K mg A) : ∀ n : Nat, FnOk P w K mg base CX0 (n + 4) A.f_law_saying A.d_law_saying ["_law_cell", "_law_deep"] (spSay n)
  | 0 => by
    have len : ∀ (vs : List V) (H : Hp) (Q : VK) (E : XK), spSay 0 vs H Q E → False := fun vs H Q E h => by
      obtain ⟨c, d, rfl, _, hd, _⟩ := h
      exact absurd hd (by omega)
    exact ⟨fun vs H Q E h => (len _ _ _ _ h).elim, fun _ _ _ _ _ _ _ _ _ _ _ _ _ h => (len _ _ _ _ h).elim⟩
  | n + 1 => by
    have G_law_saying := ok_law_saying T n
    have G_law_atom := ok_law_atom (P := P) (w := w) (base := base) T
    have G_law_mixed := ok_law_mixed (P := P) (w := w) (base := base) T
    refine T.F_law_saying.ok sc_law_saying (fun vs H Q E h => ?_) (fun cdv A0 outer s H vs Q E hr h => ?_)
    · obtain ⟨c, d, rfl, _⟩ := h
      rfl
    obtain ⟨c, d, rfl, d1, dn, q⟩ := h
    refine ⟨_, (pss_cons (ps_set (i := 2) sc_law_saying.nd rfl (by first | exact Or.inl rfl | exact Or.inr rfl) (pe_op op_mod (pv 0) pe_int))
      (pss_cons (ps_if (PW.pt (pw_or (pt_cmpR op_eq (pv 1) pe_int (nomark _)) (pw_or1 (pt_cmpR op_lt (pv 2) pe_int (nomark _))))) (pss_one (ps_ret (pe_call G_law_atom (hr.mono (by first | decide | omega)) rfl T.m_law_atom T.k_law_atom T.b_law_atom .nil pass0 (pa_cons (pv 0) pa_nil)))) pss_nil)
      (pss_cons (ps_set (i := 3) sc_law_saying.nd rfl (by first | exact Or.inl rfl | exact Or.inr rfl) (pe_call G_law_saying (hr.mono (by first | decide | omega)) rfl T.m_law_saying T.k_law_saying T.b_law_saying .nil pass0 (pa_cons (pe_call G_law_mixed (hr.mono (by first | decide | omega)) rfl T.m_law_mixed T.k_law_mixed T.b_law_mixed .nil pass0 (pa_cons (pv 0) (pa_cons pe_int pa_nil))) (pa_cons (pe_op op_sub (pv 1) pe_int) pa_nil))))
      (pss_cons (ps_if (pt_cmpR op_eq (pv 2) pe_int (nomark _)) (pss_one (ps_ret (pe_op op_add_str pe_str (pv 3)))) pss_nil)
      (pss_cons (ps_set (i := 4) sc_law_saying.nd rfl (by first | exact Or.inl rfl | exact Or.inr rfl) (pe_call G_law_saying (hr.mono (by first | decide | omega)) rfl T.m_law_saying T.k_law_saying T.b_law_saying .nil pass0 (pa_cons (pe_call G_law_mixed (hr.mono (by first | decide | omega)) rfl T.m_law_mixed T.k_law_mixed T.b_law_mixed .nil pass0 (pa_cons (pv 0) (pa_cons pe_int pa_nil))) (pa_cons (pe_op op_sub (pv 1) pe_int) pa_nil))))
      (pss_one (ps_ret (pe_op op_add_str (pe_op op_add_str (pe_op op_add_str (pe_op op_add_str pe_str (pv 3)) (pe_ix ix_list (pe_lst (pa_cons pe_str (pa_cons pe_str pa_nil))) (pe_op op_mod (pv 2) pe_int) (fun _ _ => rfl))) (pv 4)) pe_str)))))))), ?_⟩
    refine ⟨_, rfl, _, _, rfl, rfl, (by show (0 : Int) < 6; decide), ?_⟩
    have atom : ∀ t H', t.Ok [] → t.depth = 1 → t.size = 1 → Same H H' → Q (.str (S (txL t))) H' := fun t H' a b e f => q t H' a (by omega) (by omega) f
    refine ⟨_, rfl, rfl, _, rfl, ite2 (fun _ => ⟨_, rfl, c, rfl, atom⟩) (fun c0 => ⟨_, rfl, _, _, rfl, rfl, _, rfl, ite2 (fun _ => ⟨_, rfl, c, rfl, atom⟩) (fun c1 => ?_)⟩)⟩
    have hd : d = 1 := by
      rcases (by omega : d = 0 ∨ d = 1) with e | e
      · exact absurd (decide_eq_true (by rw [e]; rfl)) c0
      · exact e
    subst hd
    refine ⟨_, rfl, c, 8, rfl, by decide, by decide, fun r8 _ _ => ⟨_, rfl, _, _, rfl, rfl, r8, 0, rfl, by decide, by omega, fun t1 H1 o1 p1 z1 s1 => ?_⟩⟩
    have l1 : (txL t1).length ≤ 100 := by
      have := txL_len o1
      have h2 : t1.size * t1.depth ≤ 1 * 1 := Nat.mul_le_mul z1 p1
      omega
    refine ⟨_, rfl, rfl, _, rfl, ite2 (fun _ => ?_) (fun _ => ?_)⟩
    · refine ⟨_, rfl, _, _, rfl, rfl, small_of (m := 1000) (by rw [len_S, show (Str.ofString "not ").length = 4 by decide +kernel]; omega), ?_⟩
      rw [neg_txt]
      exact q (.neg t1) _ o1 (by show t1.depth + 1 ≤ 2; omega) (by show t1.size ≤ 2; omega) s1
    · refine ⟨_, rfl, c, 9, rfl, by decide, by decide, fun r9 _ _ => ⟨_, rfl, _, _, rfl, rfl, r9, 0, rfl, by decide, by omega, fun t2 H2 o2 p2 z2 s2 => ?_⟩⟩
      have l2 : (txL t2).length ≤ 100 := by
        have := txL_len o2
        have h2 : t2.size * t2.depth ≤ 1 * 1 := Nat.mul_le_mul z2 p2
        omega
      have k1 : (Str.ofString "( ").length = 2 := by decide +kernel
      have k2 : (Str.ofString " )").length = 2 := by decide +kernel
      obtain ⟨y, o, hy, e⟩ : ∃ (y : Str) (o : Bool), atI [V.str (Str.ofString " and "), .str (Str.ofString " or ")] (c % 6 % 2) = some (.str y) ∧ cd y = cd (Str.ofString " ") ++ cd (hw o) ++ cd (Str.ofString " ") := by
        rcases (by omega : c % 6 % 2 = ((0 : Nat) : Int) ∨ c % 6 % 2 = ((1 : Nat) : Int)) with e | e <;> rw [e]
        · exact ⟨_, false, atI_nat rfl, by decide +kernel⟩
        · exact ⟨_, true, atI_nat rfl, by decide +kernel⟩
      have ly : y.length ≤ 5 := by
        have := (hw_cd o).1
        rw [len_cd, e, List.length_append, List.length_append, show (cd (Str.ofString " ")).length = 1 by decide +kernel]; omega
      refine ⟨_, rfl, _, _, rfl, rfl, small_of (m := 1000) (by rw [len_S]; omega), (by show 2 ≤ sizeLine; decide), fun p hp => ⟨_, rfl, _, _, rfl, rfl, (by show (0 : Int) < 2; decide), p, _, _, _, rfl, rfl, SqL.of upd_same, hy, _, _, rfl, rfl, small_of (m := 1000) (by rw [len_app, len_S]; omega), _, rfl, _, _, rfl, rfl, small_of (m := 1000) (by rw [len_app, len_app, len_S, len_S]; omega), _, _, rfl, rfl, small_of (m := 1000) (by rw [len_app, len_app, len_app, len_S, len_S]; omega), ?_⟩⟩
      rw [two_txt2 e]
      exact q (.two o t1 t2) _ ⟨o1, o2⟩ (by show 1 + max t1.depth t2.depth ≤ 2; omega) (by show t1.size + t2.size ≤ 2; omega) (s1.trans (s2.trans (same_new hp _)))
theorem ok_law_sheet (T : Txt K mg A) : FnOk P w K mg base CX0 7 A.f_law_sheet A.d_law_sheet ["_law_cell"] spSheet := by
  have G_law_name := ok_law_name (P := P) (w := w) (base := base) T
  have G_law_mixed := ok_law_mixed (P := P) (w := w) (base := base) T
  have G_law_saying := ok_law_saying (P := P) (w := w) (base := base) T 2
  refine T.F_law_sheet.ok sc_law_sheet (fun vs H Q E h => ?_) (fun cdv A0 outer s H vs Q E hr h => ?_)
  · obtain ⟨c, rfl, _⟩ := h
    rfl
  obtain ⟨c, rfl, q⟩ := h
  refine ⟨_, (pss_cons (ps_set (i := 1) sc_law_sheet.nd rfl (by first | exact Or.inl rfl | exact Or.inr rfl) (pe_lst pa_nil))
      (pss_cons (ps_forR PassesOwn.never rfl (pi_range1 rfl T.n_range (pa_cons (pe_op op_mod (pe_op op_fdiv (pv 0) pe_int) pe_int) pa_nil)) (pg_name (i := 2) sc_law_sheet.nd rfl (by first | exact Or.inl rfl | exact Or.inr rfl)) (pss_cons (ps_set (i := 3) sc_law_sheet.nd rfl (by first | exact Or.inl rfl | exact Or.inr rfl) (pe_call G_law_mixed (hr.mono (by first | decide | omega)) rfl T.m_law_mixed T.k_law_mixed T.b_law_mixed .nil pass0 (pa_cons (pv 0) (pa_cons (pe_op op_add pe_int (pv 2)) pa_nil))))
      (pss_cons (ps_set (i := 4) sc_law_sheet.nd rfl (by first | exact Or.inl rfl | exact Or.inr rfl) pe_str)
      (pss_cons (ps_if (pt_cmpR op_gt (pe_op op_mod (pv 3) pe_int) pe_int (nomark _)) (pss_one (ps_set (i := 4) sc_law_sheet.nd rfl (by first | exact Or.inl rfl | exact Or.inr rfl) (pe_call G_law_name (hr.mono (by first | decide | omega)) rfl T.m_law_name T.k_law_name T.b_law_name .nil pass0 (pa_cons (pe_call G_law_mixed (hr.mono (by first | decide | omega)) rfl T.m_law_mixed T.k_law_mixed T.b_law_mixed .nil pass0 (pa_cons (pv 0) (pa_cons (pe_op op_add pe_int (pv 2)) pa_nil))) pa_nil)))) pss_nil)
      (pss_cons (ps_set (i := 5) sc_law_sheet.nd rfl (by first | exact Or.inl rfl | exact Or.inr rfl) pe_non)
      (pss_cons (ps_if (pt_cmpR op_eq (pe_op op_mod (pe_op op_fdiv (pv 3) pe_int) pe_int) pe_int (nomark _)) (pss_one (ps_set (i := 5) sc_law_sheet.nd rfl (by first | exact Or.inl rfl | exact Or.inr rfl) (pe_call G_law_saying (hr.mono (by first | decide | omega)) rfl T.m_law_saying T.k_law_saying T.b_law_saying .nil pass0 (pa_cons (pe_call G_law_mixed (hr.mono (by first | decide | omega)) rfl T.m_law_mixed T.k_law_mixed T.b_law_mixed .nil pass0 (pa_cons (pv 0) (pa_cons (pe_op op_add pe_int (pv 2)) pa_nil))) (pa_cons pe_int pa_nil))))) pss_nil)
      (pss_one (ps_expr (pe_bm PySem.F.plainAttrs_list PySem.F.slot_list_append PySem.F.type_list_append mt_append (pv 1) (pa_cons (pe_tup (pa_cons (pv 4) (pa_cons (pv 5) pa_nil))) pa_nil))))))))))
      (pss_cons (ps_set (i := 6) sc_law_sheet.nd rfl (by first | exact Or.inl rfl | exact Or.inr rfl) (pe_lst pa_nil))
      (pss_cons (ps_forR PassesOwn.never rfl (pi_range1 rfl T.n_range (pa_cons (pe_op op_mod (pv 0) pe_int) pa_nil)) (pg_name (i := 2) sc_law_sheet.nd rfl (by first | exact Or.inl rfl | exact Or.inr rfl)) (pss_cons (ps_set (i := 3) sc_law_sheet.nd rfl (by first | exact Or.inl rfl | exact Or.inr rfl) (pe_call G_law_mixed (hr.mono (by first | decide | omega)) rfl T.m_law_mixed T.k_law_mixed T.b_law_mixed .nil pass0 (pa_cons (pv 0) (pa_cons (pe_op op_add pe_int (pv 2)) pa_nil))))
      (pss_one (ps_expr (pe_bm PySem.F.plainAttrs_list PySem.F.slot_list_append PySem.F.type_list_append mt_append (pv 6) (pa_cons (pe_tup (pa_cons (pe_call G_law_name (hr.mono (by first | decide | omega)) rfl T.m_law_name T.k_law_name T.b_law_name .nil pass0 (pa_cons (pv 3) pa_nil)) (pa_cons (pe_call G_law_saying (hr.mono (by first | decide | omega)) rfl T.m_law_saying T.k_law_saying T.b_law_saying .nil pass0 (pa_cons (pe_call G_law_mixed (hr.mono (by first | decide | omega)) rfl T.m_law_mixed T.k_law_mixed T.b_law_mixed .nil pass0 (pa_cons (pv 0) (pa_cons (pe_op op_add pe_int (pv 2)) pa_nil))) (pa_cons pe_int pa_nil))) (pa_cons (pe_cmpR op_lt (pe_op op_mod (pv 3) pe_int) pe_int (nomark _)) pa_nil)))) pa_nil))))))
      (pss_cons (ps_set (i := 7) sc_law_sheet.nd rfl (by first | exact Or.inl rfl | exact Or.inr rfl) pe_non)
      (pss_cons (ps_if (pt_cmpR op_eq (pe_op op_mod (pe_op op_fdiv (pv 0) pe_int) pe_int) pe_int (nomark _)) (pss_one (ps_set (i := 7) sc_law_sheet.nd rfl (by first | exact Or.inl rfl | exact Or.inr rfl) (pe_call G_law_name (hr.mono (by first | decide | omega)) rfl T.m_law_name T.k_law_name T.b_law_name .nil pass0 (pa_cons (pe_call G_law_mixed (hr.mono (by first | decide | omega)) rfl T.m_law_mixed T.k_law_mixed T.b_law_mixed .nil pass0 (pa_cons (pv 0) (pa_cons pe_int pa_nil))) pa_nil)))) pss_nil)
      (pss_one (ps_ret (pe_tup (pa_cons (pe_call G_law_name (hr.mono (by first | decide | omega)) rfl T.m_law_name T.k_law_name T.b_law_name .nil pass0 (pa_cons (pe_call G_law_mixed (hr.mono (by first | decide | omega)) rfl T.m_law_mixed T.k_law_mixed T.b_law_mixed .nil pass0 (pa_cons (pv 0) (pa_cons pe_int pa_nil))) pa_nil)) (pa_cons (pv 7) (pa_cons (pv 6) (pa_cons (pv 1) pa_nil))))))))))))), ?_⟩
  refine ⟨(by show 0 ≤ sizeLine; decide), fun pw hpw => ?_⟩
  have m0 : 0 ≤ c / 4 % 5 := Int.emod_nonneg _ (by decide)
  have m1 : c / 4 % 5 < 5 := Int.emod_lt_of_pos _ (by decide)
  refine ⟨_, rfl, _, _, rfl, rfl, ⟨by decide, by decide⟩, _, _, rfl, rfl, (by show (0 : Int) < 5; decide), _, rfl, (by show (-2 ^ 62 : Int) ≤ c / 4 % 5; omega), (by show c / 4 % 5 < _; omega), ?_⟩
  obtain ⟨n, hn⟩ : ∃ n : Nat, (c / 4 % 5).toNat = n := ⟨_, rfl⟩
  dsimp only
  rw [hn]
  refine for_rangeR (n := n) (fun i σ H' => (∃ u1 u2 u3 u4, σ = [some (.int c), some (.ref pw), u1, u2, u3, u4, none, none]) ∧ Same H H' ∧ ∃ xs ws, H' pw = some (.lst xs) ∧ Paired (LWy H') xs ws ∧ ws.length = i ∧ ∀ w ∈ ws, WyG w) ⟨⟨_, _, _, _, rfl⟩, same_new hpw _, [], [], upd_same, .nil, rfl, fun w h => by cases h⟩ (fun i σ H' hi hh => ?_) (fun σ H' hh => ?_)
  · obtain ⟨⟨u1, u2, u3, u4, rfl⟩, sH, xs, ws, hx, hws, hil, hgd⟩ := hh
    refine ⟨_, rfl, _, rfl, _, _, rfl, rfl, c, 20 + (0 + (i : Nat)), rfl, by omega, by omega, fun o _ _ => ?_⟩
    dsimp only [gName]
    refine seq_mid (fun σ' H2 => H' = H2 ∧ σ' = [some (.int c), some (.ref pw), some (.int (0 + (i : Nat))), some (.int o), some (.str (Str.ofString "end")), u4, none, none]) ?k0 ?e0
    case e0 => intro key; exact key _ _ ⟨rfl, rfl⟩
    case k0 =>
    rintro σ' H2 ⟨rfl, rfl⟩
    refine seq_mid (fun σ' H2 => Same H' H2 ∧ ∃ z, tgB z ∧ σ' = [some (.int c), some (.ref pw), some (.int (0 + (i : Nat))), some (.int o), some (.str z), u4, none, none]) ?k1 ?e1
    case e1 =>
      intro key
      refine ⟨_, rfl, _, _, rfl, rfl, (by show (0 : Int) < 3; decide), _, _, rfl, rfl, _, rfl, ite2 (fun _ => ?_) (fun _ => key _ _ ⟨Same.refl _, _, .inl rfl, rfl⟩)⟩
      exact ⟨_, rfl, _, rfl, _, _, rfl, rfl, c, 30 + (0 + (i : Nat)), rfl, by omega, by omega, fun r _ _ => ⟨r, rfl, fun z H2 hz s2 => key _ _ ⟨s2, z, .inr hz, rfl⟩⟩⟩
    case k1 =>
    rintro σ' H2 ⟨s2, z, hz, rfl⟩
    refine seq_mid (fun σ' H3 => H2 = H3 ∧ σ' = [some (.int c), some (.ref pw), some (.int (0 + (i : Nat))), some (.int o), some (.str z), some .non, none, none]) ?k2 ?e2
    case e2 => intro key; exact key _ _ ⟨rfl, rfl⟩
    case k2 =>
    rintro σ' H3 ⟨rfl, rfl⟩
    refine seq_mid (fun σ' H3 => Same H2 H3 ∧ ∃ y : Option Tr, (∀ t, y = some t → GT t) ∧ σ' = [some (.int c), some (.ref pw), some (.int (0 + (i : Nat))), some (.int o), some (.str z), some (ov y), none, none]) ?k3 ?e3
    case e3 =>
      intro key
      refine ⟨_, rfl, _, _, rfl, rfl, ⟨by decide, by decide⟩, _, _, rfl, rfl, (by show (0 : Int) < 2; decide), rfl, _, rfl, ite2 (fun _ => ?_) (fun _ => key _ _ ⟨Same.refl _, none, (fun t e => by cases e), rfl⟩)⟩
      exact ⟨_, rfl, _, rfl, _, _, rfl, rfl, c, 40 + (0 + (i : Nat)), rfl, by omega, by omega, fun r _ _ => ⟨r, 1, rfl, by decide, by decide, fun t H3 o1 p1 z1 s3 => key _ _ ⟨s3, some t, (fun t' e => by cases e; exact ⟨o1, p1, z1⟩), rfl⟩⟩⟩
    case k3 =>
    rintro σ' H3 ⟨s3, y, hy, rfl⟩
    have s13 := s2.trans s3
    have hx3 := s13 _ _ hx
    refine ⟨_, rfl, Or.inl ⟨rfl, _, SqL.of hx3⟩, _, rfl, _, rfl, (by show 2 ≤ sizeLine; decide), fun t ht => ?_⟩
    have s4 := same_new ht (.tup [.str z, ov y])
    have hx4 := s4 _ _ hx3
    have F : Fr [pw] (upd H3 t (.tup [.str z, ov y])) (upd (upd H3 t (.tup [.str z, ov y])) pw (.lst (xs ++ [.ref t]))) := (Fr.of (Same.refl _)).upd (List.mem_singleton.mpr rfl) _
    have mu := Mu.one hx4 (.inl ⟨_, rfl⟩)
    refine ⟨pw, _, _, rfl, rfl, hx4, Nat.lt_of_lt_of_le (by rw [paired_len hws]; omega : xs.length < 100) (small_of (m := 100) (Nat.le_refl _)), ⟨_, _, _, _, rfl⟩, fun b o hb => ?_, xs ++ [.ref t], ws ++ [(z, y)], upd_same, ?_, ?_, ?_⟩
    · rw [upd_ne (ne_of_none hb hpw)]; exact (sH.trans (s13.trans s4)) _ _ hb
    · exact paired_app (paired_mono (fun _ _ k => (k.fr (Fr.of (s13.trans s4)) mu_nil).fr F mu) hws) (.cons ⟨t, rfl, F.tup mu upd_same⟩ .nil)
    · rw [List.length_append, hil]; rfl
    · intro w hw
      rcases List.mem_append.mp hw with e | e
      · exact hgd w e
      · rw [List.mem_singleton.mp e]; exact ⟨hz, hy⟩
  obtain ⟨⟨u1, u2, u3, u4, rfl⟩, sH, xs, ws, hx, hws, hil, hgd⟩ := hh
  refine ⟨(by show 0 ≤ sizeLine; decide), fun pc hpc => ?_⟩
  have npc : pc ≠ pw := fun e => by rw [e, hx] at hpc; cases hpc
  have spc := same_new hpc (.lst [])
  have m2 : 0 ≤ c % 4 := Int.emod_nonneg _ (by decide)
  have m3 : c % 4 < 4 := Int.emod_lt_of_pos _ (by decide)
  refine ⟨_, rfl, _, _, rfl, rfl, (by show (0 : Int) < 4; decide), _, rfl, (by show (-2 ^ 62 : Int) ≤ c % 4; omega), (by show c % 4 < _; omega), ?_⟩
  obtain ⟨n2, hn2⟩ : ∃ n : Nat, (c % 4).toNat = n := ⟨_, rfl⟩
  dsimp only
  rw [hn2]
  refine for_rangeR (n := n2) (fun i σ G => (∃ u1 u2, σ = [some (.int c), some (.ref pw), u1, u2, u3, u4, some (.ref pc), none]) ∧ Same H' G ∧ ∃ ys cs, G pc = some (.lst ys) ∧ Paired (LCk G) ys cs ∧ cs.length = i ∧ ∀ w ∈ cs, CkG w) ⟨⟨_, _, rfl⟩, spc, [], [], upd_same, .nil, rfl, fun w h => by cases h⟩ (fun i σ G hi hh => ?_) (fun σ G hh => ?_)
  · obtain ⟨⟨v1, v2, rfl⟩, sG, ys, cs, hy, hcs, hil2, hgd2⟩ := hh
    refine ⟨_, rfl, _, rfl, _, _, rfl, rfl, c, 50 + (0 + (i : Nat)), rfl, by omega, by omega, fun o _ _ => ?_⟩
    refine ⟨_, rfl, Or.inl ⟨rfl, _, SqL.of hy⟩, _, rfl, o, rfl, fun z G2 hz s2 => ?_⟩
    refine ⟨_, rfl, _, rfl, _, _, rfl, rfl, c, 60 + (0 + (i : Nat)), rfl, by omega, by omega, fun r _ _ => ⟨r, 1, rfl, by decide, by decide, fun t G3 o1 p1 z1 s3 => ?_⟩⟩
    refine ⟨_, rfl, _, _, rfl, rfl, (by show (0 : Int) < 5; decide), _, _, rfl, rfl, (by show 3 ≤ sizeLine; decide), fun a ha => ?_⟩
    have s4 := same_new ha (.tup [.str z, .str (S (txL t)), .bl (decide (o % 5 < 3))])
    have s24 := s2.trans (s3.trans s4)
    have hy4 := s24 _ _ hy
    have F : Fr [pc] (upd G3 a (.tup [.str z, .str (S (txL t)), .bl (decide (o % 5 < 3))])) (upd (upd G3 a (.tup [.str z, .str (S (txL t)), .bl (decide (o % 5 < 3))])) pc (.lst (ys ++ [.ref a]))) := (Fr.of (Same.refl _)).upd (List.mem_singleton.mpr rfl) _
    have mu := Mu.one hy4 (.inl ⟨_, rfl⟩)
    refine ⟨pc, _, _, rfl, rfl, hy4, Nat.lt_of_lt_of_le (by rw [paired_len hcs]; omega : ys.length < 100) (small_of (m := 100) (Nat.le_refl _)), ⟨_, _, rfl⟩, fun b o hb => ?_, ys ++ [.ref a], cs ++ [(z, t, decide (o % 5 < 3))], upd_same, ?_, ?_, ?_⟩
    · rw [upd_ne (ne_of_none hb hpc)]; exact (sG.trans s24) _ _ hb
    · exact paired_app (paired_mono (fun _ _ k => (k.fr (Fr.of s24) mu_nil).fr F mu) hcs) (.cons ⟨a, rfl, F.tup mu upd_same⟩ .nil)
    · rw [List.length_append, hil2]; rfl
    · intro w hw
      rcases List.mem_append.mp hw with e | e
      · exact hgd2 w e
      · rw [List.mem_singleton.mp e]; exact ⟨hz, o1, p1, z1⟩
  obtain ⟨⟨v1, v2, rfl⟩, sG, ys, cs, hy, hcs, hil2, hgd2⟩ := hh
  refine seq_mid (t := tAsg (tC V.non) (gName 7)) (fun σ' G2 => G = G2 ∧ σ' = [some (.int c), some (.ref pw), v1, v2, u3, u4, some (.ref pc), some .non]) ?k4 ?e4
  case e4 => intro key; exact key _ _ ⟨rfl, rfl⟩
  case k4 =>
  rintro σ' G2 ⟨rfl, rfl⟩
  dsimp only
  refine seq_mid (fun σ' G2 => Same G G2 ∧ ∃ e : Option Str, EaG e ∧ σ' = [some (.int c), some (.ref pw), v1, v2, u3, u4, some (.ref pc), some (eV e)]) ?k5 ?e5
  case e5 =>
    intro key
    refine ⟨_, rfl, _, _, rfl, rfl, ⟨by decide, by decide⟩, _, _, rfl, rfl, (by show (0 : Int) < 3; decide), rfl, _, rfl, ite2 (fun _ => ?_) (fun _ => key _ _ ⟨Same.refl _, none, (fun t e => by cases e), rfl⟩)⟩
    exact ⟨_, rfl, c, 12, rfl, by decide, by decide, fun r _ _ => ⟨r, rfl, fun z G2 hz s2 => key _ _ ⟨s2, some z, (fun t e => by cases e; exact hz), rfl⟩⟩⟩
  case k5 =>
  rintro σ' G2 ⟨s2, e, he, rfl⟩
  refine ⟨_, rfl, c, 13, rfl, by decide, by decide, fun r _ _ => ⟨r, rfl, fun z G3 hz s3 => ⟨_, rfl, _, rfl, _, rfl, (by show 4 ≤ sizeLine; decide), fun a ha => ?_⟩⟩⟩
  have s4 := same_new ha (.tup [.str z, eV e, .ref pc, .ref pw])
  have s24 := s2.trans (s3.trans s4)
  have sA := sG.trans s24
  exact q _ ⟨z, e, cs, ws⟩ _ (sH.trans sA) ⟨a, pc, pw, ys, xs, rfl, upd_same, s24 _ _ hy, sA _ _ hx, paired_mono (fun _ _ k => k.fr (Fr.of s24) mu_nil) hcs, paired_mono (fun _ _ k => k.fr (Fr.of sA) mu_nil) hws⟩ ⟨hz, he, hgd2, hgd, by show cs.length ≤ 3; omega, by show ws.length ≤ 4; omega⟩
end
end K23
set_option maxHeartbeats 4000000
namespace K23
open PySem L2
seal PE PT PW PA PS PSs PG PGs PI PO PSet OpR UnR CallR TruR IxR SlR PC PPs
local macro_rules | `(tactic| walk_at "rd1") => `(tactic| first
  | (refine And.intro rfl ?_)
  | (refine And.intro (by assumption) ?_)
  | (refine And.intro (fun _ e => e) ?_)
  | (refine And.intro (TyOf.str _) ?_) | (refine And.intro (TyOf.int _) ?_) | (refine And.intro (TyOf.bl _) ?_) | (refine And.intro TyOf.non ?_)
  | (refine iteT ?_) | (refine iteF ?_)
  | (apply Exists.intro))
local macro_rules | `(tactic| walk_at "rd") => `(tactic| repeat (walk_at "rd1"))

def spRows : Sp := fun vs H Q _ => ∃ x s, vs = [x] ∧ LSh H x s ∧ ShG s ∧ ∀ p H', Same H H' → H' p = some (.lst (wv (linesS s))) → Q (.ref p) H'
def spWF (A : Adr) : Sp := fun vs H Q _ => ∃ x y c, vs = [x, y] ∧ WyR A H x c ∧ LWy H y c ∧ WyG c ∧ Q (.bl true) H
def spSF (A : Adr) : Sp := fun vs H Q _ => ∃ x y s Z, vs = [x, y] ∧ ShR A Z H x s ∧ LSh H y s ∧ ShG s ∧ ∀ H', Same H H' → Q (.bl true) H'
def sp_law (K : PySem.W.Frag) : Sp := fun vs H Q _ => ∃ (a : Addr) (ns : List Int), vs = [.ref a] ∧ SqL K H a (ns.map V.int) ∧ ns.length ≤ 63 ∧ (∀ n ∈ ns, ib n ≤ 1048576) ∧ ∀ H', Q (.bl true) H'
theorem nd {v : V} : (!decide (v = v)) = false := by rw [decide_eq_true rfl]; rfl
theorem nl {a b : Nat} (h : a = b) : (!decide (V.int (a : Nat) = V.int (b : Nat))) = false := by rw [h]; exact nd
theorem wv_one (L : List (List Nat)) (l : List Nat) : wv L ++ [V.str (S l)] = wv (L ++ [l]) := by
  show List.map (fun l => V.str (S l)) L ++ _ = List.map (fun l => V.str (S l)) (L ++ [l])
  rw [List.map_append]; rfl
section
variable {P : Program} {w : World} {K : PySem.W.Frag} {mg : Str → Option Value} {base : Heap} {A : Adr}
theorem ok_law_rows (T : Txt K mg A) : FnOk P w K mg base CX0 1 A.f_law_sheet_rows A.d_law_sheet_rows ["_law_sheet_here"] spRows := by
  refine T.F_law_sheet_rows.ok sc_law_sheet_rows (fun vs H Q E h => ?_) (fun cdv A0 outer s H vs Q E hr h => ?_)
  · obtain ⟨x, s, rfl, _⟩ := h
    rfl
  obtain ⟨x, ⟨z, e, cs, ws⟩, rfl, ⟨a, pc, pw, cv, wv', rfl, ha, hpc, hpw, hcs, hws⟩, g, q⟩ := h
  refine ⟨_, (pss_cons (ps_set (i := 1) sc_law_sheet_rows.nd rfl (by first | exact Or.inl rfl | exact Or.inr rfl) (pe_lst (pa_cons (pe_op op_add_str pe_str (pe_ix ix_tup (pv 0) pe_int (fun _ _ => rfl))) pa_nil)))
      (pss_cons (ps_if (pt_cmpR op_notN (pe_ix ix_tup (pv 0) pe_int (fun _ _ => rfl)) pe_non (nomark _)) (pss_one (ps_set (i := 1) sc_law_sheet_rows.nd rfl (by first | exact Or.inl rfl | exact Or.inr rfl) (pe_lst (pa_cons (pe_op op_add_str (pe_op op_add_str (pe_op op_add_str pe_str (pe_ix ix_tup (pv 0) pe_int (fun _ _ => rfl))) pe_str) (pe_ix ix_tup (pv 0) pe_int (fun _ _ => rfl))) pa_nil)))) pss_nil)
      (pss_cons (ps_forR PassesOwn.never rfl (pi_list (pe_ix ix_tup (pv 0) pe_int (fun _ _ => rfl))) (pg_tup rfl (pgs_cons (pg_name (i := 2) sc_law_sheet_rows.nd rfl (by first | exact Or.inl rfl | exact Or.inr rfl)) (pgs_cons (pg_name (i := 3) sc_law_sheet_rows.nd rfl (by first | exact Or.inl rfl | exact Or.inr rfl)) (pgs_cons (pg_name (i := 4) sc_law_sheet_rows.nd rfl (by first | exact Or.inl rfl | exact Or.inr rfl)) pgs_nil)))) (pss_one (ps_expr (pe_bm PySem.F.plainAttrs_list PySem.F.slot_list_append PySem.F.type_list_append mt_append (pv 1) (pa_cons (pe_op op_add_str (pe_op op_add_str (pe_op op_add_str (pe_ix ix_list (pe_lst (pa_cons pe_str (pa_cons pe_str pa_nil))) (pe_callTy call_int1 (by rfl) T.n_int Bt.int (pa_cons (pv 4) pa_nil)) (fun _ _ => rfl)) (pv 2)) pe_str) (pv 3)) pa_nil)))))
      (pss_cons (ps_forR PassesOwn.never rfl (pi_list (pe_ix ix_tup (pv 0) pe_int (fun _ _ => rfl))) (pg_tup rfl (pgs_cons (pg_name (i := 5) sc_law_sheet_rows.nd rfl (by first | exact Or.inl rfl | exact Or.inr rfl)) (pgs_cons (pg_name (i := 3) sc_law_sheet_rows.nd rfl (by first | exact Or.inl rfl | exact Or.inr rfl)) pgs_nil))) (pss_one (ps_if (pt_cmpR op_isN (pv 3) pe_non (nomark _)) (pss_one (ps_expr (pe_bm PySem.F.plainAttrs_list PySem.F.slot_list_append PySem.F.type_list_append mt_append (pv 1) (pa_cons (pe_op op_add_str pe_str (pv 5)) pa_nil)))) (pss_one (ps_expr (pe_bm PySem.F.plainAttrs_list PySem.F.slot_list_append PySem.F.type_list_append mt_append (pv 1) (pa_cons (pe_op op_add_str (pe_op op_add_str (pe_op op_add_str pe_str (pv 5)) pe_str) (pv 3)) pa_nil)))))))
      (pss_one (ps_ret (pv 1))))))), ?_⟩
  have c3 : cs.length ≤ 3 := g.c3
  have w4 : ws.length ≤ 4 := g.w4
  have lz : z.length ≤ 12 := (name_fine g.nm).len
  have k6 : (Str.ofString "sheet ").length = 6 := by decide +kernel
  have a0 : atI [V.str z, eV e, .ref pc, .ref pw] ((0 : Nat) : Int) = some (V.str z) := atI_nat rfl
  have a1 : atI [V.str z, eV e, .ref pc, .ref pw] ((1 : Nat) : Int) = some (eV e) := atI_nat rfl
  have a2 : atI [V.str z, eV e, .ref pc, .ref pw] ((2 : Nat) : Int) = some (.ref pc) := atI_nat rfl
  have a3 : atI [V.str z, eV e, .ref pc, .ref pw] ((3 : Nat) : Int) = some (.ref pw) := atI_nat rfl
  refine ⟨_, rfl, a, _, _, _, rfl, rfl, SqT.of ha, a0, _, _, rfl, rfl, small_of (m := 100) (by omega), (by show 1 ≤ sizeLine; decide), fun p0 hp0 => ?_⟩
  have s0 := same_new hp0 (.lst [V.str (Str.ofString "sheet " ++ z)])
  dsimp only [gName]
  refine seq_mid (fun σ' H1 => ∃ p, σ' = [some (.ref a), some (.ref p), none, none, none, none] ∧ Same H H1 ∧ H p = none ∧ H1 p = some (.lst (wv [shL ⟨z, e, cs, ws⟩]))) ?k1 ?e1
  case e1 =>
    intro key
    refine ⟨_, rfl, a, _, _, _, rfl, rfl, SqT.of (s0 _ _ ha), a1, rfl, _, rfl, ?_⟩
    cases e with
    | none =>
      refine iteO (by show (!decide (V.non = V.non)) = false; exact nd) (key _ _ ⟨p0, rfl, s0, hp0, ?_⟩)
      have e := sh_txt ⟨z, none, cs, ws⟩
      have e : (Str.ofString "sheet " ++ z) ++ Str.ofString "" = S (shL ⟨z, none, cs, ws⟩) := e
      have e2 : (Str.ofString "sheet " ++ z) ++ Str.ofString "" = Str.ofString "sheet " ++ z := cd_inj (by rw [cd_app, show cd (Str.ofString "") = [] by decide +kernel, List.append_nil])
      rw [upd_same, ← e2, e]; rfl
    | some e =>
      have le : e.length ≤ 12 := (name_fine (g.ea e rfl)).len
      have k7 : (Str.ofString " each ").length = 6 := by decide +kernel
      refine iteB (by show (!decide (V.str e = V.non)) = true; rw [decide_eq_false (by intro z; cases z)]; rfl) ⟨_, rfl, a, _, _, _, rfl, rfl, SqT.of (s0 _ _ ha), a0, _, _, rfl, rfl, small_of (m := 100) (by omega), _, _, rfl, rfl, small_of (m := 100) (by rw [len_app]; omega), _, rfl, a, _, _, _, rfl, rfl, SqT.of (s0 _ _ ha), a1, _, _, rfl, rfl, small_of (m := 100) (by rw [len_app, len_app]; omega), (by show 1 ≤ sizeLine; decide), fun p1 hp1 => key _ _ ⟨p1, rfl, s0.trans (same_new hp1 _), same_none s0 hp1, ?_⟩⟩
      have e3 := sh_txt ⟨z, some e, cs, ws⟩
      have e4 : ((Str.ofString "sheet " ++ z) ++ Str.ofString " each ") ++ e = (Str.ofString "sheet " ++ z) ++ S (eaL (some e)) := cd_inj (by
        rw [cd_app, cd_app, cd_app (y := S (eaL (some e))), List.append_assoc]; rfl)
      rw [upd_same, e4, e3]; rfl
  case k1 =>
  rintro σ' H1 ⟨p, rfl, s1, hp, hp1⟩
  refine ⟨_, rfl, a, _, _, _, rfl, rfl, SqT.of (s1 _ _ ha), a2, pc, rfl, ⟨_, SqL.of (s1 _ _ hpc)⟩, ?_⟩
  refine for_listR (xs := cv) (fun i σ G => (∃ u1 u2 u3, σ = [some (.ref a), some (.ref p), u1, u2, u3, none]) ∧ Same H G ∧ G p = some (.lst (wv (shL ⟨z, e, cs, ws⟩ :: (cs.take i).map ckL)))) ⟨⟨_, _, _, rfl⟩, s1, hp1⟩ (fun i σ G _ hh => SqL.of (hh.2.1 _ _ hpc)) (fun i x σ G hx hh => ?_) (fun σ G hh => ?_)
  · obtain ⟨⟨u1, u2, u3, rfl⟩, sG, hpG⟩ := hh
    obtain ⟨⟨n, t, b⟩, hci, y, rfl, hy⟩ := paired_at hcs hx
    dsimp only at hy
    have gc := g.cs _ (List.mem_of_getElem? hci)
    have ln1 : n.length ≤ 12 := (name_fine gc.1).len
    have lt1 : (txL t).length ≤ 400 := gc.2.len
    refine ⟨y, _, rfl, SqT.of (sG _ _ hy), rfl, _, _, rfl, _, _, rfl, _, _, rfl, rfl, ?_⟩
    refine ⟨_, rfl, Or.inl ⟨rfl, _, SqL.of hpG⟩, (by show 2 ≤ sizeLine; decide), fun p2 hp2 => ?_⟩
    have s2 := same_new hp2 (.lst [V.str (Str.ofString "warn "), .str (Str.ofString "refuse ")])
    have hb : atI [V.str (Str.ofString "warn "), .str (Str.ofString "refuse ")] (if b = true then 1 else 0) = some (.str (if b = true then Str.ofString "refuse " else Str.ofString "warn ")) := by
      cases b with
      | true => exact atI_nat (xs := [V.str (Str.ofString "warn "), .str (Str.ofString "refuse ")]) (j := 1) rfl
      | false => exact atI_nat (xs := [V.str (Str.ofString "warn "), .str (Str.ofString "refuse ")]) (j := 0) rfl
    have l1 : (if b = true then Str.ofString "refuse " else Str.ofString "warn ").length ≤ 7 := by cases b <;> decide +kernel
    have l2 : (Str.ofString " unless ").length = 8 := by decide +kernel
    refine ⟨_, rfl, .inr ⟨_, rfl, p2, _, _, _, rfl, rfl, SqL.of upd_same, hb, ?_⟩⟩
    refine ⟨_, rfl, _, _, rfl, rfl, small_of (m := 100) (by omega), _, _, rfl, rfl, small_of (m := 100) (by rw [len_app]; omega), _, rfl, _, _, rfl, rfl, small_of (m := 1000) (by rw [len_app, len_app, len_S]; omega), ?_⟩
    rw [ck_txt]
    refine ⟨p, _, _, rfl, rfl, s2 _ _ hpG, ?_, ⟨_, _, _, rfl⟩, fun d o hd => ?_, ?_⟩
    · rw [List.length_map, List.length_cons, List.length_map, List.length_take]
      exact Nat.lt_of_lt_of_le (by omega : _ < 100) (small_of (m := 100) (Nat.le_refl _))
    · rw [upd_ne (ne_of_none hd hp)]; exact (sG.trans s2) _ _ hd
    · rw [upd_same, wv_one, List.cons_append, List.take_succ, hci, List.map_append]; rfl
  obtain ⟨⟨u1, u2, u3, rfl⟩, sG, hpG⟩ := hh
  rw [paired_len hcs, List.take_length] at hpG
  refine ⟨_, rfl, a, _, _, _, rfl, rfl, SqT.of (sG _ _ ha), a3, pw, rfl, ⟨_, SqL.of (sG _ _ hpw)⟩, ?_⟩
  refine for_listR (xs := wv') (fun i σ F => (∃ u1 u2 u3 u4, σ = [some (.ref a), some (.ref p), u1, u2, u3, u4]) ∧ Same H F ∧ F p = some (.lst (wv (shL ⟨z, e, cs, ws⟩ :: (cs.map ckL ++ (ws.take i).map wyL))))) ⟨⟨_, _, _, _, rfl⟩, sG, by rw [hpG, List.take_zero, List.map_nil (f := wyL), List.append_nil]⟩ (fun i σ F _ hh => SqL.of (hh.2.1 _ _ hpw)) (fun i x σ F hx hh => ?_) (fun σ F hh => ?_)
  · obtain ⟨⟨v1, v2, v3, v4, rfl⟩, sF, hpF⟩ := hh
    obtain ⟨⟨n, o⟩, hci, y, rfl, hy⟩ := paired_at hws hx
    dsimp only at hy
    have gc := g.ws _ (List.mem_of_getElem? hci)
    have ln1 : n.length ≤ 12 := (tg_let gc.1).1
    have lw : (whL o).length ≤ 406 := wh_len gc.2
    have k4 : (Str.ofString "way ").length = 4 := by decide +kernel
    have fin : ∀ v : Str, v = S (wyL (n, o)) → ∀ F2, Same F F2 → F2 p = some (.lst (wv (shL ⟨z, e, cs, ws⟩ :: (cs.map ckL ++ (ws.take i).map wyL)))) ∧ (wv (shL ⟨z, e, cs, ws⟩ :: (cs.map ckL ++ (ws.take i).map wyL))).length < sizeLine ∧ Same H (upd F2 p (.lst (wv (shL ⟨z, e, cs, ws⟩ :: (cs.map ckL ++ (ws.take i).map wyL)) ++ [V.str v]))) ∧ (upd F2 p (.lst (wv (shL ⟨z, e, cs, ws⟩ :: (cs.map ckL ++ (ws.take i).map wyL)) ++ [V.str v]))) p = some (.lst (wv (shL ⟨z, e, cs, ws⟩ :: (cs.map ckL ++ (ws.take (i + 1)).map wyL)))) := by
      intro v hv F2 s2
      refine ⟨s2 _ _ hpF, ?_, fun d o hd => ?_, ?_⟩
      · rw [List.length_map, List.length_cons, List.length_append, List.length_map, List.length_map, List.length_take]
        exact Nat.lt_of_lt_of_le (by omega : _ < 100) (small_of (m := 100) (Nat.le_refl _))
      · rw [upd_ne (ne_of_none hd hp)]; exact (sF.trans s2) _ _ hd
      · rw [upd_same, hv, wv_one, List.cons_append, List.append_assoc, List.take_succ, hci, List.map_append (l₁ := ws.take i)]; rfl
    refine ⟨y, _, rfl, SqT.of (sF _ _ hy), rfl, _, _, rfl, _, _, rfl, rfl, ?_⟩
    cases o with
    | none =>
      have e1 : Str.ofString "way " ++ n = S (wyL (n, none)) := by
        have e := wy_txt n none
        rw [← e]
        exact cd_inj (by rw [cd_app (x := Str.ofString "way " ++ n), cd_S]; show _ = _ ++ []; rw [List.append_nil])
      refine ⟨_, rfl, rfl, _, rfl, iteT ⟨_, rfl, Or.inl ⟨rfl, _, SqL.of hpF⟩, _, rfl, _, _, rfl, rfl, small_of (m := 100) (by omega), ?_⟩⟩
      obtain ⟨f1, f2, f3, f4⟩ := fin _ e1 F (Same.refl _)
      exact ⟨p, _, _, rfl, rfl, f1, f2, ⟨_, _, _, _, rfl⟩, f3, f4⟩
    | some t =>
      have k6' : (Str.ofString " when ").length = 6 := by decide +kernel
      have lt1 : (txL t).length ≤ 400 := (gc.2 t rfl).len
      have e1 : ((Str.ofString "way " ++ n) ++ Str.ofString " when ") ++ S (txL t) = S (wyL (n, some t)) := by
        rw [← wy_txt]
        exact cd_inj (by rw [cd_app, cd_app, cd_app (y := S (whL (some t))), List.append_assoc]; rfl)
      refine ⟨_, rfl, rfl, _, rfl, iteF ⟨_, rfl, Or.inl ⟨rfl, _, SqL.of hpF⟩, _, rfl, _, _, rfl, rfl, small_of (m := 100) (by omega), _, _, rfl, rfl, small_of (m := 100) (by rw [len_app]; omega), _, rfl, _, _, rfl, rfl, small_of (m := 1000) (by rw [len_app, len_app, len_S]; omega), ?_⟩⟩
      obtain ⟨f1, f2, f3, f4⟩ := fin _ e1 F (Same.refl _)
      exact ⟨p, _, _, rfl, rfl, f1, f2, ⟨_, _, _, _, rfl⟩, f3, f4⟩
  obtain ⟨⟨v1, v2, v3, v4, rfl⟩, sF, hpF⟩ := hh
  rw [paired_len hws, List.take_length] at hpF
  exact ⟨_, rfl, q p _ sF hpF⟩
theorem ok_wf (T : Txt K mg A) : FnOk P w K mg base CX0 8 A.f_law_way_fits A.d_law_way_fits ["_law_found", "_law_due"] (spWF A) := by
  have G_S := ok_shown (P := P) (w := w) (base := base) T 3
  refine T.F_law_way_fits.ok sc_law_way_fits (fun vs H Q E h => ?_) (fun cdv A0 outer s H vs Q E hr h => ?_)
  · obtain ⟨x, y, c, rfl, _⟩ := h
    rfl
  obtain ⟨x, y, ⟨n, o⟩, rfl, ⟨a, v, rfl, ha, hv⟩, ⟨b, rfl, hb⟩, g, q⟩ := h
  obtain ⟨kr, hkr⟩ : ∃ kr : Nat, kr = 7 := ⟨7, rfl⟩
  refine ⟨_, (pss_cons (ps_if (PW.pt (pw_or (pt_not (pt_val (pe_callB call_isi (by rfl) T.n_isinstance Bt.isinstance (pa_cons (pv 0) (pa_cons (pe_bltn (v := .ty "tuple") rfl T.n_tuple Bt.tuple rfl) pa_nil))))) (pw_or (pt_cmpR op_ne (pe_callB call_len_seq (by rfl) T.n_len PySem.boot_len (pa_cons (pv 0) pa_nil)) pe_int (nomark _)) (pw_or (pt_not (pt_val (pe_callB call_isi (by rfl) T.n_isinstance Bt.isinstance (pa_cons (pe_ix ix_tup (pv 0) pe_int (fun _ _ => rfl)) (pa_cons (pe_bltn (v := .ty "str") rfl T.n_str Bt.str rfl) pa_nil))))) (pw_or1 (pt_cmpR op_ne (pe_ix ix_tup (pv 0) pe_int (fun _ _ => rfl)) (pe_ix ix_tup (pv 1) pe_int (fun _ _ => rfl)) (nomark _))))))) (pss_one (ps_ret pe_bl)) pss_nil)
      (pss_cons (ps_if (pt_cmpR op_isN (pe_ix ix_tup (pv 1) pe_int (fun _ _ => rfl)) pe_non (nomark _)) (pss_one (ps_ret (pe_cmpR op_isN (pe_ix ix_tup (pv 0) pe_int (fun _ _ => rfl)) pe_non (nomark _)))) pss_nil)
      (pss_one (ps_ret (pe_and (pe_cmpR op_notN (pe_ix ix_tup (pv 0) pe_int (fun _ _ => rfl)) pe_non (nomark _)) (pe_one (pe_cmpR op_eq (pe_methG0 (CX := CX0) (k := kr) (hr.mono (by first | decide | omega)) pass0 (pe_ix ix_tup (pv 0) pe_int (fun _ _ => rfl))) (pe_ix ix_tup (pv 1) pe_int (fun _ _ => rfl)) (nomark _)))))))), ?_⟩
  subst hkr
  have a0 : atI [V.str n, v] ((0 : Nat) : Int) = some (V.str n) := atI_nat rfl
  have a1 : atI [V.str n, v] ((1 : Nat) : Int) = some v := atI_nat rfl
  have b0 : atI [V.str n, ov o] ((0 : Nat) : Int) = some (V.str n) := atI_nat rfl
  have b1 : atI [V.str n, ov o] ((1 : Nat) : Int) = some (ov o) := atI_nat rfl
  refine ⟨_, rfl, _, _, _, _, rfl, rfl, .tpl (SqT.of ha), T.i_tuple_tuple, _, rfl, iteF ?_⟩
  refine ⟨_, rfl, a, _, rfl, .inr (SqT.of ha), rfl, _, rfl, iteO (by show (!decide (V.int ((2 : Nat) : Int) = V.int 2)) = false; decide) ?_⟩
  refine ⟨_, rfl, a, _, _, _, rfl, rfl, SqT.of ha, a0, _, _, _, _, rfl, rfl, .old (.str _), T.i_str_str, _, rfl, iteF ?_⟩
  refine ⟨_, rfl, a, _, _, _, rfl, rfl, SqT.of ha, a0, _, rfl, b, _, _, _, rfl, rfl, SqT.of hb, b0, rfl, _, rfl, iteO nd ?_⟩
  refine ⟨_, rfl, b, _, _, _, rfl, rfl, SqT.of hb, b1, rfl, _, rfl, ?_⟩
  cases o with
  | none =>
    have hv : v = .non := hv
    subst hv
    exact iteT ⟨_, rfl, a, _, _, _, rfl, rfl, SqT.of ha, a1, rfl, q⟩
  | some t =>
    have gt := g.2 t rfl
    have hv : SyR A H t v := hv
    obtain ⟨a2, C1, dx1, fs1, M1, ey1, h1, hl1, hdv1, hsp1⟩ := shown_of T G_S (t := t) hv
    subst ey1
    refine iteF ⟨_, rfl, a, _, _, _, rfl, rfl, SqT.of ha, a1, rfl, _, rfl, iteT ⟨_, rfl, a, _, _, _, rfl, rfl, SqT.of ha, a1, a2, C1, dx1, fs1, M1, rfl, h1, hl1, ?_⟩⟩
    dsimp only [tNil]
    rw [hdv1, hsp1]
    refine ⟨_, t, [], rfl, hv, by have := gt.2.1; omega, rfl, gt.1, gt.b.2.2, _, rfl, b, _, _, _, rfl, rfl, SqT.of hb, b1, rfl, ?_⟩
    have e : decide (V.str (S (txL t)) = ov (some t)) = true := decide_eq_true rfl
    rw [e]; exact q
theorem ok_sf (T : Txt K mg A) : FnOk P w K mg base CX0 9 A.f_law_sheet_fits A.d_law_sheet_fits ["_law_found", "_law_due"] (spSF A) := by
  have G_S := ok_shown (P := P) (w := w) (base := base) T 3
  have G_law_way_fits := ok_wf (P := P) (w := w) (base := base) T
  refine T.F_law_sheet_fits.ok sc_law_sheet_fits (fun vs H Q E h => ?_) (fun cdv A0 outer s H vs Q E hr h => ?_)
  · obtain ⟨x, y, s, Z, rfl, _⟩ := h
    rfl
  obtain ⟨x, y, ⟨z, e, cs, ws⟩, Z, rfl, ⟨a, dx, pr, pw, rs, wr, rfl, ha, _, _, hpr, hpw, hrs, hwr⟩, ⟨b, pc, pv2, cv, wl, rfl, hb, hpc, hpv, hcv, hwl⟩, g, q⟩ := h
  obtain ⟨kr, hkr⟩ : ∃ kr : Nat, kr = 7 := ⟨7, rfl⟩
  refine ⟨_, (pss_cons (ps_if (PW.pt (pw_or (pt_cmpR op_ne (pe_fld (pv 0) rfl) (pe_ix ix_tup (pv 1) pe_int (fun _ _ => rfl)) (nomark _)) (pw_or1 (pt_cmpR op_ne (pe_fld (pv 0) rfl) (pe_ix ix_tup (pv 1) pe_int (fun _ _ => rfl)) (nomark _))))) (pss_one (ps_ret pe_bl)) pss_nil)
      (pss_cons (ps_if (PW.pt (pw_or (pt_cmpR op_ne (pe_callB call_len_seq (by rfl) T.n_len PySem.boot_len (pa_cons (pe_fld (pv 0) rfl) pa_nil)) (pe_callB call_len_seq (by rfl) T.n_len PySem.boot_len (pa_cons (pe_ix ix_tup (pv 1) pe_int (fun _ _ => rfl)) pa_nil)) (nomark _)) (pw_or1 (pt_cmpR op_ne (pe_callB call_len_seq (by rfl) T.n_len PySem.boot_len (pa_cons (pe_fld (pv 0) rfl) pa_nil)) (pe_callB call_len_seq (by rfl) T.n_len PySem.boot_len (pa_cons (pe_ix ix_tup (pv 1) pe_int (fun _ _ => rfl)) pa_nil)) (nomark _))))) (pss_one (ps_ret pe_bl)) pss_nil)
      (pss_cons (ps_forR PassesOwn.never rfl (pi_zip rfl T.n_zip (pa_cons (pe_fld (pv 0) rfl) (pa_cons (pe_ix ix_tup (pv 1) pe_int (fun _ _ => rfl)) pa_nil))) (pg_tup rfl (pgs_cons (pg_name (i := 2) sc_law_sheet_fits.nd rfl (by first | exact Or.inl rfl | exact Or.inr rfl)) (pgs_cons (pg_name (i := 3) sc_law_sheet_fits.nd rfl (by first | exact Or.inl rfl | exact Or.inr rfl)) pgs_nil))) (pss_cons (ps_if (PW.pt (pw_or (pt_not (pt_val (pe_callB call_isi (by rfl) T.n_isinstance Bt.isinstance (pa_cons (pv 2) (pa_cons (pe_gv rfl T.v_Check) pa_nil))))) (pw_or (pt_val (pe_callB call_isi (by rfl) T.n_isinstance Bt.isinstance (pa_cons (pv 2) (pa_cons (pe_gv rfl T.v_Ask) pa_nil)))) (pw_or1 (pt_cmpR op_ne (pe_fld (pv 2) rfl) (pe_ix ix_tup (pv 3) pe_int (fun _ _ => rfl)) (nomark _)))))) (pss_one (ps_ret pe_bl)) pss_nil)
      (pss_one (ps_if (PW.pt (pw_or (pt_cmpR op_ne (pe_methG0 (CX := CX0) (k := kr) (hr.mono (by first | decide | omega)) pass0 (pe_fld (pv 2) rfl)) (pe_ix ix_tup (pv 3) pe_int (fun _ _ => rfl)) (nomark _)) (pw_or (pt_not (pt_val (pe_callB call_isi (by rfl) T.n_isinstance Bt.isinstance (pa_cons (pe_fld (pv 2) rfl) (pa_cons (pe_bltn (v := .ty "bool") rfl T.n_bool Bt.bool rfl) pa_nil))))) (pw_or1 (pt_cmpR op_ne (pe_fld (pv 2) rfl) (pe_ix ix_tup (pv 3) pe_int (fun _ _ => rfl)) (nomark _)))))) (pss_one (ps_ret pe_bl)) pss_nil))))
      (pss_cons (ps_forR PassesOwn.never rfl (pi_zip rfl T.n_zip (pa_cons (pe_fld (pv 0) rfl) (pa_cons (pe_ix ix_tup (pv 1) pe_int (fun _ _ => rfl)) pa_nil))) (pg_tup rfl (pgs_cons (pg_name (i := 4) sc_law_sheet_fits.nd rfl (by first | exact Or.inl rfl | exact Or.inr rfl)) (pgs_cons (pg_name (i := 5) sc_law_sheet_fits.nd rfl (by first | exact Or.inl rfl | exact Or.inr rfl)) pgs_nil))) (pss_one (ps_if (pt_not (pt_val (pe_call G_law_way_fits (hr.mono (by first | decide | omega)) rfl T.m_law_way_fits T.k_law_way_fits T.b_law_way_fits .nil pass0 (pa_cons (pv 4) (pa_cons (pv 5) pa_nil))))) (pss_one (ps_ret pe_bl)) pss_nil)))
      (pss_one (ps_ret pe_bl)))))), ?_⟩
  subst hkr
  have b0 : atI [V.str z, eV e, .ref pc, .ref pv2] ((0 : Nat) : Int) = some (V.str z) := atI_nat rfl
  have b1 : atI [V.str z, eV e, .ref pc, .ref pv2] ((1 : Nat) : Int) = some (eV e) := atI_nat rfl
  have b2 : atI [V.str z, eV e, .ref pc, .ref pv2] ((2 : Nat) : Int) = some (.ref pc) := atI_nat rfl
  have b3 : atI [V.str z, eV e, .ref pc, .ref pv2] ((3 : Nat) : Int) = some (.ref pv2) := atI_nat rfl
  have l1 : rs.length = cv.length := by rw [paired_len hrs, paired_len hcv]
  have l2 : wr.length = wl.length := by rw [paired_len hwr, paired_len hwl]
  refine ⟨_, rfl, a, _, dx, _, _, rfl, ha, T.cl_Sheet, T.no_Sheet_name, rfl, _, rfl, b, _, _, _, rfl, rfl, SqT.of hb, b0, rfl, _, rfl, iteO nd ?_⟩
  refine ⟨_, rfl, a, _, dx, _, _, rfl, ha, T.cl_Sheet, T.no_Sheet_each, rfl, _, rfl, b, _, _, _, rfl, rfl, SqT.of hb, b1, (by cases e <;> rfl), _, rfl, iteO nd ?_⟩
  refine ⟨_, rfl, a, _, dx, _, _, rfl, ha, T.cl_Sheet, T.no_Sheet_rows, rfl, pr, _, rfl, .inl (SqL.of hpr), _, rfl, b, _, _, _, rfl, rfl, SqT.of hb, b2, pc, _, rfl, .inl (SqL.of hpc), rfl, _, rfl, iteO (nl l1) ?_⟩
  refine ⟨_, rfl, a, _, dx, _, _, rfl, ha, T.cl_Sheet, T.no_Sheet_ways, rfl, pw, _, rfl, .inl (SqL.of hpw), _, rfl, b, _, _, _, rfl, rfl, SqT.of hb, b3, pv2, _, rfl, .inl (SqL.of hpv), rfl, _, rfl, iteO (nl l2) ?_⟩
  refine ⟨_, rfl, a, _, dx, _, _, rfl, ha, T.cl_Sheet, T.no_Sheet_rows, rfl, _, rfl, b, _, _, _, rfl, rfl, SqT.of hb, b2, pr, pc, rfl, ⟨_, SqL.of hpr⟩, ⟨_, SqL.of hpc⟩, ?_⟩
  refine for_zipR (xs := rs) (ys := cv) l1 (fun i σ G => (∃ u1 u2, σ = [some (.ref a), some (.ref b), u1, u2, none, none]) ∧ Same H G) ⟨⟨_, _, rfl⟩, Same.refl _⟩ (fun i σ G _ hh => ⟨SqL.of (hh.2 _ _ hpr), SqL.of (hh.2 _ _ hpc)⟩) (fun i x y σ G hx hy hh tp htp => ?_) (fun σ G hh => ?_)
  · obtain ⟨⟨u1, u2, rfl⟩, sG⟩ := hh
    obtain ⟨⟨n, t, f⟩, hci, k, dxk, v, rfl, hk, hv⟩ := paired_at hrs hx
    obtain ⟨c', hci', y', rfl, hy'⟩ := paired_at hcv hy
    have ec : c' = (n, t, f) := Option.some.inj (hci'.symm.trans hci)
    subst ec
    have gt : GT t := (g.cs _ (List.mem_of_getElem? hci)).2
    have sA := sG.trans (same_new htp (.tup [.ref k, .ref y']))
    have hkA := sA _ _ hk
    have hyA := sA _ _ hy'
    have y0 : atI [V.str n, .str (S (txL t)), .bl f] ((0 : Nat) : Int) = some (V.str n) := atI_nat rfl
    have y1 : atI [V.str n, .str (S (txL t)), .bl f] ((1 : Nat) : Int) = some (V.str (S (txL t))) := atI_nat rfl
    have y2 : atI [V.str n, .str (S (txL t)), .bl f] ((2 : Nat) : Int) = some (V.bl f) := atI_nat rfl
    refine ⟨tp, _, rfl, SqT.of upd_same, rfl, _, _, rfl, _, _, rfl, rfl, ?_⟩
    refine ⟨_, rfl, _, _, _, _, rfl, rfl, .old (T.ty_Check _ _ _ _ hkA), T.kr_Check_Check, _, rfl, iteF ?_⟩
    refine ⟨_, rfl, _, _, _, _, rfl, rfl, .old (T.ty_Check _ _ _ _ hkA), T.kr_Check_Ask, _, rfl, iteF ?_⟩
    refine ⟨_, rfl, k, _, dxk, _, _, rfl, hkA, T.cl_Check, T.no_Check_name, rfl, _, rfl, y', _, _, _, rfl, rfl, SqT.of hyA, y0, rfl, _, rfl, iteO nd ?_⟩
    have hvA := hv.same sA
    obtain ⟨a2, C1, dx1, fs1, M1, ey1, h1, hl1, hdv1, hsp1⟩ := shown_of T G_S (t := t) hvA
    refine ⟨_, rfl, k, _, dxk, _, _, rfl, hkA, T.cl_Check, T.no_Check_test, rfl, a2, C1, dx1, fs1, M1, ey1, h1, hl1, ?_⟩
    dsimp only [tNil]
    rw [hdv1, hsp1]
    refine ⟨_, t, [], rfl, hvA, by have := gt.2.1; omega, rfl, gt.1, gt.b.2.2, _, rfl, y', _, _, _, rfl, rfl, SqT.of hyA, y1, rfl, _, rfl, iteO nd ?_⟩
    refine ⟨_, rfl, k, _, dxk, _, _, rfl, hkA, T.cl_Check, T.no_Check_firm, rfl, _, _, _, _, rfl, rfl, .old (.bl _), T.i_bool_bool, _, rfl, iteF ?_⟩
    exact ⟨_, rfl, k, _, dxk, _, _, rfl, hkA, T.cl_Check, T.no_Check_firm, rfl, _, rfl, y', _, _, _, rfl, rfl, SqT.of hyA, y2, rfl, _, rfl, iteO nd ⟨⟨_, _, rfl⟩, sA⟩⟩
  obtain ⟨⟨u1, u2, rfl⟩, sG⟩ := hh
  refine ⟨_, rfl, a, _, dx, _, _, rfl, sG _ _ ha, T.cl_Sheet, T.no_Sheet_ways, rfl, _, rfl, b, _, _, _, rfl, rfl, SqT.of (sG _ _ hb), b3, pw, pv2, rfl, ⟨_, SqL.of (sG _ _ hpw)⟩, ⟨_, SqL.of (sG _ _ hpv)⟩, ?_⟩
  refine for_zipR (xs := wr) (ys := wl) l2 (fun i σ F => (∃ v1 v2, σ = [some (.ref a), some (.ref b), u1, u2, v1, v2]) ∧ Same H F) ⟨⟨_, _, rfl⟩, sG⟩ (fun i σ F _ hh => ⟨SqL.of (hh.2 _ _ hpw), SqL.of (hh.2 _ _ hpv)⟩) (fun i x y σ F hx hy hh tp htp => ?_) (fun σ F hh => ?_)
  · obtain ⟨⟨v1, v2, rfl⟩, sF⟩ := hh
    obtain ⟨c, hci, hc⟩ := paired_at hwr hx
    obtain ⟨c', hci', hc'⟩ := paired_at hwl hy
    have ec : c' = c := Option.some.inj (hci'.symm.trans hci)
    subst ec
    have sA := sF.trans (same_new htp (.tup [x, y]))
    refine ⟨tp, _, rfl, SqT.of upd_same, rfl, _, _, rfl, _, _, rfl, rfl, ?_⟩
    exact ⟨_, rfl, _, rfl, x, y, c', rfl, hc.fr (Fr.of sA) mu_nil, hc'.fr (Fr.of sA) mu_nil, g.ws _ (List.mem_of_getElem? hci), _, rfl, iteF ⟨⟨_, _, rfl⟩, sA⟩⟩
  obtain ⟨⟨v1, v2, rfl⟩, sF⟩ := hh
  exact q _ sF
theorem ok_law (T : Txt K mg A) : FnOk P w K mg base CX0 50 A.f_law A.d_law ["_law_script"] (sp_law K) := by
  have G_law_cell_at := ok_law_cell_at (P := P) (w := w) (base := base) T
  have G_law_name := ok_law_name (P := P) (w := w) (base := base) T
  have G_law_sheet := ok_law_sheet (P := P) (w := w) (base := base) T
  have G_law_sheet_rows := ok_law_rows (P := P) (w := w) (base := base) T
  have G_law_sheet_fits := ok_sf (P := P) (w := w) (base := base) T
  have G_read_paper := ok_read (P := P) (w := w) (base := base) T
  have G_shown_paper := ok_shown_paper (P := P) (w := w) (base := base) T
  refine T.F_law.ok sc_law (fun vs H Q E h => ?_) (fun cdv A0 outer s H vs' Q E hr h => ?_)
  · obtain ⟨a, ns, rfl, _⟩ := h
    rfl
  obtain ⟨a, ns, rfl, hS, hlen, hbits, q⟩ := h
  refine ⟨_, (pss_cons (ps_compR (i := 1) sc_law.nd rfl (by first | exact Or.inl rfl | exact Or.inr rfl) (compOk_of (x := "_law_k") (M := ["_law_script", "_law_sheets", "_law_name_here", "_law_rows", "_law_sheet_here", "_law_text", "_law_paper", "_law_found", "_law_due", "_law_told"]) rfl (by rfl)) rfl (pi_range1 rfl T.n_range (pa_cons (pe_op op_add pe_int (pe_op op_mod (pe_call G_law_cell_at (hr.mono (by first | decide | omega)) rfl T.m_law_cell_at T.k_law_cell_at T.b_law_cell_at .nil pass0 (pa_cons (pv 0) (pa_cons pe_int pa_nil))) pe_int)) pa_nil)) (fun _ _ _ _ => (pe_call G_law_sheet (hr.mono (by first | decide | omega)) rfl T.m_law_sheet T.k_law_sheet T.b_law_sheet .nil pass0 (pa_cons (pe_call G_law_cell_at (hr.mono (by first | decide | omega)) rfl T.m_law_cell_at T.k_law_cell_at T.b_law_cell_at .nil pass0 (pa_cons (pv 1) (pa_cons (pe_op op_add pe_int (pv 0)) pa_nil))) pa_nil))))
      (pss_cons (ps_set (i := 2) sc_law.nd rfl (by first | exact Or.inl rfl | exact Or.inr rfl) (pe_call G_law_name (hr.mono (by first | decide | omega)) rfl T.m_law_name T.k_law_name T.b_law_name .nil pass0 (pa_cons (pe_call G_law_cell_at (hr.mono (by first | decide | omega)) rfl T.m_law_cell_at T.k_law_cell_at T.b_law_cell_at .nil pass0 (pa_cons (pv 0) (pa_cons pe_int pa_nil))) pa_nil)))
      (pss_cons (ps_set (i := 3) sc_law.nd rfl (by first | exact Or.inl rfl | exact Or.inr rfl) (pe_lst (pa_cons (pe_op op_add_str pe_str (pv 2)) pa_nil)))
      (pss_cons (ps_forR PassesOwn.never rfl (pi_list (pv 1)) (pg_name (i := 4) sc_law.nd rfl (by first | exact Or.inl rfl | exact Or.inr rfl)) (pss_one (ps_expr (pe_bm PySem.F.plainAttrs_list PySem.F.slot_list_extend PySem.F.type_list_extend mt_extend (pv 3) (pa_cons (pe_call G_law_sheet_rows (hr.mono (by first | decide | omega)) rfl T.m_law_sheet_rows T.k_law_sheet_rows T.b_law_sheet_rows .nil pass0 (pa_cons (pv 4) pa_nil)) pa_nil)))))
      (pss_cons (ps_set (i := 5) sc_law.nd rfl (by first | exact Or.inl rfl | exact Or.inr rfl) (pe_bm PySem.F.plainAttrs_str PySem.F.slot_str_join PySem.F.type_str_join mt_join pe_str (pa_cons (pv 3) pa_nil)))
      (pss_cons (ps_set (i := 6) sc_law.nd rfl (by first | exact Or.inl rfl | exact Or.inr rfl) (pe_call G_read_paper (hr.mono (by first | decide | omega)) rfl T.m_read_paper T.k_read_paper T.b_read_paper .nil pass0 (pa_cons (pv 5) pa_nil)))
      (pss_cons (ps_if (PW.pt (pw_or (pt_cmpR op_ne (pe_fld (pv 6) rfl) (pv 2) (nomark _)) (pw_or (pt_cmpR op_ne (pe_callB call_len_seq (by rfl) T.n_len PySem.boot_len (pa_cons (pe_fld (pv 6) rfl) pa_nil)) (pe_callB call_len_seq (by rfl) T.n_len PySem.boot_len (pa_cons (pv 1) pa_nil)) (nomark _)) (pw_or1 (pt_cmpR (op_neJ (hu20 hr)) (pe_fld (pv 6) rfl) (pe_lst pa_nil) (nomark _)))))) (pss_one (ps_ret pe_bl)) pss_nil)
      (pss_cons (ps_forR PassesOwn.never rfl (pi_zip rfl T.n_zip (pa_cons (pe_fld (pv 6) rfl) (pa_cons (pv 1) pa_nil))) (pg_tup rfl (pgs_cons (pg_name (i := 7) sc_law.nd rfl (by first | exact Or.inl rfl | exact Or.inr rfl)) (pgs_cons (pg_name (i := 8) sc_law.nd rfl (by first | exact Or.inl rfl | exact Or.inr rfl)) pgs_nil))) (pss_one (ps_if (pt_not (pt_val (pe_call G_law_sheet_fits (hr.mono (by first | decide | omega)) rfl T.m_law_sheet_fits T.k_law_sheet_fits T.b_law_sheet_fits .nil pass0 (pa_cons (pv 7) (pa_cons (pv 8) pa_nil))))) (pss_one (ps_ret pe_bl)) pss_nil)))
      (pss_cons (ps_set (i := 9) sc_law.nd rfl (by first | exact Or.inl rfl | exact Or.inr rfl) (pe_call G_shown_paper (hr.mono (by first | decide | omega)) rfl T.m_shown_paper T.k_shown_paper T.b_shown_paper .nil pass0 (pa_cons (pv 6) pa_nil)))
      (pss_one (ps_ret (pe_and (pe_callB call_isi (by rfl) T.n_isinstance Bt.isinstance (pa_cons (pv 9) (pa_cons (pe_bltn (v := .ty "str") rfl T.n_str Bt.str rfl) pa_nil))) (pe_one (pe_cmpR op_eq (pv 9) (pv 5) (nomark _))))))))))))))), ?_⟩
  refine ⟨_, rfl, a, ns, 0, rfl, hS, by decide, hbits, fun n0 _ => ?_⟩
  have m0 : 0 ≤ n0 % 3 := Int.emod_nonneg _ (by decide)
  have m1 : n0 % 3 < 3 := Int.emod_lt_of_pos _ (by decide)
  refine ⟨_, _, rfl, rfl, (by show (0 : Int) < 3; decide), _, _, rfl, rfl, _, rfl, (by show (-2 ^ 62 : Int) ≤ 2 + n0 % 3; omega), (by show 2 + n0 % 3 < _; omega), ?_⟩
  obtain ⟨n, hn⟩ : ∃ n : Nat, (2 + n0 % 3).toNat = n := ⟨_, rfl⟩
  dsimp only
  rw [hn]
  refine comp_rangeR (n := n) (small_of (m := 100) (by omega)) (fun i ys H' => Same H H' ∧ ∃ ss, Paired (LSh H') ys ss ∧ ss.length = i ∧ ∀ s ∈ ss, ShG s) ⟨Same.refl _, [], .nil, rfl, fun s h => by cases h⟩ (fun i ys H' hi _ hw => ?_) (fun ys H' _ hw p hp => ?_)
  · obtain ⟨sH, ss, hss, hil, hgd⟩ := hw
    refine ⟨_, rfl, _, rfl, _, _, rfl, rfl, a, ns, 1 + (0 + (i : Nat)), rfl, sH.seq hS, by omega, hbits, fun c _ => ⟨c, rfl, fun x s H2 s2 hx hs => ⟨sH.trans s2, ss ++ [s], paired_app (paired_mono (fun _ _ k => k.same s2) hss) (.cons hx .nil), by rw [List.length_append, hil]; rfl, fun s' hs' => ?_⟩⟩⟩
    rcases List.mem_append.mp hs' with e | e
    · exact hgd s' e
    · rw [List.mem_singleton.mp e]; exact hs
  obtain ⟨sH, ss, hss, hil, hgd⟩ := hw
  have sp := same_new hp (.lst ys)
  have sHp := sH.trans sp
  have hpy : upd H' p (.lst ys) p = some (.lst ys) := upd_same
  have hss := paired_mono (fun _ _ k => LSh.same sp k) hss
  generalize upd H' p (.lst ys) = H1 at *
  refine ⟨_, rfl, a, ns, 0, rfl, sHp.seq hS, by decide, hbits, fun n1 _ => ⟨n1, rfl, fun z H2 hz s2 => ?_⟩⟩
  have g : PpG z ss := ⟨hz, hgd, by omega⟩
  have gne : ss ≠ [] := fun e => by rw [e] at hil; have hil : 0 = n := hil; omega
  have lz := (name_fine hz).len
  refine ⟨_, rfl, _, _, rfl, rfl, small_of (m := 100) (by rw [show (Str.ofString "paper ").length = 6 by decide +kernel]; omega), (by show 1 ≤ sizeLine; decide), fun pl hpl => ?_⟩
  rw [pa_txt]
  have s3 := same_new hpl (.lst [V.str (S (ln "paper" (cd z)))])
  have hp2 := s2 _ _ hpy
  refine ⟨_, rfl, p, rfl, ⟨_, SqL.of (s3 _ _ hp2)⟩, ?_⟩
  refine for_listR (xs := ys) (fun i σ G => (∃ u, σ = [some (.ref a), some (.ref p), some (.str z), some (.ref pl), u, none, none, none, none, none]) ∧ Same H2 G ∧ G pl = some (.lst (wv (linesP z (ss.take i))))) ⟨⟨_, rfl⟩, s3, upd_same⟩ (fun i σ G _ hh => SqL.of (hh.2.1 _ _ hp2)) (fun i x σ G hx hh => ?_) (fun σ G hh => ?_)
  · obtain ⟨⟨u, rfl⟩, sG, hpl'⟩ := hh
    obtain ⟨sh, hsi, hsh⟩ := paired_at hss hx
    have gs := hgd sh (List.mem_of_getElem? hsi)
    refine ⟨_, rfl, Or.inl ⟨rfl, _, SqL.of hpl'⟩, _, rfl, x, sh, rfl, (hsh.same s2).same sG, gs, fun p3 G2 sG2 hp3 => ?_⟩
    have e : wv (linesP z (ss.take i)) ++ wv (linesS sh) = wv (linesP z (ss.take (i + 1))) := by
      rw [← List.map_append]
      unfold linesP
      rw [List.take_succ, hsi, List.cons_append, List.map_append, List.flatten_append]
      show _ = List.map _ (_ :: (_ ++ [linesS sh].flatten))
      rw [List.flatten_singleton]
    refine ⟨pl, p3, _, _, rfl, rfl, sG2 _ _ hpl', hp3, ?_, ⟨_, rfl⟩, fun c o hc => ?_, ?_⟩
    · rw [← List.length_append, e, List.length_map]
      have h1 : (linesP z (ss.take (i + 1))).length ≤ 33 := (PpG.len ⟨g.1, fun s hs => g.2.1 s (List.mem_of_mem_take hs), by rw [List.length_take]; have := g.2.2; omega⟩).1
      exact small_of (m := 100) (by omega)
    · rw [upd_ne (ne_of_none hc hpl)]; exact (sG.trans sG2) c o hc
    · rw [upd_same, e]
  obtain ⟨⟨u, rfl⟩, sG, hpl'⟩ := hh
  rw [paired_len hss, List.take_length, vs_strs] at hpl'
  refine ⟨rfl, _, rfl, _, pl, (linesP z ss).map S, rfl, rfl, .inl (SqL.of hpl'), join_size g, ?_⟩
  rw [joinS_is, map_cdS, show cd (Str.ofString "\n") = [10] by decide +kernel]
  refine ⟨_, rfl, z, ss, rfl, g, gne, fun x H5 s5 hpap => ?_⟩
  have hpap' := hpap
  obtain ⟨b, dx, q1, q2, xs, rfl, hb, hq1, hq2, hxs⟩ := hpap
  have sA := sG.trans s5
  have hp5 := sA _ _ hp2
  have lx : xs.length = ys.length := by rw [paired_len hxs, paired_len hss]
  refine ⟨_, rfl, b, _, dx, _, _, rfl, hb, T.cl_Paper, T.no_Paper_name, rfl, _, rfl, rfl, _, rfl, iteO nd ?_⟩
  refine ⟨_, rfl, b, _, dx, _, _, rfl, hb, T.cl_Paper, T.no_Paper_sheets, rfl, q1, _, rfl, .inl (SqL.of hq1), _, rfl, p, _, rfl, .inl (SqL.of hp5), rfl, _, rfl, iteO (nl lx) ?_⟩
  refine ⟨_, rfl, b, _, dx, _, _, rfl, hb, T.cl_Paper, T.no_Paper_totals, rfl, (by show 0 ≤ sizeLine; decide), fun pe hpe => ?_⟩
  have s6 := same_new hpe (.lst [])
  refine ⟨_, eqj_lists (n := 19) (e := fun _ => true) (SqL.of (s6 _ _ hq2)) (SqL.of upd_same) rfl (fun j x y hx _ => by simp at hx), _, rfl, iteO (by simp) ?_⟩
  have sB := sA.trans s6
  refine ⟨_, rfl, b, _, dx, _, _, rfl, s6 _ _ hb, T.cl_Paper, T.no_Paper_sheets, rfl, _, rfl, q1, p, rfl, ⟨_, SqL.of (s6 _ _ hq1)⟩, ⟨_, SqL.of (s6 _ _ hp5)⟩, ?_⟩
  refine for_zipR (xs := xs) (ys := ys) lx (fun i σ F => (∃ u1 u2, σ = [some (.ref a), some (.ref p), some (.str z), some (.ref pl), u, some (.str (S (joinL [10] (linesP z ss)))), some (.ref b), u1, u2, none]) ∧ Same H5 F) ⟨⟨_, _, rfl⟩, s6⟩ (fun i σ F _ hh => ⟨SqL.of (hh.2 _ _ hq1), SqL.of (hh.2 _ _ hp5)⟩) (fun i x y σ F hx hy hh tp htp => ?_) (fun σ F hh => ?_)
  · obtain ⟨⟨u1, u2, rfl⟩, sF⟩ := hh
    obtain ⟨c, hci, hc⟩ := paired_at hxs hx
    obtain ⟨c', hci', hc'⟩ := paired_at hss hy
    have ec : c' = c := Option.some.inj (hci'.symm.trans hci)
    subst ec
    have sT := sF.trans (same_new htp (.tup [x, y]))
    refine ⟨tp, _, rfl, SqT.of upd_same, rfl, _, _, rfl, _, _, rfl, rfl, ?_⟩
    exact ⟨_, rfl, _, rfl, x, y, c', _, rfl, hc.same sT, ((hc'.same s2).same sA).same sT, hgd _ (List.mem_of_getElem? hci), fun F2 sF2 => ⟨_, rfl, iteF ⟨⟨_, _, rfl⟩, sT.trans sF2⟩⟩⟩
  obtain ⟨⟨u1, u2, rfl⟩, sF⟩ := hh
  refine ⟨_, rfl, _, z, ss, rfl, hpap'.same sF, g, fun H7 s7 => ?_⟩
  refine ⟨_, rfl, _, _, _, _, rfl, rfl, .old (.str _), T.i_str_str, _, rfl, iteT ⟨_, rfl, _, rfl, rfl, ?_⟩⟩
  rw [decide_eq_true rfl]
  exact q _
end
end K23
set_option maxHeartbeats 4000000
namespace K23
open PySem L2
theorem txt_mk {K : PySem.W.Frag} {h : Heap} {mg : Str → Option Value} (X : K.In h) (G : h.Ns mainGlobals mg)
  {f0 : Addr} {od0 an0 : Option Addr} {sl0 : Array (Option Value)} {oc0 kV0 dc0 pm0 cd0 ct0 : Value}
  {f1 : Addr} {od1 an1 : Option Addr} {sl1 : Array (Option Value)} {oc1 kV1 dc1 pm1 cd1 ct1 : Value}
  {f2 : Addr} {od2 an2 : Option Addr} {sl2 : Array (Option Value)} {oc2 kV2 dc2 pm2 cd2 ct2 : Value}
  {f3 : Addr} {od3 an3 : Option Addr} {sl3 : Array (Option Value)} {oc3 kV3 dc3 pm3 cd3 ct3 : Value}
  {dT3 : Addr} {dD3 : Option Addr} {dN3 : Nat} {dS3 : Array (Option Value)} {dt3_0 : Tok}
  {f4 : Addr} {od4 an4 : Option Addr} {sl4 : Array (Option Value)} {oc4 kV4 dc4 pm4 cd4 ct4 : Value}
  {f5 : Addr} {od5 an5 : Option Addr} {sl5 : Array (Option Value)} {oc5 kV5 dc5 pm5 cd5 ct5 : Value}
  {f6 : Addr} {od6 an6 : Option Addr} {sl6 : Array (Option Value)} {oc6 kV6 dc6 pm6 cd6 ct6 : Value}
  {dT6 : Addr} {dD6 : Option Addr} {dN6 : Nat} {dS6 : Array (Option Value)}
  {f7 : Addr} {od7 an7 : Option Addr} {sl7 : Array (Option Value)} {oc7 kV7 dc7 pm7 cd7 ct7 : Value}
  {f8 : Addr} {od8 an8 : Option Addr} {sl8 : Array (Option Value)} {oc8 kV8 dc8 pm8 cd8 ct8 : Value}
  {f9 : Addr} {od9 an9 : Option Addr} {sl9 : Array (Option Value)} {oc9 kV9 dc9 pm9 cd9 ct9 : Value}
  {dT9 : Addr} {dD9 : Option Addr} {dN9 : Nat} {dS9 : Array (Option Value)}
  {f10 : Addr} {od10 an10 : Option Addr} {sl10 : Array (Option Value)} {oc10 kV10 dc10 pm10 cd10 ct10 : Value}
  {f11 : Addr} {od11 an11 : Option Addr} {sl11 : Array (Option Value)} {oc11 kV11 dc11 pm11 cd11 ct11 : Value}
  {f12 : Addr} {od12 an12 : Option Addr} {sl12 : Array (Option Value)} {oc12 kV12 dc12 pm12 cd12 ct12 : Value}
  {f13 : Addr} {od13 an13 : Option Addr} {sl13 : Array (Option Value)} {oc13 kV13 dc13 pm13 cd13 ct13 : Value}
  {f14 : Addr} {od14 an14 : Option Addr} {sl14 : Array (Option Value)} {oc14 kV14 dc14 pm14 cd14 ct14 : Value}
  {f15 : Addr} {od15 an15 : Option Addr} {sl15 : Array (Option Value)} {oc15 kV15 dc15 pm15 cd15 ct15 : Value}
  {f16 : Addr} {od16 an16 : Option Addr} {sl16 : Array (Option Value)} {oc16 kV16 dc16 pm16 cd16 ct16 : Value}
  {f17 : Addr} {od17 an17 : Option Addr} {sl17 : Array (Option Value)} {oc17 kV17 dc17 pm17 cd17 ct17 : Value}
  {f18 : Addr} {od18 an18 : Option Addr} {sl18 : Array (Option Value)} {oc18 kV18 dc18 pm18 cd18 ct18 : Value}
  {f19 : Addr} {od19 an19 : Option Addr} {sl19 : Array (Option Value)} {oc19 kV19 dc19 pm19 cd19 ct19 : Value}
  {f20 : Addr} {od20 an20 : Option Addr} {sl20 : Array (Option Value)} {oc20 kV20 dc20 pm20 cd20 ct20 : Value}
  {f21 : Addr} {od21 an21 : Option Addr} {sl21 : Array (Option Value)} {oc21 kV21 dc21 pm21 cd21 ct21 : Value}
  {f22 : Addr} {od22 an22 : Option Addr} {sl22 : Array (Option Value)} {oc22 kV22 dc22 pm22 cd22 ct22 : Value}
  {f23 : Addr} {od23 an23 : Option Addr} {sl23 : Array (Option Value)} {oc23 kV23 dc23 pm23 cd23 ct23 : Value}
  {f24 : Addr} {od24 an24 : Option Addr} {sl24 : Array (Option Value)} {oc24 kV24 dc24 pm24 cd24 ct24 : Value}
  {f25 : Addr} {od25 an25 : Option Addr} {sl25 : Array (Option Value)} {oc25 kV25 dc25 pm25 cd25 ct25 : Value}
  {f26 : Addr} {od26 an26 : Option Addr} {sl26 : Array (Option Value)} {oc26 kV26 dc26 pm26 cd26 ct26 : Value}
  {f27 : Addr} {od27 an27 : Option Addr} {sl27 : Array (Option Value)} {oc27 kV27 dc27 pm27 cd27 ct27 : Value}
  {f28 : Addr} {od28 an28 : Option Addr} {sl28 : Array (Option Value)} {oc28 kV28 dc28 pm28 cd28 ct28 : Value}
  {f29 : Addr} {od29 an29 : Option Addr} {sl29 : Array (Option Value)} {oc29 kV29 dc29 pm29 cd29 ct29 : Value}
  {f30 : Addr} {od30 an30 : Option Addr} {sl30 : Array (Option Value)} {oc30 kV30 dc30 pm30 cd30 ct30 : Value}
  {f31 : Addr} {od31 an31 : Option Addr} {sl31 : Array (Option Value)} {oc31 kV31 dc31 pm31 cd31 ct31 : Value}
  {f32 : Addr} {od32 an32 : Option Addr} {sl32 : Array (Option Value)} {oc32 kV32 dc32 pm32 cd32 ct32 : Value}
  {f33 : Addr} {od33 an33 : Option Addr} {sl33 : Array (Option Value)} {oc33 kV33 dc33 pm33 cd33 ct33 : Value}
  {f34 : Addr} {od34 an34 : Option Addr} {sl34 : Array (Option Value)} {oc34 kV34 dc34 pm34 cd34 ct34 : Value}
  {f35 : Addr} {od35 an35 : Option Addr} {sl35 : Array (Option Value)} {oc35 kV35 dc35 pm35 cd35 ct35 : Value}
  {f36 : Addr} {od36 an36 : Option Addr} {sl36 : Array (Option Value)} {oc36 kV36 dc36 pm36 cd36 ct36 : Value}
  {f37 : Addr} {od37 an37 : Option Addr} {sl37 : Array (Option Value)} {oc37 kV37 dc37 pm37 cd37 ct37 : Value}
  {f38 : Addr} {od38 an38 : Option Addr} {sl38 : Array (Option Value)} {oc38 kV38 dc38 pm38 cd38 ct38 : Value}
  {f39 : Addr} {od39 an39 : Option Addr} {sl39 : Array (Option Value)} {oc39 kV39 dc39 pm39 cd39 ct39 : Value}
  {f40 : Addr} {od40 an40 : Option Addr} {sl40 : Array (Option Value)} {oc40 kV40 dc40 pm40 cd40 ct40 : Value}
  {f41 : Addr} {od41 an41 : Option Addr} {sl41 : Array (Option Value)} {oc41 kV41 dc41 pm41 cd41 ct41 : Value}
  {f42 : Addr} {od42 an42 : Option Addr} {sl42 : Array (Option Value)} {oc42 kV42 dc42 pm42 cd42 ct42 : Value}
  {f43 : Addr} {od43 an43 : Option Addr} {sl43 : Array (Option Value)} {oc43 kV43 dc43 pm43 cd43 ct43 : Value}
  {f44 : Addr} {od44 an44 : Option Addr} {sl44 : Array (Option Value)} {oc44 kV44 dc44 pm44 cd44 ct44 : Value}
  {f45 : Addr} {od45 an45 : Option Addr} {sl45 : Array (Option Value)} {oc45 kV45 dc45 pm45 cd45 ct45 : Value}
  {f46 : Addr} {od46 an46 : Option Addr} {sl46 : Array (Option Value)} {oc46 kV46 dc46 pm46 cd46 ct46 : Value}
  {f47 : Addr} {od47 an47 : Option Addr} {sl47 : Array (Option Value)} {oc47 kV47 dc47 pm47 cd47 ct47 : Value}
  {f48 : Addr} {od48 an48 : Option Addr} {sl48 : Array (Option Value)} {oc48 kV48 dc48 pm48 cd48 ct48 : Value}
  {f49 : Addr} {od49 an49 : Option Addr} {sl49 : Array (Option Value)} {oc49 kV49 dc49 pm49 cd49 ct49 : Value}
  {f50 : Addr} {od50 an50 : Option Addr} {sl50 : Array (Option Value)} {oc50 kV50 dc50 pm50 cd50 ct50 : Value}
  {f51 : Addr} {od51 an51 : Option Addr} {sl51 : Array (Option Value)} {oc51 kV51 dc51 pm51 cd51 ct51 : Value}
  {f52 : Addr} {od52 an52 : Option Addr} {sl52 : Array (Option Value)} {oc52 kV52 dc52 pm52 cd52 ct52 : Value}
  {f53 : Addr} {od53 an53 : Option Addr} {sl53 : Array (Option Value)} {oc53 kV53 dc53 pm53 cd53 ct53 : Value}
  {f54 : Addr} {od54 an54 : Option Addr} {sl54 : Array (Option Value)} {oc54 kV54 dc54 pm54 cd54 ct54 : Value}
  {f55 : Addr} {od55 an55 : Option Addr} {sl55 : Array (Option Value)} {oc55 kV55 dc55 pm55 cd55 ct55 : Value}
  {f56 : Addr} {od56 an56 : Option Addr} {sl56 : Array (Option Value)} {oc56 kV56 dc56 pm56 cd56 ct56 : Value}
  {f57 : Addr} {od57 an57 : Option Addr} {sl57 : Array (Option Value)} {oc57 kV57 dc57 pm57 cd57 ct57 : Value}
  {f58 : Addr} {od58 an58 : Option Addr} {sl58 : Array (Option Value)} {oc58 kV58 dc58 pm58 cd58 ct58 : Value}
  {gt0 : Tok}
  {gt1 : Tok}
  {ga2 : Addr} {go2 : Value} {gd2 : Option Addr} {gn2 : Nat} {gi2 : Array Value} {gs2 : Array (Option Value)}
  {gt3 : Tok}
  {gt4 : Tok}
  {gt5 : Tok}
  {gt6 : Tok}
  {gt7 : Tok}
  {gt8 : Tok}
  {gt9 : Tok}
  {ga10 : Addr} {go10 : Value} {gd10 : Option Addr} {gn10 : Nat} {gi10 : Array Value} {gs10 : Array (Option Value)}
  {k_Ask : Addr}
  {kd_Ask : ClassData}
  {k_Both : Addr}
  {k_Check : Addr}
  {k_Compare : Addr}
  {k_Draft : Addr}
  {k_Either : Addr}
  {k_Is : Addr}
  {k_NoNumber : Addr}
  {kd_NoNumber : ClassData}
  {k_NoSaying : Addr}
  {kd_NoSaying : ClassData}
  {k_Not : Addr}
  {k_Pair : Addr}
  {k_Paper : Addr}
  {k_Row : Addr}
  {k_Saying : Addr}
  {k_Sheet : Addr}
  {k_WordsLeft : Addr}
  {kd_WordsLeft : ClassData}
  (na_Ask : PySem.W.nsIn K mainGlobals "Ask" = some (some (.ref k_Ask)))
  (na_Both : PySem.W.nsIn K mainGlobals "Both" = some (some (.ref k_Both)))
  (na_Check : PySem.W.nsIn K mainGlobals "Check" = some (some (.ref k_Check)))
  (na_Compare : PySem.W.nsIn K mainGlobals "Compare" = some (some (.ref k_Compare)))
  (na_Draft : PySem.W.nsIn K mainGlobals "Draft" = some (some (.ref k_Draft)))
  (na_Either : PySem.W.nsIn K mainGlobals "Either" = some (some (.ref k_Either)))
  (na_Is : PySem.W.nsIn K mainGlobals "Is" = some (some (.ref k_Is)))
  (na_NoNumber : PySem.W.nsIn K mainGlobals "NoNumber" = some (some (.ref k_NoNumber)))
  (na_NoSaying : PySem.W.nsIn K mainGlobals "NoSaying" = some (some (.ref k_NoSaying)))
  (na_Not : PySem.W.nsIn K mainGlobals "Not" = some (some (.ref k_Not)))
  (na_Pair : PySem.W.nsIn K mainGlobals "Pair" = some (some (.ref k_Pair)))
  (na_Paper : PySem.W.nsIn K mainGlobals "Paper" = some (some (.ref k_Paper)))
  (na_Row : PySem.W.nsIn K mainGlobals "Row" = some (some (.ref k_Row)))
  (na_Saying : PySem.W.nsIn K mainGlobals "Saying" = some (some (.ref k_Saying)))
  (na_Sheet : PySem.W.nsIn K mainGlobals "Sheet" = some (some (.ref k_Sheet)))
  (na_WordsLeft : PySem.W.nsIn K mainGlobals "WordsLeft" = some (some (.ref k_WordsLeft)))
  (a0 : PySem.W.nsIn K mainGlobals "is_name" = some (some (.ref f0)))
  (l0 : K.lookup f0 = some ⟨oc0, od0, .func (PySem.W.fnOf "is_name" "is_name" (defArgs s_is_name) (defBody s_is_name) (defScope s_is_name) .none kV0 dc0 pm0 an0 cd0 ct0), sl0⟩)
  (c0 : PySem.W.codeIn K cd0 "is_name" = true)
  (k0 : PySem.W.keepIn K (.ref f0) = true)
  (a1 : PySem.W.nsIn K mainGlobals "are_figures" = some (some (.ref f1)))
  (l1 : K.lookup f1 = some ⟨oc1, od1, .func (PySem.W.fnOf "are_figures" "are_figures" (defArgs s_are_figures) (defBody s_are_figures) (defScope s_are_figures) .none kV1 dc1 pm1 an1 cd1 ct1), sl1⟩)
  (c1 : PySem.W.codeIn K cd1 "are_figures" = true)
  (k1 : PySem.W.keepIn K (.ref f1) = true)
  (a2 : PySem.W.nsIn K mainGlobals "figures_worth" = some (some (.ref f2)))
  (l2 : K.lookup f2 = some ⟨oc2, od2, .func (PySem.W.fnOf "figures_worth" "figures_worth" (defArgs s_figures_worth) (defBody s_figures_worth) (defScope s_figures_worth) .none kV2 dc2 pm2 an2 cd2 ct2), sl2⟩)
  (c2 : PySem.W.codeIn K cd2 "figures_worth" = true)
  (k2 : PySem.W.keepIn K (.ref f2) = true)
  (a3 : PySem.W.nsIn K mainGlobals "number_of" = some (some (.ref f3)))
  (l3 : K.lookup f3 = some ⟨oc3, od3, .func (PySem.W.fnOf "number_of" "number_of" (defArgs s_number_of) (defBody s_number_of) (defScope s_number_of) (.ref dT3) kV3 dc3 pm3 an3 cd3 ct3), sl3⟩)
  (c3 : PySem.W.codeIn K cd3 "number_of" = true)
  (k3 : PySem.W.keepIn K (.ref f3) = true)
  (dl3 : K.lookup dT3 = some ⟨.type "tuple", dD3, .seq ([(.int 60 dt3_0)] : List Value).toArray dN3, dS3⟩)
  (a4 : PySem.W.nsIn K mainGlobals "number_or_none" = some (some (.ref f4)))
  (l4 : K.lookup f4 = some ⟨oc4, od4, .func (PySem.W.fnOf "number_or_none" "number_or_none" (defArgs s_number_or_none) (defBody s_number_or_none) (defScope s_number_or_none) .none kV4 dc4 pm4 an4 cd4 ct4), sl4⟩)
  (c4 : PySem.W.codeIn K cd4 "number_or_none" = true)
  (k4 : PySem.W.keepIn K (.ref f4) = true)
  (a5 : PySem.W.findIn K (.ref k_Row) "__init__" = some (some (.ref f5)))
  (l5 : K.lookup f5 = some ⟨oc5, od5, .func (PySem.W.fnOf "__init__" "Row.__init__" (defArgs s_c_Row___init) (defBody s_c_Row___init) (defScope s_c_Row___init) .none kV5 dc5 pm5 an5 cd5 ct5), sl5⟩)
  (c5 : PySem.W.codeIn K cd5 "Row.__init__" = true)
  (k5 : PySem.W.keepIn K (.ref f5) = true)
  (a6 : PySem.W.findIn K (.ref k_Check) "__init__" = some (some (.ref f6)))
  (l6 : K.lookup f6 = some ⟨oc6, od6, .func (PySem.W.fnOf "__init__" "Check.__init__" (defArgs s_c_Check___init) (defBody s_c_Check___init) (defScope s_c_Check___init) (.ref dT6) kV6 dc6 pm6 an6 cd6 ct6), sl6⟩)
  (c6 : PySem.W.codeIn K cd6 "Check.__init__" = true)
  (k6 : PySem.W.keepIn K (.ref f6) = true)
  (dl6 : K.lookup dT6 = some ⟨.type "tuple", dD6, .seq ([(.bool true)] : List Value).toArray dN6, dS6⟩)
  (a7 : PySem.W.findIn K (.ref k_Sheet) "__init__" = some (some (.ref f7)))
  (l7 : K.lookup f7 = some ⟨oc7, od7, .func (PySem.W.fnOf "__init__" "Sheet.__init__" (defArgs s_c_Sheet___init) (defBody s_c_Sheet___init) (defScope s_c_Sheet___init) .none kV7 dc7 pm7 an7 cd7 ct7), sl7⟩)
  (c7 : PySem.W.codeIn K cd7 "Sheet.__init__" = true)
  (k7 : PySem.W.keepIn K (.ref f7) = true)
  (a8 : PySem.W.findIn K (.ref k_Paper) "__init__" = some (some (.ref f8)))
  (l8 : K.lookup f8 = some ⟨oc8, od8, .func (PySem.W.fnOf "__init__" "Paper.__init__" (defArgs s_c_Paper___init) (defBody s_c_Paper___init) (defScope s_c_Paper___init) .none kV8 dc8 pm8 an8 cd8 ct8), sl8⟩)
  (c8 : PySem.W.codeIn K cd8 "Paper.__init__" = true)
  (k8 : PySem.W.keepIn K (.ref f8) = true)
  (a9 : PySem.W.findIn K (.ref k_Is) "__init__" = some (some (.ref f9)))
  (l9 : K.lookup f9 = some ⟨oc9, od9, .func (PySem.W.fnOf "__init__" "Is.__init__" (defArgs s_c_Is___init) (defBody s_c_Is___init) (defScope s_c_Is___init) (.ref dT9) kV9 dc9 pm9 an9 cd9 ct9), sl9⟩)
  (c9 : PySem.W.codeIn K cd9 "Is.__init__" = true)
  (k9 : PySem.W.keepIn K (.ref f9) = true)
  (dl9 : K.lookup dT9 = some ⟨.type "tuple", dD9, .seq ([.none] : List Value).toArray dN9, dS9⟩)
  (a10 : PySem.W.findIn K (.ref k_Is) "shown" = some (some (.ref f10)))
  (l10 : K.lookup f10 = some ⟨oc10, od10, .func (PySem.W.fnOf "shown" "Is.shown" (defArgs s_c_Is_shown) (defBody s_c_Is_shown) (defScope s_c_Is_shown) .none kV10 dc10 pm10 an10 cd10 ct10), sl10⟩)
  (c10 : PySem.W.codeIn K cd10 "Is.shown" = true)
  (k10 : PySem.W.keepIn K (.ref f10) = true)
  (a11 : PySem.W.findIn K (.ref k_Is) "atoms" = some (some (.ref f11)))
  (l11 : K.lookup f11 = some ⟨oc11, od11, .func (PySem.W.fnOf "atoms" "Is.atoms" (defArgs s_c_Is_atoms) (defBody s_c_Is_atoms) (defScope s_c_Is_atoms) .none kV11 dc11 pm11 an11 cd11 ct11), sl11⟩)
  (c11 : PySem.W.codeIn K cd11 "Is.atoms" = true)
  (k11 : PySem.W.keepIn K (.ref f11) = true)
  (a12 : PySem.W.findIn K (.ref k_Compare) "__init__" = some (some (.ref f12)))
  (l12 : K.lookup f12 = some ⟨oc12, od12, .func (PySem.W.fnOf "__init__" "Compare.__init__" (defArgs s_c_Compare___init) (defBody s_c_Compare___init) (defScope s_c_Compare___init) .none kV12 dc12 pm12 an12 cd12 ct12), sl12⟩)
  (c12 : PySem.W.codeIn K cd12 "Compare.__init__" = true)
  (k12 : PySem.W.keepIn K (.ref f12) = true)
  (a13 : PySem.W.findIn K (.ref k_Compare) "shown" = some (some (.ref f13)))
  (l13 : K.lookup f13 = some ⟨oc13, od13, .func (PySem.W.fnOf "shown" "Compare.shown" (defArgs s_c_Compare_shown) (defBody s_c_Compare_shown) (defScope s_c_Compare_shown) .none kV13 dc13 pm13 an13 cd13 ct13), sl13⟩)
  (c13 : PySem.W.codeIn K cd13 "Compare.shown" = true)
  (k13 : PySem.W.keepIn K (.ref f13) = true)
  (a14 : PySem.W.findIn K (.ref k_Compare) "atoms" = some (some (.ref f14)))
  (l14 : K.lookup f14 = some ⟨oc14, od14, .func (PySem.W.fnOf "atoms" "Compare.atoms" (defArgs s_c_Compare_atoms) (defBody s_c_Compare_atoms) (defScope s_c_Compare_atoms) .none kV14 dc14 pm14 an14 cd14 ct14), sl14⟩)
  (c14 : PySem.W.codeIn K cd14 "Compare.atoms" = true)
  (k14 : PySem.W.keepIn K (.ref f14) = true)
  (a15 : PySem.W.findIn K (.ref k_Not) "__init__" = some (some (.ref f15)))
  (l15 : K.lookup f15 = some ⟨oc15, od15, .func (PySem.W.fnOf "__init__" "Not.__init__" (defArgs s_c_Not___init) (defBody s_c_Not___init) (defScope s_c_Not___init) .none kV15 dc15 pm15 an15 cd15 ct15), sl15⟩)
  (c15 : PySem.W.codeIn K cd15 "Not.__init__" = true)
  (k15 : PySem.W.keepIn K (.ref f15) = true)
  (a16 : PySem.W.findIn K (.ref k_Not) "shown" = some (some (.ref f16)))
  (l16 : K.lookup f16 = some ⟨oc16, od16, .func (PySem.W.fnOf "shown" "Not.shown" (defArgs s_c_Not_shown) (defBody s_c_Not_shown) (defScope s_c_Not_shown) .none kV16 dc16 pm16 an16 cd16 ct16), sl16⟩)
  (c16 : PySem.W.codeIn K cd16 "Not.shown" = true)
  (k16 : PySem.W.keepIn K (.ref f16) = true)
  (a17 : PySem.W.findIn K (.ref k_Not) "atoms" = some (some (.ref f17)))
  (l17 : K.lookup f17 = some ⟨oc17, od17, .func (PySem.W.fnOf "atoms" "Not.atoms" (defArgs s_c_Not_atoms) (defBody s_c_Not_atoms) (defScope s_c_Not_atoms) .none kV17 dc17 pm17 an17 cd17 ct17), sl17⟩)
  (c17 : PySem.W.codeIn K cd17 "Not.atoms" = true)
  (k17 : PySem.W.keepIn K (.ref f17) = true)
  (a18 : PySem.W.findIn K (.ref k_Pair) "__init__" = some (some (.ref f18)))
  (l18 : K.lookup f18 = some ⟨oc18, od18, .func (PySem.W.fnOf "__init__" "Pair.__init__" (defArgs s_c_Pair___init) (defBody s_c_Pair___init) (defScope s_c_Pair___init) .none kV18 dc18 pm18 an18 cd18 ct18), sl18⟩)
  (c18 : PySem.W.codeIn K cd18 "Pair.__init__" = true)
  (k18 : PySem.W.keepIn K (.ref f18) = true)
  (a19 : PySem.W.findIn K (.ref k_Pair) "shown_with" = some (some (.ref f19)))
  (l19 : K.lookup f19 = some ⟨oc19, od19, .func (PySem.W.fnOf "shown_with" "Pair.shown_with" (defArgs s_c_Pair_shown_with) (defBody s_c_Pair_shown_with) (defScope s_c_Pair_shown_with) .none kV19 dc19 pm19 an19 cd19 ct19), sl19⟩)
  (c19 : PySem.W.codeIn K cd19 "Pair.shown_with" = true)
  (k19 : PySem.W.keepIn K (.ref f19) = true)
  (a20 : PySem.W.findIn K (.ref k_Pair) "atoms" = some (some (.ref f20)))
  (l20 : K.lookup f20 = some ⟨oc20, od20, .func (PySem.W.fnOf "atoms" "Pair.atoms" (defArgs s_c_Pair_atoms) (defBody s_c_Pair_atoms) (defScope s_c_Pair_atoms) .none kV20 dc20 pm20 an20 cd20 ct20), sl20⟩)
  (c20 : PySem.W.codeIn K cd20 "Pair.atoms" = true)
  (k20 : PySem.W.keepIn K (.ref f20) = true)
  (a21 : PySem.W.findIn K (.ref k_Both) "shown" = some (some (.ref f21)))
  (l21 : K.lookup f21 = some ⟨oc21, od21, .func (PySem.W.fnOf "shown" "Both.shown" (defArgs s_c_Both_shown) (defBody s_c_Both_shown) (defScope s_c_Both_shown) .none kV21 dc21 pm21 an21 cd21 ct21), sl21⟩)
  (c21 : PySem.W.codeIn K cd21 "Both.shown" = true)
  (k21 : PySem.W.keepIn K (.ref f21) = true)
  (a22 : PySem.W.findIn K (.ref k_Either) "shown" = some (some (.ref f22)))
  (l22 : K.lookup f22 = some ⟨oc22, od22, .func (PySem.W.fnOf "shown" "Either.shown" (defArgs s_c_Either_shown) (defBody s_c_Either_shown) (defScope s_c_Either_shown) .none kV22 dc22 pm22 an22 cd22 ct22), sl22⟩)
  (c22 : PySem.W.codeIn K cd22 "Either.shown" = true)
  (k22 : PySem.W.keepIn K (.ref f22) = true)
  (a23 : PySem.W.findIn K (.ref k_WordsLeft) "__init__" = some (some (.ref f23)))
  (l23 : K.lookup f23 = some ⟨oc23, od23, .func (PySem.W.fnOf "__init__" "WordsLeft.__init__" (defArgs s_c_WordsLeft___init) (defBody s_c_WordsLeft___init) (defScope s_c_WordsLeft___init) .none kV23 dc23 pm23 an23 cd23 ct23), sl23⟩)
  (c23 : PySem.W.codeIn K cd23 "WordsLeft.__init__" = true)
  (k23 : PySem.W.keepIn K (.ref f23) = true)
  (a24 : PySem.W.findIn K (.ref k_WordsLeft) "take" = some (some (.ref f24)))
  (l24 : K.lookup f24 = some ⟨oc24, od24, .func (PySem.W.fnOf "take" "WordsLeft.take" (defArgs s_c_WordsLeft_take) (defBody s_c_WordsLeft_take) (defScope s_c_WordsLeft_take) .none kV24 dc24 pm24 an24 cd24 ct24), sl24⟩)
  (c24 : PySem.W.codeIn K cd24 "WordsLeft.take" = true)
  (k24 : PySem.W.keepIn K (.ref f24) = true)
  (a25 : PySem.W.findIn K (.ref k_WordsLeft) "are_all_taken" = some (some (.ref f25)))
  (l25 : K.lookup f25 = some ⟨oc25, od25, .func (PySem.W.fnOf "are_all_taken" "WordsLeft.are_all_taken" (defArgs s_c_WordsLeft_are_all_taken) (defBody s_c_WordsLeft_are_all_taken) (defScope s_c_WordsLeft_are_all_taken) .none kV25 dc25 pm25 an25 cd25 ct25), sl25⟩)
  (c25 : PySem.W.codeIn K cd25 "WordsLeft.are_all_taken" = true)
  (k25 : PySem.W.keepIn K (.ref f25) = true)
  (a26 : PySem.W.nsIn K mainGlobals "read_atom" = some (some (.ref f26)))
  (l26 : K.lookup f26 = some ⟨oc26, od26, .func (PySem.W.fnOf "read_atom" "read_atom" (defArgs s_read_atom) (defBody s_read_atom) (defScope s_read_atom) .none kV26 dc26 pm26 an26 cd26 ct26), sl26⟩)
  (c26 : PySem.W.codeIn K cd26 "read_atom" = true)
  (k26 : PySem.W.keepIn K (.ref f26) = true)
  (a27 : PySem.W.nsIn K mainGlobals "read_pair" = some (some (.ref f27)))
  (l27 : K.lookup f27 = some ⟨oc27, od27, .func (PySem.W.fnOf "read_pair" "read_pair" (defArgs s_read_pair) (defBody s_read_pair) (defScope s_read_pair) .none kV27 dc27 pm27 an27 cd27 ct27), sl27⟩)
  (c27 : PySem.W.codeIn K cd27 "read_pair" = true)
  (k27 : PySem.W.keepIn K (.ref f27) = true)
  (a28 : PySem.W.nsIn K mainGlobals "read_next" = some (some (.ref f28)))
  (l28 : K.lookup f28 = some ⟨oc28, od28, .func (PySem.W.fnOf "read_next" "read_next" (defArgs s_read_next) (defBody s_read_next) (defScope s_read_next) .none kV28 dc28 pm28 an28 cd28 ct28), sl28⟩)
  (c28 : PySem.W.codeIn K cd28 "read_next" = true)
  (k28 : PySem.W.keepIn K (.ref f28) = true)
  (a29 : PySem.W.nsIn K mainGlobals "read_saying" = some (some (.ref f29)))
  (l29 : K.lookup f29 = some ⟨oc29, od29, .func (PySem.W.fnOf "read_saying" "read_saying" (defArgs s_read_saying) (defBody s_read_saying) (defScope s_read_saying) .none kV29 dc29 pm29 an29 cd29 ct29), sl29⟩)
  (c29 : PySem.W.codeIn K cd29 "read_saying" = true)
  (k29 : PySem.W.keepIn K (.ref f29) = true)
  (a30 : PySem.W.nsIn K mainGlobals "shown_when" = some (some (.ref f30)))
  (l30 : K.lookup f30 = some ⟨oc30, od30, .func (PySem.W.fnOf "shown_when" "shown_when" (defArgs s_shown_when) (defBody s_shown_when) (defScope s_shown_when) .none kV30 dc30 pm30 an30 cd30 ct30), sl30⟩)
  (c30 : PySem.W.codeIn K cd30 "shown_when" = true)
  (k30 : PySem.W.keepIn K (.ref f30) = true)
  (a31 : PySem.W.nsIn K mainGlobals "shown_row" = some (some (.ref f31)))
  (l31 : K.lookup f31 = some ⟨oc31, od31, .func (PySem.W.fnOf "shown_row" "shown_row" (defArgs s_shown_row) (defBody s_shown_row) (defScope s_shown_row) .none kV31 dc31 pm31 an31 cd31 ct31), sl31⟩)
  (c31 : PySem.W.codeIn K cd31 "shown_row" = true)
  (k31 : PySem.W.keepIn K (.ref f31) = true)
  (a32 : PySem.W.nsIn K mainGlobals "shown_sheet" = some (some (.ref f32)))
  (l32 : K.lookup f32 = some ⟨oc32, od32, .func (PySem.W.fnOf "shown_sheet" "shown_sheet" (defArgs s_shown_sheet) (defBody s_shown_sheet) (defScope s_shown_sheet) .none kV32 dc32 pm32 an32 cd32 ct32), sl32⟩)
  (c32 : PySem.W.codeIn K cd32 "shown_sheet" = true)
  (k32 : PySem.W.keepIn K (.ref f32) = true)
  (a33 : PySem.W.nsIn K mainGlobals "shown_paper" = some (some (.ref f33)))
  (l33 : K.lookup f33 = some ⟨oc33, od33, .func (PySem.W.fnOf "shown_paper" "shown_paper" (defArgs s_shown_paper) (defBody s_shown_paper) (defScope s_shown_paper) .none kV33 dc33 pm33 an33 cd33 ct33), sl33⟩)
  (c33 : PySem.W.codeIn K cd33 "shown_paper" = true)
  (k33 : PySem.W.keepIn K (.ref f33) = true)
  (a34 : PySem.W.findIn K (.ref k_Draft) "__init__" = some (some (.ref f34)))
  (l34 : K.lookup f34 = some ⟨oc34, od34, .func (PySem.W.fnOf "__init__" "Draft.__init__" (defArgs s_c_Draft___init) (defBody s_c_Draft___init) (defScope s_c_Draft___init) .none kV34 dc34 pm34 an34 cd34 ct34), sl34⟩)
  (c34 : PySem.W.codeIn K cd34 "Draft.__init__" = true)
  (k34 : PySem.W.keepIn K (.ref f34) = true)
  (a35 : PySem.W.findIn K (.ref k_Draft) "demand" = some (some (.ref f35)))
  (l35 : K.lookup f35 = some ⟨oc35, od35, .func (PySem.W.fnOf "demand" "Draft.demand" (defArgs s_c_Draft_demand) (defBody s_c_Draft_demand) (defScope s_c_Draft_demand) .none kV35 dc35 pm35 an35 cd35 ct35), sl35⟩)
  (c35 : PySem.W.codeIn K cd35 "Draft.demand" = true)
  (k35 : PySem.W.keepIn K (.ref f35) = true)
  (a36 : PySem.W.findIn K (.ref k_Draft) "read_test" = some (some (.ref f36)))
  (l36 : K.lookup f36 = some ⟨oc36, od36, .func (PySem.W.fnOf "read_test" "Draft.read_test" (defArgs s_c_Draft_read_test) (defBody s_c_Draft_read_test) (defScope s_c_Draft_read_test) .none kV36 dc36 pm36 an36 cd36 ct36), sl36⟩)
  (c36 : PySem.W.codeIn K cd36 "Draft.read_test" = true)
  (k36 : PySem.W.keepIn K (.ref f36) = true)
  (a37 : PySem.W.findIn K (.ref k_Draft) "read_when" = some (some (.ref f37)))
  (l37 : K.lookup f37 = some ⟨oc37, od37, .func (PySem.W.fnOf "read_when" "Draft.read_when" (defArgs s_c_Draft_read_when) (defBody s_c_Draft_read_when) (defScope s_c_Draft_read_when) .none kV37 dc37 pm37 an37 cd37 ct37), sl37⟩)
  (c37 : PySem.W.codeIn K cd37 "Draft.read_when" = true)
  (k37 : PySem.W.keepIn K (.ref f37) = true)
  (a38 : PySem.W.findIn K (.ref k_Draft) "sheet_to_fill" = some (some (.ref f38)))
  (l38 : K.lookup f38 = some ⟨oc38, od38, .func (PySem.W.fnOf "sheet_to_fill" "Draft.sheet_to_fill" (defArgs s_c_Draft_sheet_to_fill) (defBody s_c_Draft_sheet_to_fill) (defScope s_c_Draft_sheet_to_fill) .none kV38 dc38 pm38 an38 cd38 ct38), sl38⟩)
  (c38 : PySem.W.codeIn K cd38 "Draft.sheet_to_fill" = true)
  (k38 : PySem.W.keepIn K (.ref f38) = true)
  (a39 : PySem.W.findIn K (.ref k_Draft) "put_row" = some (some (.ref f39)))
  (l39 : K.lookup f39 = some ⟨oc39, od39, .func (PySem.W.fnOf "put_row" "Draft.put_row" (defArgs s_c_Draft_put_row) (defBody s_c_Draft_put_row) (defScope s_c_Draft_put_row) .none kV39 dc39 pm39 an39 cd39 ct39), sl39⟩)
  (c39 : PySem.W.codeIn K cd39 "Draft.put_row" = true)
  (k39 : PySem.W.keepIn K (.ref f39) = true)
  (a40 : PySem.W.findIn K (.ref k_Draft) "take_paper" = some (some (.ref f40)))
  (l40 : K.lookup f40 = some ⟨oc40, od40, .func (PySem.W.fnOf "take_paper" "Draft.take_paper" (defArgs s_c_Draft_take_paper) (defBody s_c_Draft_take_paper) (defScope s_c_Draft_take_paper) .none kV40 dc40 pm40 an40 cd40 ct40), sl40⟩)
  (c40 : PySem.W.codeIn K cd40 "Draft.take_paper" = true)
  (k40 : PySem.W.keepIn K (.ref f40) = true)
  (a41 : PySem.W.findIn K (.ref k_Draft) "take_sheet" = some (some (.ref f41)))
  (l41 : K.lookup f41 = some ⟨oc41, od41, .func (PySem.W.fnOf "take_sheet" "Draft.take_sheet" (defArgs s_c_Draft_take_sheet) (defBody s_c_Draft_take_sheet) (defScope s_c_Draft_take_sheet) .none kV41 dc41 pm41 an41 cd41 ct41), sl41⟩)
  (c41 : PySem.W.codeIn K cd41 "Draft.take_sheet" = true)
  (k41 : PySem.W.keepIn K (.ref f41) = true)
  (a42 : PySem.W.findIn K (.ref k_Draft) "take_check" = some (some (.ref f42)))
  (l42 : K.lookup f42 = some ⟨oc42, od42, .func (PySem.W.fnOf "take_check" "Draft.take_check" (defArgs s_c_Draft_take_check) (defBody s_c_Draft_take_check) (defScope s_c_Draft_take_check) .none kV42 dc42 pm42 an42 cd42 ct42), sl42⟩)
  (c42 : PySem.W.codeIn K cd42 "Draft.take_check" = true)
  (k42 : PySem.W.keepIn K (.ref f42) = true)
  (a43 : PySem.W.findIn K (.ref k_Draft) "take_way" = some (some (.ref f43)))
  (l43 : K.lookup f43 = some ⟨oc43, od43, .func (PySem.W.fnOf "take_way" "Draft.take_way" (defArgs s_c_Draft_take_way) (defBody s_c_Draft_take_way) (defScope s_c_Draft_take_way) .none kV43 dc43 pm43 an43 cd43 ct43), sl43⟩)
  (c43 : PySem.W.codeIn K cd43 "Draft.take_way" = true)
  (k43 : PySem.W.keepIn K (.ref f43) = true)
  (a44 : PySem.W.findIn K (.ref k_Draft) "take_row" = some (some (.ref f44)))
  (l44 : K.lookup f44 = some ⟨oc44, od44, .func (PySem.W.fnOf "take_row" "Draft.take_row" (defArgs s_c_Draft_take_row) (defBody s_c_Draft_take_row) (defScope s_c_Draft_take_row) .none kV44 dc44 pm44 an44 cd44 ct44), sl44⟩)
  (c44 : PySem.W.codeIn K cd44 "Draft.take_row" = true)
  (k44 : PySem.W.keepIn K (.ref f44) = true)
  (a45 : PySem.W.findIn K (.ref k_Draft) "take_line" = some (some (.ref f45)))
  (l45 : K.lookup f45 = some ⟨oc45, od45, .func (PySem.W.fnOf "take_line" "Draft.take_line" (defArgs s_c_Draft_take_line) (defBody s_c_Draft_take_line) (defScope s_c_Draft_take_line) .none kV45 dc45 pm45 an45 cd45 ct45), sl45⟩)
  (c45 : PySem.W.codeIn K cd45 "Draft.take_line" = true)
  (k45 : PySem.W.keepIn K (.ref f45) = true)
  (a46 : PySem.W.nsIn K mainGlobals "read_paper" = some (some (.ref f46)))
  (l46 : K.lookup f46 = some ⟨oc46, od46, .func (PySem.W.fnOf "read_paper" "read_paper" (defArgs s_read_paper) (defBody s_read_paper) (defScope s_read_paper) .none kV46 dc46 pm46 an46 cd46 ct46), sl46⟩)
  (c46 : PySem.W.codeIn K cd46 "read_paper" = true)
  (k46 : PySem.W.keepIn K (.ref f46) = true)
  (a47 : PySem.W.nsIn K mainGlobals "_law_cell_at" = some (some (.ref f47)))
  (l47 : K.lookup f47 = some ⟨oc47, od47, .func (PySem.W.fnOf "_law_cell_at" "_law_cell_at" (defArgs s_law_cell_at) (defBody s_law_cell_at) (defScope s_law_cell_at) .none kV47 dc47 pm47 an47 cd47 ct47), sl47⟩)
  (c47 : PySem.W.codeIn K cd47 "_law_cell_at" = true)
  (k47 : PySem.W.keepIn K (.ref f47) = true)
  (a48 : PySem.W.nsIn K mainGlobals "_law_mixed" = some (some (.ref f48)))
  (l48 : K.lookup f48 = some ⟨oc48, od48, .func (PySem.W.fnOf "_law_mixed" "_law_mixed" (defArgs s_law_mixed) (defBody s_law_mixed) (defScope s_law_mixed) .none kV48 dc48 pm48 an48 cd48 ct48), sl48⟩)
  (c48 : PySem.W.codeIn K cd48 "_law_mixed" = true)
  (k48 : PySem.W.keepIn K (.ref f48) = true)
  (a49 : PySem.W.nsIn K mainGlobals "_law_open" = some (some (.ref f49)))
  (l49 : K.lookup f49 = some ⟨oc49, od49, .func (PySem.W.fnOf "_law_open" "_law_open" (defArgs s_law_open) (defBody s_law_open) (defScope s_law_open) .none kV49 dc49 pm49 an49 cd49 ct49), sl49⟩)
  (c49 : PySem.W.codeIn K cd49 "_law_open" = true)
  (k49 : PySem.W.keepIn K (.ref f49) = true)
  (a50 : PySem.W.nsIn K mainGlobals "_law_name" = some (some (.ref f50)))
  (l50 : K.lookup f50 = some ⟨oc50, od50, .func (PySem.W.fnOf "_law_name" "_law_name" (defArgs s_law_name) (defBody s_law_name) (defScope s_law_name) .none kV50 dc50 pm50 an50 cd50 ct50), sl50⟩)
  (c50 : PySem.W.codeIn K cd50 "_law_name" = true)
  (k50 : PySem.W.keepIn K (.ref f50) = true)
  (a51 : PySem.W.nsIn K mainGlobals "_law_number" = some (some (.ref f51)))
  (l51 : K.lookup f51 = some ⟨oc51, od51, .func (PySem.W.fnOf "_law_number" "_law_number" (defArgs s_law_number) (defBody s_law_number) (defScope s_law_number) .none kV51 dc51 pm51 an51 cd51 ct51), sl51⟩)
  (c51 : PySem.W.codeIn K cd51 "_law_number" = true)
  (k51 : PySem.W.keepIn K (.ref f51) = true)
  (a52 : PySem.W.nsIn K mainGlobals "_law_atom" = some (some (.ref f52)))
  (l52 : K.lookup f52 = some ⟨oc52, od52, .func (PySem.W.fnOf "_law_atom" "_law_atom" (defArgs s_law_atom) (defBody s_law_atom) (defScope s_law_atom) .none kV52 dc52 pm52 an52 cd52 ct52), sl52⟩)
  (c52 : PySem.W.codeIn K cd52 "_law_atom" = true)
  (k52 : PySem.W.keepIn K (.ref f52) = true)
  (a53 : PySem.W.nsIn K mainGlobals "_law_saying" = some (some (.ref f53)))
  (l53 : K.lookup f53 = some ⟨oc53, od53, .func (PySem.W.fnOf "_law_saying" "_law_saying" (defArgs s_law_saying) (defBody s_law_saying) (defScope s_law_saying) .none kV53 dc53 pm53 an53 cd53 ct53), sl53⟩)
  (c53 : PySem.W.codeIn K cd53 "_law_saying" = true)
  (k53 : PySem.W.keepIn K (.ref f53) = true)
  (a54 : PySem.W.nsIn K mainGlobals "_law_sheet" = some (some (.ref f54)))
  (l54 : K.lookup f54 = some ⟨oc54, od54, .func (PySem.W.fnOf "_law_sheet" "_law_sheet" (defArgs s_law_sheet) (defBody s_law_sheet) (defScope s_law_sheet) .none kV54 dc54 pm54 an54 cd54 ct54), sl54⟩)
  (c54 : PySem.W.codeIn K cd54 "_law_sheet" = true)
  (k54 : PySem.W.keepIn K (.ref f54) = true)
  (a55 : PySem.W.nsIn K mainGlobals "_law_sheet_rows" = some (some (.ref f55)))
  (l55 : K.lookup f55 = some ⟨oc55, od55, .func (PySem.W.fnOf "_law_sheet_rows" "_law_sheet_rows" (defArgs s_law_sheet_rows) (defBody s_law_sheet_rows) (defScope s_law_sheet_rows) .none kV55 dc55 pm55 an55 cd55 ct55), sl55⟩)
  (c55 : PySem.W.codeIn K cd55 "_law_sheet_rows" = true)
  (k55 : PySem.W.keepIn K (.ref f55) = true)
  (a56 : PySem.W.nsIn K mainGlobals "_law_way_fits" = some (some (.ref f56)))
  (l56 : K.lookup f56 = some ⟨oc56, od56, .func (PySem.W.fnOf "_law_way_fits" "_law_way_fits" (defArgs s_law_way_fits) (defBody s_law_way_fits) (defScope s_law_way_fits) .none kV56 dc56 pm56 an56 cd56 ct56), sl56⟩)
  (c56 : PySem.W.codeIn K cd56 "_law_way_fits" = true)
  (k56 : PySem.W.keepIn K (.ref f56) = true)
  (a57 : PySem.W.nsIn K mainGlobals "_law_sheet_fits" = some (some (.ref f57)))
  (l57 : K.lookup f57 = some ⟨oc57, od57, .func (PySem.W.fnOf "_law_sheet_fits" "_law_sheet_fits" (defArgs s_law_sheet_fits) (defBody s_law_sheet_fits) (defScope s_law_sheet_fits) .none kV57 dc57 pm57 an57 cd57 ct57), sl57⟩)
  (c57 : PySem.W.codeIn K cd57 "_law_sheet_fits" = true)
  (k57 : PySem.W.keepIn K (.ref f57) = true)
  (a58 : PySem.W.nsIn K mainGlobals "law" = some (some (.ref f58)))
  (l58 : K.lookup f58 = some ⟨oc58, od58, .func (PySem.W.fnOf "law" "law" (defArgs s_law) (defBody s_law) (defScope s_law) .none kV58 dc58 pm58 an58 cd58 ct58), sl58⟩)
  (c58 : PySem.W.codeIn K cd58 "law" = true)
  (k58 : PySem.W.keepIn K (.ref f58) = true)
  (g0 : PySem.W.nsIn K mainGlobals "DEEPEST" = some (some (.int 8 gt0)))
  (g1 : PySem.W.nsIn K mainGlobals "FIGURES" = some (some (.str "0123456789" gt1)))
  (g2 : PySem.W.nsIn K mainGlobals "HOWS" = some (some (.ref ga2)))
  (gl2 : K.lookup ga2 = some ⟨go2, gd2, .seq gi2 gn2, gs2⟩)
  (gc2 : go2 = .type "tuple")
  (gz2 : gi2.size ≤ sizeLine)
  (gv2 : Vals [(.str "<"), (.str "="), (.str ">")] gi2.toList)
  (g3 : PySem.W.nsIn K mainGlobals "LETTERS" = some (some (.str "abcdefghijklmnopqrstuvwxyz" gt3)))
  (g4 : PySem.W.nsIn K mainGlobals "LONGEST_NAME" = some (some (.int 12 gt4)))
  (g5 : PySem.W.nsIn K mainGlobals "MOST_ATOMS_reading" = some (some (.int 60 gt5)))
  (g6 : PySem.W.nsIn K mainGlobals "MOST_ATOMS_sayings" = some (some (.int 16 gt6)))
  (g7 : PySem.W.nsIn K mainGlobals "MOST_ROWS" = some (some (.int 100 gt7)))
  (g8 : PySem.W.nsIn K mainGlobals "MOST_SHEETS" = some (some (.int 12 gt8)))
  (g9 : PySem.W.nsIn K mainGlobals "MOST_WAYS" = some (some (.int 4 gt9)))
  (g10 : PySem.W.nsIn K mainGlobals "NO_NAMES" = some (some (.ref ga10)))
  (gl10 : K.lookup ga10 = some ⟨go10, gd10, .seq gi10 gn10, gs10⟩)
  (gc10 : go10 = .type "tuple")
  (gz10 : gi10.size ≤ sizeLine)
  (gv10 : Vals [(.str "and"), (.str "each"), (.str "end"), (.str "is"), (.str "not"), (.str "or"), (.str "unless"), (.str "when")] gi10.toList)
  (z_all : PySem.W.nsIn K mainGlobals "all" = some none)
  (z_bool : PySem.W.nsIn K mainGlobals "bool" = some none)
  (z_int : PySem.W.nsIn K mainGlobals "int" = some none)
  (z_isinstance : PySem.W.nsIn K mainGlobals "isinstance" = some none)
  (z_len : PySem.W.nsIn K mainGlobals "len" = some none)
  (z_list : PySem.W.nsIn K mainGlobals "list" = some none)
  (z_range : PySem.W.nsIn K mainGlobals "range" = some none)
  (z_str : PySem.W.nsIn K mainGlobals "str" = some none)
  (z_tuple : PySem.W.nsIn K mainGlobals "tuple" = some none)
  (z_zip : PySem.W.nsIn K mainGlobals "zip" = some none)
  (kc_Ask : PySem.W.clsIn K k_Ask = some kd_Ask)
  (kt_Ask : PySem.W.typeIn K (.ref k_Ask) = some (.type "type"))
  (kc_NoNumber : PySem.W.clsIn K k_NoNumber = some kd_NoNumber)
  (kt_NoNumber : PySem.W.typeIn K (.ref k_NoNumber) = some (.type "type"))
  (kc_NoSaying : PySem.W.clsIn K k_NoSaying = some kd_NoSaying)
  (kt_NoSaying : PySem.W.typeIn K (.ref k_NoSaying) = some (.type "type"))
  (kc_WordsLeft : PySem.W.clsIn K k_WordsLeft = some kd_WordsLeft)
  (kt_WordsLeft : PySem.W.typeIn K (.ref k_WordsLeft) = some (.type "type"))
  (xx_NoNumber : PySem.W.excIn K k_NoNumber mroVE "ValueError.__new__" = true)
  (pg_NoNumber : PySem.W.findIn K (.ref k_NoNumber) "__getattribute__" = some (some (.builtin "BaseException.__getattribute__")))
  (pk_NoNumber : PySem.W.findIn K (.ref k_NoNumber) "__getattr__" = some none)
  (ha_NoNumber : PySem.W.findIn K (.ref k_NoNumber) "__class__" = some (some (.builtin "object.__class__")))
  (hn_NoNumber : PySem.W.specialIn K (.builtin "object.__class__") "__get__" = some (some (.builtin "getset_descriptor.__get__")))
  (tk_NoNumber : PySem.W.takesIn K (.builtin "object.__class__") = some true)
  (mo_NoNumber : PySem.W.mroIn K k_NoNumber (.type "object") = some true)
  (mb_NoNumber : PySem.W.mroIn K k_NoNumber (.type "BaseException") = some true)
  (xx_NoSaying : PySem.W.excIn K k_NoSaying mroVE "ValueError.__new__" = true)
  (pg_NoSaying : PySem.W.findIn K (.ref k_NoSaying) "__getattribute__" = some (some (.builtin "BaseException.__getattribute__")))
  (pk_NoSaying : PySem.W.findIn K (.ref k_NoSaying) "__getattr__" = some none)
  (ha_NoSaying : PySem.W.findIn K (.ref k_NoSaying) "__class__" = some (some (.builtin "object.__class__")))
  (hn_NoSaying : PySem.W.specialIn K (.builtin "object.__class__") "__get__" = some (some (.builtin "getset_descriptor.__get__")))
  (tk_NoSaying : PySem.W.takesIn K (.builtin "object.__class__") = some true)
  (mo_NoSaying : PySem.W.mroIn K k_NoSaying (.type "object") = some true)
  (mb_NoSaying : PySem.W.mroIn K k_NoSaying (.type "BaseException") = some true)
  (sb_NoNumber_NoNumber : PySem.W.subIn K (.ref k_NoNumber) (.type "BaseException") = some true)
  (em_NoNumber_NoNumber : PySem.W.mroIn K k_NoNumber (.ref k_NoNumber) = some true)
  (mr_Is_WordsLeft : PySem.W.mroIn K k_Is (.ref k_WordsLeft) = some false)
  (ne_Is_WordsLeft : (Value.ref k_Is == Value.ref k_WordsLeft) = false)
  (mr_Compare_WordsLeft : PySem.W.mroIn K k_Compare (.ref k_WordsLeft) = some false)
  (ne_Compare_WordsLeft : (Value.ref k_Compare == Value.ref k_WordsLeft) = false)
  (mr_Not_WordsLeft : PySem.W.mroIn K k_Not (.ref k_WordsLeft) = some false)
  (ne_Not_WordsLeft : (Value.ref k_Not == Value.ref k_WordsLeft) = false)
  (mr_Both_WordsLeft : PySem.W.mroIn K k_Both (.ref k_WordsLeft) = some false)
  (ne_Both_WordsLeft : (Value.ref k_Both == Value.ref k_WordsLeft) = false)
  (mr_Either_WordsLeft : PySem.W.mroIn K k_Either (.ref k_WordsLeft) = some false)
  (ne_Either_WordsLeft : (Value.ref k_Either == Value.ref k_WordsLeft) = false)
  (mr_Check_Ask : PySem.W.mroIn K k_Check (.ref k_Ask) = some false)
  (ne_Check_Ask : (Value.ref k_Check == Value.ref k_Ask) = false)
  (cpg_Is : PySem.W.plainGet K k_Is Str.empty = true)
  (chd_Is : PySem.W.hasDictIn K k_Is = true)
  (cpo_Is : PySem.W.plainOver K k_Is = true)
  (csa_Is : PySem.W.findIn K (.ref k_Is) "__setattr__" = some (some (.builtin "object.__setattr__")))
  (cha_Is : PySem.W.findIn K (.ref k_Is) "__class__" = some (some (.builtin "object.__class__")))
  (chn_Is : PySem.W.specialIn K (.builtin "object.__class__") "__get__" = some (some (.builtin "getset_descriptor.__get__")))
  (ctk_Is : PySem.W.takesIn K (.builtin "object.__class__") = some true)
  (cmo_Is : PySem.W.mroIn K k_Is (.type "object") = some true)
  (mkm_Is : PySem.W.makesIn K k_Is = true)
  (mki_Is : PySem.W.findIn K (.ref k_Is) "__init__" = some (some (.ref f9)))
  (mkf_Is : PySem.W.isFn K (.ref f9) = true)
  (mkk_Is : PySem.W.keepIn K (.ref k_Is) = true)
  (mea_Is_shown : PySem.W.findIn K (.ref k_Is) "shown" = some (some (.ref f10)))
  (mef_Is_shown : PySem.W.isFn K (.ref f10) = true)
  (mea_Is_atoms : PySem.W.findIn K (.ref k_Is) "atoms" = some (some (.ref f11)))
  (mef_Is_atoms : PySem.W.isFn K (.ref f11) = true)
  (noa_Is_name : PySem.W.findIn K (.ref k_Is) "name" = some none)
  (noa_Is_word : PySem.W.findIn K (.ref k_Is) "word" = some none)
  (noa_Is_place : PySem.W.findIn K (.ref k_Is) "place" = some none)
  (cpg_Compare : PySem.W.plainGet K k_Compare Str.empty = true)
  (chd_Compare : PySem.W.hasDictIn K k_Compare = true)
  (cpo_Compare : PySem.W.plainOver K k_Compare = true)
  (csa_Compare : PySem.W.findIn K (.ref k_Compare) "__setattr__" = some (some (.builtin "object.__setattr__")))
  (cha_Compare : PySem.W.findIn K (.ref k_Compare) "__class__" = some (some (.builtin "object.__class__")))
  (chn_Compare : PySem.W.specialIn K (.builtin "object.__class__") "__get__" = some (some (.builtin "getset_descriptor.__get__")))
  (ctk_Compare : PySem.W.takesIn K (.builtin "object.__class__") = some true)
  (cmo_Compare : PySem.W.mroIn K k_Compare (.type "object") = some true)
  (mkm_Compare : PySem.W.makesIn K k_Compare = true)
  (mki_Compare : PySem.W.findIn K (.ref k_Compare) "__init__" = some (some (.ref f12)))
  (mkf_Compare : PySem.W.isFn K (.ref f12) = true)
  (mkk_Compare : PySem.W.keepIn K (.ref k_Compare) = true)
  (mea_Compare_shown : PySem.W.findIn K (.ref k_Compare) "shown" = some (some (.ref f13)))
  (mef_Compare_shown : PySem.W.isFn K (.ref f13) = true)
  (mea_Compare_atoms : PySem.W.findIn K (.ref k_Compare) "atoms" = some (some (.ref f14)))
  (mef_Compare_atoms : PySem.W.isFn K (.ref f14) = true)
  (noa_Compare_name : PySem.W.findIn K (.ref k_Compare) "name" = some none)
  (noa_Compare_how : PySem.W.findIn K (.ref k_Compare) "how" = some none)
  (noa_Compare_number : PySem.W.findIn K (.ref k_Compare) "number" = some none)
  (cpg_Not : PySem.W.plainGet K k_Not Str.empty = true)
  (chd_Not : PySem.W.hasDictIn K k_Not = true)
  (cpo_Not : PySem.W.plainOver K k_Not = true)
  (csa_Not : PySem.W.findIn K (.ref k_Not) "__setattr__" = some (some (.builtin "object.__setattr__")))
  (cha_Not : PySem.W.findIn K (.ref k_Not) "__class__" = some (some (.builtin "object.__class__")))
  (chn_Not : PySem.W.specialIn K (.builtin "object.__class__") "__get__" = some (some (.builtin "getset_descriptor.__get__")))
  (ctk_Not : PySem.W.takesIn K (.builtin "object.__class__") = some true)
  (cmo_Not : PySem.W.mroIn K k_Not (.type "object") = some true)
  (mkm_Not : PySem.W.makesIn K k_Not = true)
  (mki_Not : PySem.W.findIn K (.ref k_Not) "__init__" = some (some (.ref f15)))
  (mkf_Not : PySem.W.isFn K (.ref f15) = true)
  (mkk_Not : PySem.W.keepIn K (.ref k_Not) = true)
  (mea_Not_shown : PySem.W.findIn K (.ref k_Not) "shown" = some (some (.ref f16)))
  (mef_Not_shown : PySem.W.isFn K (.ref f16) = true)
  (mea_Not_atoms : PySem.W.findIn K (.ref k_Not) "atoms" = some (some (.ref f17)))
  (mef_Not_atoms : PySem.W.isFn K (.ref f17) = true)
  (noa_Not_test : PySem.W.findIn K (.ref k_Not) "test" = some none)
  (cpg_Both : PySem.W.plainGet K k_Both Str.empty = true)
  (chd_Both : PySem.W.hasDictIn K k_Both = true)
  (cpo_Both : PySem.W.plainOver K k_Both = true)
  (csa_Both : PySem.W.findIn K (.ref k_Both) "__setattr__" = some (some (.builtin "object.__setattr__")))
  (cha_Both : PySem.W.findIn K (.ref k_Both) "__class__" = some (some (.builtin "object.__class__")))
  (chn_Both : PySem.W.specialIn K (.builtin "object.__class__") "__get__" = some (some (.builtin "getset_descriptor.__get__")))
  (ctk_Both : PySem.W.takesIn K (.builtin "object.__class__") = some true)
  (cmo_Both : PySem.W.mroIn K k_Both (.type "object") = some true)
  (mkm_Both : PySem.W.makesIn K k_Both = true)
  (mki_Both : PySem.W.findIn K (.ref k_Both) "__init__" = some (some (.ref f18)))
  (mkf_Both : PySem.W.isFn K (.ref f18) = true)
  (mkk_Both : PySem.W.keepIn K (.ref k_Both) = true)
  (mea_Both_shown : PySem.W.findIn K (.ref k_Both) "shown" = some (some (.ref f21)))
  (mef_Both_shown : PySem.W.isFn K (.ref f21) = true)
  (mea_Both_atoms : PySem.W.findIn K (.ref k_Both) "atoms" = some (some (.ref f20)))
  (mef_Both_atoms : PySem.W.isFn K (.ref f20) = true)
  (mea_Both_shown_with : PySem.W.findIn K (.ref k_Both) "shown_with" = some (some (.ref f19)))
  (mef_Both_shown_with : PySem.W.isFn K (.ref f19) = true)
  (noa_Both_one : PySem.W.findIn K (.ref k_Both) "one" = some none)
  (noa_Both_other : PySem.W.findIn K (.ref k_Both) "other" = some none)
  (cpg_Either : PySem.W.plainGet K k_Either Str.empty = true)
  (chd_Either : PySem.W.hasDictIn K k_Either = true)
  (cpo_Either : PySem.W.plainOver K k_Either = true)
  (csa_Either : PySem.W.findIn K (.ref k_Either) "__setattr__" = some (some (.builtin "object.__setattr__")))
  (cha_Either : PySem.W.findIn K (.ref k_Either) "__class__" = some (some (.builtin "object.__class__")))
  (chn_Either : PySem.W.specialIn K (.builtin "object.__class__") "__get__" = some (some (.builtin "getset_descriptor.__get__")))
  (ctk_Either : PySem.W.takesIn K (.builtin "object.__class__") = some true)
  (cmo_Either : PySem.W.mroIn K k_Either (.type "object") = some true)
  (mkm_Either : PySem.W.makesIn K k_Either = true)
  (mki_Either : PySem.W.findIn K (.ref k_Either) "__init__" = some (some (.ref f18)))
  (mkf_Either : PySem.W.isFn K (.ref f18) = true)
  (mkk_Either : PySem.W.keepIn K (.ref k_Either) = true)
  (mea_Either_shown : PySem.W.findIn K (.ref k_Either) "shown" = some (some (.ref f22)))
  (mef_Either_shown : PySem.W.isFn K (.ref f22) = true)
  (mea_Either_atoms : PySem.W.findIn K (.ref k_Either) "atoms" = some (some (.ref f20)))
  (mef_Either_atoms : PySem.W.isFn K (.ref f20) = true)
  (mea_Either_shown_with : PySem.W.findIn K (.ref k_Either) "shown_with" = some (some (.ref f19)))
  (mef_Either_shown_with : PySem.W.isFn K (.ref f19) = true)
  (noa_Either_one : PySem.W.findIn K (.ref k_Either) "one" = some none)
  (noa_Either_other : PySem.W.findIn K (.ref k_Either) "other" = some none)
  (cpg_WordsLeft : PySem.W.plainGet K k_WordsLeft Str.empty = true)
  (chd_WordsLeft : PySem.W.hasDictIn K k_WordsLeft = true)
  (cpo_WordsLeft : PySem.W.plainOver K k_WordsLeft = true)
  (csa_WordsLeft : PySem.W.findIn K (.ref k_WordsLeft) "__setattr__" = some (some (.builtin "object.__setattr__")))
  (cha_WordsLeft : PySem.W.findIn K (.ref k_WordsLeft) "__class__" = some (some (.builtin "object.__class__")))
  (chn_WordsLeft : PySem.W.specialIn K (.builtin "object.__class__") "__get__" = some (some (.builtin "getset_descriptor.__get__")))
  (ctk_WordsLeft : PySem.W.takesIn K (.builtin "object.__class__") = some true)
  (cmo_WordsLeft : PySem.W.mroIn K k_WordsLeft (.type "object") = some true)
  (mkm_WordsLeft : PySem.W.makesIn K k_WordsLeft = true)
  (mki_WordsLeft : PySem.W.findIn K (.ref k_WordsLeft) "__init__" = some (some (.ref f23)))
  (mkf_WordsLeft : PySem.W.isFn K (.ref f23) = true)
  (mkk_WordsLeft : PySem.W.keepIn K (.ref k_WordsLeft) = true)
  (mea_WordsLeft_take : PySem.W.findIn K (.ref k_WordsLeft) "take" = some (some (.ref f24)))
  (mef_WordsLeft_take : PySem.W.isFn K (.ref f24) = true)
  (mea_WordsLeft_are_all_taken : PySem.W.findIn K (.ref k_WordsLeft) "are_all_taken" = some (some (.ref f25)))
  (mef_WordsLeft_are_all_taken : PySem.W.isFn K (.ref f25) = true)
  (noa_WordsLeft_words : PySem.W.findIn K (.ref k_WordsLeft) "words" = some none)
  (noa_WordsLeft_taken : PySem.W.findIn K (.ref k_WordsLeft) "taken" = some none)
  (cpg_Check : PySem.W.plainGet K k_Check Str.empty = true)
  (chd_Check : PySem.W.hasDictIn K k_Check = true)
  (cpo_Check : PySem.W.plainOver K k_Check = true)
  (csa_Check : PySem.W.findIn K (.ref k_Check) "__setattr__" = some (some (.builtin "object.__setattr__")))
  (cha_Check : PySem.W.findIn K (.ref k_Check) "__class__" = some (some (.builtin "object.__class__")))
  (chn_Check : PySem.W.specialIn K (.builtin "object.__class__") "__get__" = some (some (.builtin "getset_descriptor.__get__")))
  (ctk_Check : PySem.W.takesIn K (.builtin "object.__class__") = some true)
  (cmo_Check : PySem.W.mroIn K k_Check (.type "object") = some true)
  (mkm_Check : PySem.W.makesIn K k_Check = true)
  (mki_Check : PySem.W.findIn K (.ref k_Check) "__init__" = some (some (.ref f6)))
  (mkf_Check : PySem.W.isFn K (.ref f6) = true)
  (mkk_Check : PySem.W.keepIn K (.ref k_Check) = true)
  (noa_Check_name : PySem.W.findIn K (.ref k_Check) "name" = some none)
  (noa_Check_test : PySem.W.findIn K (.ref k_Check) "test" = some none)
  (noa_Check_firm : PySem.W.findIn K (.ref k_Check) "firm" = some none)
  (cpg_Sheet : PySem.W.plainGet K k_Sheet Str.empty = true)
  (chd_Sheet : PySem.W.hasDictIn K k_Sheet = true)
  (cpo_Sheet : PySem.W.plainOver K k_Sheet = true)
  (csa_Sheet : PySem.W.findIn K (.ref k_Sheet) "__setattr__" = some (some (.builtin "object.__setattr__")))
  (cha_Sheet : PySem.W.findIn K (.ref k_Sheet) "__class__" = some (some (.builtin "object.__class__")))
  (chn_Sheet : PySem.W.specialIn K (.builtin "object.__class__") "__get__" = some (some (.builtin "getset_descriptor.__get__")))
  (ctk_Sheet : PySem.W.takesIn K (.builtin "object.__class__") = some true)
  (cmo_Sheet : PySem.W.mroIn K k_Sheet (.type "object") = some true)
  (mkm_Sheet : PySem.W.makesIn K k_Sheet = true)
  (mki_Sheet : PySem.W.findIn K (.ref k_Sheet) "__init__" = some (some (.ref f7)))
  (mkf_Sheet : PySem.W.isFn K (.ref f7) = true)
  (mkk_Sheet : PySem.W.keepIn K (.ref k_Sheet) = true)
  (noa_Sheet_name : PySem.W.findIn K (.ref k_Sheet) "name" = some none)
  (noa_Sheet_each : PySem.W.findIn K (.ref k_Sheet) "each" = some none)
  (noa_Sheet_rows : PySem.W.findIn K (.ref k_Sheet) "rows" = some none)
  (noa_Sheet_ways : PySem.W.findIn K (.ref k_Sheet) "ways" = some none)
  (cpg_Paper : PySem.W.plainGet K k_Paper Str.empty = true)
  (chd_Paper : PySem.W.hasDictIn K k_Paper = true)
  (cpo_Paper : PySem.W.plainOver K k_Paper = true)
  (csa_Paper : PySem.W.findIn K (.ref k_Paper) "__setattr__" = some (some (.builtin "object.__setattr__")))
  (cha_Paper : PySem.W.findIn K (.ref k_Paper) "__class__" = some (some (.builtin "object.__class__")))
  (chn_Paper : PySem.W.specialIn K (.builtin "object.__class__") "__get__" = some (some (.builtin "getset_descriptor.__get__")))
  (ctk_Paper : PySem.W.takesIn K (.builtin "object.__class__") = some true)
  (cmo_Paper : PySem.W.mroIn K k_Paper (.type "object") = some true)
  (mkm_Paper : PySem.W.makesIn K k_Paper = true)
  (mki_Paper : PySem.W.findIn K (.ref k_Paper) "__init__" = some (some (.ref f8)))
  (mkf_Paper : PySem.W.isFn K (.ref f8) = true)
  (mkk_Paper : PySem.W.keepIn K (.ref k_Paper) = true)
  (noa_Paper_name : PySem.W.findIn K (.ref k_Paper) "name" = some none)
  (noa_Paper_sheets : PySem.W.findIn K (.ref k_Paper) "sheets" = some none)
  (noa_Paper_totals : PySem.W.findIn K (.ref k_Paper) "totals" = some none)
  (cpg_Draft : PySem.W.plainGet K k_Draft Str.empty = true)
  (chd_Draft : PySem.W.hasDictIn K k_Draft = true)
  (cpo_Draft : PySem.W.plainOver K k_Draft = true)
  (csa_Draft : PySem.W.findIn K (.ref k_Draft) "__setattr__" = some (some (.builtin "object.__setattr__")))
  (cha_Draft : PySem.W.findIn K (.ref k_Draft) "__class__" = some (some (.builtin "object.__class__")))
  (chn_Draft : PySem.W.specialIn K (.builtin "object.__class__") "__get__" = some (some (.builtin "getset_descriptor.__get__")))
  (ctk_Draft : PySem.W.takesIn K (.builtin "object.__class__") = some true)
  (cmo_Draft : PySem.W.mroIn K k_Draft (.type "object") = some true)
  (mkm_Draft : PySem.W.makesIn K k_Draft = true)
  (mki_Draft : PySem.W.findIn K (.ref k_Draft) "__init__" = some (some (.ref f34)))
  (mkf_Draft : PySem.W.isFn K (.ref f34) = true)
  (mkk_Draft : PySem.W.keepIn K (.ref k_Draft) = true)
  (mea_Draft_demand : PySem.W.findIn K (.ref k_Draft) "demand" = some (some (.ref f35)))
  (mef_Draft_demand : PySem.W.isFn K (.ref f35) = true)
  (mea_Draft_read_test : PySem.W.findIn K (.ref k_Draft) "read_test" = some (some (.ref f36)))
  (mef_Draft_read_test : PySem.W.isFn K (.ref f36) = true)
  (mea_Draft_read_when : PySem.W.findIn K (.ref k_Draft) "read_when" = some (some (.ref f37)))
  (mef_Draft_read_when : PySem.W.isFn K (.ref f37) = true)
  (mea_Draft_sheet_to_fill : PySem.W.findIn K (.ref k_Draft) "sheet_to_fill" = some (some (.ref f38)))
  (mef_Draft_sheet_to_fill : PySem.W.isFn K (.ref f38) = true)
  (mea_Draft_put_row : PySem.W.findIn K (.ref k_Draft) "put_row" = some (some (.ref f39)))
  (mef_Draft_put_row : PySem.W.isFn K (.ref f39) = true)
  (mea_Draft_take_paper : PySem.W.findIn K (.ref k_Draft) "take_paper" = some (some (.ref f40)))
  (mef_Draft_take_paper : PySem.W.isFn K (.ref f40) = true)
  (mea_Draft_take_sheet : PySem.W.findIn K (.ref k_Draft) "take_sheet" = some (some (.ref f41)))
  (mef_Draft_take_sheet : PySem.W.isFn K (.ref f41) = true)
  (mea_Draft_take_check : PySem.W.findIn K (.ref k_Draft) "take_check" = some (some (.ref f42)))
  (mef_Draft_take_check : PySem.W.isFn K (.ref f42) = true)
  (mea_Draft_take_way : PySem.W.findIn K (.ref k_Draft) "take_way" = some (some (.ref f43)))
  (mef_Draft_take_way : PySem.W.isFn K (.ref f43) = true)
  (mea_Draft_take_row : PySem.W.findIn K (.ref k_Draft) "take_row" = some (some (.ref f44)))
  (mef_Draft_take_row : PySem.W.isFn K (.ref f44) = true)
  (mea_Draft_take_line : PySem.W.findIn K (.ref k_Draft) "take_line" = some (some (.ref f45)))
  (mef_Draft_take_line : PySem.W.isFn K (.ref f45) = true)
  (noa_Draft_name : PySem.W.findIn K (.ref k_Draft) "name" = some none)
  (noa_Draft_sheets : PySem.W.findIn K (.ref k_Draft) "sheets" = some none)
  (noa_Draft_totals : PySem.W.findIn K (.ref k_Draft) "totals" = some none)
  (noa_Draft_atoms_read : PySem.W.findIn K (.ref k_Draft) "atoms_read" = some none)
  (noa_Draft_place : PySem.W.findIn K (.ref k_Draft) "place" = some none)
  (cfr_Row_init : PySem.W.readsIn K k_Row (.type "type") = true)
  (cfa_Row_init : PySem.W.findCls K (.ref k_Row) (.type "type") "__init__" = some (.val (.ref f5)))
  (cfs_Row_init : PySem.W.specialIn K (.ref k_Row) "__getattribute__" = some (some (.builtin "type.__getattribute__"))) :
  ∃ A : Adr, Txt K mg A :=
  ⟨⟨f0,
    PySem.W.fnOf "is_name" "is_name" (defArgs s_is_name) (defBody s_is_name) (defScope s_is_name) .none kV0 dc0 pm0 an0 cd0 ct0,
    f1,
    PySem.W.fnOf "are_figures" "are_figures" (defArgs s_are_figures) (defBody s_are_figures) (defScope s_are_figures) .none kV1 dc1 pm1 an1 cd1 ct1,
    f2,
    PySem.W.fnOf "figures_worth" "figures_worth" (defArgs s_figures_worth) (defBody s_figures_worth) (defScope s_figures_worth) .none kV2 dc2 pm2 an2 cd2 ct2,
    f3,
    PySem.W.fnOf "number_of" "number_of" (defArgs s_number_of) (defBody s_number_of) (defScope s_number_of) (.ref dT3) kV3 dc3 pm3 an3 cd3 ct3,
    [(.int 60 dt3_0)],
    f4,
    PySem.W.fnOf "number_or_none" "number_or_none" (defArgs s_number_or_none) (defBody s_number_or_none) (defScope s_number_or_none) .none kV4 dc4 pm4 an4 cd4 ct4,
    f5,
    PySem.W.fnOf "__init__" "Row.__init__" (defArgs s_c_Row___init) (defBody s_c_Row___init) (defScope s_c_Row___init) .none kV5 dc5 pm5 an5 cd5 ct5,
    f6,
    PySem.W.fnOf "__init__" "Check.__init__" (defArgs s_c_Check___init) (defBody s_c_Check___init) (defScope s_c_Check___init) (.ref dT6) kV6 dc6 pm6 an6 cd6 ct6,
    [(.bool true)],
    f7,
    PySem.W.fnOf "__init__" "Sheet.__init__" (defArgs s_c_Sheet___init) (defBody s_c_Sheet___init) (defScope s_c_Sheet___init) .none kV7 dc7 pm7 an7 cd7 ct7,
    f8,
    PySem.W.fnOf "__init__" "Paper.__init__" (defArgs s_c_Paper___init) (defBody s_c_Paper___init) (defScope s_c_Paper___init) .none kV8 dc8 pm8 an8 cd8 ct8,
    f9,
    PySem.W.fnOf "__init__" "Is.__init__" (defArgs s_c_Is___init) (defBody s_c_Is___init) (defScope s_c_Is___init) (.ref dT9) kV9 dc9 pm9 an9 cd9 ct9,
    [.none],
    f10,
    PySem.W.fnOf "shown" "Is.shown" (defArgs s_c_Is_shown) (defBody s_c_Is_shown) (defScope s_c_Is_shown) .none kV10 dc10 pm10 an10 cd10 ct10,
    f11,
    PySem.W.fnOf "atoms" "Is.atoms" (defArgs s_c_Is_atoms) (defBody s_c_Is_atoms) (defScope s_c_Is_atoms) .none kV11 dc11 pm11 an11 cd11 ct11,
    f12,
    PySem.W.fnOf "__init__" "Compare.__init__" (defArgs s_c_Compare___init) (defBody s_c_Compare___init) (defScope s_c_Compare___init) .none kV12 dc12 pm12 an12 cd12 ct12,
    f13,
    PySem.W.fnOf "shown" "Compare.shown" (defArgs s_c_Compare_shown) (defBody s_c_Compare_shown) (defScope s_c_Compare_shown) .none kV13 dc13 pm13 an13 cd13 ct13,
    f14,
    PySem.W.fnOf "atoms" "Compare.atoms" (defArgs s_c_Compare_atoms) (defBody s_c_Compare_atoms) (defScope s_c_Compare_atoms) .none kV14 dc14 pm14 an14 cd14 ct14,
    f15,
    PySem.W.fnOf "__init__" "Not.__init__" (defArgs s_c_Not___init) (defBody s_c_Not___init) (defScope s_c_Not___init) .none kV15 dc15 pm15 an15 cd15 ct15,
    f16,
    PySem.W.fnOf "shown" "Not.shown" (defArgs s_c_Not_shown) (defBody s_c_Not_shown) (defScope s_c_Not_shown) .none kV16 dc16 pm16 an16 cd16 ct16,
    f17,
    PySem.W.fnOf "atoms" "Not.atoms" (defArgs s_c_Not_atoms) (defBody s_c_Not_atoms) (defScope s_c_Not_atoms) .none kV17 dc17 pm17 an17 cd17 ct17,
    f18,
    PySem.W.fnOf "__init__" "Pair.__init__" (defArgs s_c_Pair___init) (defBody s_c_Pair___init) (defScope s_c_Pair___init) .none kV18 dc18 pm18 an18 cd18 ct18,
    f19,
    PySem.W.fnOf "shown_with" "Pair.shown_with" (defArgs s_c_Pair_shown_with) (defBody s_c_Pair_shown_with) (defScope s_c_Pair_shown_with) .none kV19 dc19 pm19 an19 cd19 ct19,
    f20,
    PySem.W.fnOf "atoms" "Pair.atoms" (defArgs s_c_Pair_atoms) (defBody s_c_Pair_atoms) (defScope s_c_Pair_atoms) .none kV20 dc20 pm20 an20 cd20 ct20,
    f21,
    PySem.W.fnOf "shown" "Both.shown" (defArgs s_c_Both_shown) (defBody s_c_Both_shown) (defScope s_c_Both_shown) .none kV21 dc21 pm21 an21 cd21 ct21,
    f22,
    PySem.W.fnOf "shown" "Either.shown" (defArgs s_c_Either_shown) (defBody s_c_Either_shown) (defScope s_c_Either_shown) .none kV22 dc22 pm22 an22 cd22 ct22,
    f23,
    PySem.W.fnOf "__init__" "WordsLeft.__init__" (defArgs s_c_WordsLeft___init) (defBody s_c_WordsLeft___init) (defScope s_c_WordsLeft___init) .none kV23 dc23 pm23 an23 cd23 ct23,
    f24,
    PySem.W.fnOf "take" "WordsLeft.take" (defArgs s_c_WordsLeft_take) (defBody s_c_WordsLeft_take) (defScope s_c_WordsLeft_take) .none kV24 dc24 pm24 an24 cd24 ct24,
    f25,
    PySem.W.fnOf "are_all_taken" "WordsLeft.are_all_taken" (defArgs s_c_WordsLeft_are_all_taken) (defBody s_c_WordsLeft_are_all_taken) (defScope s_c_WordsLeft_are_all_taken) .none kV25 dc25 pm25 an25 cd25 ct25,
    f26,
    PySem.W.fnOf "read_atom" "read_atom" (defArgs s_read_atom) (defBody s_read_atom) (defScope s_read_atom) .none kV26 dc26 pm26 an26 cd26 ct26,
    f27,
    PySem.W.fnOf "read_pair" "read_pair" (defArgs s_read_pair) (defBody s_read_pair) (defScope s_read_pair) .none kV27 dc27 pm27 an27 cd27 ct27,
    f28,
    PySem.W.fnOf "read_next" "read_next" (defArgs s_read_next) (defBody s_read_next) (defScope s_read_next) .none kV28 dc28 pm28 an28 cd28 ct28,
    f29,
    PySem.W.fnOf "read_saying" "read_saying" (defArgs s_read_saying) (defBody s_read_saying) (defScope s_read_saying) .none kV29 dc29 pm29 an29 cd29 ct29,
    f30,
    PySem.W.fnOf "shown_when" "shown_when" (defArgs s_shown_when) (defBody s_shown_when) (defScope s_shown_when) .none kV30 dc30 pm30 an30 cd30 ct30,
    f31,
    PySem.W.fnOf "shown_row" "shown_row" (defArgs s_shown_row) (defBody s_shown_row) (defScope s_shown_row) .none kV31 dc31 pm31 an31 cd31 ct31,
    f32,
    PySem.W.fnOf "shown_sheet" "shown_sheet" (defArgs s_shown_sheet) (defBody s_shown_sheet) (defScope s_shown_sheet) .none kV32 dc32 pm32 an32 cd32 ct32,
    f33,
    PySem.W.fnOf "shown_paper" "shown_paper" (defArgs s_shown_paper) (defBody s_shown_paper) (defScope s_shown_paper) .none kV33 dc33 pm33 an33 cd33 ct33,
    f34,
    PySem.W.fnOf "__init__" "Draft.__init__" (defArgs s_c_Draft___init) (defBody s_c_Draft___init) (defScope s_c_Draft___init) .none kV34 dc34 pm34 an34 cd34 ct34,
    f35,
    PySem.W.fnOf "demand" "Draft.demand" (defArgs s_c_Draft_demand) (defBody s_c_Draft_demand) (defScope s_c_Draft_demand) .none kV35 dc35 pm35 an35 cd35 ct35,
    f36,
    PySem.W.fnOf "read_test" "Draft.read_test" (defArgs s_c_Draft_read_test) (defBody s_c_Draft_read_test) (defScope s_c_Draft_read_test) .none kV36 dc36 pm36 an36 cd36 ct36,
    f37,
    PySem.W.fnOf "read_when" "Draft.read_when" (defArgs s_c_Draft_read_when) (defBody s_c_Draft_read_when) (defScope s_c_Draft_read_when) .none kV37 dc37 pm37 an37 cd37 ct37,
    f38,
    PySem.W.fnOf "sheet_to_fill" "Draft.sheet_to_fill" (defArgs s_c_Draft_sheet_to_fill) (defBody s_c_Draft_sheet_to_fill) (defScope s_c_Draft_sheet_to_fill) .none kV38 dc38 pm38 an38 cd38 ct38,
    f39,
    PySem.W.fnOf "put_row" "Draft.put_row" (defArgs s_c_Draft_put_row) (defBody s_c_Draft_put_row) (defScope s_c_Draft_put_row) .none kV39 dc39 pm39 an39 cd39 ct39,
    f40,
    PySem.W.fnOf "take_paper" "Draft.take_paper" (defArgs s_c_Draft_take_paper) (defBody s_c_Draft_take_paper) (defScope s_c_Draft_take_paper) .none kV40 dc40 pm40 an40 cd40 ct40,
    f41,
    PySem.W.fnOf "take_sheet" "Draft.take_sheet" (defArgs s_c_Draft_take_sheet) (defBody s_c_Draft_take_sheet) (defScope s_c_Draft_take_sheet) .none kV41 dc41 pm41 an41 cd41 ct41,
    f42,
    PySem.W.fnOf "take_check" "Draft.take_check" (defArgs s_c_Draft_take_check) (defBody s_c_Draft_take_check) (defScope s_c_Draft_take_check) .none kV42 dc42 pm42 an42 cd42 ct42,
    f43,
    PySem.W.fnOf "take_way" "Draft.take_way" (defArgs s_c_Draft_take_way) (defBody s_c_Draft_take_way) (defScope s_c_Draft_take_way) .none kV43 dc43 pm43 an43 cd43 ct43,
    f44,
    PySem.W.fnOf "take_row" "Draft.take_row" (defArgs s_c_Draft_take_row) (defBody s_c_Draft_take_row) (defScope s_c_Draft_take_row) .none kV44 dc44 pm44 an44 cd44 ct44,
    f45,
    PySem.W.fnOf "take_line" "Draft.take_line" (defArgs s_c_Draft_take_line) (defBody s_c_Draft_take_line) (defScope s_c_Draft_take_line) .none kV45 dc45 pm45 an45 cd45 ct45,
    f46,
    PySem.W.fnOf "read_paper" "read_paper" (defArgs s_read_paper) (defBody s_read_paper) (defScope s_read_paper) .none kV46 dc46 pm46 an46 cd46 ct46,
    f47,
    PySem.W.fnOf "_law_cell_at" "_law_cell_at" (defArgs s_law_cell_at) (defBody s_law_cell_at) (defScope s_law_cell_at) .none kV47 dc47 pm47 an47 cd47 ct47,
    f48,
    PySem.W.fnOf "_law_mixed" "_law_mixed" (defArgs s_law_mixed) (defBody s_law_mixed) (defScope s_law_mixed) .none kV48 dc48 pm48 an48 cd48 ct48,
    f49,
    PySem.W.fnOf "_law_open" "_law_open" (defArgs s_law_open) (defBody s_law_open) (defScope s_law_open) .none kV49 dc49 pm49 an49 cd49 ct49,
    f50,
    PySem.W.fnOf "_law_name" "_law_name" (defArgs s_law_name) (defBody s_law_name) (defScope s_law_name) .none kV50 dc50 pm50 an50 cd50 ct50,
    f51,
    PySem.W.fnOf "_law_number" "_law_number" (defArgs s_law_number) (defBody s_law_number) (defScope s_law_number) .none kV51 dc51 pm51 an51 cd51 ct51,
    f52,
    PySem.W.fnOf "_law_atom" "_law_atom" (defArgs s_law_atom) (defBody s_law_atom) (defScope s_law_atom) .none kV52 dc52 pm52 an52 cd52 ct52,
    f53,
    PySem.W.fnOf "_law_saying" "_law_saying" (defArgs s_law_saying) (defBody s_law_saying) (defScope s_law_saying) .none kV53 dc53 pm53 an53 cd53 ct53,
    f54,
    PySem.W.fnOf "_law_sheet" "_law_sheet" (defArgs s_law_sheet) (defBody s_law_sheet) (defScope s_law_sheet) .none kV54 dc54 pm54 an54 cd54 ct54,
    f55,
    PySem.W.fnOf "_law_sheet_rows" "_law_sheet_rows" (defArgs s_law_sheet_rows) (defBody s_law_sheet_rows) (defScope s_law_sheet_rows) .none kV55 dc55 pm55 an55 cd55 ct55,
    f56,
    PySem.W.fnOf "_law_way_fits" "_law_way_fits" (defArgs s_law_way_fits) (defBody s_law_way_fits) (defScope s_law_way_fits) .none kV56 dc56 pm56 an56 cd56 ct56,
    f57,
    PySem.W.fnOf "_law_sheet_fits" "_law_sheet_fits" (defArgs s_law_sheet_fits) (defBody s_law_sheet_fits) (defScope s_law_sheet_fits) .none kV57 dc57 pm57 an57 cd57 ct57,
    f58,
    PySem.W.fnOf "law" "law" (defArgs s_law) (defBody s_law) (defScope s_law) .none kV58 dc58 pm58 an58 cd58 ct58,
    ga2,
    ga10,
    k_Ask,
    k_Both,
    k_Check,
    k_Compare,
    k_Draft,
    k_Either,
    k_Is,
    k_NoNumber,
    k_NoSaying,
    k_Not,
    k_Pair,
    k_Paper,
    k_Row,
    k_Saying,
    k_Sheet,
    k_WordsLeft⟩, ⟨fun_mk (st := s_is_name) l0 c0 k0,
    (fun_mk (st := s_is_name) l0 c0 k0).binds (ps := ["thing"]) (fun _ _ _ _ _ _ us hl => match us, hl with | [_], _ => rfl),
    k0,
    PySem.W.mg_of X G a0,
    fun_mk (st := s_are_figures) l1 c1 k1,
    (fun_mk (st := s_are_figures) l1 c1 k1).binds (ps := ["text"]) (fun _ _ _ _ _ _ us hl => match us, hl with | [_], _ => rfl),
    k1,
    PySem.W.mg_of X G a1,
    fun_mk (st := s_figures_worth) l2 c2 k2,
    (fun_mk (st := s_figures_worth) l2 c2 k2).binds (ps := ["figures"]) (fun _ _ _ _ _ _ us hl => match us, hl with | [_], _ => rfl),
    k2,
    PySem.W.mg_of X G a2,
    (funD_mk (st := s_number_of) l3 c3 k3 dl3),
    (funD_mk (st := s_number_of) l3 c3 k3 dl3).binds (es := []) (fun T _ _ _ _ _ _ us M A E Q s to n ht hc hd hl hq => match us, hl with | [_, _], _ => BindsTo.of_defaults rfl ht hd rfl rfl M A E Q hq),
    (funD_mk (st := s_number_of) l3 c3 k3 dl3).binds (fun T _ _ _ _ _ _ us M A E Q s to n ht hc hd hl hq => match us, app_len (m := 1) hl rfl with | [_], _ => BindsTo.of_defaults rfl ht hd rfl rfl M A E Q hq),
    .cons ⟨_, rfl⟩ (.nil),
    k3,
    PySem.W.mg_of X G a3,
    fun_mk (st := s_number_or_none) l4 c4 k4,
    (fun_mk (st := s_number_or_none) l4 c4 k4).binds (ps := ["text"]) (fun _ _ _ _ _ _ us hl => match us, hl with | [_], _ => rfl),
    k4,
    PySem.W.mg_of X G a4,
    fun_mk (st := s_c_Row___init) l5 c5 k5,
    (fun_mk (st := s_c_Row___init) l5 c5 k5).binds (ps := ["self", "name"]) (fun _ _ _ _ _ _ us hl => match us, hl with | [_, _], _ => rfl),
    k5,
    (funD_mk (st := s_c_Check___init) l6 c6 k6 dl6),
    (funD_mk (st := s_c_Check___init) l6 c6 k6 dl6).binds (es := []) (fun T _ _ _ _ _ _ us M A E Q s to n ht hc hd hl hq => match us, hl with | [_, _, _, _], _ => BindsTo.of_defaults rfl ht hd rfl rfl M A E Q hq),
    (funD_mk (st := s_c_Check___init) l6 c6 k6 dl6).binds (fun T _ _ _ _ _ _ us M A E Q s to n ht hc hd hl hq => match us, app_len (m := 3) hl rfl with | [_, _, _], _ => BindsTo.of_defaults rfl ht hd rfl rfl M A E Q hq),
    .cons rfl (.nil),
    k6,
    fun_mk (st := s_c_Sheet___init) l7 c7 k7,
    (fun_mk (st := s_c_Sheet___init) l7 c7 k7).binds (ps := ["self", "name", "each", "rows", "ways"]) (fun _ _ _ _ _ _ us hl => match us, hl with | [_, _, _, _, _], _ => rfl),
    k7,
    fun_mk (st := s_c_Paper___init) l8 c8 k8,
    (fun_mk (st := s_c_Paper___init) l8 c8 k8).binds (ps := ["self", "name", "sheets", "totals"]) (fun _ _ _ _ _ _ us hl => match us, hl with | [_, _, _, _], _ => rfl),
    k8,
    (funD_mk (st := s_c_Is___init) l9 c9 k9 dl9),
    (funD_mk (st := s_c_Is___init) l9 c9 k9 dl9).binds (es := []) (fun T _ _ _ _ _ _ us M A E Q s to n ht hc hd hl hq => match us, hl with | [_, _, _, _], _ => BindsTo.of_defaults rfl ht hd rfl rfl M A E Q hq),
    (funD_mk (st := s_c_Is___init) l9 c9 k9 dl9).binds (fun T _ _ _ _ _ _ us M A E Q s to n ht hc hd hl hq => match us, app_len (m := 3) hl rfl with | [_, _, _], _ => BindsTo.of_defaults rfl ht hd rfl rfl M A E Q hq),
    .cons rfl (.nil),
    k9,
    fun_mk (st := s_c_Is_shown) l10 c10 k10,
    (fun_mk (st := s_c_Is_shown) l10 c10 k10).binds (ps := ["self"]) (fun _ _ _ _ _ _ us hl => match us, hl with | [_], _ => rfl),
    k10,
    fun_mk (st := s_c_Is_atoms) l11 c11 k11,
    (fun_mk (st := s_c_Is_atoms) l11 c11 k11).binds (ps := ["self"]) (fun _ _ _ _ _ _ us hl => match us, hl with | [_], _ => rfl),
    k11,
    fun_mk (st := s_c_Compare___init) l12 c12 k12,
    (fun_mk (st := s_c_Compare___init) l12 c12 k12).binds (ps := ["self", "name", "how", "number"]) (fun _ _ _ _ _ _ us hl => match us, hl with | [_, _, _, _], _ => rfl),
    k12,
    fun_mk (st := s_c_Compare_shown) l13 c13 k13,
    (fun_mk (st := s_c_Compare_shown) l13 c13 k13).binds (ps := ["self"]) (fun _ _ _ _ _ _ us hl => match us, hl with | [_], _ => rfl),
    k13,
    fun_mk (st := s_c_Compare_atoms) l14 c14 k14,
    (fun_mk (st := s_c_Compare_atoms) l14 c14 k14).binds (ps := ["self"]) (fun _ _ _ _ _ _ us hl => match us, hl with | [_], _ => rfl),
    k14,
    fun_mk (st := s_c_Not___init) l15 c15 k15,
    (fun_mk (st := s_c_Not___init) l15 c15 k15).binds (ps := ["self", "test"]) (fun _ _ _ _ _ _ us hl => match us, hl with | [_, _], _ => rfl),
    k15,
    fun_mk (st := s_c_Not_shown) l16 c16 k16,
    (fun_mk (st := s_c_Not_shown) l16 c16 k16).binds (ps := ["self"]) (fun _ _ _ _ _ _ us hl => match us, hl with | [_], _ => rfl),
    k16,
    fun_mk (st := s_c_Not_atoms) l17 c17 k17,
    (fun_mk (st := s_c_Not_atoms) l17 c17 k17).binds (ps := ["self"]) (fun _ _ _ _ _ _ us hl => match us, hl with | [_], _ => rfl),
    k17,
    fun_mk (st := s_c_Pair___init) l18 c18 k18,
    (fun_mk (st := s_c_Pair___init) l18 c18 k18).binds (ps := ["self", "one", "other"]) (fun _ _ _ _ _ _ us hl => match us, hl with | [_, _, _], _ => rfl),
    k18,
    fun_mk (st := s_c_Pair_shown_with) l19 c19 k19,
    (fun_mk (st := s_c_Pair_shown_with) l19 c19 k19).binds (ps := ["self", "word"]) (fun _ _ _ _ _ _ us hl => match us, hl with | [_, _], _ => rfl),
    k19,
    fun_mk (st := s_c_Pair_atoms) l20 c20 k20,
    (fun_mk (st := s_c_Pair_atoms) l20 c20 k20).binds (ps := ["self"]) (fun _ _ _ _ _ _ us hl => match us, hl with | [_], _ => rfl),
    k20,
    fun_mk (st := s_c_Both_shown) l21 c21 k21,
    (fun_mk (st := s_c_Both_shown) l21 c21 k21).binds (ps := ["self"]) (fun _ _ _ _ _ _ us hl => match us, hl with | [_], _ => rfl),
    k21,
    fun_mk (st := s_c_Either_shown) l22 c22 k22,
    (fun_mk (st := s_c_Either_shown) l22 c22 k22).binds (ps := ["self"]) (fun _ _ _ _ _ _ us hl => match us, hl with | [_], _ => rfl),
    k22,
    fun_mk (st := s_c_WordsLeft___init) l23 c23 k23,
    (fun_mk (st := s_c_WordsLeft___init) l23 c23 k23).binds (ps := ["self", "words"]) (fun _ _ _ _ _ _ us hl => match us, hl with | [_, _], _ => rfl),
    k23,
    fun_mk (st := s_c_WordsLeft_take) l24 c24 k24,
    (fun_mk (st := s_c_WordsLeft_take) l24 c24 k24).binds (ps := ["self"]) (fun _ _ _ _ _ _ us hl => match us, hl with | [_], _ => rfl),
    k24,
    fun_mk (st := s_c_WordsLeft_are_all_taken) l25 c25 k25,
    (fun_mk (st := s_c_WordsLeft_are_all_taken) l25 c25 k25).binds (ps := ["self"]) (fun _ _ _ _ _ _ us hl => match us, hl with | [_], _ => rfl),
    k25,
    fun_mk (st := s_read_atom) l26 c26 k26,
    (fun_mk (st := s_read_atom) l26 c26 k26).binds (ps := ["name", "how", "what"]) (fun _ _ _ _ _ _ us hl => match us, hl with | [_, _, _], _ => rfl),
    k26,
    PySem.W.mg_of X G a26,
    fun_mk (st := s_read_pair) l27 c27 k27,
    (fun_mk (st := s_read_pair) l27 c27 k27).binds (ps := ["left", "deepest"]) (fun _ _ _ _ _ _ us hl => match us, hl with | [_, _], _ => rfl),
    k27,
    PySem.W.mg_of X G a27,
    fun_mk (st := s_read_next) l28 c28 k28,
    (fun_mk (st := s_read_next) l28 c28 k28).binds (ps := ["left", "deepest"]) (fun _ _ _ _ _ _ us hl => match us, hl with | [_, _], _ => rfl),
    k28,
    PySem.W.mg_of X G a28,
    fun_mk (st := s_read_saying) l29 c29 k29,
    (fun_mk (st := s_read_saying) l29 c29 k29).binds (ps := ["text"]) (fun _ _ _ _ _ _ us hl => match us, hl with | [_], _ => rfl),
    k29,
    PySem.W.mg_of X G a29,
    fun_mk (st := s_shown_when) l30 c30 k30,
    (fun_mk (st := s_shown_when) l30 c30 k30).binds (ps := ["saying"]) (fun _ _ _ _ _ _ us hl => match us, hl with | [_], _ => rfl),
    k30,
    PySem.W.mg_of X G a30,
    fun_mk (st := s_shown_row) l31 c31 k31,
    (fun_mk (st := s_shown_row) l31 c31 k31).binds (ps := ["row"]) (fun _ _ _ _ _ _ us hl => match us, hl with | [_], _ => rfl),
    k31,
    PySem.W.mg_of X G a31,
    fun_mk (st := s_shown_sheet) l32 c32 k32,
    (fun_mk (st := s_shown_sheet) l32 c32 k32).binds (ps := ["sheet"]) (fun _ _ _ _ _ _ us hl => match us, hl with | [_], _ => rfl),
    k32,
    PySem.W.mg_of X G a32,
    fun_mk (st := s_shown_paper) l33 c33 k33,
    (fun_mk (st := s_shown_paper) l33 c33 k33).binds (ps := ["paper"]) (fun _ _ _ _ _ _ us hl => match us, hl with | [_], _ => rfl),
    k33,
    PySem.W.mg_of X G a33,
    fun_mk (st := s_c_Draft___init) l34 c34 k34,
    (fun_mk (st := s_c_Draft___init) l34 c34 k34).binds (ps := ["self"]) (fun _ _ _ _ _ _ us hl => match us, hl with | [_], _ => rfl),
    k34,
    fun_mk (st := s_c_Draft_demand) l35 c35 k35,
    (fun_mk (st := s_c_Draft_demand) l35 c35 k35).binds (ps := ["self", "so"]) (fun _ _ _ _ _ _ us hl => match us, hl with | [_, _], _ => rfl),
    k35,
    fun_mk (st := s_c_Draft_read_test) l36 c36 k36,
    (fun_mk (st := s_c_Draft_read_test) l36 c36 k36).binds (ps := ["self", "text"]) (fun _ _ _ _ _ _ us hl => match us, hl with | [_, _], _ => rfl),
    k36,
    fun_mk (st := s_c_Draft_read_when) l37 c37 k37,
    (fun_mk (st := s_c_Draft_read_when) l37 c37 k37).binds (ps := ["self", "parted"]) (fun _ _ _ _ _ _ us hl => match us, hl with | [_, _], _ => rfl),
    k37,
    fun_mk (st := s_c_Draft_sheet_to_fill) l38 c38 k38,
    (fun_mk (st := s_c_Draft_sheet_to_fill) l38 c38 k38).binds (ps := ["self"]) (fun _ _ _ _ _ _ us hl => match us, hl with | [_], _ => rfl),
    k38,
    fun_mk (st := s_c_Draft_put_row) l39 c39 k39,
    (fun_mk (st := s_c_Draft_put_row) l39 c39 k39).binds (ps := ["self", "row"]) (fun _ _ _ _ _ _ us hl => match us, hl with | [_, _], _ => rfl),
    k39,
    fun_mk (st := s_c_Draft_take_paper) l40 c40 k40,
    (fun_mk (st := s_c_Draft_take_paper) l40 c40 k40).binds (ps := ["self", "rest"]) (fun _ _ _ _ _ _ us hl => match us, hl with | [_, _], _ => rfl),
    k40,
    fun_mk (st := s_c_Draft_take_sheet) l41 c41 k41,
    (fun_mk (st := s_c_Draft_take_sheet) l41 c41 k41).binds (ps := ["self", "rest"]) (fun _ _ _ _ _ _ us hl => match us, hl with | [_, _], _ => rfl),
    k41,
    fun_mk (st := s_c_Draft_take_check) l42 c42 k42,
    (fun_mk (st := s_c_Draft_take_check) l42 c42 k42).binds (ps := ["self", "rest", "firm"]) (fun _ _ _ _ _ _ us hl => match us, hl with | [_, _, _], _ => rfl),
    k42,
    fun_mk (st := s_c_Draft_take_way) l43 c43 k43,
    (fun_mk (st := s_c_Draft_take_way) l43 c43 k43).binds (ps := ["self", "rest"]) (fun _ _ _ _ _ _ us hl => match us, hl with | [_, _], _ => rfl),
    k43,
    fun_mk (st := s_c_Draft_take_row) l44 c44 k44,
    (fun_mk (st := s_c_Draft_take_row) l44 c44 k44).binds (ps := ["self", "first", "rest"]) (fun _ _ _ _ _ _ us hl => match us, hl with | [_, _, _], _ => rfl),
    k44,
    fun_mk (st := s_c_Draft_take_line) l45 c45 k45,
    (fun_mk (st := s_c_Draft_take_line) l45 c45 k45).binds (ps := ["self", "line"]) (fun _ _ _ _ _ _ us hl => match us, hl with | [_, _], _ => rfl),
    k45,
    fun_mk (st := s_read_paper) l46 c46 k46,
    (fun_mk (st := s_read_paper) l46 c46 k46).binds (ps := ["text"]) (fun _ _ _ _ _ _ us hl => match us, hl with | [_], _ => rfl),
    k46,
    PySem.W.mg_of X G a46,
    fun_mk (st := s_law_cell_at) l47 c47 k47,
    (fun_mk (st := s_law_cell_at) l47 c47 k47).binds (ps := ["_law_script", "_law_k"]) (fun _ _ _ _ _ _ us hl => match us, hl with | [_, _], _ => rfl),
    k47,
    PySem.W.mg_of X G a47,
    fun_mk (st := s_law_mixed) l48 c48 k48,
    (fun_mk (st := s_law_mixed) l48 c48 k48).binds (ps := ["_law_cell", "_law_k"]) (fun _ _ _ _ _ _ us hl => match us, hl with | [_, _], _ => rfl),
    k48,
    PySem.W.mg_of X G a48,
    fun_mk (st := s_law_open) l49 c49 k49,
    (fun_mk (st := s_law_open) l49 c49 k49).binds (ps := ["_law_word"]) (fun _ _ _ _ _ _ us hl => match us, hl with | [_], _ => rfl),
    k49,
    PySem.W.mg_of X G a49,
    fun_mk (st := s_law_name) l50 c50 k50,
    (fun_mk (st := s_law_name) l50 c50 k50).binds (ps := ["_law_cell"]) (fun _ _ _ _ _ _ us hl => match us, hl with | [_], _ => rfl),
    k50,
    PySem.W.mg_of X G a50,
    fun_mk (st := s_law_number) l51 c51 k51,
    (fun_mk (st := s_law_number) l51 c51 k51).binds (ps := ["_law_cell"]) (fun _ _ _ _ _ _ us hl => match us, hl with | [_], _ => rfl),
    k51,
    PySem.W.mg_of X G a51,
    fun_mk (st := s_law_atom) l52 c52 k52,
    (fun_mk (st := s_law_atom) l52 c52 k52).binds (ps := ["_law_cell"]) (fun _ _ _ _ _ _ us hl => match us, hl with | [_], _ => rfl),
    k52,
    PySem.W.mg_of X G a52,
    fun_mk (st := s_law_saying) l53 c53 k53,
    (fun_mk (st := s_law_saying) l53 c53 k53).binds (ps := ["_law_cell", "_law_deep"]) (fun _ _ _ _ _ _ us hl => match us, hl with | [_, _], _ => rfl),
    k53,
    PySem.W.mg_of X G a53,
    fun_mk (st := s_law_sheet) l54 c54 k54,
    (fun_mk (st := s_law_sheet) l54 c54 k54).binds (ps := ["_law_cell"]) (fun _ _ _ _ _ _ us hl => match us, hl with | [_], _ => rfl),
    k54,
    PySem.W.mg_of X G a54,
    fun_mk (st := s_law_sheet_rows) l55 c55 k55,
    (fun_mk (st := s_law_sheet_rows) l55 c55 k55).binds (ps := ["_law_sheet_here"]) (fun _ _ _ _ _ _ us hl => match us, hl with | [_], _ => rfl),
    k55,
    PySem.W.mg_of X G a55,
    fun_mk (st := s_law_way_fits) l56 c56 k56,
    (fun_mk (st := s_law_way_fits) l56 c56 k56).binds (ps := ["_law_found", "_law_due"]) (fun _ _ _ _ _ _ us hl => match us, hl with | [_, _], _ => rfl),
    k56,
    PySem.W.mg_of X G a56,
    fun_mk (st := s_law_sheet_fits) l57 c57 k57,
    (fun_mk (st := s_law_sheet_fits) l57 c57 k57).binds (ps := ["_law_found", "_law_due"]) (fun _ _ _ _ _ _ us hl => match us, hl with | [_, _], _ => rfl),
    k57,
    PySem.W.mg_of X G a57,
    fun_mk (st := s_law) l58 c58 k58,
    (fun_mk (st := s_law) l58 c58 k58).binds (ps := ["_law_script"]) (fun _ _ _ _ _ _ us hl => match us, hl with | [_], _ => rfl),
    k58,
    PySem.W.mg_of X G a58,
    ⟨_, PySem.W.mg_of X G g0, _, rfl⟩,
    ⟨_, PySem.W.mg_of X G g1, _, rfl⟩,
    ⟨_, PySem.W.mg_of X G g2, rfl⟩,
    SqT.mod gl2 gc2 gz2 gv2,
    ⟨_, PySem.W.mg_of X G g3, _, rfl⟩,
    ⟨_, PySem.W.mg_of X G g4, _, rfl⟩,
    ⟨_, PySem.W.mg_of X G g5, _, rfl⟩,
    ⟨_, PySem.W.mg_of X G g6, _, rfl⟩,
    ⟨_, PySem.W.mg_of X G g7, _, rfl⟩,
    ⟨_, PySem.W.mg_of X G g8, _, rfl⟩,
    ⟨_, PySem.W.mg_of X G g9, _, rfl⟩,
    ⟨_, PySem.W.mg_of X G g10, rfl⟩,
    SqT.mod gl10 gc10 gz10 gv10,
    PySem.W.mg_none_of X G z_all,
    PySem.W.mg_none_of X G z_bool,
    PySem.W.mg_none_of X G z_int,
    PySem.W.mg_none_of X G z_isinstance,
    PySem.W.mg_none_of X G z_len,
    PySem.W.mg_none_of X G z_list,
    PySem.W.mg_none_of X G z_range,
    PySem.W.mg_none_of X G z_str,
    PySem.W.mg_none_of X G z_tuple,
    PySem.W.mg_none_of X G z_zip,
    L2.kit_ty (by decide +kernel),
    L2.kit_ty (by decide +kernel),
    L2.kit_ty (by decide +kernel),
    L2.kit_ty (by decide +kernel),
    L2.kit_ty (by decide +kernel),
    L2.kit_ty (by decide +kernel),
    L2.kit_ty (by decide +kernel),
    L2.kit_ty (by decide +kernel),
    L2.kit_ty (by decide +kernel),
    L2.kit_ty (by decide +kernel),
    L2.kit_ty (by decide +kernel),
    L2.kit_ty (by decide +kernel),
    L2.kit_ty (by decide +kernel),
    L2.kit_ty (by decide +kernel),
    L2.kit_ty (by decide +kernel),
    L2.kit_ty (by decide +kernel),
    L2.kit_ty (by decide +kernel),
    L2.kit_ty (by decide +kernel),
    L2.kit_ty (by decide +kernel),
    L2.kit_ty (by decide +kernel),
    L2.kit_ty (by decide +kernel),
    L2.kit_ty (by decide +kernel),
    L2.kit_ty (by decide +kernel),
    L2.kit_ty (by decide +kernel),
    L2.kit_ty (by decide +kernel),
    L2.kit_ty (by decide +kernel),
    L2.kit_ty (by decide +kernel),
    L2.kit_ty (by decide +kernel),
    L2.kit_ty (by decide +kernel),
    L2.kit_ty (by decide +kernel),
    L2.kit_ty (by decide +kernel),
    L2.kit_ty (by decide +kernel),
    L2.kit_ty (by decide +kernel),
    L2.kit_ty (by decide +kernel),
    L2.kit_ty (by decide +kernel),
    PySem.W.mg_of X G na_Ask,
    ⟨_, PySem.W.mg_of X G na_Ask, rfl⟩,
    PySem.W.mg_of X G na_Both,
    ⟨_, PySem.W.mg_of X G na_Both, rfl⟩,
    PySem.W.mg_of X G na_Check,
    ⟨_, PySem.W.mg_of X G na_Check, rfl⟩,
    PySem.W.mg_of X G na_Compare,
    ⟨_, PySem.W.mg_of X G na_Compare, rfl⟩,
    PySem.W.mg_of X G na_Draft,
    ⟨_, PySem.W.mg_of X G na_Draft, rfl⟩,
    PySem.W.mg_of X G na_Either,
    ⟨_, PySem.W.mg_of X G na_Either, rfl⟩,
    PySem.W.mg_of X G na_Is,
    ⟨_, PySem.W.mg_of X G na_Is, rfl⟩,
    PySem.W.mg_of X G na_NoNumber,
    ⟨_, PySem.W.mg_of X G na_NoNumber, rfl⟩,
    PySem.W.mg_of X G na_NoSaying,
    ⟨_, PySem.W.mg_of X G na_NoSaying, rfl⟩,
    PySem.W.mg_of X G na_Not,
    ⟨_, PySem.W.mg_of X G na_Not, rfl⟩,
    PySem.W.mg_of X G na_Pair,
    ⟨_, PySem.W.mg_of X G na_Pair, rfl⟩,
    PySem.W.mg_of X G na_Paper,
    ⟨_, PySem.W.mg_of X G na_Paper, rfl⟩,
    PySem.W.mg_of X G na_Row,
    ⟨_, PySem.W.mg_of X G na_Row, rfl⟩,
    PySem.W.mg_of X G na_Saying,
    ⟨_, PySem.W.mg_of X G na_Saying, rfl⟩,
    PySem.W.mg_of X G na_Sheet,
    ⟨_, PySem.W.mg_of X G na_Sheet, rfl⟩,
    PySem.W.mg_of X G na_WordsLeft,
    ⟨_, PySem.W.mg_of X G na_WordsLeft, rfl⟩,
    xx_NoNumber,
    excCls_mk pg_NoNumber pk_NoNumber kc_NoNumber ha_NoNumber hn_NoNumber tk_NoNumber mo_NoNumber mb_NoNumber,
    xx_NoSaying,
    excCls_mk pg_NoSaying pk_NoSaying kc_NoSaying ha_NoSaying hn_NoSaying tk_NoSaying mo_NoSaying mb_NoSaying,
    exm_ref sb_NoNumber_NoNumber kc_NoNumber kt_NoNumber em_NoNumber_NoNumber,
    kit_ref kc_WordsLeft kt_WordsLeft mr_Is_WordsLeft ne_Is_WordsLeft,
    kit_ref kc_WordsLeft kt_WordsLeft mr_Compare_WordsLeft ne_Compare_WordsLeft,
    kit_ref kc_WordsLeft kt_WordsLeft mr_Not_WordsLeft ne_Not_WordsLeft,
    kit_ref kc_WordsLeft kt_WordsLeft mr_Both_WordsLeft ne_Both_WordsLeft,
    kit_ref kc_WordsLeft kt_WordsLeft mr_Either_WordsLeft ne_Either_WordsLeft,
    kit_self,
    kit_self,
    kit_self,
    kit_self,
    kit_self,
    kit_ref kc_Ask kt_Ask mr_Check_Ask ne_Check_Ask,
    kit_self,
    ⟨cpg_Is, chd_Is, cpo_Is, csa_Is⟩,
    fun _ _ _ _ e => .ins e ⟨cpg_Is, chd_Is, cpo_Is, csa_Is⟩ cha_Is chn_Is ctk_Is cmo_Is,
    ⟨mkm_Is, mki_Is, mkf_Is, mkk_Is⟩,
    ⟨mea_Is_shown, mef_Is_shown, k10⟩,
    ⟨mea_Is_atoms, mef_Is_atoms, k11⟩,
    noa_Is_name,
    noa_Is_word,
    noa_Is_place,
    ⟨cpg_Compare, chd_Compare, cpo_Compare, csa_Compare⟩,
    fun _ _ _ _ e => .ins e ⟨cpg_Compare, chd_Compare, cpo_Compare, csa_Compare⟩ cha_Compare chn_Compare ctk_Compare cmo_Compare,
    ⟨mkm_Compare, mki_Compare, mkf_Compare, mkk_Compare⟩,
    ⟨mea_Compare_shown, mef_Compare_shown, k13⟩,
    ⟨mea_Compare_atoms, mef_Compare_atoms, k14⟩,
    noa_Compare_name,
    noa_Compare_how,
    noa_Compare_number,
    ⟨cpg_Not, chd_Not, cpo_Not, csa_Not⟩,
    fun _ _ _ _ e => .ins e ⟨cpg_Not, chd_Not, cpo_Not, csa_Not⟩ cha_Not chn_Not ctk_Not cmo_Not,
    ⟨mkm_Not, mki_Not, mkf_Not, mkk_Not⟩,
    ⟨mea_Not_shown, mef_Not_shown, k16⟩,
    ⟨mea_Not_atoms, mef_Not_atoms, k17⟩,
    noa_Not_test,
    ⟨cpg_Both, chd_Both, cpo_Both, csa_Both⟩,
    fun _ _ _ _ e => .ins e ⟨cpg_Both, chd_Both, cpo_Both, csa_Both⟩ cha_Both chn_Both ctk_Both cmo_Both,
    ⟨mkm_Both, mki_Both, mkf_Both, mkk_Both⟩,
    ⟨mea_Both_shown, mef_Both_shown, k21⟩,
    ⟨mea_Both_atoms, mef_Both_atoms, k20⟩,
    ⟨mea_Both_shown_with, mef_Both_shown_with, k19⟩,
    noa_Both_one,
    noa_Both_other,
    ⟨cpg_Either, chd_Either, cpo_Either, csa_Either⟩,
    fun _ _ _ _ e => .ins e ⟨cpg_Either, chd_Either, cpo_Either, csa_Either⟩ cha_Either chn_Either ctk_Either cmo_Either,
    ⟨mkm_Either, mki_Either, mkf_Either, mkk_Either⟩,
    ⟨mea_Either_shown, mef_Either_shown, k22⟩,
    ⟨mea_Either_atoms, mef_Either_atoms, k20⟩,
    ⟨mea_Either_shown_with, mef_Either_shown_with, k19⟩,
    noa_Either_one,
    noa_Either_other,
    ⟨cpg_WordsLeft, chd_WordsLeft, cpo_WordsLeft, csa_WordsLeft⟩,
    fun _ _ _ _ e => .ins e ⟨cpg_WordsLeft, chd_WordsLeft, cpo_WordsLeft, csa_WordsLeft⟩ cha_WordsLeft chn_WordsLeft ctk_WordsLeft cmo_WordsLeft,
    ⟨mkm_WordsLeft, mki_WordsLeft, mkf_WordsLeft, mkk_WordsLeft⟩,
    ⟨mea_WordsLeft_take, mef_WordsLeft_take, k24⟩,
    ⟨mea_WordsLeft_are_all_taken, mef_WordsLeft_are_all_taken, k25⟩,
    noa_WordsLeft_words,
    noa_WordsLeft_taken,
    ⟨cpg_Check, chd_Check, cpo_Check, csa_Check⟩,
    fun _ _ _ _ e => .ins e ⟨cpg_Check, chd_Check, cpo_Check, csa_Check⟩ cha_Check chn_Check ctk_Check cmo_Check,
    ⟨mkm_Check, mki_Check, mkf_Check, mkk_Check⟩,
    noa_Check_name,
    noa_Check_test,
    noa_Check_firm,
    ⟨cpg_Sheet, chd_Sheet, cpo_Sheet, csa_Sheet⟩,
    fun _ _ _ _ e => .ins e ⟨cpg_Sheet, chd_Sheet, cpo_Sheet, csa_Sheet⟩ cha_Sheet chn_Sheet ctk_Sheet cmo_Sheet,
    ⟨mkm_Sheet, mki_Sheet, mkf_Sheet, mkk_Sheet⟩,
    noa_Sheet_name,
    noa_Sheet_each,
    noa_Sheet_rows,
    noa_Sheet_ways,
    ⟨cpg_Paper, chd_Paper, cpo_Paper, csa_Paper⟩,
    fun _ _ _ _ e => .ins e ⟨cpg_Paper, chd_Paper, cpo_Paper, csa_Paper⟩ cha_Paper chn_Paper ctk_Paper cmo_Paper,
    ⟨mkm_Paper, mki_Paper, mkf_Paper, mkk_Paper⟩,
    noa_Paper_name,
    noa_Paper_sheets,
    noa_Paper_totals,
    ⟨cpg_Draft, chd_Draft, cpo_Draft, csa_Draft⟩,
    fun _ _ _ _ e => .ins e ⟨cpg_Draft, chd_Draft, cpo_Draft, csa_Draft⟩ cha_Draft chn_Draft ctk_Draft cmo_Draft,
    ⟨mkm_Draft, mki_Draft, mkf_Draft, mkk_Draft⟩,
    ⟨mea_Draft_demand, mef_Draft_demand, k35⟩,
    ⟨mea_Draft_read_test, mef_Draft_read_test, k36⟩,
    ⟨mea_Draft_read_when, mef_Draft_read_when, k37⟩,
    ⟨mea_Draft_sheet_to_fill, mef_Draft_sheet_to_fill, k38⟩,
    ⟨mea_Draft_put_row, mef_Draft_put_row, k39⟩,
    ⟨mea_Draft_take_paper, mef_Draft_take_paper, k40⟩,
    ⟨mea_Draft_take_sheet, mef_Draft_take_sheet, k41⟩,
    ⟨mea_Draft_take_check, mef_Draft_take_check, k42⟩,
    ⟨mea_Draft_take_way, mef_Draft_take_way, k43⟩,
    ⟨mea_Draft_take_row, mef_Draft_take_row, k44⟩,
    ⟨mea_Draft_take_line, mef_Draft_take_line, k45⟩,
    noa_Draft_name,
    noa_Draft_sheets,
    noa_Draft_totals,
    noa_Draft_atoms_read,
    noa_Draft_place,
    ⟨cfr_Row_init, cfa_Row_init, cfs_Row_init, k5⟩⟩⟩
theorem walk {l : PySem.W.OpenLaw} {q : Program} {loose : List Str} {XP : (Str → Option Value) → Heap → Prop} {YP : World → Heap → Prop} {d : DefRec} {K : Params → PySem.W.Frag} (hn : l.most = some 63) (hdf : d.params.defaults = []) (hnm : d.name = "law")
    (hY : ∀ (w : World) (h : Heap), YP w h → (K w.params).In h)
    (F : ∀ (w : World) (mg : Str → Option Value) (h : Heap), (K w.params).In h → h.Ns mainGlobals mg → ∃ A : Adr, Txt (K w.params) mg A) :
    PySem.W.WalkO q loose XP YP l.row.toRowW d [] (fun f vs => PySem.call f vs) := by
  refine L2.walk_ofB (n := 63) (k := 50) (x := "_law_script") (CX := fun _ => CX0) (sp := fun w => sp_law (K w.params)) hn (by decide) hdf ⟨rfl, by decide, by decide⟩ hY (fun w mg fa h KX G hmg => ?_) (fun w H a ns hl hb _ hS => ⟨a, ns, rfl, hS, hl, hb, fun _ => rfl⟩) fun _ _ _ _ _ z => z
  obtain ⟨A, T⟩ := F w mg h KX G
  rw [hnm] at hmg
  have e := hmg.symm.trans T.m_law
  cases e
  obtain ⟨oc, od, kV, doc, pm, an, cdv, ct, osl, efd, lk, hcd⟩ := id T.F_law.ex
  exact ⟨A.d_law, fun s v => by rw [efd]; exact .of_eq rfl, fun base _ _ => ok_law T⟩
end K23
/-! these names are taken so that the head writes no twins of whole heaps (their proofs grow with the square of the objects, past what an olean may weigh) -/
open PySem PySem.W PyProof.Rows
set_option maxRecDepth 100000 in
set_option maxHeartbeats 0 in
theorem PySem.Challenge.cw_askpaper_k23_checks_and_ways_read_holds : PySem.Challenge.rw_askpaper_k23_checks_and_ways_read.Holds := by
  refine PySem.Challenge.hd23 ?_
  k_fill
  refine K23.walk (l := PySem.Challenge.rw_askpaper_k23_checks_and_ways_read) rfl rfl rfl (fun w h Y => PySem.W.kIn_of Y) ?F
  case F =>
    intro w mg h KX G
    have T : ∃ A : K23.Adr, K23.Txt (L2.KOf KX) mg A := by
      dsimp only [L2.KOf]
      refine' K23.txt_mk KX G ?zzna_Ask ?zzna_Both ?zzna_Check ?zzna_Compare ?zzna_Draft ?zzna_Either ?zzna_Is ?zzna_NoNumber ?zzna_NoSaying ?zzna_Not ?zzna_Pair ?zzna_Paper ?zzna_Row ?zzna_Saying ?zzna_Sheet ?zzna_WordsLeft ?zza0 ?zzl0 ?zzc0 ?zzk0 ?zza1 ?zzl1 ?zzc1 ?zzk1 ?zza2 ?zzl2 ?zzc2 ?zzk2 ?zza3 ?zzl3 ?zzc3 ?zzk3 ?zzdl3 ?zza4 ?zzl4 ?zzc4 ?zzk4 ?zza5 ?zzl5 ?zzc5 ?zzk5 ?zza6 ?zzl6 ?zzc6 ?zzk6 ?zzdl6 ?zza7 ?zzl7 ?zzc7 ?zzk7 ?zza8 ?zzl8 ?zzc8 ?zzk8 ?zza9 ?zzl9 ?zzc9 ?zzk9 ?zzdl9 ?zza10 ?zzl10 ?zzc10 ?zzk10 ?zza11 ?zzl11 ?zzc11 ?zzk11 ?zza12 ?zzl12 ?zzc12 ?zzk12 ?zza13 ?zzl13 ?zzc13 ?zzk13 ?zza14 ?zzl14 ?zzc14 ?zzk14 ?zza15 ?zzl15 ?zzc15 ?zzk15 ?zza16 ?zzl16 ?zzc16 ?zzk16 ?zza17 ?zzl17 ?zzc17 ?zzk17 ?zza18 ?zzl18 ?zzc18 ?zzk18 ?zza19 ?zzl19 ?zzc19 ?zzk19 ?zza20 ?zzl20 ?zzc20 ?zzk20 ?zza21 ?zzl21 ?zzc21 ?zzk21 ?zza22 ?zzl22 ?zzc22 ?zzk22 ?zza23 ?zzl23 ?zzc23 ?zzk23 ?zza24 ?zzl24 ?zzc24 ?zzk24 ?zza25 ?zzl25 ?zzc25 ?zzk25 ?zza26 ?zzl26 ?zzc26 ?zzk26 ?zza27 ?zzl27 ?zzc27 ?zzk27 ?zza28 ?zzl28 ?zzc28 ?zzk28 ?zza29 ?zzl29 ?zzc29 ?zzk29 ?zza30 ?zzl30 ?zzc30 ?zzk30 ?zza31 ?zzl31 ?zzc31 ?zzk31 ?zza32 ?zzl32 ?zzc32 ?zzk32 ?zza33 ?zzl33 ?zzc33 ?zzk33 ?zza34 ?zzl34 ?zzc34 ?zzk34 ?zza35 ?zzl35 ?zzc35 ?zzk35 ?zza36 ?zzl36 ?zzc36 ?zzk36 ?zza37 ?zzl37 ?zzc37 ?zzk37 ?zza38 ?zzl38 ?zzc38 ?zzk38 ?zza39 ?zzl39 ?zzc39 ?zzk39 ?zza40 ?zzl40 ?zzc40 ?zzk40 ?zza41 ?zzl41 ?zzc41 ?zzk41 ?zza42 ?zzl42 ?zzc42 ?zzk42 ?zza43 ?zzl43 ?zzc43 ?zzk43 ?zza44 ?zzl44 ?zzc44 ?zzk44 ?zza45 ?zzl45 ?zzc45 ?zzk45 ?zza46 ?zzl46 ?zzc46 ?zzk46 ?zza47 ?zzl47 ?zzc47 ?zzk47 ?zza48 ?zzl48 ?zzc48 ?zzk48 ?zza49 ?zzl49 ?zzc49 ?zzk49 ?zza50 ?zzl50 ?zzc50 ?zzk50 ?zza51 ?zzl51 ?zzc51 ?zzk51 ?zza52 ?zzl52 ?zzc52 ?zzk52 ?zza53 ?zzl53 ?zzc53 ?zzk53 ?zza54 ?zzl54 ?zzc54 ?zzk54 ?zza55 ?zzl55 ?zzc55 ?zzk55 ?zza56 ?zzl56 ?zzc56 ?zzk56 ?zza57 ?zzl57 ?zzc57 ?zzk57 ?zza58 ?zzl58 ?zzc58 ?zzk58 ?zzg0 ?zzg1 ?zzg2 ?zzgl2 ?zzgc2 ?zzgz2 ?zzgv2 ?zzg3 ?zzg4 ?zzg5 ?zzg6 ?zzg7 ?zzg8 ?zzg9 ?zzg10 ?zzgl10 ?zzgc10 ?zzgz10 ?zzgv10 ?zzz_all ?zzz_bool ?zzz_int ?zzz_isinstance ?zzz_len ?zzz_list ?zzz_range ?zzz_str ?zzz_tuple ?zzz_zip ?zzkc_Ask ?zzkt_Ask ?zzkc_NoNumber ?zzkt_NoNumber ?zzkc_NoSaying ?zzkt_NoSaying ?zzkc_WordsLeft ?zzkt_WordsLeft ?zzxx_NoNumber ?zzpg_NoNumber ?zzpk_NoNumber ?zzha_NoNumber ?zzhn_NoNumber ?zztk_NoNumber ?zzmo_NoNumber ?zzmb_NoNumber ?zzxx_NoSaying ?zzpg_NoSaying ?zzpk_NoSaying ?zzha_NoSaying ?zzhn_NoSaying ?zztk_NoSaying ?zzmo_NoSaying ?zzmb_NoSaying ?zzsb_NoNumber_NoNumber ?zzem_NoNumber_NoNumber ?zzmr_Is_WordsLeft ?zzne_Is_WordsLeft ?zzmr_Compare_WordsLeft ?zzne_Compare_WordsLeft ?zzmr_Not_WordsLeft ?zzne_Not_WordsLeft ?zzmr_Both_WordsLeft ?zzne_Both_WordsLeft ?zzmr_Either_WordsLeft ?zzne_Either_WordsLeft ?zzmr_Check_Ask ?zzne_Check_Ask ?zzcpg_Is ?zzchd_Is ?zzcpo_Is ?zzcsa_Is ?zzcha_Is ?zzchn_Is ?zzctk_Is ?zzcmo_Is ?zzmkm_Is ?zzmki_Is ?zzmkf_Is ?zzmkk_Is ?zzmea_Is_shown ?zzmef_Is_shown ?zzmea_Is_atoms ?zzmef_Is_atoms ?zznoa_Is_name ?zznoa_Is_word ?zznoa_Is_place ?zzcpg_Compare ?zzchd_Compare ?zzcpo_Compare ?zzcsa_Compare ?zzcha_Compare ?zzchn_Compare ?zzctk_Compare ?zzcmo_Compare ?zzmkm_Compare ?zzmki_Compare ?zzmkf_Compare ?zzmkk_Compare ?zzmea_Compare_shown ?zzmef_Compare_shown ?zzmea_Compare_atoms ?zzmef_Compare_atoms ?zznoa_Compare_name ?zznoa_Compare_how ?zznoa_Compare_number ?zzcpg_Not ?zzchd_Not ?zzcpo_Not ?zzcsa_Not ?zzcha_Not ?zzchn_Not ?zzctk_Not ?zzcmo_Not ?zzmkm_Not ?zzmki_Not ?zzmkf_Not ?zzmkk_Not ?zzmea_Not_shown ?zzmef_Not_shown ?zzmea_Not_atoms ?zzmef_Not_atoms ?zznoa_Not_test ?zzcpg_Both ?zzchd_Both ?zzcpo_Both ?zzcsa_Both ?zzcha_Both ?zzchn_Both ?zzctk_Both ?zzcmo_Both ?zzmkm_Both ?zzmki_Both ?zzmkf_Both ?zzmkk_Both ?zzmea_Both_shown ?zzmef_Both_shown ?zzmea_Both_atoms ?zzmef_Both_atoms ?zzmea_Both_shown_with ?zzmef_Both_shown_with ?zznoa_Both_one ?zznoa_Both_other ?zzcpg_Either ?zzchd_Either ?zzcpo_Either ?zzcsa_Either ?zzcha_Either ?zzchn_Either ?zzctk_Either ?zzcmo_Either ?zzmkm_Either ?zzmki_Either ?zzmkf_Either ?zzmkk_Either ?zzmea_Either_shown ?zzmef_Either_shown ?zzmea_Either_atoms ?zzmef_Either_atoms ?zzmea_Either_shown_with ?zzmef_Either_shown_with ?zznoa_Either_one ?zznoa_Either_other ?zzcpg_WordsLeft ?zzchd_WordsLeft ?zzcpo_WordsLeft ?zzcsa_WordsLeft ?zzcha_WordsLeft ?zzchn_WordsLeft ?zzctk_WordsLeft ?zzcmo_WordsLeft ?zzmkm_WordsLeft ?zzmki_WordsLeft ?zzmkf_WordsLeft ?zzmkk_WordsLeft ?zzmea_WordsLeft_take ?zzmef_WordsLeft_take ?zzmea_WordsLeft_are_all_taken ?zzmef_WordsLeft_are_all_taken ?zznoa_WordsLeft_words ?zznoa_WordsLeft_taken ?zzcpg_Check ?zzchd_Check ?zzcpo_Check ?zzcsa_Check ?zzcha_Check ?zzchn_Check ?zzctk_Check ?zzcmo_Check ?zzmkm_Check ?zzmki_Check ?zzmkf_Check ?zzmkk_Check ?zznoa_Check_name ?zznoa_Check_test ?zznoa_Check_firm ?zzcpg_Sheet ?zzchd_Sheet ?zzcpo_Sheet ?zzcsa_Sheet ?zzcha_Sheet ?zzchn_Sheet ?zzctk_Sheet ?zzcmo_Sheet ?zzmkm_Sheet ?zzmki_Sheet ?zzmkf_Sheet ?zzmkk_Sheet ?zznoa_Sheet_name ?zznoa_Sheet_each ?zznoa_Sheet_rows ?zznoa_Sheet_ways ?zzcpg_Paper ?zzchd_Paper ?zzcpo_Paper ?zzcsa_Paper ?zzcha_Paper ?zzchn_Paper ?zzctk_Paper ?zzcmo_Paper ?zzmkm_Paper ?zzmki_Paper ?zzmkf_Paper ?zzmkk_Paper ?zznoa_Paper_name ?zznoa_Paper_sheets ?zznoa_Paper_totals ?zzcpg_Draft ?zzchd_Draft ?zzcpo_Draft ?zzcsa_Draft ?zzcha_Draft ?zzchn_Draft ?zzctk_Draft ?zzcmo_Draft ?zzmkm_Draft ?zzmki_Draft ?zzmkf_Draft ?zzmkk_Draft ?zzmea_Draft_demand ?zzmef_Draft_demand ?zzmea_Draft_read_test ?zzmef_Draft_read_test ?zzmea_Draft_read_when ?zzmef_Draft_read_when ?zzmea_Draft_sheet_to_fill ?zzmef_Draft_sheet_to_fill ?zzmea_Draft_put_row ?zzmef_Draft_put_row ?zzmea_Draft_take_paper ?zzmef_Draft_take_paper ?zzmea_Draft_take_sheet ?zzmef_Draft_take_sheet ?zzmea_Draft_take_check ?zzmef_Draft_take_check ?zzmea_Draft_take_way ?zzmef_Draft_take_way ?zzmea_Draft_take_row ?zzmef_Draft_take_row ?zzmea_Draft_take_line ?zzmef_Draft_take_line ?zznoa_Draft_name ?zznoa_Draft_sheets ?zznoa_Draft_totals ?zznoa_Draft_atoms_read ?zznoa_Draft_place ?zzcfr_Row_init ?zzcfa_Row_init ?zzcfs_Row_init
      (case zzna_Ask => k_is)
      (case zzna_Both => k_is)
      (case zzna_Check => k_is)
      (case zzna_Compare => k_is)
      (case zzna_Draft => k_is)
      (case zzna_Either => k_is)
      (case zzna_Is => k_is)
      (case zzna_NoNumber => k_is)
      (case zzna_NoSaying => k_is)
      (case zzna_Not => k_is)
      (case zzna_Pair => k_is)
      (case zzna_Paper => k_is)
      (case zzna_Row => k_is)
      (case zzna_Saying => k_is)
      (case zzna_Sheet => k_is)
      (case zzna_WordsLeft => k_is)
      (case zza0 => k_is)
      (case zzl0 => k_is)
      (case zzc0 => k_is)
      (case zzk0 => k_is)
      (case zza1 => k_is)
      (case zzl1 => k_is)
      (case zzc1 => k_is)
      (case zzk1 => k_is)
      (case zza2 => k_is)
      (case zzl2 => k_is)
      (case zzc2 => k_is)
      (case zzk2 => k_is)
      (case zza3 => k_is)
      (case zzl3 => k_is)
      (case zzc3 => k_is)
      (case zzk3 => k_is)
      (case zzdl3 => k_is)
      (case zza4 => k_is)
      (case zzl4 => k_is)
      (case zzc4 => k_is)
      (case zzk4 => k_is)
      (case zza5 => k_is)
      (case zzl5 => k_is)
      (case zzc5 => k_is)
      (case zzk5 => k_is)
      (case zza6 => k_is)
      (case zzl6 => k_is)
      (case zzc6 => k_is)
      (case zzk6 => k_is)
      (case zzdl6 => k_is)
      (case zza7 => k_is)
      (case zzl7 => k_is)
      (case zzc7 => k_is)
      (case zzk7 => k_is)
      (case zza8 => k_is)
      (case zzl8 => k_is)
      (case zzc8 => k_is)
      (case zzk8 => k_is)
      (case zza9 => k_is)
      (case zzl9 => k_is)
      (case zzc9 => k_is)
      (case zzk9 => k_is)
      (case zzdl9 => k_is)
      (case zza10 => k_is)
      (case zzl10 => k_is)
      (case zzc10 => k_is)
      (case zzk10 => k_is)
      (case zza11 => k_is)
      (case zzl11 => k_is)
      (case zzc11 => k_is)
      (case zzk11 => k_is)
      (case zza12 => k_is)
      (case zzl12 => k_is)
      (case zzc12 => k_is)
      (case zzk12 => k_is)
      (case zza13 => k_is)
      (case zzl13 => k_is)
      (case zzc13 => k_is)
      (case zzk13 => k_is)
      (case zza14 => k_is)
      (case zzl14 => k_is)
      (case zzc14 => k_is)
      (case zzk14 => k_is)
      (case zza15 => k_is)
      (case zzl15 => k_is)
      (case zzc15 => k_is)
      (case zzk15 => k_is)
      (case zza16 => k_is)
      (case zzl16 => k_is)
      (case zzc16 => k_is)
      (case zzk16 => k_is)
      (case zza17 => k_is)
      (case zzl17 => k_is)
      (case zzc17 => k_is)
      (case zzk17 => k_is)
      (case zza18 => k_is)
      (case zzl18 => k_is)
      (case zzc18 => k_is)
      (case zzk18 => k_is)
      (case zza19 => k_is)
      (case zzl19 => k_is)
      (case zzc19 => k_is)
      (case zzk19 => k_is)
      (case zza20 => k_is)
      (case zzl20 => k_is)
      (case zzc20 => k_is)
      (case zzk20 => k_is)
      (case zza21 => k_is)
      (case zzl21 => k_is)
      (case zzc21 => k_is)
      (case zzk21 => k_is)
      (case zza22 => k_is)
      (case zzl22 => k_is)
      (case zzc22 => k_is)
      (case zzk22 => k_is)
      (case zza23 => k_is)
      (case zzl23 => k_is)
      (case zzc23 => k_is)
      (case zzk23 => k_is)
      (case zza24 => k_is)
      (case zzl24 => k_is)
      (case zzc24 => k_is)
      (case zzk24 => k_is)
      (case zza25 => k_is)
      (case zzl25 => k_is)
      (case zzc25 => k_is)
      (case zzk25 => k_is)
      (case zza26 => k_is)
      (case zzl26 => k_is)
      (case zzc26 => k_is)
      (case zzk26 => k_is)
      (case zza27 => k_is)
      (case zzl27 => k_is)
      (case zzc27 => k_is)
      (case zzk27 => k_is)
      (case zza28 => k_is)
      (case zzl28 => k_is)
      (case zzc28 => k_is)
      (case zzk28 => k_is)
      (case zza29 => k_is)
      (case zzl29 => k_is)
      (case zzc29 => k_is)
      (case zzk29 => k_is)
      (case zza30 => k_is)
      (case zzl30 => k_is)
      (case zzc30 => k_is)
      (case zzk30 => k_is)
      (case zza31 => k_is)
      (case zzl31 => k_is)
      (case zzc31 => k_is)
      (case zzk31 => k_is)
      (case zza32 => k_is)
      (case zzl32 => k_is)
      (case zzc32 => k_is)
      (case zzk32 => k_is)
      (case zza33 => k_is)
      (case zzl33 => k_is)
      (case zzc33 => k_is)
      (case zzk33 => k_is)
      (case zza34 => k_is)
      (case zzl34 => k_is)
      (case zzc34 => k_is)
      (case zzk34 => k_is)
      (case zza35 => k_is)
      (case zzl35 => k_is)
      (case zzc35 => k_is)
      (case zzk35 => k_is)
      (case zza36 => k_is)
      (case zzl36 => k_is)
      (case zzc36 => k_is)
      (case zzk36 => k_is)
      (case zza37 => k_is)
      (case zzl37 => k_is)
      (case zzc37 => k_is)
      (case zzk37 => k_is)
      (case zza38 => k_is)
      (case zzl38 => k_is)
      (case zzc38 => k_is)
      (case zzk38 => k_is)
      (case zza39 => k_is)
      (case zzl39 => k_is)
      (case zzc39 => k_is)
      (case zzk39 => k_is)
      (case zza40 => k_is)
      (case zzl40 => k_is)
      (case zzc40 => k_is)
      (case zzk40 => k_is)
      (case zza41 => k_is)
      (case zzl41 => k_is)
      (case zzc41 => k_is)
      (case zzk41 => k_is)
      (case zza42 => k_is)
      (case zzl42 => k_is)
      (case zzc42 => k_is)
      (case zzk42 => k_is)
      (case zza43 => k_is)
      (case zzl43 => k_is)
      (case zzc43 => k_is)
      (case zzk43 => k_is)
      (case zza44 => k_is)
      (case zzl44 => k_is)
      (case zzc44 => k_is)
      (case zzk44 => k_is)
      (case zza45 => k_is)
      (case zzl45 => k_is)
      (case zzc45 => k_is)
      (case zzk45 => k_is)
      (case zza46 => k_is)
      (case zzl46 => k_is)
      (case zzc46 => k_is)
      (case zzk46 => k_is)
      (case zza47 => k_is)
      (case zzl47 => k_is)
      (case zzc47 => k_is)
      (case zzk47 => k_is)
      (case zza48 => k_is)
      (case zzl48 => k_is)
      (case zzc48 => k_is)
      (case zzk48 => k_is)
      (case zza49 => k_is)
      (case zzl49 => k_is)
      (case zzc49 => k_is)
      (case zzk49 => k_is)
      (case zza50 => k_is)
      (case zzl50 => k_is)
      (case zzc50 => k_is)
      (case zzk50 => k_is)
      (case zza51 => k_is)
      (case zzl51 => k_is)
      (case zzc51 => k_is)
      (case zzk51 => k_is)
      (case zza52 => k_is)
      (case zzl52 => k_is)
      (case zzc52 => k_is)
      (case zzk52 => k_is)
      (case zza53 => k_is)
      (case zzl53 => k_is)
      (case zzc53 => k_is)
      (case zzk53 => k_is)
      (case zza54 => k_is)
      (case zzl54 => k_is)
      (case zzc54 => k_is)
      (case zzk54 => k_is)
      (case zza55 => k_is)
      (case zzl55 => k_is)
      (case zzc55 => k_is)
      (case zzk55 => k_is)
      (case zza56 => k_is)
      (case zzl56 => k_is)
      (case zzc56 => k_is)
      (case zzk56 => k_is)
      (case zza57 => k_is)
      (case zzl57 => k_is)
      (case zzc57 => k_is)
      (case zzk57 => k_is)
      (case zza58 => k_is)
      (case zzl58 => k_is)
      (case zzc58 => k_is)
      (case zzk58 => k_is)
      (case zzg0 => k_is)
      (case zzg1 => k_is)
      (case zzg2 => k_is)
      (case zzgl2 => k_is)
      (case zzgc2 => rfl)
      (case zzgz2 => exact Nat.le_of_ble_eq_true rfl)
      (case zzgv2 => exact .cons ⟨_, rfl⟩ (.cons ⟨_, rfl⟩ (.cons ⟨_, rfl⟩ (.nil))))
      (case zzg3 => k_is)
      (case zzg4 => k_is)
      (case zzg5 => k_is)
      (case zzg6 => k_is)
      (case zzg7 => k_is)
      (case zzg8 => k_is)
      (case zzg9 => k_is)
      (case zzg10 => k_is)
      (case zzgl10 => k_is)
      (case zzgc10 => rfl)
      (case zzgz10 => exact Nat.le_of_ble_eq_true rfl)
      (case zzgv10 => exact .cons ⟨_, rfl⟩ (.cons ⟨_, rfl⟩ (.cons ⟨_, rfl⟩ (.cons ⟨_, rfl⟩ (.cons ⟨_, rfl⟩ (.cons ⟨_, rfl⟩ (.cons ⟨_, rfl⟩ (.cons ⟨_, rfl⟩ (.nil)))))))))
      (case zzz_all => k_is)
      (case zzz_bool => k_is)
      (case zzz_int => k_is)
      (case zzz_isinstance => k_is)
      (case zzz_len => k_is)
      (case zzz_list => k_is)
      (case zzz_range => k_is)
      (case zzz_str => k_is)
      (case zzz_tuple => k_is)
      (case zzz_zip => k_is)
      (case zzkc_Ask => k_is)
      (case zzkt_Ask => k_is)
      (case zzkc_NoNumber => k_is)
      (case zzkt_NoNumber => k_is)
      (case zzkc_NoSaying => k_is)
      (case zzkt_NoSaying => k_is)
      (case zzkc_WordsLeft => k_is)
      (case zzkt_WordsLeft => k_is)
      (case zzxx_NoNumber => k_exc)
      (case zzpg_NoNumber => k_is)
      (case zzpk_NoNumber => k_is)
      (case zzha_NoNumber => k_is)
      (case zzhn_NoNumber => k_is)
      (case zztk_NoNumber => k_is)
      (case zzmo_NoNumber => k_is)
      (case zzmb_NoNumber => k_is)
      (case zzxx_NoSaying => k_exc)
      (case zzpg_NoSaying => k_is)
      (case zzpk_NoSaying => k_is)
      (case zzha_NoSaying => k_is)
      (case zzhn_NoSaying => k_is)
      (case zztk_NoSaying => k_is)
      (case zzmo_NoSaying => k_is)
      (case zzmb_NoSaying => k_is)
      (case zzsb_NoNumber_NoNumber => k_is)
      (case zzem_NoNumber_NoNumber => k_is)
      (case zzmr_Is_WordsLeft => k_is)
      (case zzne_Is_WordsLeft => rfl)
      (case zzmr_Compare_WordsLeft => k_is)
      (case zzne_Compare_WordsLeft => rfl)
      (case zzmr_Not_WordsLeft => k_is)
      (case zzne_Not_WordsLeft => rfl)
      (case zzmr_Both_WordsLeft => k_is)
      (case zzne_Both_WordsLeft => rfl)
      (case zzmr_Either_WordsLeft => k_is)
      (case zzne_Either_WordsLeft => rfl)
      (case zzmr_Check_Ask => k_is)
      (case zzne_Check_Ask => rfl)
      (case zzcpg_Is => k_is)
      (case zzchd_Is => k_is)
      (case zzcpo_Is => k_is)
      (case zzcsa_Is => k_is)
      (case zzcha_Is => k_is)
      (case zzchn_Is => k_is)
      (case zzctk_Is => k_is)
      (case zzcmo_Is => k_is)
      (case zzmkm_Is => k_is)
      (case zzmki_Is => k_is)
      (case zzmkf_Is => k_is)
      (case zzmkk_Is => k_is)
      (case zzmea_Is_shown => k_is)
      (case zzmef_Is_shown => k_is)
      (case zzmea_Is_atoms => k_is)
      (case zzmef_Is_atoms => k_is)
      (case zznoa_Is_name => k_is)
      (case zznoa_Is_word => k_is)
      (case zznoa_Is_place => k_is)
      (case zzcpg_Compare => k_is)
      (case zzchd_Compare => k_is)
      (case zzcpo_Compare => k_is)
      (case zzcsa_Compare => k_is)
      (case zzcha_Compare => k_is)
      (case zzchn_Compare => k_is)
      (case zzctk_Compare => k_is)
      (case zzcmo_Compare => k_is)
      (case zzmkm_Compare => k_is)
      (case zzmki_Compare => k_is)
      (case zzmkf_Compare => k_is)
      (case zzmkk_Compare => k_is)
      (case zzmea_Compare_shown => k_is)
      (case zzmef_Compare_shown => k_is)
      (case zzmea_Compare_atoms => k_is)
      (case zzmef_Compare_atoms => k_is)
      (case zznoa_Compare_name => k_is)
      (case zznoa_Compare_how => k_is)
      (case zznoa_Compare_number => k_is)
      (case zzcpg_Not => k_is)
      (case zzchd_Not => k_is)
      (case zzcpo_Not => k_is)
      (case zzcsa_Not => k_is)
      (case zzcha_Not => k_is)
      (case zzchn_Not => k_is)
      (case zzctk_Not => k_is)
      (case zzcmo_Not => k_is)
      (case zzmkm_Not => k_is)
      (case zzmki_Not => k_is)
      (case zzmkf_Not => k_is)
      (case zzmkk_Not => k_is)
      (case zzmea_Not_shown => k_is)
      (case zzmef_Not_shown => k_is)
      (case zzmea_Not_atoms => k_is)
      (case zzmef_Not_atoms => k_is)
      (case zznoa_Not_test => k_is)
      (case zzcpg_Both => k_is)
      (case zzchd_Both => k_is)
      (case zzcpo_Both => k_is)
      (case zzcsa_Both => k_is)
      (case zzcha_Both => k_is)
      (case zzchn_Both => k_is)
      (case zzctk_Both => k_is)
      (case zzcmo_Both => k_is)
      (case zzmkm_Both => k_is)
      (case zzmki_Both => k_is)
      (case zzmkf_Both => k_is)
      (case zzmkk_Both => k_is)
      (case zzmea_Both_shown => k_is)
      (case zzmef_Both_shown => k_is)
      (case zzmea_Both_atoms => k_is)
      (case zzmef_Both_atoms => k_is)
      (case zzmea_Both_shown_with => k_is)
      (case zzmef_Both_shown_with => k_is)
      (case zznoa_Both_one => k_is)
      (case zznoa_Both_other => k_is)
      (case zzcpg_Either => k_is)
      (case zzchd_Either => k_is)
      (case zzcpo_Either => k_is)
      (case zzcsa_Either => k_is)
      (case zzcha_Either => k_is)
      (case zzchn_Either => k_is)
      (case zzctk_Either => k_is)
      (case zzcmo_Either => k_is)
      (case zzmkm_Either => k_is)
      (case zzmki_Either => k_is)
      (case zzmkf_Either => k_is)
      (case zzmkk_Either => k_is)
      (case zzmea_Either_shown => k_is)
      (case zzmef_Either_shown => k_is)
      (case zzmea_Either_atoms => k_is)
      (case zzmef_Either_atoms => k_is)
      (case zzmea_Either_shown_with => k_is)
      (case zzmef_Either_shown_with => k_is)
      (case zznoa_Either_one => k_is)
      (case zznoa_Either_other => k_is)
      (case zzcpg_WordsLeft => k_is)
      (case zzchd_WordsLeft => k_is)
      (case zzcpo_WordsLeft => k_is)
      (case zzcsa_WordsLeft => k_is)
      (case zzcha_WordsLeft => k_is)
      (case zzchn_WordsLeft => k_is)
      (case zzctk_WordsLeft => k_is)
      (case zzcmo_WordsLeft => k_is)
      (case zzmkm_WordsLeft => k_is)
      (case zzmki_WordsLeft => k_is)
      (case zzmkf_WordsLeft => k_is)
      (case zzmkk_WordsLeft => k_is)
      (case zzmea_WordsLeft_take => k_is)
      (case zzmef_WordsLeft_take => k_is)
      (case zzmea_WordsLeft_are_all_taken => k_is)
      (case zzmef_WordsLeft_are_all_taken => k_is)
      (case zznoa_WordsLeft_words => k_is)
      (case zznoa_WordsLeft_taken => k_is)
      (case zzcpg_Check => k_is)
      (case zzchd_Check => k_is)
      (case zzcpo_Check => k_is)
      (case zzcsa_Check => k_is)
      (case zzcha_Check => k_is)
      (case zzchn_Check => k_is)
      (case zzctk_Check => k_is)
      (case zzcmo_Check => k_is)
      (case zzmkm_Check => k_is)
      (case zzmki_Check => k_is)
      (case zzmkf_Check => k_is)
      (case zzmkk_Check => k_is)
      (case zznoa_Check_name => k_is)
      (case zznoa_Check_test => k_is)
      (case zznoa_Check_firm => k_is)
      (case zzcpg_Sheet => k_is)
      (case zzchd_Sheet => k_is)
      (case zzcpo_Sheet => k_is)
      (case zzcsa_Sheet => k_is)
      (case zzcha_Sheet => k_is)
      (case zzchn_Sheet => k_is)
      (case zzctk_Sheet => k_is)
      (case zzcmo_Sheet => k_is)
      (case zzmkm_Sheet => k_is)
      (case zzmki_Sheet => k_is)
      (case zzmkf_Sheet => k_is)
      (case zzmkk_Sheet => k_is)
      (case zznoa_Sheet_name => k_is)
      (case zznoa_Sheet_each => k_is)
      (case zznoa_Sheet_rows => k_is)
      (case zznoa_Sheet_ways => k_is)
      (case zzcpg_Paper => k_is)
      (case zzchd_Paper => k_is)
      (case zzcpo_Paper => k_is)
      (case zzcsa_Paper => k_is)
      (case zzcha_Paper => k_is)
      (case zzchn_Paper => k_is)
      (case zzctk_Paper => k_is)
      (case zzcmo_Paper => k_is)
      (case zzmkm_Paper => k_is)
      (case zzmki_Paper => k_is)
      (case zzmkf_Paper => k_is)
      (case zzmkk_Paper => k_is)
      (case zznoa_Paper_name => k_is)
      (case zznoa_Paper_sheets => k_is)
      (case zznoa_Paper_totals => k_is)
      (case zzcpg_Draft => k_is)
      (case zzchd_Draft => k_is)
      (case zzcpo_Draft => k_is)
      (case zzcsa_Draft => k_is)
      (case zzcha_Draft => k_is)
      (case zzchn_Draft => k_is)
      (case zzctk_Draft => k_is)
      (case zzcmo_Draft => k_is)
      (case zzmkm_Draft => k_is)
      (case zzmki_Draft => k_is)
      (case zzmkf_Draft => k_is)
      (case zzmkk_Draft => k_is)
      (case zzmea_Draft_demand => k_is)
      (case zzmef_Draft_demand => k_is)
      (case zzmea_Draft_read_test => k_is)
      (case zzmef_Draft_read_test => k_is)
      (case zzmea_Draft_read_when => k_is)
      (case zzmef_Draft_read_when => k_is)
      (case zzmea_Draft_sheet_to_fill => k_is)
      (case zzmef_Draft_sheet_to_fill => k_is)
      (case zzmea_Draft_put_row => k_is)
      (case zzmef_Draft_put_row => k_is)
      (case zzmea_Draft_take_paper => k_is)
      (case zzmef_Draft_take_paper => k_is)
      (case zzmea_Draft_take_sheet => k_is)
      (case zzmef_Draft_take_sheet => k_is)
      (case zzmea_Draft_take_check => k_is)
      (case zzmef_Draft_take_check => k_is)
      (case zzmea_Draft_take_way => k_is)
      (case zzmef_Draft_take_way => k_is)
      (case zzmea_Draft_take_row => k_is)
      (case zzmef_Draft_take_row => k_is)
      (case zzmea_Draft_take_line => k_is)
      (case zzmef_Draft_take_line => k_is)
      (case zznoa_Draft_name => k_is)
      (case zznoa_Draft_sheets => k_is)
      (case zznoa_Draft_totals => k_is)
      (case zznoa_Draft_atoms_read => k_is)
      (case zznoa_Draft_place => k_is)
      (case zzcfr_Row_init => k_is)
      (case zzcfa_Row_init => k_is)
      (case zzcfs_Row_init => k_is)
    exact T
