import PyProof.Rows.All
import OpenK.KLine
import OpenK.KWalk
import OpenK.KRaise
import Open.Line
import Wide.Line
import KE.IntBitsLaws
import KE.KIsAll
import KE.KTryMore
import KE.KNest
import KE.KLam
import Wide.FinOn
import Lean
import PyProof.EqAt
import PyProof.EqKinds
import PyProof.TupleCall
import PyProof.ZipIter
import PyProof.Rows.ZipGen
import PySem.Challenge.RW_askpaper_k22_a_question_read
local macro_rules
 | `(‹$x:str›) => `((PySem.Str.ofString $x))
 | `(‹1›) => `((fun _ _ _ _ _ _ us hl => match us, hl with | [_], _ => rfl))
 | `(‹2›) => `((fun _ _ _ _ _ _ us hl => match us, hl with | [_, _], _ => rfl))
 | `(‹3›) => `((fun _ _ _ _ _ _ us hl => match us, hl with | [_, _, _], _ => rfl))
 | `(‹4›) => `((fun _ _ _ _ _ _ us hl => match us, hl with | [_, _, _, _], _ => rfl))
 | `(‹5›) => `((fun _ _ _ _ _ _ us hl => match us, hl with | [_, _, _, _, _], _ => rfl))
 | `(‹$x:ident›) => `((($x).mono (by first | decide | omega)))
local macro_rules | `(tactic| symm) => `(tactic| decide +kernel)
set_option Elab.async false
set_option linter.all false
set_option maxRecDepth 100000
namespace PySem.W.Fast
def tw10034929174368475300 := ()
def tw10091408664035513818 := ()
def tw10151101526040433753 := ()
def tw10207405007951162892 := ()
def tw1028439904469345657 := ()
def tw10292618667776171169 := ()
def tw10402109383899908676 := ()
def tw10444583266506961802 := ()
def tw10449967203545211901 := ()
def tw10473131484114632483 := ()
def tw10481251770538206315 := ()
def tw10489637601853925384 := ()
def tw10505569336360406276 := ()
def tw10507737813295001845 := ()
def tw10511602651951725697 := ()
def tw10608881431563597702 := ()
def tw10652859302047260807 := ()
def tw10721964494932550596 := ()
def tw10775941307565176365 := ()
def tw10799455848433075670 := ()
def tw10807762829335970684 := ()
def tw10873272964742525172 := ()
def tw1091883316410746939 := ()
def tw10959734767361080554 := ()
def tw11010678076225899128 := ()
def tw11012970895934636133 := ()
def tw11058758953309224513 := ()
def tw11104839966665908838 := ()
def tw11105828200604101608 := ()
def tw11111999205901346129 := ()
def tw11294870610960429960 := ()
def tw11306500448384102693 := ()
def tw11307268171897049479 := ()
def tw11356659844230575089 := ()
def tw11366278421959289383 := ()
def tw11429314557438073129 := ()
def tw11526154631487408639 := ()
def tw11540516437943729571 := ()
def tw11556906658681918723 := ()
def tw1162463795193233006 := ()
def tw11647234118711095896 := ()
def tw11652266768492827064 := ()
def tw1169359694819806334 := ()
def tw11777814406704568018 := ()
def tw11848424180162231657 := ()
def tw11891503253211538061 := ()
def tw11928803214491019174 := ()
def tw11946746499537161694 := ()
def tw11977022972194910367 := ()
def tw1201258917249065984 := ()
def tw12037500953529022322 := ()
def tw12122856192910392958 := ()
def tw1214321065280646908 := ()
def tw12181409251382806636 := ()
def tw12202280420267306300 := ()
def tw12225914651397221681 := ()
def tw12234737037772132162 := ()
def tw12371803981581999228 := ()
def tw12442957402836087535 := ()
def tw12499755979139035242 := ()
def tw12504871557261731443 := ()
def tw12559712721485516241 := ()
def tw12570293665258160332 := ()
def tw12585399034833026536 := ()
def tw12592768304036914319 := ()
def tw12612638933395071688 := ()
def tw12622418859019688281 := ()
def tw12673930382022238267 := ()
def tw12702680597305160487 := ()
def tw12745559580419005212 := ()
def tw12768516209684352014 := ()
def tw12845449760533268315 := ()
def tw12855953705639678298 := ()
def tw12938799630057088904 := ()
def tw12944609219273423008 := ()
def tw1294992021416551602 := ()
def tw1301842562569160809 := ()
def tw13049513351697635604 := ()
def tw13085199607568628195 := ()
def tw13092115180474710318 := ()
def tw13169954344002605382 := ()
def tw13185561314863837345 := ()
def tw13211386853550507089 := ()
def tw13224143261746518682 := ()
def tw13230806196046316553 := ()
def tw13241651680832782686 := ()
def tw13309987012555521609 := ()
def tw13338611760457776395 := ()
def tw1337675638356176977 := ()
def tw13443513260933192604 := ()
def tw13538752573286571308 := ()
def tw1353955547214498926 := ()
def tw13560860790514190296 := ()
def tw13597457689702081653 := ()
def tw13618453147370849187 := ()
def tw13627870908737947656 := ()
def tw13646052399034700780 := ()
def tw13658165729827107704 := ()
def tw13709892884179647892 := ()
def tw13717877285579220334 := ()
def tw13791871053864404281 := ()
def tw13798301821995084459 := ()
def tw13880499530422281319 := ()
def tw13904012177163851872 := ()
def tw13959217239537785539 := ()
def tw13983472480280377536 := ()
def tw1400211158252612525 := ()
def tw14009499421921879611 := ()
def tw14020378331522240564 := ()
def tw14115018661630149075 := ()
def tw14115349094382538346 := ()
def tw14146476725756495813 := ()
def tw14158372600201095865 := ()
def tw14221905354477877725 := ()
def tw14260961376251237484 := ()
def tw14294487267696236349 := ()
def tw14299531397590202211 := ()
def tw1431479304527664063 := ()
def tw14316575149459696034 := ()
def tw14330990172446158148 := ()
def tw14436638323342250346 := ()
def tw14439373886830298666 := ()
def tw14489878074906736540 := ()
def tw14508911026815340997 := ()
def tw14521316141492264379 := ()
def tw14571363699189500578 := ()
def tw14577081201813381740 := ()
def tw14578810440863468853 := ()
def tw14589236346043906104 := ()
def tw145998778081004250 := ()
def tw14603167171762217600 := ()
def tw14621490563838826944 := ()
def tw14633492698261798050 := ()
def tw14665595253873590784 := ()
def tw14681325137301054662 := ()
def tw14702291082526866607 := ()
def tw14707618872992926785 := ()
def tw14795619112867688123 := ()
def tw14820278065945959443 := ()
def tw14837321853766455750 := ()
def tw14914307673666894616 := ()
def tw14935745179387017985 := ()
def tw149553835996377645 := ()
def tw14968260856254505133 := ()
def tw14990670654562822921 := ()
def tw15001701546018206923 := ()
def tw150071780820284295 := ()
def tw15028007265066519589 := ()
def tw15054103166177328263 := ()
def tw15063778144557974820 := ()
def tw15064382862265555795 := ()
def tw15138353371245662414 := ()
def tw15155012054765986159 := ()
def tw15237173575232351874 := ()
def tw15298570643706294932 := ()
def tw15367409470276726223 := ()
def tw15434092499906061177 := ()
def tw15470146182329792067 := ()
def tw15472743487879095817 := ()
def tw15484117312584485947 := ()
def tw15514732506033543438 := ()
def tw15537703820208567118 := ()
def tw15544793259275988085 := ()
def tw15591758143649051327 := ()
def tw15596190763115182712 := ()
def tw15622406197794277936 := ()
def tw1562486090863612767 := ()
def tw15654016850347479071 := ()
def tw15728849587651384050 := ()
def tw15760960446054629560 := ()
def tw15781534392048651687 := ()
def tw15809038470242522076 := ()
def tw15851029348472429501 := ()
def tw15889768773311905657 := ()
def tw15953557009812161586 := ()
def tw15989960063565033529 := ()
def tw1601473706073436072 := ()
def tw16016149315644190918 := ()
def tw16021889361256056193 := ()
def tw16083539693349111362 := ()
def tw16088903902172656476 := ()
def tw16115293082456229670 := ()
def tw16170366611953122029 := ()
def tw16180932254066223804 := ()
def tw16278682765338540161 := ()
def tw16285047109756735968 := ()
def tw16317038253831971594 := ()
def tw16318893961563583706 := ()
def tw16338497974039186187 := ()
def tw16415314510616793264 := ()
def tw16457699420822432797 := ()
def tw16525059104563783627 := ()
def tw16531564648625114237 := ()
def tw16535176423219218073 := ()
def tw16549355181207693507 := ()
def tw16654403646662820463 := ()
def tw16659547791780096653 := ()
def tw16695056846014014306 := ()
def tw16766445875487529550 := ()
def tw16816662154216963620 := ()
def tw16827256976403858762 := ()
def tw16852874722885457257 := ()
def tw16930833945893101683 := ()
def tw16971083232006228890 := ()
def tw16971649738113799582 := ()
def tw16980038746834192223 := ()
def tw17013271167763560212 := ()
def tw17061875048191566370 := ()
def tw17120555749993301301 := ()
def tw17150225464749189669 := ()
def tw17162287851734498800 := ()
def tw17180244950756439318 := ()
def tw17182522171403814051 := ()
def tw17218494839361172585 := ()
def tw17223480141376048326 := ()
def tw17235667463215053607 := ()
def tw17269284642131147117 := ()
def tw17270475161475651514 := ()
def tw17300844873097849700 := ()
def tw17361641066572574652 := ()
def tw17459562437778036719 := ()
def tw17467827178034495589 := ()
def tw17496439400843534952 := ()
def tw17613083034138725929 := ()
def tw1763713962844994493 := ()
def tw17643625923561694213 := ()
def tw17696353977193374681 := ()
def tw17716454714414134715 := ()
def tw17761360433474961107 := ()
def tw17774183668028157620 := ()
def tw1779424333331840010 := ()
def tw17840485103492443427 := ()
def tw1784572622895615039 := ()
def tw17915536800928703843 := ()
def tw17937352919145545076 := ()
def tw18013545197225214773 := ()
def tw18035283616217464588 := ()
def tw18045541316096615216 := ()
def tw18231338914977925469 := ()
def tw1830363615401859058 := ()
def tw1831265092897440944 := ()
def tw18326872164787209984 := ()
def tw18329551025725205295 := ()
def tw18394501166517756185 := ()
def tw186862573006938753 := ()
def tw1872335946522693079 := ()
def tw1877306327406805497 := ()
def tw1911895960099737512 := ()
def tw1924400910606894289 := ()
def tw1927978928223348859 := ()
def tw192875402559763677 := ()
def tw2040791761201540235 := ()
def tw2053670800956558154 := ()
def tw2088506164518629316 := ()
def tw210703105236412282 := ()
def tw2123440060301324746 := ()
def tw2139651443881259437 := ()
def tw2149832693845262774 := ()
def tw2246341171078007284 := ()
def tw2288727336877652987 := ()
def tw2312763923694803528 := ()
def tw2371741872818097976 := ()
def tw2398447892508014266 := ()
def tw2419242049929107315 := ()
def tw2469623323236721022 := ()
def tw2481966396720934607 := ()
def tw2489839052916670321 := ()
def tw2544851153087567536 := ()
def tw2576379193785576515 := ()
def tw2598419557125286501 := ()
def tw2613433649585839105 := ()
def tw264415884052860009 := ()
def tw2669819541822618380 := ()
def tw2672284635515072907 := ()
def tw2700537372361779394 := ()
def tw2763760166875701974 := ()
def tw2776217816745742909 := ()
def tw2807432294952982224 := ()
def tw2814568278643238139 := ()
def tw28147942162591856 := ()
def tw285077509981892605 := ()
def tw2874231854657050243 := ()
def tw3001718904083195161 := ()
def tw3094763234161697062 := ()
def tw3114866924158514939 := ()
def tw3143516791899358449 := ()
def tw3165175767367541949 := ()
def tw3343143191244703495 := ()
def tw3351779607265440227 := ()
def tw3375808228657534218 := ()
def tw3424539028910219898 := ()
def tw3579002678593817548 := ()
def tw3593786528703515814 := ()
def tw3624989352865192089 := ()
def tw3626268466904205285 := ()
def tw365191356485581678 := ()
def tw3652725262807327970 := ()
def tw371849799542242383 := ()
def tw3732811430189793549 := ()
def tw3767362876088338511 := ()
def tw3832790428795755002 := ()
def tw3843677724131194782 := ()
def tw3899344968824468831 := ()
def tw3909365600978076445 := ()
def tw3978760208960363800 := ()
def tw4027215079258547219 := ()
def tw4047953759701231399 := ()
def tw4063534966017463066 := ()
def tw4064142289381508848 := ()
def tw4073222241874811930 := ()
def tw4079343885671938261 := ()
def tw409088457201692452 := ()
def tw4162979211244272787 := ()
def tw4193867635684086414 := ()
def tw4251101003783175421 := ()
def tw4332470444864783533 := ()
def tw4360560126444095591 := ()
def tw4375213983581850141 := ()
def tw4414230197561561050 := ()
def tw44251938303655771 := ()
def tw4450653763896457934 := ()
def tw447858359974487816 := ()
def tw4506331729150667945 := ()
def tw4524081413780483703 := ()
def tw4537861241287914572 := ()
def tw4574763434385920314 := ()
def tw4640760081620021271 := ()
def tw4696791983528885905 := ()
def tw4717291665792613081 := ()
def tw4723026578029329140 := ()
def tw4741918343631811734 := ()
def tw482139184912946286 := ()
def tw487257260291569878 := ()
def tw4945825611832895304 := ()
def tw5000609999212923612 := ()
def tw502673680862667798 := ()
def tw5042310281700963944 := ()
def tw5046134109275463997 := ()
def tw5051384200708603910 := ()
def tw5086616050999115989 := ()
def tw5123842330050365478 := ()
def tw5125378278389136987 := ()
def tw5152448052834673260 := ()
def tw5324402945165316640 := ()
def tw5342641355477277396 := ()
def tw5343905159366869456 := ()
def tw5366250192572654524 := ()
def tw5383941382602203978 := ()
def tw5394468737383948765 := ()
def tw5439027609613831491 := ()
def tw549139476413767071 := ()
def tw5507683317595306989 := ()
def tw5529941460134645745 := ()
def tw5552394041661947279 := ()
def tw5560882382469132727 := ()
def tw5624172377720170961 := ()
def tw5641339845132521654 := ()
def tw5644660685122826105 := ()
def tw5668893667061454968 := ()
def tw5772446042634133910 := ()
def tw5779678066707738616 := ()
def tw5879448808064430023 := ()
def tw5880552636507667917 := ()
def tw5922004924950158242 := ()
def tw5924138159490804997 := ()
def tw5942727783105489183 := ()
def tw5947707857873858621 := ()
def tw5962514402947180141 := ()
def tw6005157200918926806 := ()
def tw6048557032576584712 := ()
def tw6065835599567688210 := ()
def tw6145641374009126958 := ()
def tw6219441793010646662 := ()
def tw6239479711471422085 := ()
def tw6258902288848210706 := ()
def tw6303966725956329920 := ()
def tw6323687778661402095 := ()
def tw6338125634463780871 := ()
def tw6350957728065383751 := ()
def tw6359171371302494470 := ()
def tw6433910576278841853 := ()
def tw653401008098706101 := ()
def tw6581727778172721472 := ()
def tw6605929624432526035 := ()
def tw6647341834773477483 := ()
def tw6651492972879952341 := ()
def tw6657862118178195390 := ()
def tw6680458140501113480 := ()
def tw6711843489701928683 := ()
def tw6715783253637327397 := ()
def tw6716354684903138505 := ()
def tw6730896033455704872 := ()
def tw677329818699106054 := ()
def tw6793852648214027267 := ()
def tw6794214607116605503 := ()
def tw6826148194335874920 := ()
def tw68544760165337502 := ()
def tw688341140013539147 := ()
def tw6940932014524113274 := ()
def tw7046476272006897322 := ()
def tw7126435770182337995 := ()
def tw7157904631435546735 := ()
def tw7249401559778811035 := ()
def tw7256666650552662008 := ()
def tw7289956498673810834 := ()
def tw7310898614840636259 := ()
def tw7329215744969306043 := ()
def tw7333375190177202594 := ()
def tw7334031441796863006 := ()
def tw7355206033536758892 := ()
def tw7479595204414841471 := ()
def tw7502092120702158728 := ()
def tw7526303349987589568 := ()
def tw7552044811312304054 := ()
def tw7559015211557443988 := ()
def tw7570749326687568211 := ()
def tw7663581461124960021 := ()
def tw7717028423629289362 := ()
def tw7740945331689345162 := ()
def tw7754893834862609674 := ()
def tw7791588915061411347 := ()
def tw779172055797763601 := ()
def tw7809010291075323913 := ()
def tw786576307285147860 := ()
def tw796891871598798429 := ()
def tw7970067142961367456 := ()
def tw7999155502124156208 := ()
def tw8019261131273595280 := ()
def tw8036966228413284348 := ()
def tw8039369823869782417 := ()
def tw80550079621836241 := ()
def tw8095247281939336889 := ()
def tw8111508930524820817 := ()
def tw8133685737474540751 := ()
def tw8162645449750852699 := ()
def tw8182555705992525454 := ()
def tw8234952923071658549 := ()
def tw8246102491510637767 := ()
def tw8257755024048750427 := ()
def tw8315819363179932019 := ()
def tw8320150816621564971 := ()
def tw8328421633584802139 := ()
def tw8393905028611303032 := ()
def tw8457979568920794335 := ()
def tw8544936170482324923 := ()
def tw8554243084832080443 := ()
def tw8593357725590382953 := ()
def tw865541921069986026 := ()
def tw8672916789087698262 := ()
def tw8709910969117924187 := ()
def tw8836966987170759121 := ()
def tw88517906211814092 := ()
def tw8908777305743127150 := ()
def tw8908795491026903121 := ()
def tw891545406894856795 := ()
def tw8951332033684420476 := ()
def tw897509664418168625 := ()
def tw9002772162401679830 := ()
def tw9051436883639717793 := ()
def tw9105998906353282952 := ()
def tw9107936915097692533 := ()
def tw9116351211625620355 := ()
def tw9133511127416285219 := ()
def tw9156059847604612556 := ()
def tw9163714971311484797 := ()
def tw9164515212734604125 := ()
def tw9198735698120326383 := ()
def tw925525245113572208 := ()
def tw9294351113791637972 := ()
def tw9303185321562117601 := ()
def tw9359568339831963586 := ()
def tw9404934868465434452 := ()
def tw9428986129261830763 := ()
def tw9458744701071946012 := ()
def tw9482606654611258478 := ()
def tw948902646392958467 := ()
def tw9492435968214889755 := ()
def tw9529031355737351410 := ()
def tw9545101726259299664 := ()
def tw957634065034619476 := ()
def tw963487065683982353 := ()
def tw96573962932669466 := ()
def tw9695717891502603728 := ()
def tw9727830291262801052 := ()
def tw9842848657136566329 := ()
def tw9880981941000227560 := ()
def tw9905208038650453628 := ()
def tw9916085753705599646 := ()
def tw9963802715522563590 := ()
end PySem.W.Fast
section
namespace Hk
open PySem PySem.W
theorem chs {α β : Type} {f : β → α} {l : List β} {γ : Type} {g : γ → α} {l2 : List γ} {n m k : Nat} (h1 : ((l.drop n).take m).map f = ((l2.drop n).take m).map g) (hk : n + m = k) (h2 : (l.drop k).map f = (l2.drop k).map g) : (l.drop n).map f = (l2.drop n).map g := by
  subst hk
  rw [← List.take_append_drop m (l.drop n), ← List.take_append_drop m (l2.drop n), List.map_append, List.map_append, h1, List.drop_drop, List.drop_drop, h2]
theorem ch {K : Params → Frag} {as : List Addr} (e : ∀ P, as = (K P).map (·.1)) (w : World) (s : Shared) (x : ((((((as.drop 0).take 64).map s.heap.get?, ((as.drop 64).take 64).map s.heap.get?), (((as.drop 128).take 64).map s.heap.get?, ((as.drop 192).take 64).map s.heap.get?)), ((((as.drop 256).take 64).map s.heap.get?, ((as.drop 320).take 64).map s.heap.get?), (((as.drop 384).take 64).map s.heap.get?, ((as.drop 448).take 64).map s.heap.get?))), (((((as.drop 512).take 64).map s.heap.get?, ((as.drop 576).take 64).map s.heap.get?), (((as.drop 640).take 64).map s.heap.get?, ((as.drop 704).take 64).map s.heap.get?)), ((((as.drop 768).take 64).map s.heap.get?, ((as.drop 832).take 64).map s.heap.get?), (((as.drop 896).take 64).map s.heap.get?, (as.drop 960).map s.heap.get?)))) = (((((((K w.params).drop 0).take 64).map (fun p => some p.2), (((K w.params).drop 64).take 64).map (fun p => some p.2)), ((((K w.params).drop 128).take 64).map (fun p => some p.2), (((K w.params).drop 192).take 64).map (fun p => some p.2))), (((((K w.params).drop 256).take 64).map (fun p => some p.2), (((K w.params).drop 320).take 64).map (fun p => some p.2)), ((((K w.params).drop 384).take 64).map (fun p => some p.2), (((K w.params).drop 448).take 64).map (fun p => some p.2)))), ((((((K w.params).drop 512).take 64).map (fun p => some p.2), (((K w.params).drop 576).take 64).map (fun p => some p.2)), ((((K w.params).drop 640).take 64).map (fun p => some p.2), (((K w.params).drop 704).take 64).map (fun p => some p.2))), (((((K w.params).drop 768).take 64).map (fun p => some p.2), (((K w.params).drop 832).take 64).map (fun p => some p.2)), ((((K w.params).drop 896).take 64).map (fun p => some p.2), ((K w.params).drop 960).map (fun p => some p.2)))))) : InK K w s.heap := by
  simp only [Prod.mk.injEq] at x
  obtain ⟨⟨⟨⟨x0, x1⟩, ⟨x2, x3⟩⟩, ⟨⟨x4, x5⟩, ⟨x6, x7⟩⟩⟩, ⟨⟨⟨x8, x9⟩, ⟨x10, x11⟩⟩, ⟨⟨x12, x13⟩, ⟨x14, x15⟩⟩⟩⟩ := x
  have y15 := x15
  have y14 := chs x14 (by decide) y15
  have y13 := chs x13 (by decide) y14
  have y12 := chs x12 (by decide) y13
  have y11 := chs x11 (by decide) y12
  have y10 := chs x10 (by decide) y11
  have y9 := chs x9 (by decide) y10
  have y8 := chs x8 (by decide) y9
  have y7 := chs x7 (by decide) y8
  have y6 := chs x6 (by decide) y7
  have y5 := chs x5 (by decide) y6
  have y4 := chs x4 (by decide) y5
  have y3 := chs x3 (by decide) y4
  have y2 := chs x2 (by decide) y3
  have y1 := chs x1 (by decide) y2
  have y0 := chs x0 (by decide) y1
  exact InK.of e w s y0
end Hk
open Lean in
local macro_rules
  | `($f:ident $h:term) => do
    let n := f.getId.eraseMacroScopes
    unless n == `Hook.obs || n == `Hook.val || n == `Hook.of do Macro.throwUnsupported
    match h with
    | `(($g:ident $k $a $e)) =>
      unless g.getId.eraseMacroScopes == `kHook do Macro.throwUnsupported
      if n == `Hook.obs then `(fun (s : PySem.Shared) => ((((((($a).drop 0).take 64).map s.heap.get?, ((($a).drop 64).take 64).map s.heap.get?), (((($a).drop 128).take 64).map s.heap.get?, ((($a).drop 192).take 64).map s.heap.get?)), ((((($a).drop 256).take 64).map s.heap.get?, ((($a).drop 320).take 64).map s.heap.get?), (((($a).drop 384).take 64).map s.heap.get?, ((($a).drop 448).take 64).map s.heap.get?))), (((((($a).drop 512).take 64).map s.heap.get?, ((($a).drop 576).take 64).map s.heap.get?), (((($a).drop 640).take 64).map s.heap.get?, ((($a).drop 704).take 64).map s.heap.get?)), ((((($a).drop 768).take 64).map s.heap.get?, ((($a).drop 832).take 64).map s.heap.get?), (((($a).drop 896).take 64).map s.heap.get?, (($a).drop 960).map s.heap.get?)))))
      else if n == `Hook.val then `(fun (w : PySem.World) => (((((((($k) w.params).drop 0).take 64).map (fun p => some p.2), (((($k) w.params).drop 64).take 64).map (fun p => some p.2)), ((((($k) w.params).drop 128).take 64).map (fun p => some p.2), (((($k) w.params).drop 192).take 64).map (fun p => some p.2))), (((((($k) w.params).drop 256).take 64).map (fun p => some p.2), (((($k) w.params).drop 320).take 64).map (fun p => some p.2)), ((((($k) w.params).drop 384).take 64).map (fun p => some p.2), (((($k) w.params).drop 448).take 64).map (fun p => some p.2)))), ((((((($k) w.params).drop 512).take 64).map (fun p => some p.2), (((($k) w.params).drop 576).take 64).map (fun p => some p.2)), ((((($k) w.params).drop 640).take 64).map (fun p => some p.2), (((($k) w.params).drop 704).take 64).map (fun p => some p.2))), (((((($k) w.params).drop 768).take 64).map (fun p => some p.2), (((($k) w.params).drop 832).take 64).map (fun p => some p.2)), ((((($k) w.params).drop 896).take 64).map (fun p => some p.2), ((($k) w.params).drop 960).map (fun p => some p.2))))))
      else `(Hk.ch (K := $k) (as := $a) $e)
    | _ => Macro.throwUnsupported
open PySem PySem.W PyProof.Rows
set_option maxHeartbeats 0 in
open_top PySem.Challenge.hd22 for PySem.Challenge.rw_askpaper_k22_a_question_read
end
namespace L2
open PySem PySem.Spec PyProof.Rows
abbrev Key := Sum Int Str
def ace : Key → Value → Bool
 | .inl k, v => Value.isInt k v
 | .inr x, v => Value.isStrOf x v
def atR (w : World) : Key → Int
 | .inl k => hashInt k
 | .inr x => hashStr w x
theorem yZ : ∀ {k : Key} {v : Value}, ace k v = true → (∃ i t, k = Sum.inl i ∧ v = Value.int i t) ∨ (∃ x t, k = Sum.inr x ∧ v = Value.str x t)
 | .inl i, v, h => by
   obtain ⟨t, e⟩ := Value.isInt_shape (k := i) (v := v) h
   exact .inl ⟨i, t, rfl, e⟩
 | .inr x, v, h => by
   obtain ⟨t, e⟩ := Value.isStrOf_shape (x := x) (v := v) h
   exact .inr ⟨x, t, rfl, e⟩
theorem acU (a b : Int) : decide ((Sum.inl a : Key) = Sum.inl b) = (a == b) := by
 by_cases e : a = b
 · subst e; simp
 · have h : ¬ (Sum.inl a : Key) = Sum.inl b := fun q => e (Sum.inl.inj q)
   rw [decide_eq_false h]
   exact (beq_eq_false_iff_ne.mpr e).symm
theorem acV (a b : Str) : decide ((Sum.inr a : Key) = Sum.inr b) = decide (a = b) := by
 by_cases e : a = b
 · subst e; simp
 · have h : ¬ (Sum.inr a : Key) = Sum.inr b := fun q => e (Sum.inr.inj q)
   rw [decide_eq_false h, decide_eq_false e]
theorem acW (a : Int) (b : Str) : decide ((Sum.inl a : Key) = Sum.inr b) = false := decide_eq_false (fun q => nomatch q)
theorem acX (a : Str) (b : Int) : decide ((Sum.inr a : Key) = Sum.inl b) = false := decide_eq_false (fun q => nomatch q)
def Vl (prog : Program) (w : World) : PySem.KeyKind prog w Key where
 is := ace
 hash := atR w
 inj := fun v a b ha hb => by
   rcases yZ ha with ⟨i, t, rfl, rfl⟩ | ⟨x, t, rfl, rfl⟩
   · rcases yZ hb with ⟨j, u, rfl, e⟩ | ⟨y, u, rfl, e⟩
     · injection e with e1 _; rw [e1]
     · exact nomatch e
   · rcases yZ hb with ⟨j, u, rfl, e⟩ | ⟨y, u, rfl, e⟩
     · exact nomatch e
     · injection e with e1 _; rw [e1]
 byValue := fun k v h => by
   rcases yZ h with ⟨i, t, rfl, rfl⟩ | ⟨x, t, rfl, rfl⟩ <;> rfl
 pyHash := fun hv h => by
   rcases yZ hv with ⟨i, t, rfl, rfl⟩ | ⟨x, t, rfl, rfl⟩
   · exact wpAny_pyHash_int h
   · exact wpAny_pyHash_str h
 eqBool := fun hu hv h => by
   rcases yZ hu with ⟨i, t, rfl, rfl⟩ | ⟨x, t, rfl, rfl⟩
   · rcases yZ hv with ⟨j, u, rfl, rfl⟩ | ⟨y, u, rfl, rfl⟩
     · rw [acU] at h; exact wpAny_eqBool_int h
     · rw [acW] at h; exact SeqAt.EqAt.int_str i t y u _ _ _ _ h
   · rcases yZ hv with ⟨j, u, rfl, rfl⟩ | ⟨y, u, rfl, rfl⟩
     · rw [acX] at h; exact SeqAt.EqAt.str_int x t j u _ _ _ _ h
     · rw [acV] at h; exact wpAny_eqBool_str h
 «strs» := fun k x t v h => by
   rcases yZ h with ⟨i, u, rfl, e⟩ | ⟨y, u, rfl, e⟩
   · exact nomatch e
   · injection e with e1 _
     subst e1
     cases v <;> rfl
end L2
namespace L2
open PySem PySem.Spec PyProof.Rows
inductive V where
 | non | bl (b : Bool) | int (i : Int) | str (x : Str) | Xz (b : Array UInt8) | flt (b : UInt64) | ref (a : Addr) | ty (n : String)
 deriving DecidableEq
def RelV : V → Value → Prop
 | .non, u => u = Value.none
 | .bl b, u => u = Value.bool b
 | .int i, u => ∃ t, u = Value.int i t
 | .str x, u => ∃ t, u = Value.str x t
 | .Xz b, u => ∃ t, u = Value.bytes b t
 | .flt b, u => ∃ t, u = Value.float b t
 | .ref a, u => u = Value.ref a
 | .ty n, u => u = Value.type n
abbrev Vals : List V → List Value → Prop := Paired RelV
theorem Vals.length {xs : List V} {us : List Value} (r : Vals xs us) : xs.length = us.length := Paired.length r
theorem Vals.get : ∀ {xs : List V} {us : List Value} {i : Nat} {x : V}, Vals xs us → xs[i]? = some x → ∃ u, us[i]? = some u ∧ RelV x u
 | _, _, _, _, .nil, e => by simp at e
 | _, _, 0, _, .cons r _, e => by simp at e; subst e; exact ⟨_, rfl, r⟩
 | _, _, i + 1, x, .cons _ t, e => by
   obtain ⟨u, h1, h2⟩ := Vals.get (i := i) (x := x) t (by simpa using e)
   exact ⟨u, by simpa using h1, h2⟩
theorem Vals.set {x : V} {u : Value} (r : RelV x u) : ∀ {xs : List V} {us : List Value} (i : Nat), Vals xs us → Vals (xs.set i x) (us.set i u)
 | _, _, _, .nil => .nil
 | _, _, 0, .cons _ t => .cons r t
 | _, _, i + 1, .cons q t => .cons q (Vals.set r i t)
theorem Vals.append : ∀ {xs ys : List V} {us ws : List Value}, Vals xs us → Vals ys ws → Vals (xs ++ ys) (us ++ ws)
 | _, _, _, _, .nil, s => s
 | _, _, _, _, .cons r t, s => .cons r (Vals.append t s)
theorem Vals.take : ∀ {xs : List V} {us : List Value} (n : Nat), Vals xs us → Vals (xs.take n) (us.take n)
 | _, _, 0, _ => .nil
 | _, _, _ + 1, .nil => .nil
 | _, _, n + 1, .cons r t => .cons r (Vals.take n t)
theorem Vals.drop : ∀ {xs : List V} {us : List Value} (n : Nat), Vals xs us → Vals (xs.drop n) (us.drop n)
 | _, _, 0, r => r
 | _, _, _ + 1, .nil => .nil
 | _, _, n + 1, .cons _ t => Vals.drop n t
theorem Vals.none_of : ∀ {xs : List V} {us : List Value} {i : Nat}, Vals xs us → xs[i]? = none → us[i]? = none := fun {xs us i} r e => by
 have h1 := r.length
 have h2 : xs.length ≤ i := List.getElem?_eq_none_iff.mp e
 exact List.getElem?_eq_none_iff.mpr (by omega)
def wW : Option V → Option Value → Prop
 | some v, some u => RelV v u
 | none, none => True
 | _, _ => False
def KV {κ : Type} : List (κ × V) → List (κ × Value) → Prop := Paired fun (p : κ × V) (q : κ × Value) => p.1 = q.1 ∧ RelV p.2 q.2
def kV : Key → V
 | .inl i => .int i
 | .inr x => .str x
inductive HO where
 | lst (xs : List V)
 | tup (xs : List V)
 | dK (kvs : List (Key × V)) | dT (kvs : List (List Key × V))
 | set (S : Int → Bool) (n : Nat)
 | ins (C dx : Addr) (fs : List (Str × V))
 | own (x : Addr)
 | xd (fs : List (Str × V))
 | met (f x : Addr)
 | rng (lo hi : Int)
 | Qy (o : Obj) (u : HO)
 | tbl (ps : Array Value)
 | ext (φ : Heap → Prop)
abbrev Hp := Addr → Option HO
def upd (H : Hp) (a : Addr) (o : HO) : Hp := fun b => if b = a then some o else H b
theorem zE {H : Hp} {a : Addr} {o : HO} : upd H a o a = some o := by unfold upd; rw [if_pos rfl]
theorem zK {H : Hp} {a b : Addr} {o : HO} (h : b ≠ a) : upd H a o b = H b := by unfold upd; rw [if_neg h]
theorem yM {H : Hp} {a : Addr} {o u : HO} : upd (upd H a o) a u = upd H a u := by
 funext b; unfold upd; split <;> rfl
theorem yf {H : Hp} {a b : Addr} {o u : HO} (h : H a = some o) (h' : H b = some u) (d : o ≠ u) : a ≠ b := by
 intro e; subst e; rw [h] at h'; exact d (Option.some.inj h')
theorem zR {H : Hp} {a b : Addr} {o : HO} (h : H a = some o) (h' : H b = none) : a ≠ b := by
 intro e; subst e; rw [h] at h'; cases h'
section
variable (P : Program) (w : World)
def iy (H : Hp) (h : Heap) (a : Addr) : HO → Prop
 | .lst xs => xs.length ≤ sizeLine ∧ ∃ (its : List Value) (n : Nat), Vals xs its ∧ h.get? a = some { cls := .type "list", data := .seq its.toArray n }
 | .tup xs => xs.length ≤ sizeLine ∧ ∃ its : List Value, Vals xs its ∧ IsTup h a its.toArray
 | .dK kvs => kvs.length ≤ sizeLine ∧ (a == sysModules) = false ∧ ∃ vs, KV kvs vs ∧ h.DictOf (Vl P w) a vs
 | .dT kvs => kvs.length ≤ sizeLine ∧ (a == sysModules) = false ∧ ∃ xs : List (List Key × Addr × Value),
     Paired (fun (p : List Key × V) (q : List Key × Addr × Value) => p.1 = q.1 ∧ H q.2.1 = some (.tup (p.1.map kV)) ∧ RelV p.2 q.2.2) kvs xs ∧
     ∃ o es ep, h.get? a = some o ∧ o.ExactDict ∧ o.data = .dict es ep ∧ es.toList = xs.map (entryOfKey (tupleKind (Vl P w))) ∧ (xs.map (·.1)).Nodup
 | .set S n => h.SetOf (intKind P w) a S n
 | .ins C dx fs => H dx = some (.own a) ∧ fs.length ≤ 1000 ∧ dx ≠ a ∧ h.get? a = some (PySem.W.instObj C dx) ∧
     ∃ mA, h.Ns1 dx mA ∧ (∀ f, wW (fs.lookup f) (mA f)) ∧ PySem.Within mA (fs.map (·.1))
 | .own _ => ∃ o, h.get? a = some o
 | .xd fs => ∃ mA, h.Ns1 a mA ∧ ∀ f, wW (fs.lookup f) (mA f)
 | .rng lo hi => ∃ t u v, h.get? a = some { cls := .type "range", data := .fields #[.int lo t, .int hi u, .int 1 v] }
 | .Qy o u => h.get? a = some o ∧ iy H h a u
 | .tbl ps => h.get? a = some { cls := .none, data := .fields ps }
 | .met f x => h.get? a = some (PySem.W.methodObj (.ref f) (.ref x))
 | .ext φ => φ h ∧ (∃ o, h.get? a = some o) ∧ ∀ h1 h2 : Heap, φ h1 → (∀ o, h1.get? a = some o → h2.get? a = some o) → φ h2
def Ge (H : Hp) (h : Heap) : Prop := ∀ a o, H a = some o → iy P w H h a o
end
section
variable {P : Program} {w : World} {H H' : Hp} {h h' : Heap} {a : Addr} {o : HO}
theorem iy.lt (x : iy P w H h a o) : a < h.objs.size := by
 cases o with
 | lst xs => obtain ⟨_, _, _, _, e⟩ := x; exact Heap.lt_size e
 | tup xs => obtain ⟨_, _, _, p⟩ := x; exact p.lt
 | dK kvs => obtain ⟨_, _, _, _, o, _, _, e, _⟩ := x; exact Heap.lt_size e
 | dT kvs => obtain ⟨_, _, _, _, o, _, _, e, _⟩ := x; exact Heap.lt_size e
 | set S n => obtain ⟨o, _, _, _, e, _⟩ := x; exact Heap.lt_size e
 | ins C dx fs => obtain ⟨_, _, _, e, _⟩ := x; exact Heap.lt_size e
 | own y => obtain ⟨_, e⟩ := x; exact Heap.lt_size e
 | xd fs => obtain ⟨_, ⟨_, _, _, e, _⟩, _⟩ := x; exact Heap.lt_size e
 | rng lo hi => obtain ⟨_, _, _, e⟩ := x; exact Heap.lt_size e
 | Qy ob u => obtain ⟨e, _⟩ := x; exact Heap.lt_size e
 | tbl ps => exact Heap.lt_size (show h.get? a = some _ from x)
 | met f y => exact Heap.lt_size (show h.get? a = some _ from x)
 | ext φ => obtain ⟨_, ⟨_, e⟩, _⟩ := x; exact Heap.lt_size e
theorem Paired.acY {α β : Type} {F G : α → β → Prop} : ∀ {l₁ : List α} {l₂ : List β}, Paired F l₁ l₂ → (∀ a b, F a b → G a b) → Paired G l₁ l₂
 | _, _, .nil, _ => .nil
 | _, _, .cons r t, f => .cons (f _ _ r) (Paired.acY t f)
theorem iy.stay (x : iy P w H h a o) (k : ∀ b u, (b = a ∨ H b = some (.own a)) → h.get? b = some u → h'.get? b = some u)
   (ho : ∀ b, H b = some (.own a) → H' b = some (.own a)) (ht : ∀ b xs, H b = some (.tup xs) → H' b = some (.tup xs)) : iy P w H' h' a o := by
 induction o with
 | lst xs => obtain ⟨z, its, n, r, e⟩ := x; exact ⟨z, its, n, r, k _ _ (.inl rfl) e⟩
 | tup xs => obtain ⟨z, its, r, ob, e, c⟩ := x; exact ⟨z, its, r, ob, k _ _ (.inl rfl) e, c⟩
 | dK kvs => obtain ⟨z, y, vs, r, ob, es, ep, e, c⟩ := x; exact ⟨z, y, vs, r, ob, es, ep, k _ _ (.inl rfl) e, c⟩
 | dT kvs =>
   obtain ⟨z, y, xs, r, ob, es, ep, e, c⟩ := x
   exact ⟨z, y, xs, Paired.acY r fun p q z => ⟨z.1, ht _ _ z.2.1, z.2.2⟩, ob, es, ep, k _ _ (.inl rfl) e, c⟩
 | set S n => obtain ⟨ob, es, ep, t, e, c⟩ := x; exact ⟨ob, es, ep, t, k _ _ (.inl rfl) e, c⟩
 | ins C dx fs =>
   obtain ⟨d, z, ne, e, mA, ⟨od, es, ep, e2, c⟩, r⟩ := x
   exact ⟨ho _ d, z, ne, k _ _ (.inl rfl) e, mA, ⟨od, es, ep, k _ _ (.inr d) e2, c⟩, r⟩
 | own y => obtain ⟨ob, e⟩ := x; exact ⟨ob, k _ _ (.inl rfl) e⟩
 | xd fs => obtain ⟨mA, ⟨od, es, ep, e, c⟩, r⟩ := x; exact ⟨mA, ⟨od, es, ep, k _ _ (.inl rfl) e, c⟩, r⟩
 | rng lo hi => obtain ⟨t, u, v, e⟩ := x; exact ⟨t, u, v, k _ _ (.inl rfl) e⟩
 | Qy ob u ih => obtain ⟨e, q⟩ := x; exact ⟨k _ _ (.inl rfl) e, ih q⟩
 | tbl ps =>
   have e : h.get? a = some { cls := .none, data := .fields ps } := x
   show h'.get? a = some { cls := .none, data := .fields ps }
   exact k a _ (.inl rfl) e
 | met f y =>
   have e : h.get? a = some (PySem.W.methodObj (.ref f) (.ref y)) := x
   show h'.get? a = some (PySem.W.methodObj (.ref f) (.ref y))
   exact k a _ (.inl rfl) e
 | ext φ => obtain ⟨p, ⟨o, e⟩, st⟩ := x; exact ⟨st _ _ p fun o q => k _ _ (.inl rfl) q, ⟨o, k _ _ (.inl rfl) e⟩, st⟩
theorem Ge.lt (x : Ge P w H h) (e : H a = some o) : a < h.objs.size := (x a o e).lt
theorem Ge.fresh (x : Ge P w H h) (e : h.objs.size ≤ a) : H a = none := by
 cases q : H a with
 | none => rfl
 | some u => exact absurd (Nat.lt_of_lt_of_le (x.lt q) e) (Nat.lt_irrefl _)
theorem Ge.kept (x : Ge P w H h) (k : ∀ b u, h.get? b = some u → h'.get? b = some u) : Ge P w H h' := fun a o e =>
 (x a o e).stay (fun b u _ q => k b u q) (fun _ q => q) fun _ _ q => q
theorem Ge.laid (x : Ge P w H h) (k : ∀ b u, h.get? b = some u → h'.get? b = some u) (hp : h.objs.size ≤ a) (new : iy P w (upd H a o) h' a o) : Ge P w (upd H a o) h' := fun b u e => by
 have hn := x.fresh hp
 by_cases hb : b = a
 · subst hb; rw [zE] at e; cases e; exact new
 · rw [zK hb] at e
   exact (x b u e).stay (fun c v _ q => k c v q) (fun c q => by rw [zK (zR q hn)]; exact q) fun c xs q => by rw [zK (zR q hn)]; exact q
end
def Rd (H : Hp) (a : Addr) (u : HO) : Prop := H a = some u ∨ ∃ o, H a = some (.Qy o u)
theorem Rd.of {H : Hp} {a : Addr} {u : HO} (h : H a = some u) : Rd H a u := .inl h
theorem Rd.ok {P : Program} {w : World} {H : Hp} {h : Heap} {a : Addr} {u : HO} (r : Rd H a u) (x : Ge P w H h) : iy P w H h a u := by
 rcases r with r | ⟨o, r⟩
 · exact x a u r
 · obtain ⟨_, q⟩ := x a _ r
   exact q
def Mut : Option HO → Prop
 | some (.lst _) => True
 | some (.dK _) => True
 | some (.dT _) => True
 | some (.set _ _) => True
 | some (.ins _ _ _) => True
 | some (.ext _) => True
 | _ => False
section
variable {P : Program} {w : World} {H : Hp} {h h' : Heap} {x e : Addr} {o' : HO}
theorem Ge.write (ok : Ge P w H h) (mu : Mut (H x)) (he : e = x ∨ H e = some (.own x)) (k : ∀ b u, b ≠ e → h.get? b = some u → h'.get? b = some u) (heo : ∃ u, h'.get? e = some u)
   (new : iy P w (upd H x o') h' x o') : Ge P w (upd H x o') h' := fun b u q => by
 have af9 : ∀ c y, H c = some (.own y) → c ≠ x := fun c y r z => by subst z; rw [r] at mu; exact mu
 have atV : ∀ c xs, H c = some (.tup xs) → c ≠ x := fun c xs r z => by subst z; rw [r] at mu; exact mu
 by_cases hb : b = x
 · subst hb; rw [zE] at q; cases q; exact new
 · rw [zK hb] at q
   by_cases hbe : b = e
   · have q' : H b = some (.own x) := by
       rcases he with z | z
       · exact absurd (hbe.trans z) hb
       · rw [hbe]; exact z
     rw [q] at q'; cases q'
     obtain ⟨v, hv⟩ := heo
     exact ⟨v, by rw [hbe]; exact hv⟩
   · refine (ok b u q).stay (fun c v hc r => k c v ?_ r) (fun c r => by rw [zK (af9 c b r)]; exact r) fun c xs r => by rw [zK (atV c xs r)]; exact r
     rcases hc with rfl | hc
     · exact hbe
     · rintro rfl
       rcases he with z | z
       · exact af9 c b hc z
       · rw [hc] at z; cases z; exact hb rfl
end
structure Un (fs ex : List Addr) (H H' : Hp) (h h' : Heap) : Prop where
 keep : ∀ b o, h.get? b = some o → H b = none → b ∉ fs → b ∉ ex → h'.get? b = some o
 slot : ∀ b o, h.get? b = some o → H b = none → b ∈ fs → b ∉ ex → ∃ sl, h'.get? b = some { o with slots := sl }
 free : ∀ b o, h.get? b = some o → H b = none → b ∉ ex → H' b = none
 there : ∀ b o, h.get? b = some o → b ∉ ex → ∃ o', h'.get? b = some o'
 tups : ∀ b xs, H b = some (.tup xs) → H' b = some (.tup xs)
 sr : ∀ b o u, H b = some (.Qy o u) → H' b = some (.Qy o u)
 tQ : ∀ b ps, H b = some (.tbl ps) → ∃ more, H' b = some (.tbl (ps ++ more))
section
variable {fs fs' ex ex' : List Addr} {H H1 H2 : Hp} {h h1 h2 h' : Heap} {a x e : Addr} {o : HO}
theorem Un.any (u : Un fs ex H H1 h h1) {b : Addr} {ob : Obj} (q : h.get? b = some ob) (n : H b = none) (hx : b ∉ ex) : ∃ sl, h1.get? b = some { ob with slots := sl } := by
 by_cases hb : b ∈ fs
 · exact u.slot b ob q n hb hx
 · exact ⟨ob.slots, u.keep b ob q n hb hx⟩
theorem Un.trans (a : Un fs ex H H1 h h1) (b : Un fs ex H1 H2 h1 h2) : Un fs ex H H2 h h2 where
 keep := fun c ob q n hc hx => b.keep c ob (a.keep c ob q n hc hx) (a.free c ob q n hx) hc hx
 slot := fun c ob q n hc hx => by
   obtain ⟨sl, e1⟩ := a.slot c ob q n hc hx
   obtain ⟨sl', e2⟩ := b.slot c _ e1 (a.free c ob q n hx) hc hx
   exact ⟨sl', e2⟩
 free := fun c ob q n hx => by
   obtain ⟨o', e1⟩ := a.there c ob q hx
   exact b.free c o' e1 (a.free c ob q n hx) hx
 there := fun c ob q hx => by
   obtain ⟨o', e1⟩ := a.there c ob q hx
   exact b.there c o' e1 hx
 tups := fun c xs q => b.tups c xs (a.tups c xs q)
 sr := fun c ob xs q => b.sr c ob xs (a.sr c ob xs q)
 tQ := fun c ps q => by
   obtain ⟨m1, e1⟩ := a.tQ c ps q
   obtain ⟨m2, e2⟩ := b.tQ c _ e1
   exact ⟨m1 ++ m2, by rw [e2, Array.append_assoc]⟩
theorem Un.kept (k : ∀ b u, h.get? b = some u → h'.get? b = some u) : Un fs ex H H h h' :=
 ⟨fun b ob q _ _ _ => k b ob q, fun b ob q _ _ _ => ⟨ob.slots, k b ob q⟩, fun _ _ _ n _ => n, fun b ob q _ => ⟨ob, k b ob q⟩, fun _ _ q => q, fun _ _ _ q => q, fun _ ps q => ⟨#[], by rw [q]; simp⟩⟩
theorem Un.refl : Un fs ex H H h h := Un.kept fun _ _ q => q
theorem Un.laid (k : ∀ b u, h.get? b = some u → h'.get? b = some u) (hp : h.objs.size ≤ a) (hn : H a = none) : Un fs ex H (upd H a o) h h' where
 keep := fun b u q _ _ _ => k b u q
 slot := fun b u q _ _ _ => ⟨u.slots, k b u q⟩
 free := fun b u q n _ => by rw [zK (Nat.ne_of_lt (Nat.lt_of_lt_of_le (Heap.lt_size q) hp))]; exact n
 there := fun b u q _ => ⟨u, k b u q⟩
 tups := fun b xs q => by rw [zK (zR q hn)]; exact q
 sr := fun b u xs q => by rw [zK (zR q hn)]; exact q
 tQ := fun b ps q => ⟨#[], by rw [zK (zR q hn), q]; simp⟩
theorem Un.write (mu : Mut (H x)) (he : e = x ∨ H e = some (.own x)) (k : ∀ b u, b ≠ e → h.get? b = some u → h'.get? b = some u) (heo : ∃ u, h'.get? e = some u) : Un fs ex H (upd H x o) h h' := by
 have hx : ∀ b, H b = none → b ≠ x := fun b n z => by subst z; rw [n] at mu; exact mu
 have hb : ∀ b, H b = none → b ≠ e := fun b n z => by
   subst z
   rcases he with r | r
   · exact hx b n r
   · rw [n] at r; cases r
 have hm : ∀ b u, H b = some u → ¬ Mut (some u) → b ≠ x := fun b u q nm z => by subst z; rw [q] at mu; exact nm mu
 refine ⟨fun b u q n _ _ => k b u (hb b n) q, fun b u q n _ _ => ⟨u.slots, k b u (hb b n) q⟩, fun b u q n _ => by rw [zK (hx b n)]; exact n, fun b u q _ => ?_,
   fun b xs q => by rw [zK (hm b _ q fun z => z)]; exact q, fun b u xs q => by rw [zK (hm b _ q fun z => z)]; exact q, fun b ps q => ⟨#[], by rw [zK (hm b _ q fun z => z), q]; simp⟩⟩
 by_cases hbe : b = e
 · subst hbe; exact heo
 · exact ⟨u, k b u hbe q⟩
theorem Un.mono (u : Un fs ex H H1 h h1) (hs : ∀ b ∈ fs, b ∈ fs') (hx : ∀ b ∈ ex, b ∈ ex') : Un fs' ex' H H1 h h1 :=
 ⟨fun b ob q n hb he => u.keep b ob q n (fun z => hb (hs b z)) fun z => he (hx b z), fun _ _ q n _ he => u.any q n fun z => he (hx _ z), fun b ob q n he => u.free b ob q n fun z => he (hx b z), fun b ob q he => u.there b ob q fun z => he (hx b z), u.tups, u.sr, u.tQ⟩
end
def trk (h : Heap) (H : Hp) : List Addr := (List.range h.objs.size).filter fun a => (H a).isSome
def Oh (h : Heap) (H : Hp) : Heap := PySem.W.hideAll h (trk h H)
theorem Wk (h : Heap) (H : Hp) : (Oh h H).objs.size = h.objs.size := PySem.W.hideAll_size _ _
theorem XQ {h : Heap} {H : Hp} {b : Addr} {o : Obj} (e : h.get? b = some o) (n : H b = none) : (Oh h H).get? b = some o :=
 PySem.W.hideAll_get _ e fun hm => by
   have q : (H b).isSome = true := (List.mem_filter.mp hm).2
   rw [n] at q; simp at q
theorem aaP {h : Heap} {H : Hp} {b : Addr} {o : Obj} (e : (Oh h H).get? b = some o) : h.get? b = some o ∧ H b = none := by
 have e' : h.get? b = some o := PySem.W.of_hideAll (trk h H) e
 refine ⟨e', ?_⟩
 cases q : H b with
 | none => rfl
 | some x =>
   have hm : b ∈ trk h H := List.mem_filter.mpr ⟨List.mem_range.mpr (Heap.lt_size e'), by simp [q]⟩
   have z : (Oh h H).get? b = none := PySem.W.hideAll_none (trk h H) hm
   rw [z] at e; cases e
def aaQ (g h : Heap) (L : Addr) : List (Addr × Obj) := (List.range h.objs.size).filterMap fun a => if a = L ∨ (g.get? a).isSome = true then none else (h.get? a).map fun o => (a, o)
def rest (g h : Heap) (L d : Addr) : List (Addr × Obj) := (aaQ g h L).filter fun p => decide (p.1 ≠ d)
end L2
namespace L2
open PySem PySem.Spec PyProof.Rows
structure Mod (K : PySem.W.Frag) (mg : Str → Option Value) (base : Heap) : Prop where
 kin : K.In base
 glob : base.Ns mainGlobals mg
 blt : ∃ mb, base.Ns builtinsNs mb ∧ ∀ x : Str, x ≠ "__name__" → mb x = bootBuiltins x
 nolimit : base.NoLimit
structure Cx where
 prog : Program
 w : World
 K : PySem.W.Frag
 mg : Str → Option Value
 base : Heap
 A : Around
 N : List Str
 s₀ : Shared
 H₀ : Hp
 env : Env
 outer : List Env
 stack : List Env
 ex : List Addr
 fn : Str → Bool
 calm : Bool
 pn : List (Addr × Obj)
 xe : Value → Shared → Prop
def frs (l : List Env) : List Addr := l.filterMap (·.frame)
abbrev Cx.fs (X : Cx) : List Addr := frs X.outer
def Vis (sc : Scope) (x : Str) : Prop := sc.names.lookup x = some .local ∨ sc.names.lookup x = some .cell ∨ sc.names.lookup x = some .free
def Loc (sc : Scope) (x : Str) : Prop := sc.names.lookup x = some .local ∨ sc.names.lookup x = some .cell
def Look (env : Env) (h : Heap) (m : Str → Option Value) (x : Str) (u : Value) : Prop :=
 (env.kindOf x = some .local ∧ m x = some u) ∨ ((env.kindOf x = some .cell ∨ env.kindOf x = some .free) ∧ ∃ c, env.cells.lookup x = some c ∧ h.IsCell c (some u))
structure Cx.Ok (X : Cx) : Prop where
 mod : Mod X.K X.mg X.base
 kind : X.env.scope.kind = .function
 glob : X.env.globals = mainGlobals
 blt : X.env.builtins = builtinsNs
 above : X.s₀.heap.objs.size ≤ X.env.locals
 inj : ∀ x y c, X.env.cells.lookup x = some c → X.env.cells.lookup y = some c → x = y
 has : ∀ x, (X.env.kindOf x = some .cell ∨ X.env.kindOf x = some .free) → ∃ c, X.env.cells.lookup x = some c
 cab : ∀ x c, X.fn x = true → X.env.cells.lookup x = some c → X.s₀.heap.objs.size ≤ c
 hd : X.calm = true → X.A.handled = none
 frames : X.A.frames = some X.stack
 stk : X.stack = X.outer ∨ (X.stack = X.env :: X.outer ∧ X.env.frame = some X.env.locals)
 exf : ∀ b ∈ X.ex, b ≠ X.env.locals ∧ ∀ x c, X.env.cells.lookup x = some c → c ≠ b
 bs : ∀ b o, X.base.get? b = some o → X.s₀.heap.get? b = some o ∧ X.H₀ b = none
 XR : X.base.objs.size ≤ X.s₀.heap.objs.size
 Wl : ∀ b o, X.base.get? b = some o → b ∉ X.ex
 XS : ∀ b ∈ X.ex, b ∉ X.fs
 zz : X.s₀.heap.FunFrames X.base X.outer
 frf : ∀ b ∈ X.fs, X.H₀ b = none
structure Inv (X : Cx) (pins : List (Addr × Obj)) (σ : List (Option V)) (H : Hp) (s : Shared) : Prop where
 ok : X.Ok
 os : s.os = X.s₀.os
 bare : AllBare s.gens
 base : Un X.fs X.ex X.H₀ H X.s₀.heap s.heap
 loc : ∃ m, s.heap.Ns X.env.locals m ∧ ∀ (i : Nat) (x : Str) (v : V), X.N[i]? = some x → σ[i]? = some (some v) → Vis X.env.scope x → ∃ u, RelV v u ∧ Look X.env s.heap m x u
 cell : ∀ x c, X.env.cells.lookup x = some c → ∃ v, s.heap.IsCell c v
 free : H X.env.locals = none
 mW : ∀ x c, X.env.cells.lookup x = some c → H c = none
 pin : ∀ p ∈ X.pn ++ pins, s.heap.get? p.1 = some p.2 ∧ H p.1 = none ∧ p.1 ≠ X.env.locals ∧ p.1 ∉ X.fs ∧ ∀ v, p.2.data ≠ .cell v
 hok : Ge X.prog X.w H s.heap
 len : σ.length = X.N.length
section
variable {X : Cx} {pins : List (Addr × Obj)} {σ : List (Option V)} {H H' : Hp} {s : Shared} {h' : Heap}
theorem Cx.Ok.atY (ok : X.Ok) {b : Addr} {o : Obj} (e : X.base.get? b = some o) : b ∉ X.fs := fun hb => by
 have := (ok.zz.mem hb).1
 rw [e] at this; cases this
theorem Inv.bs (I : Inv X pins σ H s) : ∀ b o, X.base.get? b = some o → s.heap.get? b = some o ∧ H b = none := fun b o e =>
 ⟨I.base.keep b o (I.ok.bs b o e).1 (I.ok.bs b o e).2 (I.ok.atY e) (I.ok.Wl b o e), I.base.free b o (I.ok.bs b o e).1 (I.ok.bs b o e).2 (I.ok.Wl b o e)⟩
theorem Inv.bk (I : Inv X pins σ H s) : ∀ b o, X.base.get? b = some o → s.heap.get? b = some o := fun b o e => (I.bs b o e).1
theorem Inv.mod (I : Inv X pins σ H s) : Mod X.K X.mg X.base := I.ok.mod
theorem Inv.Ht (I : Inv X pins σ H s) : X.K.In s.heap := I.ok.mod.kin.keeps I.bk
theorem Inv.nolimit (I : Inv X pins σ H s) : s.heap.NoLimit := I.ok.mod.nolimit.keeps I.bk
theorem Inv.fr (I : Inv X pins σ H s) : ∃ m, Fr X.base X.env.locals s.heap m :=
 let ⟨m, hn, _⟩ := I.loc
 ⟨m, hn, I.bk, Nat.le_trans I.ok.XR I.ok.above⟩
theorem Inv.lt (I : Inv X pins σ H s) : X.env.locals < s.heap.objs.size := let ⟨_, hn, _⟩ := I.loc; hn.lt
theorem Inv.sz (I : Inv X pins σ H s) : X.s₀.heap.objs.size ≤ s.heap.objs.size := Nat.le_trans I.ok.above (Nat.le_of_lt I.lt)
theorem Inv.aaS (I : Inv X pins σ H s) {a : Addr} (h : s.heap.objs.size ≤ a) : a ∉ X.fs := fun hb => by
 obtain ⟨_, o, ho, _⟩ := I.ok.zz.mem hb
 exact absurd (Nat.lt_of_lt_of_le (Heap.lt_size ho) (Nat.le_trans I.sz h)) (Nat.lt_irrefl _)
theorem Inv.cne (I : Inv X pins σ H s) : ∀ x c, X.env.cells.lookup x = some c → c ≠ X.env.locals := fun x c e z => by
 obtain ⟨v, o, ho, hd⟩ := I.cell x c e
 obtain ⟨m, ⟨o', es, ep, ho', hd', _⟩, _⟩ := I.loc
 rw [z, ho'] at ho; cases ho; rw [hd'] at hd; cases hd
theorem Inv.zz (I : Inv X pins σ H s) : s.heap.FunFrames X.base X.outer := by
 have all : ∀ (l : List Env), (∀ b ∈ frs l, b ∈ X.fs) → X.s₀.heap.FunFrames X.base l → s.heap.FunFrames X.base l := by
   intro l
   induction l with
   | nil => intro _ _; trivial
   | cons env r ih =>
     intro hs hl
     obtain ⟨hk, ⟨L, o, hf, hn, ho, hd⟩, hr⟩ := hl
     have hL : L ∈ X.fs := hs L (by unfold frs; rw [List.filterMap_cons, hf]; exact List.mem_cons_self)
     obtain ⟨sl, e⟩ := I.base.slot L o ho (I.ok.frf L hL) hL fun z => I.ok.XS L z hL
     exact ⟨hk, ⟨L, _, hf, hn, e, hd⟩, ih (fun b hb => hs b (by unfold frs; rw [List.filterMap_cons, hf]; exact List.mem_cons_of_mem _ hb)) hr⟩
 exact all X.outer (fun _ hb => hb) I.ok.zz
theorem Inv.stack (I : Inv X pins σ H s) : s.heap.FunFrames X.base X.stack := by
 rcases I.ok.stk with e | ⟨e, hf⟩
 · rw [e]; exact I.zz
 · rw [e]
   obtain ⟨m, hn, _⟩ := I.loc
   refine .cons (by rw [I.ok.kind]; decide) hf hn ?_ I.zz
   exact Heap.get?_none_of_le (Nat.le_trans I.ok.XR I.ok.above)
theorem Inv.uU (I : Inv X pins σ H s) : ∀ b ∈ frs X.stack, b ∈ X.env.locals :: X.fs := fun b hb => by
 rcases I.ok.stk with e | ⟨e, hf⟩
 · rw [e] at hb; exact List.mem_cons_of_mem _ hb
 · rw [e] at hb
   unfold frs at hb
   rw [List.filterMap_cons, hf] at hb
   exact hb
theorem Inv.Oi (I : Inv X pins σ H s) : ∀ b ∈ frs X.stack, H b = none := fun b hb => by
 rcases List.mem_cons.mp (I.uU b hb) with e | hb
 · rw [e]; exact I.free
 · obtain ⟨_, o, ho, _⟩ := I.ok.zz.mem hb
   exact I.base.free b o ho (I.ok.frf b hb) fun z => I.ok.XS b z hb
theorem Inv.step {g' : Array GenState} {t' : Nat} {d' : Drawn} {ch : List Addr} (I : Inv X pins σ H s)
   (hch : ∀ b ∈ ch, (b ∈ X.ex ∨ X.s₀.heap.objs.size ≤ b) ∧ b ≠ X.env.locals ∧ (∀ x c, X.env.cells.lookup x = some c → c ≠ b) ∧ ∀ p ∈ X.pn ++ pins, p.1 ≠ b)
   (keep : ∀ b o, b ≠ X.env.locals → b ∉ X.fs → b ∉ ch → s.heap.get? b = some o → H b = none → h'.get? b = some o)
   (slot : ∀ b o, b ≠ X.env.locals → b ∈ X.fs → b ∉ ch → s.heap.get? b = some o → H b = none → ∃ sl, h'.get? b = some { o with slots := sl }) (free : ∀ b o, b ∉ ch → s.heap.get? b = some o → H b = none → H' b = none)
   (there : ∀ b o, b ∉ ch → s.heap.get? b = some o → ∃ o', h'.get? b = some o')
   (tups : ∀ b xs, H b = some (.tup xs) → H' b = some (.tup xs)) (sr : ∀ b o u, H b = some (.Qy o u) → H' b = some (.Qy o u)) (tQ : ∀ b ps, H b = some (.tbl ps) → ∃ more, H' b = some (.tbl (ps ++ more)))
   (ns : ∀ m, s.heap.Ns X.env.locals m → h'.Ns X.env.locals m) (hok : Ge X.prog X.w H' h') (hg : AllBare g') :
   Inv X pins σ H' { s with heap := h', gens := g', drawn := d', toks := t' } := by
 have neL : ∀ b o, X.s₀.heap.get? b = some o → b ≠ X.env.locals := fun b o e => Nat.ne_of_lt (Nat.lt_of_lt_of_le (Heap.lt_size e) I.ok.above)
 have neC : ∀ b o, X.s₀.heap.get? b = some o → b ∉ X.ex → b ∉ ch := fun b o e hx hb => by
   rcases (hch b hb).1 with z | z
   · exact hx z
   · exact absurd (Nat.lt_of_lt_of_le (Heap.lt_size e) z) (Nat.lt_irrefl _)
 have cellK : ∀ x c, X.env.cells.lookup x = some c → ∀ v, s.heap.IsCell c v → h'.IsCell c v := fun x c e v ⟨o, ho, hd⟩ => by
   have nch : c ∉ ch := fun z => (hch c z).2.2.1 x c e rfl
   by_cases hc : c ∈ X.fs
   · obtain ⟨sl, q⟩ := slot c o (I.cne x c e) hc nch ho (I.mW x c e)
     exact ⟨_, q, hd⟩
   · exact ⟨o, keep c o (I.cne x c e) hc nch ho (I.mW x c e), hd⟩
 refine ⟨I.ok, I.os, hg, ⟨fun b o e n hb hx => ?_, fun b o e n hb hx => ?_, fun b o e n hx => ?_, fun b o e hx => ?_, fun b xs e => tups b xs (I.base.tups b xs e), fun b o xs e => sr b o xs (I.base.sr b o xs e), fun b ps e => ?_⟩, ?_, fun x c e => ?_, ?_, fun x c e => ?_, fun p hp => ?_, hok, I.len⟩
 · exact keep b o (neL b o e) hb (neC b o e hx) (I.base.keep b o e n hb hx) (I.base.free b o e n hx)
 · obtain ⟨sl, e1⟩ := I.base.slot b o e n hb hx
   obtain ⟨sl', e2⟩ := slot b _ (neL b o e) hb (neC b o e hx) e1 (I.base.free b o e n hx)
   exact ⟨sl', e2⟩
 · obtain ⟨o', e1⟩ := I.base.there b o e hx
   exact free b o' (neC b o e hx) e1 (I.base.free b o e n hx)
 · obtain ⟨o', e1⟩ := I.base.there b o e hx
   exact there b o' (neC b o e hx) e1
 · obtain ⟨m1, e1⟩ := I.base.tQ b ps e
   obtain ⟨m2, e2⟩ := tQ b _ e1
   exact ⟨m1 ++ m2, by rw [e2, Array.append_assoc]⟩
 · obtain ⟨m, hn, hl⟩ := I.loc
   refine ⟨m, ns m hn, fun i x v e1 e2 e3 => ?_⟩
   obtain ⟨u, r, l⟩ := hl i x v e1 e2 e3
   refine ⟨u, r, ?_⟩
   rcases l with l | ⟨k, c, e, z⟩
   · exact .inl l
   · exact .inr ⟨k, c, e, cellK x c e _ z⟩
 · obtain ⟨v, z⟩ := I.cell x c e
   exact ⟨v, cellK x c e v z⟩
 · obtain ⟨m, ⟨o, _, _, ho, _⟩, _⟩ := I.loc
   exact free _ o (fun z => (hch _ z).2.1 rfl) ho I.free
 · obtain ⟨v, o, ho, hd⟩ := I.cell x c e
   exact free c o (fun z => (hch c z).2.2.1 x c e rfl) ho (I.mW x c e)
 · obtain ⟨e, n, ne, nf, d⟩ := I.pin p hp
   have nch : p.1 ∉ ch := fun z => (hch p.1 z).2.2.2 p hp rfl
   exact ⟨keep p.1 p.2 ne nf nch e n, free p.1 p.2 nch e n, ne, nf, d⟩
theorem Inv.un {t' : Nat} (I : Inv X pins σ H s) (u : Un X.fs [] H H' s.heap h') (hok : Ge X.prog X.w H' h') : Inv X pins σ H' { s with heap := h', toks := t' } := by
 obtain ⟨m, ⟨o, es, ep, ho, r⟩, _⟩ := id I.loc
 obtain ⟨sl, hL⟩ := u.any ho I.free (by simp)
 exact I.step (g' := s.gens) (d' := s.drawn) (ch := []) (fun _ z => nomatch z) (fun b o _ hb _ e n => u.keep b o e n hb (by simp)) (fun b o _ hb _ e n => u.slot b o e n hb (by simp)) (fun b o _ e n => u.free b o e n (by simp)) (fun b o _ e => u.there b o e (by simp)) u.tups u.sr u.tQ (fun m' hm => by
   obtain ⟨o', es', ep', ho', r'⟩ := hm
   rw [ho] at ho'; cases ho'
   exact ⟨_, es', ep', hL, r'⟩) hok I.bare
theorem Inv.call {g' : Array GenState} {t' : Nat} {d' : Drawn} {ch : List Addr} (I : Inv X pins σ H s) (u : Un (frs X.stack) ch H H' s.heap h') (hok : Ge X.prog X.w H' h') (hg : AllBare g')
   (hch : ∀ b ∈ ch, (b ∈ X.ex ∨ X.s₀.heap.objs.size ≤ b) ∧ b ≠ X.env.locals ∧ (∀ x c, X.env.cells.lookup x = some c → c ≠ b) ∧ ∀ p ∈ X.pn ++ pins, p.1 ≠ b) :
   Inv X pins σ H' { s with heap := h', gens := g', drawn := d', toks := t' } := by
 obtain ⟨m, ⟨o, es, ep, ho, r⟩, _⟩ := id I.loc
 obtain ⟨sl, hL⟩ := u.any ho I.free fun z => (hch _ z).2.1 rfl
 exact I.step (ch := ch) hch (fun b o hL hb hc e n => u.keep b o e n (fun z => (List.mem_cons.mp (I.uU b z)).elim hL hb) hc) (fun b o _ _ hc e n => u.any e n hc) (fun b o hc e n => u.free b o e n hc) (fun b o hc e => u.there b o e hc) u.tups u.sr u.tQ (fun m' hm => by
   obtain ⟨o', es', ep', ho', r'⟩ := hm
   rw [ho] at ho'; cases ho'
   exact ⟨_, es', ep', hL, r'⟩) hok hg
theorem Inv.turned {t' : Nat} {it : Addr} (I : Inv X pins σ H s) (k : ∀ b o, b ≠ it → s.heap.get? b = some o → h'.get? b = some o) (hn : H it = none) (hL : it ≠ X.env.locals)
   (h1 : it ∈ X.ex ∨ X.s₀.heap.objs.size ≤ it) (h2 : ∀ x c, X.env.cells.lookup x = some c → c ≠ it) (h3 : ∀ p ∈ X.pn ++ pins, p.1 ≠ it) : Inv X pins σ H { s with heap := h', toks := t' } := by
 have nit : ∀ b u, H b = some u → b ≠ it := fun b u e z => by rw [z, hn] at e; cases e
 refine I.step (g' := s.gens) (d' := s.drawn) (ch := [it]) (fun b hb => ?_) (fun b o _ _ hc e _ => k b o (fun z => hc (by simp [z])) e) (fun b o _ _ hc e _ => ⟨o.slots, k b o (fun z => hc (by simp [z])) e⟩) (fun _ _ _ _ n => n)
   (fun b o hc e => ⟨o, k b o (fun z => hc (by simp [z])) e⟩) (fun _ _ e => e) (fun _ _ _ e => e) (fun b ps e => ⟨#[], by rw [e]; simp⟩) (fun m hm => ?_) (fun b u e => ?_) I.bare
 · have e : b = it := by simpa using hb
   subst e
   exact ⟨h1, hL, h2, h3⟩
 · obtain ⟨o, es, ep, ho, r⟩ := hm
   exact ⟨o, es, ep, k _ o (Ne.symm hL) ho, r⟩
 · refine (I.hok b u e).stay (fun c v hc q => k c v ?_ q) (fun _ q => q) fun _ _ q => q
   rcases hc with z | z
   · rw [z]; exact nit b u e
   · exact nit c _ z
theorem Inv.tok (I : Inv X pins σ H s) (t : Nat) : Inv X pins σ H { s with toks := t } := I.un (h' := s.heap) (t' := t) Un.refl I.hok
theorem Inv.kept {t' : Nat} (I : Inv X pins σ H s) (k : ∀ b u, s.heap.get? b = some u → h'.get? b = some u) : Inv X pins σ H { s with heap := h', toks := t' } := I.un (Un.kept k) (I.hok.kept k)
theorem Inv.laid {a : Addr} {o : HO} {t' : Nat} (I : Inv X pins σ H s) (k : ∀ b u, s.heap.get? b = some u → h'.get? b = some u) (hp : s.heap.objs.size ≤ a) (new : iy X.prog X.w (upd H a o) h' a o) :
   Inv X pins σ (upd H a o) { s with heap := h', toks := t' } := I.un (Un.laid k hp (I.hok.fresh hp)) (I.hok.laid k hp new)
theorem Inv.write {x e : Addr} {o : HO} {t' : Nat} (I : Inv X pins σ H s) (mu : Mut (H x)) (he : e = x ∨ H e = some (.own x)) (k : ∀ b u, b ≠ e → s.heap.get? b = some u → h'.get? b = some u) (heo : ∃ u, h'.get? e = some u)
   (new : iy X.prog X.w (upd H x o) h' x o) : Inv X pins σ (upd H x o) { s with heap := h', toks := t' } := I.un (Un.write mu he k heo) (I.hok.write mu he k heo new)
theorem Inv.weak {σ' : List (Option V)} (I : Inv X pins σ H s) (hl : σ'.length = σ.length) (w : ∀ (i : Nat) v, σ'[i]? = some (some v) → σ[i]? = some (some v)) : Inv X pins σ' H s :=
 ⟨I.ok, I.os, I.bare, I.base, let ⟨m, hn, hl'⟩ := I.loc; ⟨m, hn, fun i x v e1 e2 e3 => hl' i x v e1 (w i v e2) e3⟩, I.cell, I.free, I.mW, I.pin, I.hok, hl.trans I.len⟩
theorem Inv.jr {Ng : List (Addr × Obj)} (I : Inv X pins σ H s) (h : ∀ p ∈ Ng, s.heap.get? p.1 = some p.2 ∧ H p.1 = none ∧ p.1 ≠ X.env.locals ∧ p.1 ∉ X.fs ∧ ∀ v, p.2.data ≠ .cell v) : Inv X Ng σ H s :=
 ⟨I.ok, I.os, I.bare, I.base, I.loc, I.cell, I.free, I.mW, fun p hp => (List.mem_append.mp hp).elim (fun z => I.pin p (List.mem_append_left _ z)) (h p), I.hok, I.len⟩
theorem QF {N : List Str} (hN : N.Nodup) {i j : Nat} {x : Str} (a : N[i]? = some x) (b : N[j]? = some x) : i = j := by
 obtain ⟨h1, e1⟩ := List.getElem?_eq_some_iff.mp a
 obtain ⟨h2, e2⟩ := List.getElem?_eq_some_iff.mp b
 exact (List.getElem_inj hN).mp (e1.trans e2.symm)
theorem wC {M : Model} {A : Around} {E : Value → Shared → Prop} {i : Nat} {x : Str} {v : V} {u : Value} {Q : Unit → Shared → Prop} (I : Inv X pins σ H s) (hN : X.N.Nodup) (hi : X.N[i]? = some x) (hx : Loc X.env.scope x) (r : RelV v u)
   (h : ∀ s', Inv X pins (σ.set i (some v)) H s' → (∃ a, Heap.SameBut a s.heap s'.heap ∧ (a = X.env.locals ∨ X.env.cells.lookup x = some a)) → Q () s') (hf : X.fn x = true ∨ X.env.scope.names.lookup x = some .local := by first | exact .inl rfl | exact .inr rfl | assumption) : wpAny M A (storeName X.env x u) Q E s := by
 obtain ⟨m, hn, hl⟩ := id I.loc
 have hcls : (X.env.scope.kind == .class || (X.env.scope.kind == .module && X.env.locals != X.env.globals)) = false := by rw [I.ok.kind]; rfl
 have agd : i < σ.length := by rw [I.len]; exact (List.getElem?_eq_some_iff.mp hi).1
 have cne := I.cne
 have tracked : ∀ {a : Addr} {h' : Heap}, (∃ o, s.heap.get? a = some o ∧ H a = none) → Heap.SameBut a s.heap h' → Ge X.prog X.w H h' := fun {a h'} ha hs b ob e => by
   obtain ⟨_, _, hfree⟩ := ha
   refine (I.hok b ob e).stay (fun c w' hc q => (hs.2 c ?_).trans q) (fun _ q => q) fun _ _ q => q
   rintro rfl
   rcases hc with rfl | hc
   · rw [hfree] at e; cases e
   · rw [hfree] at hc; cases hc
 rcases hx with hk | hk
 · refine wpAny_storeName_local hk hn (fun h' hn' hs => ?_) hcls
   obtain ⟨oL, _, _, hoL, _⟩ := id hn
   refine h _ ⟨I.ok, I.os, I.bare, ⟨fun b o e n hb hx => ?_, fun b o e n hb hx => ?_, I.base.free, fun b o e hx => ?_, I.base.tups, I.base.sr, I.base.tQ⟩, ⟨_, hn', fun j y v' e1 e2 e3 => ?_⟩, fun y c e => ?_, I.free, I.mW, fun p hp => ?_, tracked ⟨oL, hoL, I.free⟩ hs, by simpa using I.len⟩ ⟨_, hs, .inl rfl⟩
   · exact (hs.2 b (Nat.ne_of_lt (Nat.lt_of_lt_of_le (Heap.lt_size e) I.ok.above))).trans (I.base.keep b o e n hb hx)
   · obtain ⟨sl, e1⟩ := I.base.slot b o e n hb hx
     exact ⟨sl, (hs.2 b (Nat.ne_of_lt (Nat.lt_of_lt_of_le (Heap.lt_size e) I.ok.above))).trans e1⟩
   · obtain ⟨o', e1⟩ := I.base.there b o e hx
     exact ⟨o', (hs.2 b (Nat.ne_of_lt (Nat.lt_of_lt_of_le (Heap.lt_size e) I.ok.above))).trans e1⟩
   · by_cases hj : j = i
     · subst hj
       rw [hi] at e1; cases e1
       rw [List.getElem?_set_self agd] at e2
       cases e2
       exact ⟨u, r, .inl ⟨hk, by simp⟩⟩
     · rw [List.getElem?_set_ne (Ne.symm hj)] at e2
       obtain ⟨u', r', q⟩ := hl j y v' e1 e2 e3
       refine ⟨u', r', ?_⟩
       rcases q with ⟨k, e⟩ | ⟨k, c, e, z⟩
       · refine .inl ⟨k, ?_⟩
         have : y ≠ x := fun e => hj (QF hN e1 (e ▸ hi))
         simp [this, e]
       · exact .inr ⟨k, c, e, z.sameBut hs (cne y c e)⟩
   · obtain ⟨w', z⟩ := I.cell y c e
     exact ⟨w', z.sameBut hs (cne y c e)⟩
   · obtain ⟨e, n, ne, nf, d⟩ := I.pin p hp
     exact ⟨(hs.2 p.1 ne).trans e, n, ne, nf, d⟩
 · have hfn : X.fn x = true := by
     rcases hf with z | z
     · exact z
     · rw [z] at hk; cases hk
   obtain ⟨c, hc⟩ := I.ok.has x (.inl hk)
   obtain ⟨w', z⟩ := I.cell x c hc
   refine wpAny_storeName_cell I.ok.kind hk hc z (fun h' hc' hs => ?_)
   obtain ⟨oc, hoc, atZ⟩ := id z
   refine h { s with heap := h' } ⟨I.ok, I.os, I.bare, ⟨fun b o e n hb hx => ?_, fun b o e n hb hx => ?_, I.base.free, fun b o e hx => ?_, I.base.tups, I.base.sr, I.base.tQ⟩, ⟨m, hn.sameBut hs (Ne.symm (cne x c hc)), fun j y v' e1 e2 e3 => ?_⟩, fun y c' e => ?_, I.free, I.mW, fun p hp => ?_, tracked ⟨oc, hoc, I.mW x c hc⟩ hs, by simpa using I.len⟩ ⟨c, hs, .inr hc⟩
   · exact (hs.2 b (Nat.ne_of_lt (Nat.lt_of_lt_of_le (Heap.lt_size e) (I.ok.cab x c hfn hc)))).trans (I.base.keep b o e n hb hx)
   · obtain ⟨sl, e1⟩ := I.base.slot b o e n hb hx
     exact ⟨sl, (hs.2 b (Nat.ne_of_lt (Nat.lt_of_lt_of_le (Heap.lt_size e) (I.ok.cab x c hfn hc)))).trans e1⟩
   · obtain ⟨o', e1⟩ := I.base.there b o e hx
     exact ⟨o', (hs.2 b (Nat.ne_of_lt (Nat.lt_of_lt_of_le (Heap.lt_size e) (I.ok.cab x c hfn hc)))).trans e1⟩
   · by_cases hj : j = i
     · subst hj
       rw [hi] at e1; cases e1
       rw [List.getElem?_set_self agd] at e2
       cases e2
       exact ⟨u, r, .inr ⟨.inl hk, c, hc, hc'⟩⟩
     · rw [List.getElem?_set_ne (Ne.symm hj)] at e2
       obtain ⟨u', r', q⟩ := hl j y v' e1 e2 e3
       refine ⟨u', r', ?_⟩
       rcases q with q | ⟨k, c', e, z'⟩
       · exact .inl q
       · refine .inr ⟨k, c', e, z'.sameBut hs ?_⟩
         rintro rfl
         exact hj (QF hN e1 (I.ok.inj _ _ _ e hc ▸ hi))
   · by_cases hcc : c' = c
     · subst hcc; exact ⟨_, hc'⟩
     · obtain ⟨w2, z2⟩ := I.cell y c' e
       exact ⟨w2, z2.sameBut hs hcc⟩
   · obtain ⟨e, n, ne, nf, d⟩ := I.pin p hp
     refine ⟨(hs.2 p.1 ?_).trans e, n, ne, nf, d⟩
     intro q
     rw [q, hoc] at e
     have q' : oc = p.2 := Option.some.inj e
     exact d w' (by rw [← q']; exact atZ)
theorem uV {M : Model} {A : Around} {E : Value → Shared → Prop} {i : Nat} {x : Str} {v : V} {u : Value} {Q : Unit → Shared → Prop} (I : Inv X pins σ H s) (hN : X.N.Nodup) (hi : X.N[i]? = some x) (hx : Loc X.env.scope x) (r : RelV v u)
   (h : ∀ s', Inv X pins (σ.set i (some v)) H s' → Q () s') (hf : X.fn x = true ∨ X.env.scope.names.lookup x = some .local := by first | exact .inl rfl | exact .inr rfl | assumption) : wpAny M A (storeName X.env x u) Q E s :=
 wC I hN hi hx r (fun s' I' _ => h s' I') hf
theorem Inv.call' {s' : Shared} {ch : List Addr} (I : Inv X pins σ H s) (ho : s'.os = s.os) (u : Un (frs X.stack) ch H H' s.heap s'.heap) (hok : Ge X.prog X.w H' s'.heap) (hg : AllBare s'.gens)
   (hch : ∀ b ∈ ch, (b ∈ X.ex ∨ X.s₀.heap.objs.size ≤ b) ∧ b ≠ X.env.locals ∧ (∀ x c, X.env.cells.lookup x = some c → c ≠ b) ∧ ∀ p ∈ X.pn ++ pins, p.1 ≠ b) : Inv X pins σ H' s' := by
 obtain ⟨h', g', d', t', o'⟩ := s'
 have e : o' = s.os := ho
 subst e
 exact I.call (g' := g') (t' := t') (d' := d') u hok hg hch
end
abbrev XK := Value → Option Addr → Hp → Prop
abbrev St := List (Option V)
abbrev VK := V → Hp → Prop
abbrev TE := St → Hp → VK → Prop
abbrev TT := St → Hp → (Bool → Hp → Prop) → Prop
abbrev TA := St → Hp → (List V → Hp → Prop) → Prop
structure Ends where
 nx : St → Hp → Prop
 rt : VK
 bk : St → Hp → Prop := fun _ _ => False
 ct : St → Hp → Prop := fun _ _ => False
abbrev TS := Ends → St → Hp → Prop
def EP (X : Cx) (pins : List (Addr × Obj)) (σ : St) (Q : VK) (u : Value) (s' : Shared) : Prop := ∃ v H', Inv X pins σ H' s' ∧ RelV v u ∧ Q v H'
def TP (X : Cx) (pins : List (Addr × Obj)) (σ : St) (Q : Bool → Hp → Prop) (b : Bool) (s' : Shared) : Prop := ∃ H', Inv X pins σ H' s' ∧ Q b H'
def AP (X : Cx) (pins : List (Addr × Obj)) (σ : St) (Q : List V → Hp → Prop) (us : List Value) (s' : Shared) : Prop := ∃ vs H', Inv X pins σ H' s' ∧ Vals vs us ∧ Q vs H'
def SP (X : Cx) (pins : List (Addr × Obj)) (D : Ends) (f : Flow) (s' : Shared) : Prop :=
 match f with
 | .next => ∃ σ' H', Inv X pins σ' H' s' ∧ D.nx σ' H'
 | .brk => ∃ σ' H', Inv X pins σ' H' s' ∧ D.bk σ' H'
 | .cont => ∃ σ' H', Inv X pins σ' H' s' ∧ D.ct σ' H'
 | .ret u => ∃ v σ' H', Inv X pins σ' H' s' ∧ RelV v u ∧ D.rt v H'
def PE (X : Cx) (e : Expr) (t : TE) : Prop :=
 ∀ (pins : List (Addr × Obj)) (s : Shared) (σ : St) (H : Hp) (Q : VK), Inv X pins σ H s → t σ H Q → wpAny (model X.prog X.w) X.A (eval e X.env) (EP X pins σ Q) X.xe s
def PT (X : Cx) (e : Expr) (t : TT) : Prop :=
 ∀ (pins : List (Addr × Obj)) (s : Shared) (σ : St) (H : Hp) (Q : Bool → Hp → Prop), Inv X pins σ H s → t σ H Q → wpAny (model X.prog X.w) X.A (isTrue e X.env (eval e X.env)) (TP X pins σ Q) X.xe s
def PW (X : Cx) (e : Expr) (t : TT) : Prop :=
 ∀ (whole : Sem Value) (pins : List (Addr × Obj)) (s : Shared) (σ : St) (H : Hp) (Q : Bool → Hp → Prop), Inv X pins σ H s → t σ H Q → wpAny (model X.prog X.w) X.A (isTrue e X.env whole) (TP X pins σ Q) X.xe s
theorem PW.pt {X : Cx} {e : Expr} {t : TT} (h : PW X e t) : PT X e t := h _
def PA (X : Cx) (es : List Expr) (t : TA) : Prop :=
 ∀ (pos : Pos) (pins : List (Addr × Obj)) (s : Shared) (σ : St) (H : Hp) (Q : List V → Hp → Prop), Inv X pins σ H s → t σ H Q → wpAny (model X.prog X.w) X.A (spliced (backTo pos (starEach es X.env))) (AP X pins σ Q) X.xe s
def PS (X : Cx) (st : Stmt) (t : TS) : Prop :=
 ∀ (pins : List (Addr × Obj)) (s : Shared) (σ : St) (H : Hp) (D : Ends), Inv X pins σ H s → t D σ H → wpAny (model X.prog X.w) X.A (exec st X.env) (SP X pins D) X.xe s
def j0 (X : Cx) (st : List Stmt) (t : TS) : Prop :=
 ∀ (pins : List (Addr × Obj)) (s : Shared) (σ : St) (H : Hp) (D : Ends), Inv X pins σ H s → t D σ H → wpAny (model X.prog X.w) X.A (execs st X.env) (SP X pins D) X.xe s
theorem eG {α : Type} {t : Sem α} {Q Q' : α → Shared → Prop} {M : Model} {A : Around} {E : Value → Shared → Prop} {s : Shared} (h : wpAny M A t Q E s) (hQ : ∀ a s, Q a s → Q' a s) : wpAny M A t Q' E s := wpAny_mono h hQ fun _ _ x => x
end L2
namespace L2
open PySem PySem.Spec PyProof.Rows
section
variable {X : Cx}
def XX (i : Nat) : TE := fun σ H Q => ∃ v, σ[i]? = some (some v) ∧ Q v H
def tC (v : V) : TE := fun _ H Q => Q v H
theorem ac0 {i : Nat} {x : Str} {pos : Pos} (hN : X.N[i]? = some x) (hv : Vis X.env.scope x) (hd : (x == ("__debug__" : Str)) = false := by decide) (hcd : (x == ("__classdict__" : Str)) = false := by decide) : PE X (.Name x pos) (XX i) := by
 intro pins s σ H Q I h
 obtain ⟨v, e, h⟩ := h
 obtain ⟨m, hn, hl⟩ := I.loc
 obtain ⟨u, r, l⟩ := hl i x v hN e hv
 have fin : EP X pins σ Q u s := ⟨v, H, I, r, h⟩
 rcases l with ⟨hk, hm⟩ | ⟨hk, c, hc, hcell⟩
 · exact wpAny_Name (wpAny_loadName_local I.ok.kind hk hn hm fin) hd
 · rcases hk with hk | hk
   · exact wpAny_Name (wpAny_loadName_cell I.ok.kind hk hc hcell fin) hd
   · exact wpAny_Name (wpAny_loadName_free I.ok.kind hk hc hcell fin hcd) hd
theorem zF {i j pos} : PE X (.Constant (.int i) j pos) (tC (.int i)) := fun _ _ _ H _ I h => wpAny_Constant_int ⟨.int i, H, I.tok _, ⟨_, rfl⟩, h⟩
theorem HN {b j pos} : PE X (.Constant (.bool b) j pos) (tC (.bl b)) := fun _ _ _ H _ I h => Constant_bool ⟨.bl b, H, I, rfl, h⟩
theorem yT {j pos} : PE X (.Constant .none j pos) (tC .non) := fun _ _ _ H _ I h => Constant_none ⟨.non, H, I, rfl, h⟩
theorem zH {x j pos} : PE X (.Constant (.str x) j pos) (tC (.str x)) := fun _ _ _ H _ I h => Calls.Constant_str ⟨.str x, H, I.tok _, ⟨_, rfl⟩, h⟩
def Gl (X : Cx) (x : Str) : Prop := X.env.kindOf x = some .globalImplicit
theorem oH {E : Value → Shared → Prop} {pins : List (Addr × Obj)} {s : Shared} {σ : St} {H : Hp} {x : Str} {u : Value} {pos : Pos} {Q : Value → Shared → Prop} (I : Inv X pins σ H s) (hg : Gl X x) (hm : X.mg x = some u) (h : Q u s)
   (hd : (x == ("__debug__" : Str)) = false := by decide) : wpAny (model X.prog X.w) X.A (eval (.Name x pos) X.env) Q E s :=
 Calls.Name_function_global I.ok.kind hg (Calls.loadGlobal_global (by rw [I.ok.glob]; exact I.mod.glob.keeps I.bk) hm h) hd
theorem HQ {E : Value → Shared → Prop} {pins : List (Addr × Obj)} {s : Shared} {σ : St} {H : Hp} {x : Str} {u : Value} {pos : Pos} {Q : Value → Shared → Prop} (I : Inv X pins σ H s) (hg : Gl X x) (hm : X.mg x = none) (hv : bootBuiltins x = some u) (h : Q u s)
   (hn : x ≠ "__name__" := by decide) (hd : (x == ("__debug__" : Str)) = false := by decide) : wpAny (model X.prog X.w) X.A (eval (.Name x pos) X.env) Q E s := by
 obtain ⟨mb, h1, h2⟩ := I.mod.blt
 exact Calls.Name_function_global I.ok.kind hg (Calls.loadGlobal_builtin (by rw [I.ok.glob]; exact I.mod.glob.keeps I.bk) hm (by rw [I.ok.blt]; exact h1.keeps I.bk) ((h2 x hn).trans hv) h) hd
theorem aaT {x : Str} {v : V} {u : Value} {pos : Pos} (hg : Gl X x) (hm : X.mg x = some u) (r : RelV v u) (hd : (x == ("__debug__" : Str)) = false := by decide) : PE X (.Name x pos) (tC v) :=
 fun _ _ _ H _ I h => oH I hg hm ⟨v, H, I, r, h⟩ hd
theorem qF {x : Str} {v : V} {u : Value} {pos : Pos} (hg : Gl X x) (hm : X.mg x = none) (hv : bootBuiltins x = some u) (r : RelV v u) (hn : x ≠ "__name__" := by decide) (hd : (x == ("__debug__" : Str)) = false := by decide) : PE X (.Name x pos) (tC v) :=
 fun _ _ _ H _ I h => HQ I hg hm hv ⟨v, H, I, r, h⟩ hn hd
variable {a b : Expr} {ta tb : TE} {pos : Pos}
def PC (X : Cx) (op : CmpOp) (a b : Expr) (t : TE) : Prop :=
 ∀ (pins : List (Addr × Obj)) (s : Shared) (σ : St) (H : Hp) (Q : VK), Inv X pins σ H s → t σ H Q →
   wpAny (model X.prog X.w) X.A (eval a X.env) (fun v s₁ => wpAny (model X.prog X.w) X.A (eval b X.env) (fun u s₂ => wpAny (model X.prog X.w) X.A (compareOp op v u) (EP X pins σ Q) X.xe s₂) X.xe s₁) X.xe s
def tB (t : TE) : TT := fun σ H Q => t σ H fun x H1 => ∃ c, x = .bl c ∧ Q c H1
theorem yP {e : Expr} {t : TE} (h : PE X e t) (he : ∀ whole, isTrue e X.env whole = (do let v ← whole; standAt e.pos; holding [v] (truthy v)) := by intro _; rfl) : PT X e (tB t) := by
 intro pins s σ H Q I hw
 refine isTrue_plain (eG (h pins s σ H _ I hw) fun v s1 ⟨x, H1, I1, r1, q1⟩ => ?_) (he _)
 obtain ⟨d, rfl, q⟩ := q1
 cases r1
 exact wpAny_truthy_bool ⟨H1, I1, q⟩
variable {tA tB' : TT} {rest : List Expr}
def at3 (t u : TT) : TT := fun σ H Q => t σ H fun c H1 => if c = true then u σ H1 Q else Q false H1
def tOr (t u : TT) : TT := fun σ H Q => t σ H fun c H1 => if c = true then Q true H1 else u σ H1 Q
def at4 (t : TT) : TT := fun σ H Q => t σ H fun c H1 => Q (!c) H1
theorem wD (ha : PT X a tA) : PW X (.BoolOp .And [a] pos) tA := by
 intro wh pins s σ H Q I h
 refine isTrue_and (eG (ha pins s σ H Q I h) fun c s1 e => ?_)
 cases c with
 | true => exact isTrue_and_nil e
 | false => exact e
theorem pB (ha : PT X a tA) : PW X (.BoolOp .Or [a] pos) tA := by
 intro wh pins s σ H Q I h
 refine isTrue_or (eG (ha pins s σ H Q I h) fun c s1 e => ?_)
 cases c with
 | false => exact isTrue_or_nil e
 | true => exact e
theorem uW (ha : PT X a tA) (hb : PW X (.BoolOp .And (b :: rest) pos) tB') : PW X (.BoolOp .And (a :: b :: rest) pos) (at3 tA tB') := by
 intro wh pins s σ H Q I h
 refine isTrue_and (eG (ha pins s σ H _ I h) fun c s1 ⟨H1, I1, q1⟩ => ?_)
 cases c with
 | true => exact hb wh pins s1 σ H1 Q I1 q1
 | false => exact ⟨H1, I1, q1⟩
theorem oh (ha : PT X a tA) (hb : PW X (.BoolOp .Or (b :: rest) pos) tB') : PW X (.BoolOp .Or (a :: b :: rest) pos) (tOr tA tB') := by
 intro wh pins s σ H Q I h
 refine isTrue_or (eG (ha pins s σ H _ I h) fun c s1 ⟨H1, I1, q1⟩ => ?_)
 cases c with
 | true => exact ⟨H1, I1, q1⟩
 | false => exact hb wh pins s1 σ H1 Q I1 q1
theorem lC (ha : PT X a tA) : PT X (.UnaryOp .Not a pos) (at4 tA) := by
 intro pins s σ H Q I h
 exact isTrue_not (ha pins s σ H (fun c H1 => Q (!c) H1) I h)
def age (ta tb : TE) : TE := fun σ H Q => ta σ H fun x H1 => ∃ c, x = .bl c ∧ if c = true then tb σ H1 Q else Q (.bl false) H1
def at5 (ta tb : TE) : TE := fun σ H Q => ta σ H fun x H1 => ∃ c, x = .bl c ∧ if c = true then Q (.bl true) H1 else tb σ H1 Q
def agf (ta : TE) : TE := fun σ H Q => ta σ H fun x H1 => ∃ c, x = .bl c ∧ Q (.bl (!c)) H1
theorem pC {op} {t : TE} (h : PE X a t) : PE X (.BoolOp op [a] pos) t := fun pins s σ H Q I hw => BoolOp_one (h pins s σ H Q I hw)
theorem pD (ha : PE X a ta) (hb : PE X (.BoolOp .And (b :: rest) pos) tb) : PE X (.BoolOp .And (a :: b :: rest) pos) (age ta tb) := by
 intro pins s σ H Q I h
 refine BoolOp_and (eG (ha pins s σ H _ I h) fun v s1 ⟨x, H1, I1, r1, q1⟩ => ?_)
 obtain ⟨c, rfl, q1⟩ := q1
 cases r1
 refine wpAny_truthy_bool ?_
 cases c with
 | true => exact hb pins s1 σ H1 Q I1 q1
 | false => exact ⟨.bl false, H1, I1, rfl, q1⟩
theorem agg (ha : PE X a ta) (hb : PE X (.BoolOp .Or (b :: rest) pos) tb) : PE X (.BoolOp .Or (a :: b :: rest) pos) (at5 ta tb) := by
 intro pins s σ H Q I h
 refine BoolOp_or (eG (ha pins s σ H _ I h) fun v s1 ⟨x, H1, I1, r1, q1⟩ => ?_)
 obtain ⟨c, rfl, q1⟩ := q1
 cases r1
 refine wpAny_truthy_bool ?_
 cases c with
 | false => exact hb pins s1 σ H1 Q I1 q1
 | true => exact ⟨.bl true, H1, I1, rfl, q1⟩
theorem ac1 (ha : PE X a ta) : PE X (.UnaryOp .Not a pos) (agf ta) := by
 intro pins s σ H Q I h
 refine UnaryOp_ (eG (ha pins s σ H _ I h) fun v s1 ⟨x, H1, I1, r1, q1⟩ => ?_)
 obtain ⟨c, rfl, q1⟩ := q1
 cases r1
 exact not_of (wpAny_truthy_bool ⟨.bl (!c), H1, I1, rfl, q1⟩)
def tIf (t : TT) (ta tb : TE) : TE := fun σ H Q => t σ H fun c H1 => if c = true then ta σ H1 Q else tb σ H1 Q
theorem yV {c : Expr} (hc : PT X c tA) (ha : PE X a ta) (hb : PE X b tb) : PE X (.IfExp c a b pos) (tIf tA ta tb) := by
 intro pins s σ H Q I h
 refine wpAny_IfExp (eG (hc pins s σ H _ I h) fun d s1 ⟨H1, I1, q1⟩ => ?_)
 cases d with
 | true => exact ha pins s1 σ H1 Q I1 q1
 | false => exact hb pins s1 σ H1 Q I1 q1
end
end L2
namespace L2
open PySem PySem.Spec PyProof.Rows
def bG (K : PySem.W.Frag) (H : Hp) (a : Addr) (xs : List V) : Prop :=
 Rd H a (.lst xs) ∨
   ∃ (o : Obj) (its : Array Value) (n : Nat), K.lookup a = some o ∧ o.cls = .type "list" ∧ o.dict = none ∧ o.data = .seq its n ∧ its.size ≤ sizeLine ∧ Vals xs its.toList
def o8 (K : PySem.W.Frag) (H : Hp) (a : Addr) (xs : List V) : Prop :=
 Rd H a (.tup xs) ∨
   ∃ (o : Obj) (its : Array Value) (n : Nat), K.lookup a = some o ∧ o.cls = .type "tuple" ∧ o.data = .seq its n ∧ its.size ≤ sizeLine ∧ Vals xs its.toList
def at6 : Value → Option V
 | .none => some .non
 | .bool b => some (.bl b)
 | .int i _ => some (.int i)
 | .str x _ => some (.str x)
 | .bytes b _ => some (.Xz b)
 | .float b _ => some (.flt b)
 | .ref a => some (.ref a)
 | .type n => some (.ty n)
 | _ => none
theorem RelV.abs {x : V} {u : Value} (r : RelV x u) : at6 u = some x := by
 cases x with
 | non => cases r; rfl
 | bl _ => cases r; rfl
 | int _ => obtain ⟨t, rfl⟩ := r; rfl
 | str _ => obtain ⟨t, rfl⟩ := r; rfl
 | Xz _ => obtain ⟨t, rfl⟩ := r; rfl
 | flt _ => obtain ⟨t, rfl⟩ := r; rfl
 | ref _ => cases r; rfl
 | ty _ => cases r; rfl
theorem RelV.inj {x y : V} {u : Value} (r : RelV x u) (q : RelV y u) : x = y := Option.some.inj (r.abs.symm.trans q.abs)
theorem Vals.inj : ∀ {xs ys : List V} {us : List Value}, Vals xs us → Vals ys us → xs = ys
 | _, _, _, .nil, .nil => rfl
 | _, _, _, .cons r t, .cons r' t' => by rw [r.inj r', Vals.inj t t']
section
variable {X : Cx} {pins : List (Addr × Obj)} {σ : St} {H : Hp} {s : Shared} {a : Addr} {xs ys : List V}
theorem bG.of {K : PySem.W.Frag} (h : H a = some (.lst xs)) : bG K H a xs := .inl (.inl h)
theorem o8.of {K : PySem.W.Frag} (h : H a = some (.tup xs)) : o8 K H a xs := .inl (.inl h)
theorem Inv.list (I : Inv X pins σ H s) (h : bG X.K H a xs) : ∃ its : List Value, Vals xs its ∧ PlainL s.heap a its.toArray ∧ xs.length ≤ sizeLine := by
 rcases h with h | ⟨o, its, n, hk, hc, hd, hs, hz, r⟩
 · obtain ⟨z, its, n, r, e⟩ := h.ok I.hok
   exact ⟨its, r, ⟨_, n, e, rfl, rfl, rfl⟩, z⟩
 · refine ⟨its.toList, r, ⟨o, n, I.Ht a o hk, hc, hd, by simpa using hs⟩, ?_⟩
   have e := r.length
   simp only [Array.length_toList] at e
   omega
theorem Inv.tuple (I : Inv X pins σ H s) (h : o8 X.K H a xs) : ∃ its : List Value, Vals xs its ∧ IsTup s.heap a its.toArray ∧ xs.length ≤ sizeLine := by
 rcases h with h | ⟨o, its, n, hk, hc, hs, hz, r⟩
 · obtain ⟨z, its, r, p⟩ := h.ok I.hok
   exact ⟨its, r, p, z⟩
 · refine ⟨its.toList, r, ⟨o, I.Ht a o hk, hc, n, by simpa using hs⟩, ?_⟩
   have e := r.length
   simp only [Array.length_toList] at e
   omega
theorem Inv.HR (I : Inv X pins σ H s) (h : bG X.K H a xs) (h' : bG X.K H a ys) : xs = ys := by
 obtain ⟨its, r, ⟨o, n, e, _, _, d⟩, _⟩ := I.list h
 obtain ⟨its', r', ⟨o', n', e', _, _, d'⟩, _⟩ := I.list h'
 rw [e] at e'; cases e'
 rw [d] at d'
 injection d' with d1 _
 have : its = its' := by simpa using congrArg Array.toList d1
 subst this
 exact r.inj r'
end
abbrev Cx.wish (X : Cx) (E : Value → Shared → Prop) : Cx := { X with xe := E }
abbrev Cx.Qz (X : Cx) : Cx := X.wish fun _ _ => False
theorem Cx.Ok.wish {X : Cx} (ok : X.Ok) (E : Value → Shared → Prop) : (X.wish E).Ok :=
 ⟨ok.mod, ok.kind, ok.glob, ok.blt, ok.above, ok.inj, ok.has, ok.cab, ok.hd, ok.frames, ok.stk, ok.exf, ok.bs, ok.XR, ok.Wl, ok.XS, ok.zz, ok.frf⟩
theorem Cx.Ok.nF {X : Cx} {E : Value → Shared → Prop} (ok : (X.wish E).Ok) : X.Ok :=
 ⟨ok.mod, ok.kind, ok.glob, ok.blt, ok.above, ok.inj, ok.has, ok.cab, ok.hd, ok.frames, ok.stk, ok.exf, ok.bs, ok.XR, ok.Wl, ok.XS, ok.zz, ok.frf⟩
section
variable {X : Cx} {pins : List (Addr × Obj)} {σ : St} {H : Hp} {s : Shared} {E : Value → Shared → Prop}
theorem Inv.wish (I : Inv X pins σ H s) (E : Value → Shared → Prop) : Inv (X.wish E) pins σ H s := ⟨I.ok.wish E, I.os, I.bare, I.base, I.loc, I.cell, I.free, I.mW, I.pin, I.hok, I.len⟩
theorem Inv.nF (I : Inv (X.wish E) pins σ H s) : Inv X pins σ H s := ⟨I.ok.nF, I.os, I.bare, I.base, I.loc, I.cell, I.free, I.mW, I.pin, I.hok, I.len⟩
theorem SP.nF {D : Ends} {f : Flow} {s' : Shared} (h : SP (X.wish E) pins D f s') : SP X pins D f s' := by
 cases f with
 | next => obtain ⟨σ', H', I, q⟩ := h; exact ⟨σ', H', I.nF, q⟩
 | brk => obtain ⟨σ', H', I, q⟩ := h; exact ⟨σ', H', I.nF, q⟩
 | cont => obtain ⟨σ', H', I, q⟩ := h; exact ⟨σ', H', I.nF, q⟩
 | ret u => obtain ⟨v, σ', H', I, r, q⟩ := h; exact ⟨v, σ', H', I.nF, r, q⟩
theorem PE.Qz {e : Expr} {t : TE} (h : PE X.Qz e t) : PE X e t := fun pins s σ H Q I hw =>
 wpAny_mono (h pins s σ H Q (I.wish _) hw) (fun _ _ ⟨v, H', I', r, q⟩ => ⟨v, H', I'.nF, r, q⟩) fun _ _ z => False.elim z
theorem PT.Qz {e : Expr} {t : TT} (h : PT X.Qz e t) : PT X e t := fun pins s σ H Q I hw =>
 wpAny_mono (h pins s σ H Q (I.wish _) hw) (fun _ _ ⟨H', I', q⟩ => ⟨H', I'.nF, q⟩) fun _ _ z => False.elim z
theorem j0.Qz {st : List Stmt} {t : TS} (h : j0 X.Qz st t) : j0 X st t := fun pins s σ H D I hw =>
 wpAny_mono (h pins s σ H D (I.wish _) hw) (fun _ _ q => q.nF) fun _ _ z => False.elim z
end
section
variable {X : Cx} {st : Stmt} {rest : List Stmt} {t u : TS} {e : Expr} {te : TE} {pos : Pos}
def agh : TS := fun D σ H => D.nx σ H
def X3 (t u : TS) : TS := fun D σ H => t { D with nx := u D } σ H
theorem zV : j0 X [] agh := fun _ _ σ H _ I h => wpAny_execs_nil ⟨σ, H, I, h⟩
theorem zC (h1 : PS X st t) (h2 : j0 X rest u) : j0 X (st :: rest) (X3 t u) := by
 intro pins s σ H D I h
 refine wpAny_execs_cons (eG (h1 pins s σ H { D with nx := u D } I h) fun f s1 q => ?_)
 cases f with
 | next =>
   obtain ⟨σ', H', I', q⟩ := q
   exact h2 pins s1 σ' H' D I' q
 | ret v => exact q
 | brk => exact q
 | cont => exact q
theorem zD (h1 : PS X st t) : j0 X [st] t := by
 intro pins s σ H D I h
 refine wpAny_execs_cons (eG (h1 pins s σ H D I h) fun f s1 q => ?_)
 cases f with
 | next => exact wpAny_execs_nil q
 | ret v => exact q
 | brk => exact q
 | cont => exact q
theorem Inv.quiet {pins : List (Addr × Obj)} {σ : St} {H : Hp} {s : Shared} (I : Inv X pins σ H s) : interactive X.env = false := by simp [interactive, I.ok.kind]
def agi (te : TE) : TS := fun D σ H => te σ H fun _ H1 => D.nx σ H1
theorem yF (he : PE X e te) (hs : swapsWith e none pos.line X.env = pure false := by rfl) : PS X (.Expr e pos) (agi te) := by
 intro pins s σ H D I h
 exact wpAny_Expr_any (eG (he pins s σ H _ I h) fun v s1 ⟨x, H1, I1, r1, q1⟩ => ⟨σ, H1, I1, q1⟩) I.quiet hs
def ac2 (te : TE) : TS := fun D σ H => te σ H D.rt
theorem zM (he : PE X e te) : PS X (.Return (some e) pos) (ac2 te) := by
 intro pins s σ H D I h
 exact wpAny_Return_some (eG (he pins s σ H _ I h) fun v s1 ⟨x, H1, I1, r1, q1⟩ => ⟨x, σ, H1, I1, r1, q1⟩)
def ac3 (c : TT) (t u : TS) : TS := fun D σ H => c σ H fun b H1 => if b = true then t D σ H1 else u D σ H1
theorem yD {c : Expr} {a b : List Stmt} {tc : TT} (hc : PT X c tc) (ha : j0 X a t) (hb : j0 X b u) : PS X (.If c a b pos) (ac3 tc t u) := by
 intro pins s σ H D I h
 refine wpAny_If (eG (hc pins s σ H _ I h) fun d s1 ⟨H1, I1, q1⟩ => ?_)
 cases d with
 | true => exact ha pins s1 σ H1 D I1 q1
 | false => exact hb pins s1 σ H1 D I1 q1
end
abbrev TG := V → St → Hp → (St → Hp → Prop) → Prop
abbrev TGs := List V → St → Hp → (St → Hp → Prop) → Prop
def PG (X : Cx) (target : Expr) (t : TG) : Prop :=
 ∀ (pins : List (Addr × Obj)) (s : Shared) (σ : St) (H : Hp) (v : V) (u : Value) (Q : St → Hp → Prop), Inv X pins σ H s → RelV v u → t v σ H Q →
   wpAny (model X.prog X.w) X.A (assign target X.env u) (fun _ s' => ∃ σ' H', Inv X pins σ' H' s' ∧ Q σ' H') X.xe s
def tR (X : Cx) (ts : List Expr) (t : TGs) : Prop :=
 ∀ (pins : List (Addr × Obj)) (s : Shared) (σ : St) (H : Hp) (vs : List V) (us : List Value) (Q : St → Hp → Prop), Inv X pins σ H s → Vals vs us → t vs σ H Q →
   wpAny (model X.prog X.w) X.A (assignInOrder ((assignEach ts X.env).map (·.2)) us) (fun _ s' => ∃ σ' H', Inv X pins σ' H' s' ∧ Q σ' H') X.xe s
abbrev at7 := V → V → V → Hp → (Hp → Prop) → Prop
def iz (X : Cx) (t : at7) : Prop :=
 ∀ (pins : List (Addr × Obj)) (s : Shared) (σ : St) (H : Hp) (o i v : V) (ov iv u : Value) (Q : Hp → Prop), Inv X pins σ H s → RelV o ov → RelV i iv → RelV v u → t o i v H Q →
   wpAny (model X.prog X.w) X.A (setItem ov iv u) (fun _ s' => ∃ H', Inv X pins σ H' s' ∧ Q H') X.xe s
section
variable {X : Cx} {pos : Pos}
def jg (i : Nat) : TG := fun v σ H Q => Q (σ.set i (some v)) H
theorem oJ {i : Nat} {x : Str} (hN : X.N.Nodup) (hi : X.N[i]? = some x) (hx : Loc X.env.scope x) (hf : X.fn x = true ∨ X.env.scope.names.lookup x = some .local := by first | exact .inl rfl | exact .inr rfl | assumption) : PG X (.Name x pos) (jg i) := by
 intro pins s σ H v u Q I r h
 exact wpAny_assign_Name (uV I hN hi hx r (fun s' I' => ⟨_, H, I', h⟩) hf)
def agj : TGs := fun vs σ H Q => vs = [] ∧ Q σ H
def X4 (t : TG) (u : TGs) : TGs := fun vs σ H Q => ∃ v r, vs = v :: r ∧ t v σ H fun σ' H' => u r σ' H' Q
theorem Vm : tR X [] agj := by
 intro pins s σ H vs us Q I r h
 obtain ⟨e, h⟩ := h
 subst e
 cases r
 exact assignInOrder_nil ⟨σ, H, I, h⟩
theorem Br {e : Expr} {es : List Expr} {t : TG} {u : TGs} (h1 : PG X e t) (h2 : tR X es u)
   (hs : (assignEach (e :: es) X.env).map (·.2) = assign e X.env :: (assignEach es X.env).map (·.2) := by rfl) : tR X (e :: es) (X4 t u) := by
 intro pins s σ H vs us Q I r h
 obtain ⟨v, vr, e1, h⟩ := h
 subst e1
 cases r with
 | cons r rr =>
   rw [hs]
   refine assignInOrder_cons (eG (h1 pins s σ H _ _ _ I r h) fun _ s1 ⟨σ1, H1, I1, q1⟩ => ?_)
   exact h2 pins s1 σ1 H1 _ _ Q I1 rr q1
def agk (K : PySem.W.Frag) (n : Nat) (t : TGs) : TG := fun v σ H Q => ∃ a xs, v = .ref a ∧ o8 K H a xs ∧ xs.length = n ∧ t xs σ H Q
theorem X5 {es : List Expr} {k : Nat} {t : TGs} {n : Nat} (hc : X.calm = true) (h : tR X es t)
   (hn : (assignEach es X.env).length = n := by rfl) (hst : (assignEach es X.env).findIdx? (·.1) = none := by rfl) : PG X (.Tuple es k pos) (agk X.K n t) := by
 intro pins s σ H v u Q I r hw
 obtain ⟨a, xs, e1, hq, hl, hw⟩ := hw
 subst e1
 cases r
 obtain ⟨its, rv, ht, hz⟩ := I.tuple hq
 refine assign_Tuple_tuple (I.ok.hd hc) ht (by simp [hn, ← hl, rv.length]) hst fun h' hx => ?_
 have I1 : Inv X pins σ H { s with heap := h' } := I.kept (t' := s.toks) fun b o e => hx b o (Nat.ne_of_lt (Heap.lt_size e)) e
 exact h pins _ σ H xs _ Q I1 (by simpa using rv) hw
def QG (te : TE) (g : TG) : TS := fun D σ H => te σ H fun x H1 => g x σ H1 D.nx
theorem zY {i : Nat} {x : Str} {e : Expr} {te : TE} {pos' : Pos} (hN : X.N.Nodup) (hi : X.N[i]? = some x) (hx : Loc X.env.scope x) (he : PE X e te) (hs : swapsWith e (some (.Name x pos')) pos.line X.env = pure false := by rfl) (hf : X.fn x = true ∨ X.env.scope.names.lookup x = some .local := by first | exact .inl rfl | exact .inr rfl | assumption) :
   PS X (.Assign [.Name x pos'] e pos) (QG te (jg i)) := by
 intro pins s σ H D I h
 refine wpAny_Assign_Name (eG (he pins s σ H _ I h) fun v s1 ⟨y, H1, I1, r1, q1⟩ => ?_) hs
 exact uV I1 hN hi hx r1 (fun s2 I2 => ⟨_, H1, I2, q1⟩) hf
end
section
variable {X : Cx} {pos : Pos}
def ac5 (c : TT) (tb : TS) : TS := fun D σ H => ∃ W : Nat → St → Hp → Prop, (∃ m, W m σ H) ∧ ∀ m σ H, W m σ H →
 c σ H fun b H1 => if b = true then ∃ N : St → Hp → Prop, (∀ σ' H', N σ' H' → ∃ m', m' < m ∧ W m' σ' H') ∧ tb { D with nx := N, ct := N, bk := D.nx } σ H1 else D.nx σ H1
end
structure It where
 go : Nat → Hp → Prop
 TQ : Nat → Hp → V → Hp → Prop
 stop : Nat → Hp → Prop
def nG (X : Cx) (pins : List (Addr × Obj)) (H : Hp) (b : Addr) : Prop :=
 H b = none ∧ b ≠ X.env.locals ∧ b ∉ X.fs ∧ (b ∈ X.ex ∨ X.s₀.heap.objs.size ≤ b) ∧ (∀ x c, X.env.cells.lookup x = some c → c ≠ b) ∧ ∀ p ∈ X.pn ++ pins, p.1 ≠ b
theorem Inv.Oj {X : Cx} {pins : List (Addr × Obj)} {σ : St} {H H' : Hp} {s : Shared} {b : Addr} (I : Inv X pins σ H s) (hb : s.heap.objs.size ≤ b) (hn : H' b = none) : nG X pins H' b := by
 refine ⟨hn, Nat.ne_of_gt (Nat.lt_of_lt_of_le I.lt hb), I.aaS hb, .inr (Nat.le_trans I.sz hb), fun x c e z => ?_, fun p hp z => ?_⟩
 · obtain ⟨v, q⟩ := I.cell x c e
   exact absurd (Nat.lt_of_lt_of_le q.lt (by rw [z]; exact hb)) (Nat.lt_irrefl _)
 · exact absurd (Nat.lt_of_lt_of_le (Heap.lt_size (I.pin p hp).1) (by rw [z]; exact hb)) (Nat.lt_irrefl _)
structure Turn (P : Program) (w : World) (K : PySem.W.Frag) (tg : Expr) (J : It) (fp : List Addr) (it : Addr) (tn : Nat → Heap → Prop) : Prop where
 mem : it ∈ fp
 obj : ∀ i h, tn i h → ∀ b ∈ fp, ∃ o, h.get? b = some o ∧ ∀ v, o.data ≠ .cell v
 keep : ∀ i h h', tn i h → (∀ b ∈ fp, ∀ o, h.get? b = some o → h'.get? b = some o) → tn i h'
 item : ∀ (X : Cx), X.prog = P → X.w = w → X.K = K → X.calm = true → ∀ (i : Nat) (pins : List (Addr × Obj)) (s : Shared) (σ : St) (H : Hp) (E : Value → Shared → Prop), Inv X pins σ H s → (∀ b ∈ fp, nG X pins H b) → tn i s.heap → J.go i H →
   wpAny (model P w) X.A (pyNext (.ref it)) (fun r s1 => ∃ u, r = some u ∧
     wpAny (model P w) X.A (letOwnedTupleGo tg (.ref it) u) (fun _ s2 => ∃ x H', Inv X pins σ H' s2 ∧ RelV x u ∧ J.TQ i H x H' ∧ tn (i + 1) s2.heap ∧ ∀ b ∈ fp, H' b = none) E s1) E s
 done : ∀ (X : Cx), X.prog = P → X.w = w → X.K = K → X.calm = true → ∀ (i : Nat) (pins : List (Addr × Obj)) (s : Shared) (σ : St) (H : Hp) (E : Value → Shared → Prop), Inv X pins σ H s → (∀ b ∈ fp, nG X pins H b) → tn i s.heap → J.stop i H →
   wpAny (model P w) X.A (pyNext (.ref it)) (fun r s1 => r = none ∧ Inv X pins σ H s1) E s
 self : ∀ (A : Around) (i : Nat) (s : Shared) (Q : Value → Shared → Prop) (E : Value → Shared → Prop), tn i s.heap → Q (.ref it) s → wpAny (model P w) A (pyIter (.ref it)) Q E s
abbrev TI := St → Hp → (It → Hp → Prop) → Prop
def PIE (X : Cx) (pins : List (Addr × Obj)) (σ : St) (tg : Expr) (R : It → Hp → Prop) (itv : Value) (s2 : Shared) : Prop :=
 ∃ (it : Addr) (fp : List Addr) (tn : Nat → Heap → Prop) (J : It) (H' : Hp), itv = .ref it ∧ Inv X pins σ H' s2 ∧ Turn X.prog X.w X.K tg J fp it tn ∧ tn 0 s2.heap ∧ (∀ b ∈ fp, nG X pins H' b) ∧ R J H'
def PI (X : Cx) (tg iter : Expr) (wi : TI) : Prop :=
 ∀ (pins : List (Addr × Obj)) (s : Shared) (σ : St) (H : Hp) (R : It → Hp → Prop), Inv X pins σ H s → wi σ H R →
   wpAny (model X.prog X.w) X.A (eval iter X.env) (fun v s1 => wpAny (model X.prog X.w) X.A (pyIter v) (PIE X pins σ tg R) X.xe s1) X.xe s
theorem X6 {M : Model} {A : Around} {E : Value → Shared → Prop} {s : Shared} {tg : Expr} {it : Addr} {u : Value} {o : Obj} {n : String} {vs : Array Value} {Q : Unit → Shared → Prop} (ho : s.heap.get? it = some o) (hc : o.cls = .type n) (hd : o.data = .fields vs)
   (hn : ["enumerate", "zip", "dict_itemiterator", "dict_reverseitemiterator", "odict_iterator", "itertools.zip_longest", "itertools.pairwise"].contains n = false) (hQ : Q () s) : wpAny M A (letOwnedTupleGo tg (.ref it) u) Q E s := by
 unfold letOwnedTupleGo
 cases tg <;> first
   | exact wpAny_pure hQ
   | (cases u <;> first
       | exact wpAny_pure hQ
       | (refine wpAny_bind (wpAny_load ho ?_)
          rw [hc, hd]
          show wpAny M A (if (["enumerate", "zip", "dict_itemiterator", "dict_reverseitemiterator", "odict_iterator", "itertools.zip_longest", "itertools.pairwise"].contains n && vs[0]? == some (rawInt _)) = true then _ else _) Q E s
          rw [if_neg (by intro h; rw [hn, Bool.false_and] at h; cases h)]
          exact wpAny_pure hQ))
def X7 (K : PySem.W.Frag) (a : Addr) : It :=
 ⟨fun i H => ∃ xs x, bG K H a xs ∧ xs[i]? = some x, fun i H x H' => H' = H ∧ ∀ xs, bG K H a xs → xs[i]? = some x, fun i H => ∃ xs, bG K H a xs ∧ xs.length ≤ i⟩
def Itr (lo : Int) (n : Nat) : It := ⟨fun i _ => i < n, fun i H x H' => H' = H ∧ x = .int (lo + i), fun i _ => n ≤ i⟩
theorem Wm {P : Program} {w : World} {K : PySem.W.Frag} {tg : Expr} (a it : Addr) : Turn P w K tg (X7 K a) [it] it (fun i h => h.IsListIter it a i) where
 mem := by simp
 obj := fun i h st b hb => by
   have e : b = it := by simpa using hb
   subst e
   obtain ⟨o, e, c, d⟩ := st
   exact ⟨o, e, fun v z => by rw [d] at z; cases z⟩
 keep := fun i h h' st k => st.at fun o e => k it (by simp) o e
 item := by
   intro X hP hw hK hc i pins s σ H E I hf st hg
   subst hP hw hK
   obtain ⟨xs, x, hq, hx⟩ := hg
   obtain ⟨its, rv, p, hz⟩ := I.list hq
   obtain ⟨u, hu, ru⟩ := rv.get hx
   obtain ⟨f0, f1, f2, f3, f4, f5⟩ := hf it (by simp)
   refine wpAny_pyNext_list_item st p.isList (x := u) (by simpa using hu) fun h' st' sb => ?_
   have I1 : Inv X pins σ H { s with heap := h' } := I.turned (t' := s.toks) (fun b o hb e => (sb.2 b hb).trans e) f0 f1 f3 f4 f5
   obtain ⟨o, e, c, d⟩ := id st'
   exact ⟨u, rfl, X6 (s := { s with heap := h' }) e c d (by decide) ⟨x, H, I1, ru, ⟨rfl, fun ys hy => by rw [I.HR hy hq]; exact hx⟩, st', fun b hb => (hf b hb).1⟩⟩
 done := by
   intro X hP hw hK hc i pins s σ H E I hf st hg
   subst hP hw hK
   obtain ⟨xs, hq, hx⟩ := hg
   obtain ⟨its, rv, p, hz⟩ := I.list hq
   obtain ⟨f0, f1, f2, f3, f4, f5⟩ := hf it (by simp)
   have hl := rv.length
   exact wpAny_pyNext_list_end (I.ok.hd hc) st p.isList (by simp; omega) fun h' eb => ⟨rfl, I.turned (t' := s.toks) (fun b o hb e => eb b o hb e) f0 f1 f3 f4 f5⟩
 self := fun _ _ _ _ _ st h => wpAny_pyIter_listiter st h
theorem TV {P : Program} {w : World} {K : PySem.W.Frag} {tg : Expr} (it : Addr) (lo : Int) (n : Nat) : Turn P w K tg (Itr lo n) [it] it (fun i h => IsRangeIter h it (lo + (i : Nat) * 1) ((n : Int) - (i : Nat)) 1) where
 mem := by simp
 obj := fun i h st b hb => by
   have e : b = it := by simpa using hb
   subst e
   exact ⟨_, st, fun v z => by
     have z' : Data.fields _ = Data.cell v := z
     cases z'⟩
 keep := fun i h h' st k => k it (by simp) _ st
 item := by
   intro X hP hw hK hc i pins s σ H E I hf st hg
   subst hP hw hK
   obtain ⟨f0, f1, f2, f3, f4, f5⟩ := hf it (by simp)
   have W := Walks.range (prog := X.prog) (w := X.w) (I.ok.hd hc) it lo 1 n
   refine W.item i s _ _ hg st fun v h' tk hv st' kk => ?_
   obtain ⟨t, rfl⟩ := hv
   have I1 : Inv X pins σ H { s with heap := h', toks := tk } := I.turned (fun b o hb e => kk b o (by simpa using hb) e) f0 f1 f3 f4 f5
   refine ⟨_, rfl, X6 (s := { s with heap := h', toks := tk }) (n := "range_iterator") st' rfl rfl (by decide) ⟨.int (lo + i), H, I1, ⟨t, ?_⟩, ⟨rfl, rfl⟩, st', fun b hb => (hf b hb).1⟩⟩
   rw [Int.mul_one]
 done := by
   intro X hP hw hK hc i pins s σ H E I hf st hg
   subst hP hw hK
   obtain ⟨f0, f1, f2, f3, f4, f5⟩ := hf it (by simp)
   exact wpAny_pyNext_range_end (I.ok.hd hc) st (by have : n ≤ i := hg; omega) fun h' eb => ⟨rfl, I.turned (t' := s.toks) (fun b o hb e => eb b o hb e) f0 f1 f3 f4 f5⟩
 self := fun _ _ _ _ _ st h => wpAny_pyIter_rangeiter st h
end L2
namespace L2
open PySem PySem.Spec PyProof.Rows
section
variable {X : Cx} {tg : Expr}
def agl (K : PySem.W.Frag) (tl : TE) : TI := fun σ H R => tl σ H fun x H1 => ∃ a, x = .ref a ∧ (∃ xs, bG K H1 a xs) ∧ R (X7 K a) H1
theorem xY {l : Expr} {tl : TE} (hl : PE X l tl) : PI X tg l (agl X.K tl) := by
 intro pins s σ H R I h
 refine eG (hl pins s σ H _ I h) fun v s1 ⟨x, H1, I1, r1, q1⟩ => ?_
 obtain ⟨a, e, ⟨xs, hq⟩, q⟩ := q1
 subst e
 cases r1
 obtain ⟨its, rv, p, hz⟩ := I1.list hq
 refine wpAny_pyIter_list p.isList ?_
 refine ⟨s1.heap.objs.size, [s1.heap.objs.size], _, _, H1, rfl, I1.kept (t' := s1.toks) fun b o e => Heap.get?_push_of_some _ e, Wm a _, ⟨_, Heap.get?_push_size _ rfl, rfl, rfl⟩, fun b hb => ?_, q⟩
 have e : b = s1.heap.objs.size := by simpa using hb
 subst e
 exact I1.Oj (Nat.le_refl _) (I1.hok.fresh (Nat.le_refl _))
theorem X8 {pins : List (Addr × Obj)} {σ : St} {H : Hp} {s : Shared} {R : It → Hp → Prop} {E : Value → Shared → Prop} {lo hi : Int} {t u v : Tok} {tk : Nat} (I : Inv X pins σ H s) (h1 : -(2 ^ 62) ≤ lo) (h2 : lo < 2 ^ 62) (h3 : -(2 ^ 62) ≤ hi) (h4 : hi < 2 ^ 62)
   (q : R (Itr lo (hi - lo).toNat) H) : wpAny (model X.prog X.w) X.A (pyIter (.ref s.heap.objs.size)) (PIE X pins σ tg R) E { s with heap := s.heap.push { cls := .type "range", data := .fields #[.int lo t, .int hi u, .int 1 v] }, toks := tk } := by
 refine wpAny_pyIter_range (IsRange.new ..) (small_one h1 h2 h3 h4) ?_
 have I1 : Inv X pins σ H { s with heap := s.heap.push { cls := .type "range", data := .fields #[.int lo t, .int hi u, .int 1 v] }, toks := tk } := I.kept fun b o e => Heap.get?_push_of_some _ e
 refine ⟨(s.heap.push { cls := .type "range", data := .fields #[.int lo t, .int hi u, .int 1 v] }).objs.size, [(s.heap.push { cls := .type "range", data := .fields #[.int lo t, .int hi u, .int 1 v] }).objs.size], _, _, H, rfl,
   I1.kept (t' := tk) fun b o e => Heap.get?_push_of_some _ e, TV _ lo (hi - lo).toNat, ?_, fun b hb => ?_, q⟩
 · have e1 : lo + ((0 : Nat) : Int) * 1 = lo := by simp
   have e2 : (((hi - lo).toNat : Nat) : Int) - ((0 : Nat) : Int) = Builtin.Range.rangeSize lo hi 1 := by rw [rangeSize_one]; split <;> omega
   show IsRangeIter _ _ (lo + ((0 : Nat) : Int) * 1) ((((hi - lo).toNat : Nat) : Int) - ((0 : Nat) : Int)) 1
   rw [e1, e2]
   exact Heap.get?_push_size _ rfl
 · have e : b = (s.heap.push { cls := .type "range", data := .fields #[.int lo t, .int hi u, .int 1 v] }).objs.size := by simpa using hb
   subst e
   exact I1.Oj (Nat.le_refl _) (I1.hok.fresh (Nat.le_refl _))
def agm (ta : TA) : TI := fun σ H R => ta σ H fun vs H1 => ∃ j : Int, vs = [.int j] ∧ -(2 ^ 62) ≤ j ∧ j < 2 ^ 62 ∧ R (Itr 0 j.toNat) H1
theorem Wn {a : Expr} {ta : TA} {p pos : Pos} (hg : Gl X "range") (hm : X.mg "range" = none) (ha : PA X [a] ta) (hs : starEach [a] X.env = [(false, eval a X.env)] := by rfl) : PI X tg (.Call (.Name "range" p) [a] [] pos) (agm ta) := by
 intro pins s σ H R I h
 refine Call_ (HQ I hg hm boot_range (PyProof.Rows.callWith_type1 (eG (ha pos pins s σ H _ I h) fun us s1 ⟨vs, H1, I1, r1, q1⟩ => ?_) hs rfl))
 obtain ⟨j, e, q1, q2, q⟩ := q1
 subst e
 cases r1 with
 | cons r rr =>
   cases rr
   obtain ⟨t, rfl⟩ := r
   exact call_range_1 (X8 I1 (by omega) (by omega) q1 q2 (by simpa using q))
def at8 (wi : TI) (g : TG) (tb : TS) : TS := fun D σ H => wi σ H fun J H1 => ∃ W : Nat → Nat → St → Hp → Prop, (∃ m, W 0 m σ H1) ∧ ∀ i m σ H, W i m σ H →
 (J.stop i H ∧ D.nx σ H) ∨ (J.go i H ∧ ∃ N : St → Hp → Prop, (∀ σ' H', N σ' H' → ∃ m', m' < m ∧ W (i + 1) m' σ' H') ∧ ∀ x H', J.TQ i H x H' → g x σ H' fun σ2 H2 => tb { D with nx := N, ct := N, bk := D.nx } σ2 H2)
def uX (fp : List Addr) (h : Heap) : List (Addr × Obj) := fp.filterMap fun b => (h.get? b).map fun o => (b, o)
theorem xB {fp : List Addr} {h : Heap} {b : Addr} {o : Obj} (hb : b ∈ fp) (e : h.get? b = some o) : (b, o) ∈ uX fp h := List.mem_filterMap.mpr ⟨b, hb, by rw [e]; rfl⟩
theorem Wo {fp : List Addr} {h : Heap} {p : Addr × Obj} (hp : p ∈ uX fp h) : p.1 ∈ fp ∧ h.get? p.1 = some p.2 := by
 obtain ⟨b, hb, e⟩ := List.mem_filterMap.mp hp
 cases q : h.get? b with
 | none => rw [q] at e; cases e
 | some o =>
   rw [q] at e
   have e' : (b, o) = p := Option.some.inj e
   subst e'
   exact ⟨hb, q⟩
theorem Inv.pinned {pins : List (Addr × Obj)} {σ : St} {H : Hp} {s : Shared} {fp : List Addr} (I : Inv X pins σ H s) (hf : ∀ b ∈ fp, nG X pins H b) (ho : ∀ b ∈ fp, ∃ o, s.heap.get? b = some o ∧ ∀ v, o.data ≠ .cell v) : Inv X (pins ++ uX fp s.heap) σ H s :=
 I.jr fun p hp => (List.mem_append.mp hp).elim (fun z => I.pin p (List.mem_append_right _ z)) fun z => by
   obtain ⟨hb, e⟩ := Wo z
   obtain ⟨f0, f1, f2, _⟩ := hf p.1 hb
   obtain ⟨o, e', d⟩ := ho p.1 hb
   rw [e] at e'; cases e'
   exact ⟨e, f0, f1, f2, d⟩
theorem Inv.HS {pins pl : List (Addr × Obj)} {σ : St} {H : Hp} {s : Shared} (I : Inv X (pins ++ pl) σ H s) : Inv X pins σ H s := I.jr fun p hp => I.pin p (List.mem_append_right _ (List.mem_append_left _ hp))
theorem ac7 {iter : Expr} {body : List Stmt} {wi : TI} {g : TG} {tb : TS} {pos : Pos} (hp : PassesOwn (model X.prog X.w) X.A X.env X.xe) (hc : X.calm = true) (hi : PI X tg iter wi) (hg : PG X tg g) (hb : j0 X body tb)
   (hs : ∀ x, foldedSetIterable iter X.env x = pure x := by intro _; rfl) : PS X (.For tg iter body [] pos) (at8 wi g tb) := by
 intro pins s σ H D I h
 refine wpAny_For (eG (hi pins s σ H _ I h) fun v s1 h1 => eG h1 fun itv s2 h2 => ?_) hs
 obtain ⟨it, fp, tn, J, H2, e, I2, T, st2, f2, W, ⟨m0, w0⟩, turn⟩ := h2
 subst e
 have stat : ∀ {H' : Hp}, (∀ b ∈ fp, H' b = none) → ∀ b ∈ fp, nG X pins H' b := fun hn b hb => ⟨hn b hb, (f2 b hb).2⟩
 refine codeAny_forLoop_any (fun n s' => ∃ i σ' H', Inv X pins σ' H' s' ∧ tn i s'.heap ∧ (∀ b ∈ fp, H' b = none) ∧ W i n σ' H') ?_ m0 ⟨0, σ, H2, I2, st2, fun b hb => (f2 b hb).1, w0⟩
 rintro n s3 ⟨i, σ3, H3, I3, st3, fr3, w3⟩
 rcases turn i n σ3 H3 w3 with ⟨stop, qn⟩ | ⟨go, N, hN, step⟩
 · refine wpAny_passesOwn hp (eG (T.done X rfl rfl rfl hc i pins s3 σ3 H3 X.xe I3 (stat fr3) st3 stop) fun r s4 ⟨hr, I4⟩ => ?_)
   subst hr
   exact wpAny_execs_nil ⟨σ3, H3, I4, qn⟩
 · refine wpAny_passesOwn hp (eG (T.item X rfl rfl rfl hc i pins s3 σ3 H3 X.xe I3 (stat fr3) st3 go) fun r s4 ⟨u, hr, h4⟩ => ?_)
   subst hr
   refine wpAny_passesOwn hp (eG h4 fun _ s5 ⟨x, H5, I5, r5, y5, QH, fr5⟩ => ?_)
   have I5' := I5.pinned (stat fr5) (T.obj _ _ QH)
   refine wpAny_passesOwn hp (eG (hg _ s5 σ3 H5 x u _ I5' r5 (step x H5 y5)) fun _ s6 ⟨σ6, H6, I6, q6⟩ => ?_)
   refine wpAny_passesOwn hp (eG (hb _ s6 σ6 H6 _ I6 q6) fun f s7 q7 => ?_)
   have again : ∀ {σ7 : St} {H7 : Hp}, Inv X (pins ++ uX fp s5.heap) σ7 H7 s7 → N σ7 H7 → ∃ m, m < n ∧ ∃ i σ' H', Inv X pins σ' H' s7 ∧ tn i s7.heap ∧ (∀ b ∈ fp, H' b = none) ∧ W i m σ' H' := fun {σ7 H7} I7 n7 => by
     obtain ⟨m', hm, w7⟩ := hN σ7 H7 n7
     refine ⟨m', hm, i + 1, σ7, H7, I7.HS, T.keep _ _ _ QH fun b hb o e => (I7.pin (b, o) (List.mem_append_right _ (List.mem_append_right _ (xB hb e)))).1, fun b hb => ?_, w7⟩
     obtain ⟨o, e, d⟩ := T.obj _ _ QH b hb
     exact (I7.pin (b, o) (List.mem_append_right _ (List.mem_append_right _ (xB hb e)))).2.1
   cases f with
   | next => obtain ⟨σ7, H7, I7, n7⟩ := q7; exact again I7 n7
   | cont => obtain ⟨σ7, H7, I7, n7⟩ := q7; exact again I7 n7
   | brk => obtain ⟨σ7, H7, I7, q7⟩ := q7; exact ⟨σ7, H7, I7.HS, q7⟩
   | ret v => obtain ⟨x7, σ7, H7, I7, r7, q7⟩ := q7; exact ⟨x7, σ7, H7, I7.HS, r7, q7⟩
end
theorem Yb {K : PySem.W.Frag} {a : Addr} {xs : List V} {g : TG} {tb : TS} {D : Ends} {σ : St} {H : Hp} (Pv : Nat → St → Hp → Prop) (h0 : Pv 0 σ H) (hl : ∀ i σ H, i ≤ xs.length → Pv i σ H → bG K H a xs)
   (hs : ∀ i x σ H, xs[i]? = some x → Pv i σ H → g x σ H fun σ2 H2 => tb { D with nx := Pv (i + 1), ct := Pv (i + 1), bk := D.nx } σ2 H2) (hd : ∀ σ H, Pv xs.length σ H → D.nx σ H) :
   ∃ W : Nat → Nat → St → Hp → Prop, (∃ m, W 0 m σ H) ∧ ∀ i m σ H, W i m σ H →
     ((X7 K a).stop i H ∧ D.nx σ H) ∨ ((X7 K a).go i H ∧ ∃ N : St → Hp → Prop, (∀ σ' H', N σ' H' → ∃ m', m' < m ∧ W (i + 1) m' σ' H') ∧ ∀ x H', (X7 K a).TQ i H x H' → g x σ H' fun σ2 H2 => tb { D with nx := N, ct := N, bk := D.nx } σ2 H2) := by
 refine ⟨fun i m σ H => m = xs.length - i ∧ i ≤ xs.length ∧ Pv i σ H, ⟨xs.length, by simp, Nat.zero_le _, h0⟩, ?_⟩
 rintro i m σ H ⟨rfl, hi, p⟩
 have q := hl i σ H hi p
 by_cases hlt : i < xs.length
 · refine .inr ⟨⟨xs, xs[i], q, by simp [hlt]⟩, Pv (i + 1), fun σ' H' p' => ⟨xs.length - (i + 1), by omega, rfl, hlt, p'⟩, fun x H' y => ?_⟩
   obtain ⟨e, y⟩ := y
   subst e
   exact hs i x σ _ (y xs q) p
 · have e : i = xs.length := by omega
   subst e
   exact .inl ⟨⟨xs, q, Nat.le_refl _⟩, hd σ H p⟩
theorem Wq {lo : Int} {n : Nat} {g : TG} {tb : TS} {D : Ends} {σ : St} {H : Hp} (Pv : Nat → St → Hp → Prop) (h0 : Pv 0 σ H)
   (hs : ∀ i σ H, i < n → Pv i σ H → g (.int (lo + i)) σ H fun σ2 H2 => tb { D with nx := Pv (i + 1), ct := Pv (i + 1), bk := D.nx } σ2 H2) (hd : ∀ σ H, Pv n σ H → D.nx σ H) :
   ∃ W : Nat → Nat → St → Hp → Prop, (∃ m, W 0 m σ H) ∧ ∀ i m σ H, W i m σ H →
     ((Itr lo n).stop i H ∧ D.nx σ H) ∨ ((Itr lo n).go i H ∧ ∃ N : St → Hp → Prop, (∀ σ' H', N σ' H' → ∃ m', m' < m ∧ W (i + 1) m' σ' H') ∧ ∀ x H', (Itr lo n).TQ i H x H' → g x σ H' fun σ2 H2 => tb { D with nx := N, ct := N, bk := D.nx } σ2 H2) := by
 refine ⟨fun i m σ H => m = n - i ∧ i ≤ n ∧ Pv i σ H, ⟨n, by simp, Nat.zero_le _, h0⟩, ?_⟩
 rintro i m σ H ⟨rfl, hi, p⟩
 by_cases hlt : i < n
 · refine .inr ⟨hlt, Pv (i + 1), fun σ' H' p' => ⟨n - (i + 1), by omega, rfl, hlt, p'⟩, fun x H' y => ?_⟩
   obtain ⟨e, y⟩ := y
   subst e y
   exact hs i σ _ hlt p
 · have e : i = n := by omega
   subst e
   exact .inl ⟨Nat.le_refl _, hd σ H p⟩
end L2
namespace L2
open PySem PySem.Spec PyProof.Rows
abbrev R2 := V → V → Hp → VK → Prop
def iW (X : Cx) (f : Value → Value → Sem Value) (r : R2) : Prop :=
 ∀ (pins : List (Addr × Obj)) (s : Shared) (σ : St) (H : Hp) (x y : V) (v u : Value) (Q : VK), Inv X pins σ H s → RelV x v → RelV y u → r x y H Q →
   wpAny (model X.prog X.w) X.A (f v u) (EP X pins σ Q) X.xe s
def uH (X : Cx) (f : Value → Sem Value) (r : V → Hp → VK → Prop) : Prop :=
 ∀ (pins : List (Addr × Obj)) (s : Shared) (σ : St) (H : Hp) (x : V) (v : Value) (Q : VK), Inv X pins σ H s → RelV x v → r x H Q →
   wpAny (model X.prog X.w) X.A (f v) (EP X pins σ Q) X.xe s
def aU (X : Cx) (f : Value) (r : List V → Hp → VK → Prop) : Prop :=
 ∀ (pins : List (Addr × Obj)) (s : Shared) (σ : St) (H : Hp) (xs : List V) (us : List Value) (Q : VK), Inv X pins σ H s → Vals xs us → r xs H Q →
   wpAny (model X.prog X.w) X.A (call f us) (EP X pins σ Q) X.xe s
def iB (X : Cx) (r : V → Hp → (Bool → Hp → Prop) → Prop) : Prop :=
 ∀ (pins : List (Addr × Obj)) (s : Shared) (σ : St) (H : Hp) (x : V) (v : Value) (Q : Bool → Hp → Prop), Inv X pins σ H s → RelV x v → r x H Q →
   wpAny (model X.prog X.w) X.A (truthy v) (TP X pins σ Q) X.xe s
def tOp (r : R2) (ta tb : TE) : TE := fun σ H Q => ta σ H fun x H1 => tb σ H1 fun y H2 => r x y H2 Q
def tUn (r : V → Hp → VK → Prop) (ta : TE) : TE := fun σ H Q => ta σ H fun x H1 => r x H1 Q
def rI (C : Int → Int → Prop) (g : Int → Int → V) : R2 := fun x y H Q => ∃ i j, x = .int i ∧ y = .int j ∧ C i j ∧ Q (g i j) H
def rI0 (g : Int → Int → V) : R2 := fun x y H Q => ∃ i j, x = .int i ∧ y = .int j ∧ Q (g i j) H
def rU (g : Int → V) : V → Hp → VK → Prop := fun x H Q => ∃ i, x = .int i ∧ Q (g i) H
section
variable {X : Cx} {a b c : Expr} {ta tb tc : TE} {pos : Pos}
theorem ada (ha : PE X a ta) (hb : PE X b tb) {pins : List (Addr × Obj)} {s : Shared} {σ : St} {H : Hp} {R : V → V → Hp → Prop} (I : Inv X pins σ H s)
   (h : ta σ H fun x H1 => tb σ H1 fun y H2 => R x y H2) {Q : Value → Shared → Prop} {f : Value → Value → Sem Value}
   (hf : ∀ v u s2 x y H2, Inv X pins σ H2 s2 → RelV x v → RelV y u → R x y H2 → wpAny (model X.prog X.w) X.A (f v u) Q X.xe s2) :
   wpAny (model X.prog X.w) X.A (eval a X.env) (fun v s₁ => wpAny (model X.prog X.w) X.A (eval b X.env) (fun u s₂ => wpAny (model X.prog X.w) X.A (f v u) Q X.xe s₂) X.xe s₁) X.xe s := by
 refine eG (ha pins s σ H _ I h) fun v s1 ⟨x, H1, I1, r1, q1⟩ => ?_
 refine eG (hb pins s1 σ H1 _ I1 q1) fun u s2 ⟨y, H2, I2, r2, q2⟩ => ?_
 exact hf v u s2 x y H2 I2 r1 r2 q2
theorem zI {op : Operator} {r : R2} (ho : iW X (binaryOp op) r) (ha : PE X a ta) (hb : PE X b tb) : PE X (.BinOp a op b pos) (tOp r ta tb) := by
 intro pins s σ H Q I h
 exact wpAny_BinOp (ada ha hb I h fun v u s2 x y H2 I2 rx ry q => ho pins s2 σ H2 x y v u Q I2 rx ry q)
theorem Bs {op : UnaryOp} {r : V → Hp → VK → Prop} (ho : uH X (unaryOp op) r) (ha : PE X a ta) : PE X (.UnaryOp op a pos) (tUn r ta) := by
 intro pins s σ H Q I h
 exact UnaryOp_ (eG (ha pins s σ H _ I h) fun v s1 ⟨x, H1, I1, r1, q1⟩ => ho pins s1 σ H1 x v Q I1 r1 q1)
theorem opI {f : Value → Value → Sem Value} {C : Int → Int → Prop} {g : Int → Int → Int}
   (rule : ∀ (i j : Int) (t u : Tok) (s : Shared) (Q : Value → Shared → Prop) (E : Value → Shared → Prop), C i j → Q (.int (g i j) s.toks) { s with toks := s.toks + 1 } → wpAny (model X.prog X.w) X.A (f (.int i t) (.int j u)) Q E s) :
   iW X f (rI C fun i j => .int (g i j)) := by
 intro pins s σ H x y v u Q I rx ry h
 obtain ⟨i, j, rfl, rfl, hc, q⟩ := h
 obtain ⟨t, rfl⟩ := rx
 obtain ⟨t', rfl⟩ := ry
 exact rule i j t t' s _ _ hc ⟨.int (g i j), H, I.tok _, ⟨_, rfl⟩, q⟩
theorem agn {f : Value → Value → Sem Value} {g : Int → Int → Int}
   (rule : ∀ (i j : Int) (t u : Tok) (s : Shared) (Q : Value → Shared → Prop) (E : Value → Shared → Prop), Q (.int (g i j) s.toks) { s with toks := s.toks + 1 } → wpAny (model X.prog X.w) X.A (f (.int i t) (.int j u)) Q E s) :
   iW X f (rI0 fun i j => .int (g i j)) := by
 intro pins s σ H x y v u Q I rx ry h
 obtain ⟨i, j, rfl, rfl, q⟩ := h
 obtain ⟨t, rfl⟩ := rx
 obtain ⟨t', rfl⟩ := ry
 exact rule i j t t' s _ _ ⟨.int (g i j), H, I.tok _, ⟨_, rfl⟩, q⟩
theorem adb {f : Value → Value → Sem Value} {g : Int → Int → Bool}
   (rule : ∀ (i j : Int) (t u : Tok) (s : Shared) (Q : Value → Shared → Prop) (E : Value → Shared → Prop), Q (.bool (g i j)) s → wpAny (model X.prog X.w) X.A (f (.int i t) (.int j u)) Q E s) :
   iW X f (rI0 fun i j => .bl (g i j)) := by
 intro pins s σ H x y v u Q I rx ry h
 obtain ⟨i, j, rfl, rfl, q⟩ := h
 obtain ⟨t, rfl⟩ := rx
 obtain ⟨t', rfl⟩ := ry
 exact rule i j t t' s _ _ ⟨.bl (g i j), H, I, rfl, q⟩
def aua (i j : Int) : Prop := 0 < j ∧ j < 1073741824
def aub (i j : Int) : Prop := 0 ≤ j ∧ j ≤ 1000000 ∧ i.natAbs < 2 ^ 64
def ago (i j : Int) : Prop := (-(2 ^ 64) < i ∧ i < 2 ^ 64) ∨ (-(2 ^ 64) < j ∧ j < 2 ^ 64)
theorem ago.ok {i j : Int} (h : ago i j) : IntMulOk i j := by
 rcases h with ⟨h1, h2⟩ | ⟨h1, h2⟩
 · exact .of_left (intBits_le_64 h1 h2)
 · exact .of_right (intBits_le_64 h1 h2)
theorem tU : iW X (binaryOp .Add) (rI0 fun i j => .int (i + j)) := agn fun _ _ _ _ _ _ _ q => add_int q
theorem pF : iW X (binaryOp .Sub) (rI0 fun i j => .int (i - j)) := agn fun _ _ _ _ _ _ _ q => sub_int q
theorem mD : iW X (binaryOp .FloorDiv) (rI aua fun i j => .int (i / j)) := opI fun i j _ _ _ _ _ hc q => by
 have h1 : (0 : Int) < j := hc.1
 have h2 : j < 1073741824 := hc.2
 exact floordiv_int (by omega) (by rw [Int.fdiv_eq_ediv_of_nonneg i (by omega)]; exact q) (.inl (PyProof.noPylong_small (by omega)))
theorem yS : iW X (binaryOp .Mod) (rI (fun _ j => 0 < j) fun i j => .int (i % j)) := opI fun i j _ _ _ _ _ hc q => by
 have h1 : (0 : Int) < j := hc
 exact mod_int' (by omega) (by rw [Int.fmod_eq_emod_of_nonneg i (by omega)]; exact q)
theorem Dp : iW X (binaryOp .Pow) (rI aub fun i j => .int (i ^ j.toNat)) := opI fun _ _ _ _ _ _ _ hc q => pow_int_small hc.1 hc.2.1 hc.2.2 q
theorem unI {f : Value → Sem Value} {g : Int → Int}
   (rule : ∀ (i : Int) (t : Tok) (s : Shared) (Q : Value → Shared → Prop) (E : Value → Shared → Prop), Q (.int (g i) s.toks) { s with toks := s.toks + 1 } → wpAny (model X.prog X.w) X.A (f (.int i t)) Q E s) :
   uH X f (rU fun i => .int (g i)) := by
 intro pins s σ H x v Q I rx h
 obtain ⟨i, rfl, q⟩ := h
 obtain ⟨t, rfl⟩ := rx
 exact rule i t s _ _ ⟨.int (g i), H, I.tok _, ⟨_, rfl⟩, q⟩
theorem tV : uH X (unaryOp .USub) (rU fun i => .int (-i)) := unI fun _ _ _ _ _ q => neg_int q
end
def agp : V → V → Bool
 | .non, .non => true | .non, .int _ => true | .int _, .non => true | .non, .bl _ => true | .bl _, .non => true | .non, .str _ => true | .str _, .non => true
 | .int _, .int _ => true | .bl _, .bl _ => true | .str _, .str _ => true | .Xz _, .Xz _ => true
 | .int _, .str _ => true | .str _, .int _ => true | .bl _, .str _ => true | .str _, .bl _ => true
 | _, _ => false
def rEq : R2 := fun x y H Q => agp x y = true ∧ Q (.bl (decide (x = y))) H
def rNe : R2 := fun x y H Q => agp x y = true ∧ Q (.bl (!decide (x = y))) H
theorem Vn {i j : Int} : decide (V.int i = V.int j) = (i == j) := by
 rw [Bool.eq_iff_iff]
 simp
theorem Yc {i j : Bool} : decide (V.bl i = V.bl j) = (i == j) := by
 rw [Bool.eq_iff_iff]
 simp
theorem Vo {i j : Str} : decide (V.str i = V.str j) = (i == j) := by
 rw [Bool.eq_iff_iff]
 simp
theorem Vp {i j : Array UInt8} : decide (V.Xz i = V.Xz j) = (i.toList == j.toList) := by
 rw [Bool.eq_iff_iff]
 cases i
 cases j
 simp
section
variable {X : Cx} {a b c : Expr} {ta tb tc : TE} {pos : Pos}
theorem yJ {pins : List (Addr × Obj)} {σ : St} {H : Hp} {s : Shared} {Q : VK} {k k' : Bool} (I : Inv X pins σ H s) (q : Q (.bl k) H) (e : k = k') : EP X pins σ Q (.bool k') s := by
 subst e
 exact ⟨.bl k, H, I, rfl, q⟩
theorem yG : iW X (compareOp .Eq) rEq := by
 intro pins s σ H x y v u Q I rx ry h
 obtain ⟨hs, q⟩ := h
 cases x with
 | non =>
   cases rx
   cases y with
   | non => cases ry; exact PySem.EqNone.eq_none_none (yJ I q (by simp))
   | bl j => cases ry; exact PySem.EqNone.eq_none_bool (yJ I q (by simp))
   | int j => obtain ⟨t', rfl⟩ := ry; exact PySem.EqNone.eq_none_int (yJ I q (by simp))
   | str j => obtain ⟨t', rfl⟩ := ry; exact PySem.EqNone.eq_none_str (yJ I q (by simp))
   | _ => exact absurd (show false = true from hs) Bool.false_ne_true
 | bl i =>
   cases rx
   cases y with
   | non => cases ry; exact PySem.EqNone.eq_bool_none (yJ I q (by simp))
   | bl j => cases ry; exact eq_bool (yJ I q Yc)
   | str j => obtain ⟨t', rfl⟩ := ry; exact PySem.EqMixed.eq_bool_str (yJ I q (by simp))
   | _ => exact absurd (show false = true from hs) Bool.false_ne_true
 | int i =>
   obtain ⟨t, rfl⟩ := rx
   cases y with
   | non => cases ry; exact PySem.EqNone.eq_int_none (yJ I q (by simp))
   | int j => obtain ⟨t', rfl⟩ := ry; exact eq_int (yJ I q Vn)
   | str j => obtain ⟨t', rfl⟩ := ry; exact PySem.EqMixed.eq_int_str (yJ I q (by simp))
   | _ => exact absurd (show false = true from hs) Bool.false_ne_true
 | str i =>
   obtain ⟨t, rfl⟩ := rx
   cases y with
   | non => cases ry; exact PySem.EqNone.eq_str_none (yJ I q (by simp))
   | bl j => cases ry; exact PySem.EqMixed.eq_str_bool (yJ I q (by simp))
   | int j => obtain ⟨t', rfl⟩ := ry; exact PySem.EqMixed.eq_str_int (yJ I q (by simp))
   | str j => obtain ⟨t', rfl⟩ := ry; exact eq_str (yJ I q Vo)
   | _ => exact absurd (show false = true from hs) Bool.false_ne_true
 | Xz i =>
   obtain ⟨t, rfl⟩ := rx
   cases y with
   | Xz j => obtain ⟨t', rfl⟩ := ry; exact PySem.W.eq_bytes (yJ I q Vp)
   | _ => exact absurd (show false = true from hs) Bool.false_ne_true
 | _ => cases y <;> exact absurd (show false = true from hs) Bool.false_ne_true
theorem HW : iW X (compareOp .NotEq) rNe := by
 intro pins s σ H x y v u Q I rx ry h
 obtain ⟨hs, q⟩ := h
 cases x with
 | non =>
   cases rx
   cases y with
   | non => cases ry; exact PySem.EqNone.ne_none_none (yJ I q (by simp))
   | bl j => cases ry; exact PySem.EqNone.ne_none_bool (yJ I q (by simp))
   | int j => obtain ⟨t', rfl⟩ := ry; exact PySem.EqNone.ne_none_int (yJ I q (by simp))
   | str j => obtain ⟨t', rfl⟩ := ry; exact PySem.EqNone.ne_none_str (yJ I q (by simp))
   | _ => exact absurd (show false = true from hs) Bool.false_ne_true
 | bl i =>
   cases rx
   cases y with
   | non => cases ry; exact PySem.EqNone.ne_bool_none (yJ I q (by simp))
   | bl j => cases ry; exact ne_bool (yJ I q (congrArg not Yc))
   | str j => obtain ⟨t', rfl⟩ := ry; exact PySem.EqMixed.ne_bool_str (yJ I q (by simp))
   | _ => exact absurd (show false = true from hs) Bool.false_ne_true
 | int i =>
   obtain ⟨t, rfl⟩ := rx
   cases y with
   | non => cases ry; exact PySem.EqNone.ne_int_none (yJ I q (by simp))
   | int j => obtain ⟨t', rfl⟩ := ry; exact ne_int (yJ I q (congrArg not Vn))
   | str j => obtain ⟨t', rfl⟩ := ry; exact PySem.EqMixed.ne_int_str (yJ I q (by simp))
   | _ => exact absurd (show false = true from hs) Bool.false_ne_true
 | str i =>
   obtain ⟨t, rfl⟩ := rx
   cases y with
   | non => cases ry; exact PySem.EqNone.ne_str_none (yJ I q (by simp))
   | bl j => cases ry; exact PySem.EqMixed.ne_str_bool (yJ I q (by simp))
   | int j => obtain ⟨t', rfl⟩ := ry; exact PySem.EqMixed.ne_str_int (yJ I q (by simp))
   | str j => obtain ⟨t', rfl⟩ := ry; exact ne_str (yJ I q (congrArg not Vo))
   | _ => exact absurd (show false = true from hs) Bool.false_ne_true
 | Xz i =>
   obtain ⟨t, rfl⟩ := rx
   cases y with
   | Xz j => obtain ⟨t', rfl⟩ := ry; exact PySem.W.ne_bytes (yJ I q (congrArg not Vp))
   | _ => exact absurd (show false = true from hs) Bool.false_ne_true
 | _ => cases y <;> exact absurd (show false = true from hs) Bool.false_ne_true
theorem HX : iW X (compareOp .Lt) (rI0 fun i j => .bl (decide (i < j))) := adb fun _ _ _ _ _ _ _ q => lt_int q
theorem yg : iW X (compareOp .LtE) (rI0 fun i j => .bl (decide (i ≤ j))) := adb fun _ _ _ _ _ _ _ q => le_int q
theorem HY : iW X (compareOp .Gt) (rI0 fun i j => .bl (decide (j < i))) := adb fun _ _ _ _ _ _ _ q => gt_int q
theorem Dq : iW X (compareOp .In) (fun x y H Q => ∃ i j, x = .str i ∧ y = .str j ∧ Q (.bl (!(Builtin.Str.occurrences j i 0 j.length 1).isEmpty)) H) := by
 intro pins s σ H x y v u Q I rx ry h
 obtain ⟨i, j, rfl, rfl, q⟩ := h
 obtain ⟨t, rfl⟩ := rx
 obtain ⟨t', rfl⟩ := ry
 exact in_str (yJ I q rfl)
theorem Dr : iW X (compareOp .Is) (fun x y H Q => y = .non ∧ Q (.bl (decide (x = .non))) H) := by
 intro pins s σ H x y v u Q I rx ry h
 obtain ⟨rfl, q⟩ := h
 cases ry
 refine is_none_gen (yJ I q ?_)
 cases x <;> first
   | (cases rx; rfl)
   | (obtain ⟨t, rfl⟩ := rx; rfl)
theorem Hu : iW X (compareOp .IsNot) (fun x y H Q => y = .non ∧ Q (.bl (!decide (x = .non))) H) := by
 intro pins s σ H x y v u Q I rx ry h
 obtain ⟨rfl, q⟩ := h
 cases ry
 refine isnot_none_gen (yJ I q ?_)
 cases x <;> first
   | (cases rx; rfl)
   | (obtain ⟨t, rfl⟩ := rx; rfl)
theorem iW.or {f : Value → Value → Sem Value} {r r' : R2} (h : iW X f r) (h' : iW X f r') : iW X f (fun x y H Q => r x y H Q ∨ r' x y H Q) := by
 intro pins s σ H x y v u Q I rx ry q
 rcases q with q | q
 · exact h pins s σ H x y v u Q I rx ry q
 · exact h' pins s σ H x y v u Q I rx ry q
theorem zO (b : Expr) {op : CmpOp} (h : op ≠ .In := by decide) (h2 : op ≠ .NotIn := by decide) : behindInMarks op b = false := by
 have e1 : (op == CmpOp.In) = false := by cases op <;> first | rfl | exact absurd rfl h
 have e2 : (op == CmpOp.NotIn) = false := by cases op <;> first | rfl | exact absurd rfl h2
 cases b <;> simp [behindInMarks, e1, e2]
theorem yI {op : CmpOp} {r : R2} (ho : iW X (compareOp op) r) (ha : PE X a ta) (hb : PE X b tb) (hm : behindInMarks op b = false) : PE X (.Compare a [op] [b] pos) (tOp r ta tb) := by
 intro pins s σ H Q I h
 exact wpAny_Compare1 (ada ha hb I h fun v u s2 x y H2 I2 rx ry q => ho pins s2 σ H2 x y v u Q I2 rx ry q) hm
def Yd (t : TE) : TT := fun σ H Q => t σ H fun x H' => ∃ k, x = .bl k ∧ Q k H'
theorem zP {op : CmpOp} {r : R2} (ho : iW X (compareOp op) r) (ha : PE X a ta) (hb : PE X b tb) (hm : behindInMarks op b = false) : PT X (.Compare a [op] [b] pos) (Yd (tOp r ta tb)) := by
 intro pins s σ H Q I h
 refine wpAny_isTrue_Compare1 (eG (ha pins s σ H _ I h) fun v s1 ⟨x, H1, I1, r1, q1⟩ => eG (hb pins s1 σ H1 _ I1 q1) fun u s2 ⟨y, H2, I2, r2, q2⟩ =>
   eG (ho pins s2 σ H2 x y v u _ I2 r1 r2 q2) fun c s3 ⟨z, H3, I3, r3, k, e, q3⟩ => ?_) hm
 subst e
 cases r3
 exact wpAny_truthy_bool ⟨H3, I3, q3⟩
def Ye (r r' : R2) (ta tb tc : TE) : TE := fun σ H Q => ta σ H fun x H1 => tb σ H1 fun y H2 => r x y H2 fun z H3 => ∃ k, z = .bl k ∧
 (if k = true then tc σ H3 fun w' H4 => r' y w' H4 Q else Q (.bl false) H3)
theorem QJ {op op' : CmpOp} {r r' : R2} (ho : iW X (compareOp op) r) (ho' : iW X (compareOp op') r') (ha : PE X a ta) (hb : PE X b tb) (hc : PE X c tc)
   (hm : lastMarks [op, op'] [b, c] = false := by with_unfolding_all rfl) : PE X (.Compare a [op, op'] [b, c] pos) (Ye r r' ta tb tc) := by
 intro pins s σ H Q I h
 refine Compare_chain (eG (ha pins s σ H _ I h) fun v s1 ⟨x, H1, I1, r1, q1⟩ => chain_link (eG (hb pins s1 σ H1 _ I1 q1) fun u s2 ⟨y, H2, I2, r2, q2⟩ =>
   eG (ho pins s2 σ H2 x y v u _ I2 r1 r2 q2) fun d s3 ⟨z, H3, I3, r3, k, e, q3⟩ => ?_)) hm
 subst e
 cases r3
 refine wpAny_truthy_bool ?_
 cases k with
 | false => exact ite_ff ⟨.bl false, H3, I3, rfl, q3⟩
 | true => exact ite_tt (chain_last (eG (hc pins s3 σ H3 _ I3 q3) fun w' s4 ⟨z', H4, I4, r4, q4⟩ => ho' pins s4 σ H4 y z' u w' Q I4 r2 r4 q4))
theorem QK {op op' : CmpOp} {r r' : R2} (ho : iW X (compareOp op) r) (ho' : iW X (compareOp op') r') (ha : PE X a ta) (hb : PE X b tb) (hc : PE X c tc)
   (hm : lastMarks [op, op'] [b, c] = false := by with_unfolding_all rfl) : PT X (.Compare a [op, op'] [b, c] pos) (Yd (Ye r r' ta tb tc)) := by
 intro pins s σ H Q I h
 refine isTrue_chain (eG (ha pins s σ H _ I h) fun v s1 ⟨x, H1, I1, r1, q1⟩ => test_link (eG (hb pins s1 σ H1 _ I1 q1) fun u s2 ⟨y, H2, I2, r2, q2⟩ =>
   eG (ho pins s2 σ H2 x y v u _ I2 r1 r2 q2) fun d s3 ⟨z, H3, I3, r3, k, e, q3⟩ => ?_)) hm
 subst e
 cases r3
 refine wpAny_truthy_bool ?_
 cases k with
 | false =>
   obtain ⟨k', e', q'⟩ := q3
   cases e'
   exact ite_ff ⟨H3, I3, q'⟩
 | true =>
   refine ite_tt (test_last (eG (hc pins s3 σ H3 _ I3 q3) fun w' s4 ⟨z', H4, I4, r4, q4⟩ => eG (ho' pins s4 σ H4 y z' u w' _ I4 r2 r4 q4) fun d' s5 ⟨z2, H5, I5, r5, k2, e2, q5⟩ => ?_))
   subst e2
   cases r5
   exact wpAny_truthy_bool ⟨H5, I5, q5⟩
theorem H9 : (sizeLine : Nat) < 2 ^ 63 := by rw [sizeLine_eq]; decide
theorem zG : iW X (binaryOp .Add) (fun x y H Q => ∃ i j, x = .str i ∧ y = .str j ∧ i.length + j.length ≤ sizeLine ∧ Q (.str (i ++ j)) H) := by
 intro pins s σ H x y v u Q I rx ry h
 obtain ⟨i, j, rfl, rfl, hz, q⟩ := h
 obtain ⟨t, rfl⟩ := rx
 obtain ⟨t', rfl⟩ := ry
 exact add_str (fun t' tk => ⟨.str (i ++ j), H, I.tok _, ⟨_, rfl⟩, q⟩) hz
theorem vals1 {x : V} {us : List Value} (r : Vals [x] us) : ∃ u, us = [u] ∧ RelV x u := by
 cases r with
 | cons r1 r2 => cases r2; exact ⟨_, rfl, r1⟩
theorem vals2 {x y : V} {us : List Value} (r : Vals [x, y] us) : ∃ u w', us = [u, w'] ∧ RelV x u ∧ RelV y w' := by
 cases r with
 | cons r1 r2 =>
   cases r2 with
   | cons r3 r4 => cases r4; exact ⟨_, _, rfl, r1, r3⟩
theorem QL : aU X (.builtin "abs") (fun xs H Q => ∃ i, xs = [.int i] ∧ Q (.int (if i < 0 then -i else i)) H) := by
 intro pins s σ H xs us Q I r h
 obtain ⟨i, rfl, q⟩ := h
 obtain ⟨u, rfl, t, rfl⟩ := vals1 r
 exact call_abs_int fun u tk => ⟨.int (if i < 0 then -i else i), H, I.tok _, ⟨_, rfl⟩, q⟩
theorem yW : aU X (.type "str") (fun xs H Q => ∃ i, xs = [.int i] ∧ i.natAbs.log2 < 1920 ∧ Q (.str (toString i)) H) := by
 intro pins s σ H xs us Q I r h
 obtain ⟨i, rfl, hz, q⟩ := h
 obtain ⟨u, rfl, t, rfl⟩ := vals1 r
 exact PySem.P.str_of_int hz ⟨.str _, H, I.tok _, ⟨_, rfl⟩, q⟩
end
end L2
namespace L2
open PySem PySem.Spec PyProof.Rows
structure TX (h : Heap) (x dx C : Addr) (mA : Str → Option Value) : Prop where
 obj : h.get? x = some (PySem.W.instObj C dx)
 ns : h.Ns1 dx mA
 ne : dx ≠ x
theorem Wr {h : Heap} {dx : Addr} {mA : Str → Option Value} (n : h.Ns1 dx mA) : ∃ od, h.get? dx = some od ∧ ∀ name, PySem.W.lookIn name od = some (mA name) := by
 obtain ⟨o, es, ep, ho, hd, hk, _, hm⟩ := n
 refine ⟨o, ho, fun name => ?_⟩
 have e := hm name
 unfold nsFind findBy at e
 rw [← Array.find?_toList] at e
 unfold PySem.W.lookIn
 rw [hd]
 dsimp only
 split
 · rename_i y q
   rw [q] at e
   exact congrArg some e
 · rename_i q
   rw [q] at e
   have a : es.toList.any (·.refKey) = false := by
     rw [List.any_eq_false]
     intro y hy
     obtain ⟨z, t, hkey⟩ := hk y (Array.mem_toList_iff.mp hy)
     simp [DictEntry.refKey, hkey]
   have a' : ¬ es.toList.any (·.refKey) = true := by rw [a]; exact Bool.false_ne_true
   rw [if_neg a']
   exact congrArg some e
theorem TX.look {h : Heap} {x dx C : Addr} {mA : Str → Option Value} (I : TX h x dx C mA) : ∃ od, PySem.W.InstAt h x (PySem.W.instObj C dx) C (some od) ∧ ∀ name, PySem.W.lookIn name od = some (mA name) :=
 let ⟨od, ho, hl⟩ := Wr I.ns
 ⟨od, ⟨I.obj, rfl, rfl, ho⟩, hl⟩
section
variable {prog : Program} {w : World} {A : Around} {E : Value → Shared → Prop} {s : Shared} {K : PySem.W.Frag} {x dx C f : Addr} {mA : Str → Option Value} {name : Str} {v : Value}
theorem get_map {expr : Bool} {Q : Value → Shared → Prop} (X : K.In s.heap) (I : TX s.heap x dx C mA) (hg : PySem.W.plainGet K C name = true) (hh : PySem.W.hasDictIn K C = true)
   (ha : PySem.W.findIn K (.ref C) name = some none) (hv : mA name = some v) (hv' : PySem.W.handedIn v = true) (h : Q v { s with toks := s.toks + 1 }) :
   wpAny (model prog w) A (getAttr (.ref x) name expr) Q E s := by
 obtain ⟨od, J, hl⟩ := I.look
 exact PySem.W.get_value X J (PySem.W.plainGet_of hg).1 (PySem.W.findObj_own hh ha rfl (by rw [hl, hv])) hv' h
theorem Yg {pl : Sem Bool} {Q : Value × List Value → Shared → Prop} (X : K.In s.heap) (I : TX s.heap x dx C mA) (hg : PySem.W.plainGet K C name = true)
   (hf : PySem.W.findIn K (.ref C) name = some (some (.ref f))) (ht : PySem.W.isFn K (.ref f) = true) (hv : mA name = none) (h : Q (.ref f, [.ref x]) s) :
   wpAny (model prog w) A (getMethod (.ref x) name pl) Q E s := by
 obtain ⟨od, J, hl⟩ := I.look
 exact PySem.W.method_fn X J (PySem.W.plainGet_of hg).1 (PySem.W.plainGet_of hg).2 hf (beq_iff_eq.mp ht) (by show (PySem.W.lookIn name od).map (·.isSome) = some false; rw [hl, hv]; rfl) h
theorem aaV {ns : List Str} {Q : Unit → Shared → Prop} (X : K.In s.heap) (I : TX s.heap x dx C mA)
   (hs : PySem.W.findIn K (.ref C) "__setattr__" = some (some (.builtin "object.__setattr__"))) (hp : PySem.W.plainOver K C = true) (ht : PySem.W.takerIn K C name = some none) (hh : PySem.W.hasDictIn K C = true)
   (hw : PySem.Within mA ns) (hsz : ns.length ≤ sizeLine)
   (h : ∀ h', TX h' x dx C (fun y => if y = name then some v else mA y) → Heap.SameBut dx s.heap h' → Q () { s with heap := h', toks := s.toks + 2 }) :
   wpAny (model prog w) A (setAttr (.ref x) name v) Q E s := by
 obtain ⟨od, J, hl⟩ := I.look
 refine PySem.W.set_plain X J hs (PySem.W.osa_open (s := { s with toks := s.toks + 1 }) (r := none) X J hp ht fun b => ?_)
 obtain ⟨cd, hc, hd'⟩ := PySem.W.any_some hh
 have hx : s.heap.get? x = some ⟨.ref C, some dx, .plain, #[]⟩ := I.obj
 refine wpAny_bind (wpAny_pure (wpAny_bind (wpAny_bind (wpAny_loadPart hx (wpAny_bind (PySem.W.Looks.here (s := { s with toks := s.toks + 1 }) (PySem.W.looks_clsIn X hc) ?_))))))
 rw [hd']
 refine wpAny_pure (a := some dx) (wpAny_bind (wpAny_pure (wpAny_bind ?_)))
 refine wpAny_nsSet1 (s := { s with toks := s.toks + 1 }) I.ns fun h' hn2 hs2 => ?_
 obtain ⟨oD, esD, epD, hoD, hdD, hcD⟩ := hn2.count (PySem.Within.cons name v hw)
 refine wpAny_bind (wpAny_lookBehind hoD (by rw [hdD]; exact pastItsLine_dict (Nat.le_trans hcD (by rw [List.length_cons]; omega))) ?_)
 exact wpAny_pure (h _ ⟨(hs2.2 _ (Ne.symm I.ne)).trans I.obj, hn2, I.ne⟩ hs2)
theorem Yh {R : Result → Shared → Prop} {vs : List Value} {kw : List (Str × Value)} (X : K.In s.heap) (hm : PySem.W.makesIn K C = true)
   (hi : PySem.W.findIn K (.ref C) "__init__" = some (some (.ref f))) (hf : PySem.W.typeIn K (.ref f) = some (.type "function"))
   (h : codeAny (model prog w) (A.under (.builtin "type.__call__" ⟨.ref C :: vs, kw⟩)) (.call (.ref f) ⟨.ref (s.heap.objs.size + 1) :: vs, kw⟩) (PySem.W.InitBack (s.heap.objs.size + 1) R)
     { s with heap := (s.heap.push PySem.W.emptyDict).push (PySem.W.instObj C s.heap.objs.size) }) :
   codeAny (model prog w) A (.call (.ref C) ⟨vs, kw⟩) R s := by
 obtain ⟨hh, g, d, t, os⟩ := s
 exact PySem.W.make_core (PySem.W.makes_of X hm) (PySem.W.looks_findIn X hi) (fun self => PySem.W.bind_fn X self hf) (.inl rfl) h
end
def j4 (f : Str) (v : V) : List (Str × V) → List (Str × V)
 | [] => [(f, v)]
 | (g, x) :: r => if g = f then (g, v) :: r else (g, x) :: j4 f v r
theorem Fi (f g : Str) (v : V) : ∀ fs : List (Str × V), (j4 f v fs).lookup g = if g = f then some v else fs.lookup g
 | [] => by
   show List.lookup g [(f, v)] = _
   by_cases h : g = f
   · have hb : (g == f) = true := beq_iff_eq.mpr h
     simp only [List.lookup, hb, if_pos h]
   · have hb : (g == f) = false := beq_eq_false_iff_ne.mpr h
     simp only [List.lookup, hb, if_neg h]
 | (k, x) :: r => by
   have ih := Fi f g v r
   rw [show j4 f v ((k, x) :: r) = (if k = f then (k, v) :: r else (k, x) :: j4 f v r) from rfl]
   by_cases hk : k = f
   · rw [if_pos hk]
     by_cases h : g = k
     · have hb : (g == k) = true := beq_iff_eq.mpr h
       simp only [List.lookup, hb, if_pos (h.trans hk)]
     · have hb : (g == k) = false := beq_eq_false_iff_ne.mpr h
       simp only [List.lookup, hb, if_neg (fun e : g = f => h (e.trans hk.symm))]
   · rw [if_neg hk]
     by_cases h : g = k
     · have hb : (g == k) = true := beq_iff_eq.mpr h
       simp only [List.lookup, hb, if_neg (fun e : g = f => hk (h.symm.trans e))]
     · have hb : (g == k) = false := beq_eq_false_iff_ne.mpr h
       simp only [List.lookup, hb]
       exact ih
theorem Ds (f : Str) (v : V) : ∀ fs : List (Str × V), f ∈ (j4 f v fs).map (·.1) ∧ ∀ g, g ∈ fs.map (·.1) → g ∈ (j4 f v fs).map (·.1)
 | [] => ⟨by simp [j4], fun g h => by simp at h⟩
 | (k, x) :: r => by
   obtain ⟨i1, i2⟩ := Ds f v r
   rw [show j4 f v ((k, x) :: r) = (if k = f then (k, v) :: r else (k, x) :: j4 f v r) from rfl]
   by_cases hk : k = f
   · rw [if_pos hk]
     subst hk
     exact ⟨by simp, fun g h => by simpa using h⟩
   · rw [if_neg hk]
     refine ⟨?_, fun g h => ?_⟩
     · rw [List.map_cons]
       exact List.mem_cons_of_mem _ i1
     · rw [List.map_cons] at h ⊢
       rcases List.mem_cons.mp h with e | e
       · exact List.mem_cons.mpr (.inl e)
       · exact List.mem_cons_of_mem _ (i2 g e)
theorem Fj (f : Str) (v : V) : ∀ fs : List (Str × V), (j4 f v fs).length ≤ fs.length + 1
 | [] => by simp [j4]
 | (k, x) :: r => by
   have ih := Fj f v r
   rw [show j4 f v ((k, x) :: r) = (if k = f then (k, v) :: r else (k, x) :: j4 f v r) from rfl]
   by_cases hk : k = f
   · rw [if_pos hk, List.length_cons, List.length_cons]; omega
   · rw [if_neg hk, List.length_cons, List.length_cons]; omega
theorem wW.some_of {v : V} {o : Option Value} (r : wW (some v) o) : ∃ u, o = some u ∧ RelV v u := by
 cases o with
 | none => exact (show False from r).elim
 | some u => exact ⟨u, rfl, r⟩
theorem wW.none_of {o : Option Value} (r : wW none o) : o = none := by
 cases o with
 | none => rfl
 | some u => exact (show False from r).elim
theorem Ws {v : V} {u : Value} (r : RelV v u) : PySem.W.handedIn u = true := by
 cases v with
 | non => cases (show u = Value.none from r); rfl
 | bl b => cases (show u = Value.bool b from r); rfl
 | int i => obtain ⟨t, e⟩ := (show ∃ t, u = Value.int i t from r); cases e; rfl
 | str x => obtain ⟨t, e⟩ := (show ∃ t, u = Value.str x t from r); cases e; rfl
 | Xz b => obtain ⟨t, e⟩ := (show ∃ t, u = Value.bytes b t from r); cases e; rfl
 | flt b => obtain ⟨t, e⟩ := (show ∃ t, u = Value.float b t from r); cases e; rfl
 | ref a => cases (show u = Value.ref a from r); rfl
 | ty n => cases (show u = Value.type n from r); rfl
section
variable {P : Program} {w : World} {H H' : Hp} {h h' : Heap} {a C dx : Addr} {fs fs' : List (Str × V)}
theorem Hv (hok : Ge P w H h) (e : H a = some (.ins C dx fs)) : ∃ mA, TX h a dx C mA ∧ (∀ f, wW (fs.lookup f) (mA f)) ∧ PySem.Within mA (fs.map (·.1)) ∧ fs.length ≤ 1000 ∧ H dx = some (.own a) := by
 obtain ⟨d, z, ne, ob, mA, n, r, q⟩ := (show iy P w H h a (.ins C dx fs) from hok a _ e)
 exact ⟨mA, ⟨ob, n, ne⟩, r, q, z, d⟩
end
structure yh (K : PySem.W.Frag) (C : Addr) : Prop where
 pg : PySem.W.plainGet K C Str.empty = true
 hd : PySem.W.hasDictIn K C = true
 po : PySem.W.plainOver K C = true
 sa : PySem.W.findIn K (.ref C) "__setattr__" = some (some (.builtin "object.__setattr__"))
theorem yh.get {K : PySem.W.Frag} {C : Addr} (c : yh K C) (f : Str) : PySem.W.plainGet K C f = true := c.pg
def aC (K : PySem.W.Frag) (C : Addr) (f : Str) : Prop := PySem.W.findIn K (.ref C) f = some none
theorem aC.taker {K : PySem.W.Frag} {C : Addr} {f : Str} (n : aC K C f) : PySem.W.takerIn K C f = some none := by
 unfold PySem.W.takerIn
 rw [show PySem.W.findIn K (.ref C) f = some none from n]
 rfl
structure Con (K : PySem.W.Frag) (C : Addr) (f : Str) (v : V) (u : Value) : Prop where
 at_ : PySem.W.findIn K (.ref C) f = some (some u)
 rel : RelV v u
 get : PySem.W.specialIn K u "__get__" = some none
 cp : PySem.W.copiedNames.contains f = false
structure Meth (K : PySem.W.Frag) (C : Addr) (m : Str) (f : Addr) : Prop where
 at_ : PySem.W.findIn K (.ref C) m = some (some (.ref f))
 fn : PySem.W.isFn K (.ref f) = true
 kp : PySem.W.keepIn K (.ref f) = true
section
variable {X : Cx} {pins : List (Addr × Obj)} {σ : St} {H : Hp} {s : Shared} {a C dx : Addr} {fs : List (Str × V)} {f : Str} {v : V} {A : Around} {E : Value → Shared → Prop}
theorem Ia {b : Bool} {Q : Value → Shared → Prop} (I : Inv X pins σ H s) (e : H a = some (.ins C dx fs)) (c : yh X.K C) (n : aC X.K C f) (l : fs.lookup f = some v)
   (h : ∀ u s', Inv X pins σ H s' → RelV v u → Q u s') : wpAny (model X.prog X.w) A (getAttr (.ref a) f b) Q E s := by
 obtain ⟨mA, O, r, _, _, _⟩ := Hv I.hok e
 obtain ⟨u, hu, ru⟩ := wW.some_of (v := v) (o := mA f) (by rw [← l]; exact r f)
 exact get_map I.Ht O (c.get f) c.hd n hu (Ws ru) (h u _ (I.tok _) ru)
theorem Ib {m : Str} {g : Addr} {pl : Sem Bool} {Q : Value × List Value → Shared → Prop} (I : Inv X pins σ H s) (e : H a = some (.ins C dx fs)) (c : yh X.K C) (k : Meth X.K C m g) (l : fs.lookup m = none)
   (h : Q (.ref g, [.ref a]) s) : wpAny (model X.prog X.w) A (getMethod (.ref a) m pl) Q E s := by
 obtain ⟨mA, O, r, _, _, _⟩ := Hv I.hok e
 have hn : mA m = none := wW.none_of (by rw [← l]; exact r m)
 exact Yg I.Ht O (c.get m) k.at_ k.fn hn h
theorem Ie {y : V} {u : Value} {Q : Unit → Shared → Prop} (I : Inv X pins σ H s) (e : H a = some (.ins C dx fs)) (c : yh X.K C) (n : aC X.K C f) (hl : fs.length < 1000) (ry : RelV y u)
   (h : ∀ s', Inv X pins σ (upd H a (.ins C dx (j4 f y fs))) s' → Q () s') : wpAny (model X.prog X.w) A (setAttr (.ref a) f u) Q E s := by
 obtain ⟨mA, O, r, wi, _, ho⟩ := Hv I.hok e
 have hz : (fs.map (·.1)).length ≤ sizeLine := by rw [List.length_map, sizeLine_eq]; omega
 refine aaV I.Ht O c.sa c.po n.taker c.hd wi hz fun h' O' sb => h _ ?_
 have hd : ∃ o, h'.get? dx = some o := let ⟨o, _, _, e', _⟩ := O'.ns; ⟨o, e'⟩
 refine I.write (x := a) (e := dx) (by rw [e]; exact True.intro) (.inr ho) (fun b q hb z => (sb.2 b hb).trans z) hd ?_
 refine ⟨by rw [zK O.ne]; exact ho, ?_, O.ne, O'.obj, _, O'.ns, fun g => ?_, fun g hg => ?_⟩
 · have := Fj f y fs; omega
 · show wW ((j4 f y fs).lookup g) (if g = f then some u else mA g)
   rw [Fi]
   by_cases q : g = f
   · rw [if_pos q, if_pos q]; exact ry
   · rw [if_neg q, if_neg q]; exact r g
 · by_cases q : g = f
   · rw [q]; exact (Ds f y fs).1
   · refine (Ds f y fs).2 g (wi g fun z => hg ?_)
     show (if g = f then some u else mA g) = none
     rw [if_neg q]; exact z
theorem Inv.made (I : Inv X pins σ H s) : Inv X pins σ (upd (upd H s.heap.objs.size (.own (s.heap.objs.size + 1))) (s.heap.objs.size + 1) (.ins C s.heap.objs.size []))
   { s with heap := (s.heap.push PySem.W.emptyDict).push (PySem.W.instObj C s.heap.objs.size) } := by
 have e1 : (s.heap.push PySem.W.emptyDict).get? s.heap.objs.size = some PySem.W.emptyDict := Heap.get?_push_size s.heap rfl
 have e2 : ((s.heap.push PySem.W.emptyDict).push (PySem.W.instObj C s.heap.objs.size)).get? (s.heap.objs.size + 1) = some (PySem.W.instObj C s.heap.objs.size) := by
   have := Heap.get?_push_size (s.heap.push PySem.W.emptyDict) (o := PySem.W.instObj C s.heap.objs.size) rfl
   rwa [Heap.size_push] at this
 have e3 : (s.heap.push PySem.W.emptyDict).Ns s.heap.objs.size (fun _ => none) := ⟨PySem.W.emptyDict, #[], _, e1, rfl, (fun e he => absurd he (by simp)), fun _ => rfl⟩
 have I1 := I.laid (a := s.heap.objs.size) (o := .own (s.heap.objs.size + 1)) (h' := s.heap.push PySem.W.emptyDict) (t' := s.toks) (fun b u q => Heap.get?_push_of_some _ q) (Nat.le_refl _) ⟨_, e1⟩
 refine I1.laid (a := s.heap.objs.size + 1) (o := .ins C s.heap.objs.size []) (t' := s.toks) (fun b u q => Heap.get?_push_of_some _ q) (Nat.le_of_eq (Heap.size_push _ _)) ?_
 have ne : s.heap.objs.size ≠ s.heap.objs.size + 1 := Nat.ne_of_lt (Nat.lt_succ_self _)
 refine ⟨by rw [zK ne, zE], Nat.zero_le _, ne, e2, fun _ => none, (Heap.Ns1.of_empty e3).at fun o q => Heap.get?_push_of_some _ q, fun _ => True.intro, fun y hy => absurd rfl hy⟩
theorem aaW {prog : Program} {w : World} {env : Env} {e : Expr} {f : Str} {pos : Pos} {s : Shared} {Q : Value → Shared → Prop} (hb : attributeBase e f env (eval e env) = eval e env)
   (h : wpAny (model prog w) A (eval e env) (fun o s₁ => wpAny (model prog w) A (getAttr o f true) Q E s₁) E s) : wpAny (model prog w) A (eval (.Attribute e f pos) env) Q E s :=
 Attribute_any_ h (by rw [arm_eval_Attribute, hb])
end
def auc (K : PySem.W.Frag) (ta : TE) (f : Str) : TE := fun σ H Q => ta σ H fun x H1 => ∃ a C dx fs v, x = .ref a ∧ H1 a = some (.ins C dx fs) ∧ yh K C ∧ aC K C f ∧ fs.lookup f = some v ∧ Q v H1
def aud (K : PySem.W.Frag) (ta tv : TE) (f : Str) : TS := fun D σ H => tv σ H fun y H1 => ta σ H1 fun x H2 => ∃ a C dx fs, x = .ref a ∧ H2 a = some (.ins C dx fs) ∧ yh K C ∧ aC K C f ∧ fs.length < 1000 ∧
 D.nx σ (upd H2 a (.ins C dx (j4 f y fs)))
def agq (X : Cx) (op : Operator) (rd : V → V → Hp → VK → Prop) : Prop :=
 ∀ (pins : List (Addr × Obj)) (s : Shared) (σ : St) (H : Hp) (x y : V) (u v : Value) (Q : VK), Inv X pins σ H s → RelV x u → RelV y v → rd x y H Q → wpAny (model X.prog X.w) X.A (inplaceOp op u v) (EP X pins σ Q) X.xe s
def aaX (K : PySem.W.Frag) (ta tv : TE) (rd : V → V → Hp → VK → Prop) (f : Str) : TS := fun D σ H => ta σ H fun x H1 => ∃ a C dx fs v, x = .ref a ∧ H1 a = some (.ins C dx fs) ∧ yh K C ∧ aC K C f ∧ fs.lookup f = some v ∧
 tv σ H1 fun y H2 => rd v y H2 fun z H3 => ∃ Hw fs', H3 a = some (.ins C Hw fs') ∧ fs'.length < 1000 ∧ D.nx σ (upd H3 a (.ins C Hw (j4 f z fs')))
section
variable {X : Cx} {o e value : Expr} {f : Str} {pos pos' tpos : Pos} {ta tv : TE}
theorem zX (he : PE X e ta) (hb : attributeBase e f X.env (eval e X.env) = eval e X.env) : PE X (.Attribute e f pos) (auc X.K ta f) := by
 intro pins s σ H Q I h
 refine aaW hb (eG (he pins s σ H _ I h) fun u s1 ⟨x, H1, I1, rx, a, C, dx, fs, v, ex, ea, c, n, l, q⟩ => ?_)
 subst ex
 obtain rfl : u = Value.ref a := rx
 exact Ia I1 ea c n l fun u' s2 I2 ru => ⟨v, H1, I2, ru, q⟩
theorem yK (ha : PE X o ta) (hv : PE X value tv) (hs : swapsWith value (some (.Attribute o f pos')) pos.line X.env = pure false) : PS X (.Assign [.Attribute o f pos'] value pos) (aud X.K ta tv f) := by
 intro pins s σ H D I h
 refine plainObj_wpAny_Assign_Attribute (eG (hv pins s σ H _ I h) fun u s1 ⟨y, H1, I1, ry, q⟩ => eG (ha pins s1 σ H1 _ I1 q) fun ov s2 ⟨x, H2, I2, rx, a, C, dx, fs, ex, ea, c, n, l, q2⟩ => ?_) hs
 subst ex
 obtain rfl : ov = Value.ref a := rx
 exact Ie I2 ea c n l ry fun s3 I3 => ⟨σ, _, I3, q2⟩
theorem Dt {op : Operator} {rd : V → V → Hp → VK → Prop} (ha : PE X o ta) (hv : PE X value tv) (hop : agq X op rd) : PS X (.AugAssign (.Attribute o f tpos) op value pos) (aaX X.K ta tv rd f) := by
 intro pins s σ H D I h
 refine wpAny_AugAssign_AttributeAny (eG (ha pins s σ H _ I h) fun ov s1 ⟨x, H1, I1, rx, a, C, dx, fs, v, ex, ea, c, n, l, q⟩ => ?_)
 subst ex
 obtain rfl : ov = Value.ref a := rx
 refine Ia I1 ea c n l fun u s2 I2 ru => eG (hv pins s2 σ H1 _ I2 q) fun w3 s3 ⟨y, H2, I3, ry, q3⟩ => eG (hop pins s3 σ H2 v y u w3 _ I3 ru ry q3) fun w4 s4 ⟨z, H3, I4, rz, Hw, fs', ea', l', q4⟩ => ?_
 exact Ie I4 ea' c n l' rz fun s5 I5 => ⟨σ, _, I5, q4⟩
def aue : V → V → Hp → VK → Prop := fun x y H Q => ∃ i j, x = .int i ∧ y = .int j ∧ Q (.int (i + j)) H
theorem TY : agq X .Add aue := by
 rintro pins s σ H x y u v Q I rx ry ⟨i, j, rfl, rfl, q⟩
 obtain ⟨t, rfl⟩ := (show ∃ t, u = Value.int i t from rx)
 obtain ⟨t', rfl⟩ := (show ∃ t', v = Value.int j t' from ry)
 exact PyProof.Rows.iadd_int ⟨.int (i + j), H, I.tok _, ⟨_, rfl⟩, q⟩
end
section
variable {X : Cx} {pins : List (Addr × Obj)} {σ : St} {H : Hp} {s : Shared} {A : Around} {E : Value → Shared → Prop} {Q : Value → Shared → Prop} {c : Value} {b : Bool}
inductive au (K : PySem.W.Frag) (H : Hp) : V → Value → Prop where
 | non : au K H .non (.type "NoneType")
 | bl (x : Bool) : au K H (.bl x) (.type "bool")
 | int (i : Int) : au K H (.int i) (.type "int")
 | str (x : Str) : au K H (.str x) (.type "str")
 | flt (x : UInt64) : au K H (.flt x) (.type "float")
 | lst {a : Addr} {xs : List V} (e : H a = some (.lst xs)) : au K H (.ref a) (.type "list")
 | Qy {a : Addr} {o : Obj} {xs : List V} (e : H a = some (.Qy o (.lst xs))) : au K H (.ref a) (.type "list")
 | tup {a : Addr} {xs : List V} (e : H a = some (.tup xs)) : au K H (.ref a) (.type "tuple")
 | dK {a : Addr} {kvs : List (Key × V)} (e : H a = some (.dK kvs)) : au K H (.ref a) (.type "dict")
 | dT {a : Addr} {kvs : List (List Key × V)} (e : H a = some (.dT kvs)) : au K H (.ref a) (.type "dict")
 | ins {a C dx : Addr} {fs : List (Str × V)} (e : H a = some (.ins C dx fs)) (cl : yh K C) (ha : PySem.W.findIn K (.ref C) "__class__" = some (some (.builtin "object.__class__")))
     (hn : PySem.W.specialIn K (.builtin "object.__class__") "__get__" = some (some (.builtin "getset_descriptor.__get__"))) (htk : PySem.W.takesIn K (.builtin "object.__class__") = some true)
     (hm : PySem.W.mroIn K C (.type "object") = some true) : au K H (.ref a) (.ref C)
end
end L2
namespace L2
open PySem PySem.Spec PyProof.Rows
structure gw (k : Nat) (A : Around) : Prop where
 hd : A.handled = none
 dp : A.depth + 3 * k + 5 < recursionLimit
 un : A.units + 16 * k + 200 < cLine
theorem gw.mono {j k : Nat} {A : Around} (r : gw k A) (h : j ≤ k) : gw j A := ⟨r.hd, by have := r.dp; omega, by have := r.un; omega⟩
theorem gw.deeper {k : Nat} {A : Around} (r : gw (k + 1) A) (env : Env) : gw k (A.deeper env) :=
 ⟨r.hd, by have := r.dp; show A.depth + 1 + 3 * k + 5 < _; omega, by have := r.un; show A.units + 3 + 16 * k + 200 < _; omega⟩
theorem gw.in1 {k : Nat} {A : Around} (r : gw (k + 1) A) : gw k A.in1 :=
 ⟨r.hd, by have := r.dp; show A.depth + 3 * k + 5 < _; omega, by have := r.un; show A.units + 1 + 16 * k + 200 < _; omega⟩
theorem T3 {A : Around} {C : Addr} {us : List Value} {kw : List (Str × Value)} : (A.under (.builtin "type.__call__" ⟨.ref C :: us, kw⟩)).depth = A.depth + 1 := by
 first | rfl | simp [Around.under, Code.weight, Code.isCreation, Code.isGuard, Code.isCaller, Code.frames, Code.isFrame, guardIds]
theorem T4 {A : Around} {C : Addr} {us : List Value} {kw : List (Str × Value)} : (A.under (.builtin "type.__call__" ⟨.ref C :: us, kw⟩)).units = A.units + 1 := by
 first | rfl | simp [Around.under, Code.cUnits, Code.frames, Code.isFrame]
theorem gw.make {k : Nat} {A : Around} (r : gw (k + 1) A) (C : Addr) (us : List Value) (kw : List (Str × Value)) : gw k (A.under (.builtin "type.__call__" ⟨.ref C :: us, kw⟩)) :=
 ⟨r.hd, by have := r.dp; rw [T3]; omega, by have := r.un; rw [T4]; omega⟩
theorem gw.depth {k : Nat} {A : Around} (r : gw k A) : A.depth < recursionLimit := by have := r.dp; omega
theorem gw.units {k : Nat} {A : Around} (r : gw k A) : A.units + 64 < cLine := by have := r.un; omega
def tW : TA := fun _ H Q => Q [] H
def agr (ta : TE) (tr : TA) : TA := fun σ H Q => ta σ H fun x H1 => tr σ H1 fun xs H2 => Q (x :: xs) H2
section
variable {X : Cx} {e : Expr} {es : List Expr} {te : TE} {t : TA} {pos : Pos}
theorem zB : PA X [] tW := fun _ _ _ _ H Q I h => Calls.spliced_nil ⟨[], H, I, .nil, h⟩
theorem zA (ha : PE X e te) (hr : PA X es t) (hs : starEach (e :: es) X.env = (false, eval e X.env) :: starEach es X.env := by rfl) : PA X (e :: es) (agr te t) := by
 intro pos pins s σ H Q I h
 rw [hs]
 show wpAny _ _ (spliced ((false, eval e X.env) :: backTo pos (starEach es X.env))) _ _ s
 refine Calls.spliced_cons (eG (ha pins s σ H _ I h) fun u s1 ⟨x, H1, I1, r1, q1⟩ => ?_)
 exact eG (hr pos pins s1 σ H1 _ I1 q1) fun us s2 ⟨xs, H2, I2, r2, q2⟩ => ⟨x :: xs, H2, I2, .cons r1 r2, q2⟩
def auf (t : TA) : TE := fun σ H Q => t σ H fun xs H1 => xs.length ≤ sizeLine ∧ ∀ p, H1 p = none → Q (.ref p) (upd H1 p (.tup xs))
def auh (t : TA) : TE := fun σ H Q => t σ H fun xs H1 => xs.length ≤ sizeLine ∧ ∀ p, H1 p = none → Q (.ref p) (upd H1 p (.lst xs))
theorem T5 {x1} (h : PA X es t) : PE X (.Tuple es x1 pos) (auf t) := by
 intro pins s σ H Q I hq
 refine wpAny_Tuple_spliced (eG (h pos pins s σ H _ I hq) fun us s1 ⟨xs, H1, I1, r, z, q⟩ => ⟨by rw [← r.length]; exact z, ?_⟩)
 have hf : H1 s1.heap.objs.size = none := I1.hok.fresh (Nat.le_refl _)
 refine ⟨.ref s1.heap.objs.size, upd H1 s1.heap.objs.size (.tup xs), I1.laid (t' := s1.toks) (fun b u e => Heap.get?_push_of_some _ e) (Nat.le_refl _) ?_, rfl, q _ hf⟩
 exact ⟨z, us, r, ⟨_, Heap.get?_push_size _ rfl, rfl, _, rfl⟩⟩
theorem xF (h : PA X es t) : PE X (.List es pos) (auh t) := by
 intro pins s σ H Q I hq
 refine wpAny_List_spliced (eG (h pos pins s σ H _ I hq) fun us s1 ⟨xs, H1, I1, r, z, q⟩ => ⟨by rw [← r.length]; exact z, ?_⟩)
 have hf : H1 s1.heap.objs.size = none := I1.hok.fresh (Nat.le_refl _)
 refine ⟨.ref s1.heap.objs.size, upd H1 s1.heap.objs.size (.lst xs), I1.laid (t' := s1.toks) (fun b u e => Heap.get?_push_of_some _ e) (Nat.le_refl _) ?_, rfl, q _ hf⟩
 exact ⟨z, us, 0, r, Heap.get?_push_size _ rfl⟩
end
abbrev Sp := List V → Hp → VK → XK → Prop
abbrev Hx := List Env → Hp → Shared → XK → Value → Shared → Prop
structure Ig (P : Program) (w : World) (K : PySem.W.Frag) (mg : Str → Option Value) (base : Heap) (A : Around) (outer : List Env) (s : Shared) (H : Hp) : Prop where
 frames : A.frames = some outer
 mod : Mod K mg base
 bs : ∀ b o, base.get? b = some o → s.heap.get? b = some o ∧ H b = none
 XR : base.objs.size ≤ s.heap.objs.size
 zz : s.heap.FunFrames base outer
 frf : ∀ b ∈ frs outer, H b = none
 hok : Ge P w H s.heap
 bare : AllBare s.gens
def CE (outer : List Env) (P : Program) (w : World) (H : Hp) (s : Shared) (Q : VK) (u : Value) (s' : Shared) : Prop :=
 ∃ v H', s'.os = s.os ∧ AllBare s'.gens ∧ Un (frs outer) [] H H' s.heap s'.heap ∧ Ge P w H' s'.heap ∧ RelV v u ∧ Q v H'
def CR (CX : Hx) (outer : List Env) (P : Program) (w : World) (H : Hp) (s : Shared) (Q : VK) (E : XK) (r : Result) (s' : Shared) : Prop :=
 match r with
 | .ok (.ret u) => CE outer P w H s Q u s'
 | .ok _ => False
 | .error e => CX outer H s E e s'
structure aB (P : Program) (w : World) (K : PySem.W.Frag) (mg : Str → Option Value) (base : Heap) (CX : Hx) (k : Nat) (f : Addr) (fd : FuncData) (ps : List Str) (sp : Sp) : Prop where
 len : ∀ vs H Q E, sp vs H Q E → vs.length = ps.length
 run : ∀ (A : Around) (outer : List Env) (s : Shared) (H : Hp) (args : Args) (us : List Value) (vs : List V) (Q : VK) (E : XK), gw k A → Ig P w K mg base A outer s H → BindsTo s fd args (ps.zip us) → Vals vs us → sp vs H Q E →
   codeAny (model P w) A (.call (.ref f) args) (CR CX outer P w H s Q E) s
theorem aB.mono {P : Program} {w : World} {K : PySem.W.Frag} {mg : Str → Option Value} {base : Heap} {CX : Hx} {j k : Nat} {f : Addr} {fd : FuncData} {ps : List Str} {sp : Sp} (F : aB P w K mg base CX j f fd ps sp) (h : j ≤ k) :
   aB P w K mg base CX k f fd ps sp := ⟨F.len, fun A outer s H args us vs Q E hr => F.run A outer s H args us vs Q E (hr.mono h)⟩
theorem aB.imp {P : Program} {w : World} {K : PySem.W.Frag} {mg : Str → Option Value} {base : Heap} {CX : Hx} {k : Nat} {f : Addr} {fd : FuncData} {ps : List Str} {sp sp' : Sp} (F : aB P w K mg base CX k f fd ps sp)
   (h : ∀ vs H Q E, sp' vs H Q E → sp vs H Q E) : aB P w K mg base CX k f fd ps sp' :=
 ⟨fun vs H Q E q => F.len vs H Q E (h _ _ _ _ q), fun A outer s H args us vs Q E hr he hb hv hs => F.run A outer s H args us vs Q E hr he hb hv (h _ _ _ _ hs)⟩
theorem Ig.make {P : Program} {w : World} {K : PySem.W.Frag} {mg : Str → Option Value} {base : Heap} {A : Around} {outer : List Env} {s : Shared} {H : Hp} (e : Ig P w K mg base A outer s H) (C : Addr) (us : List Value) (kw : List (Str × Value)) :
   Ig P w K mg base (A.under (.builtin "type.__call__" ⟨.ref C :: us, kw⟩)) outer s H := ⟨by first | exact e.frames | (simpa [Around.under, Code.envs, Code.isFrame, pushEnvs] using e.frames), e.mod, e.bs, e.XR, e.zz, e.frf, e.hok, e.bare⟩
theorem Ig.in1 {P : Program} {w : World} {K : PySem.W.Frag} {mg : Str → Option Value} {base : Heap} {A : Around} {outer : List Env} {s : Shared} {H : Hp} (e : Ig P w K mg base A outer s H) :
   Ig P w K mg base A.in1 outer s H := ⟨e.frames, e.mod, e.bs, e.XR, e.zz, e.frf, e.hok, e.bare⟩
section
variable {X : Cx} {pins : List (Addr × Obj)} {σ : St} {H : Hp} {s s' : Shared}
theorem Inv.env0 (I : Inv X pins σ H s) : Ig X.prog X.w X.K X.mg X.base X.A X.stack s H :=
 ⟨I.ok.frames, I.ok.mod, I.bs, Nat.le_trans I.ok.XR I.sz, I.stack, I.Oi, I.hok, I.bare⟩
theorem Inv.after {Q : VK} {u : Value} (I : Inv X pins σ H s) (h : CE X.stack X.prog X.w H s Q u s') : EP X pins σ Q u s' := by
 obtain ⟨v, H', os, bare, un, hok, r, q⟩ := h
 obtain ⟨hh, g, d, t, os'⟩ := s'
 obtain rfl : os' = s.os := os
 exact ⟨v, H', I.call (h' := hh) (g' := g) (d' := d) (t' := t) (ch := []) un hok bare (fun b z => absurd z (by simp)), r, q⟩
end
def Yi (sp : Sp) (oK : List V) (E : XK) (t : TA) : TE := fun σ H Q => t σ H fun vs H1 => sp (vs ++ oK) H1 Q E
def acg (C : Addr) (sp : Sp) (oK : List V) (E : XK) (t : TA) : TE := fun σ H Q => t σ H fun vs H1 => ∀ x dx, H1 x = none → H1 dx = none → dx ≠ x →
 sp (.ref x :: (vs ++ oK)) (upd (upd H1 dx (.own x)) x (.ins C dx [])) (fun v H2 => v = .non ∧ Q (.ref x) H2) E
def Binds (K : PySem.W.Frag) (fd : FuncData) (ps : List Str) (ds : List Value) : Prop :=
 ∀ (s : Shared) (us : List Value), K.In s.heap → (us ++ ds).length = ps.length → BindsTo s fd ⟨us, []⟩ (ps.zip (us ++ ds))
theorem Binds.all {K : PySem.W.Frag} {fd : FuncData} {ps : List Str} (h : ∀ us : List Value, us.length = ps.length → bindArgs fd ⟨us, []⟩ = pure (ps.zip us)) : Binds K fd ps [] := fun s us _ hl => by
 rw [List.append_nil] at hl ⊢
 exact .of_eq (h us hl)
def Passes (CX : Hx) (X : Cx) (E : XK) : Prop := ∀ (pins : List (Addr × Obj)) (σ : St) (H : Hp) (s : Shared) (e : Value) (s' : Shared), Inv X pins σ H s → CX X.stack H s E e s' → X.xe e s'
section
variable {X : Cx} {CX : Hx} {k : Nat} {f C : Addr} {fd : FuncData} {ps : List Str} {sp : Sp} {oK : List V} {ds : List Value} {E : XK} {x m : Str} {p pos apos : Pos} {e o : Expr} {es : List Expr} {ta : TE} {t : TA}
theorem Ol {pins : List (Addr × Obj)} {σ : St} {H : Hp} {s : Shared} {Q : VK} {us : List Value} {vs : List V} (F : aB X.prog X.w X.K X.mg X.base CX k f fd ps sp) (hr : gw k X.A) (hb : Binds X.K fd ps ds) (hd : Vals oK ds) (hx : Passes CX X E)
   (I : Inv X pins σ H s) (r : Vals vs us) (h : sp (vs ++ oK) H Q E) : wpAny (model X.prog X.w) X.A (call (.ref f) us) (EP X pins σ Q) X.xe s := by
 have r2 : Vals (vs ++ oK) (us ++ ds) := r.append hd
 have hl : (us ++ ds).length = ps.length := by rw [← r2.length]; exact F.len _ _ _ _ h
 refine wpAny_call (codeAny_mono (F.run X.A X.stack s H ⟨us, []⟩ (us ++ ds) (vs ++ oK) Q E hr I.env0 (hb s us I.Ht hl) r2 h) fun r s' hq => ?_)
 cases r with
 | error e => exact hx pins σ H s e s' I hq
 | ok fl =>
   cases fl with
   | ret u => exact I.after hq
   | next => exact False.elim hq
   | brk => exact False.elim hq
   | cont => exact False.elim hq
theorem zN (F : aB X.prog X.w X.K X.mg X.base CX k f fd ps sp) (hr : gw k X.A) (hg : Gl X x) (hm : X.mg x = some (.ref f)) (hk : PySem.W.keepIn X.K (.ref f) = true) (hb : Binds X.K fd ps ds) (hd : Vals oK ds) (hx : Passes CX X E)
   (ha : PA X (e :: es) t) (hdb : (x == ("__debug__" : Str)) = false := by decide) (he : starEach (e :: es) X.env = (false, eval e X.env) :: starEach es X.env := by rfl) (hpl : (backTo pos (starEach es X.env)).any (·.1) = false := by rfl) :
   PE X (.Call (.Name x p) (e :: es) [] pos) (Yi sp oK E t) := by
 intro pins s σ H Q I h
 refine wpAny_Call_Name_kw (oH I hg hm ?_ hdb)
 refine PySem.W.callWith_K (h₀ := X.base) I.ok.mod.kin hk (eG (ha pos pins s σ H _ I h) fun us s1 ⟨vs, H1, I1, r, q⟩ => ⟨I1.Ht, ?_⟩) he hpl
 exact Ol F hr hb hd hx I1 r q
structure Mk (K : PySem.W.Frag) (C f : Addr) : Prop where
 makes : PySem.W.makesIn K C = true
 init : PySem.W.findIn K (.ref C) "__init__" = some (some (.ref f))
 fn : PySem.W.isFn K (.ref f) = true
 kp : PySem.W.keepIn K (.ref C) = true
theorem QM {pins : List (Addr × Obj)} {σ : St} {H : Hp} {s : Shared} {Q : VK} {us : List Value} {vs : List V} (M : Mk X.K C f) (F : aB X.prog X.w X.K X.mg X.base CX k f fd ps sp) (hr : gw (k + 1) X.A) (hb : Binds X.K fd ps ds) (hd : Vals oK ds)
   (hx : Passes CX X E) (I : Inv X pins σ H s) (r : Vals vs us)
   (h : ∀ x dx, H x = none → H dx = none → dx ≠ x → sp (.ref x :: (vs ++ oK)) (upd (upd H dx (.own x)) x (.ins C dx [])) (fun v H2 => v = .non ∧ Q (.ref x) H2) E) :
   wpAny (model X.prog X.w) X.A (call (.ref C) us) (EP X pins σ Q) X.xe s := by
 have hq := h (s.heap.objs.size + 1) s.heap.objs.size (I.hok.fresh (Nat.le_succ _)) (I.hok.fresh (Nat.le_refl _)) (Nat.ne_of_lt (Nat.lt_succ_self _))
 have I2 := Inv.made (C := C) I
 have r2 : Vals (V.ref (s.heap.objs.size + 1) :: (vs ++ oK)) (Value.ref (s.heap.objs.size + 1) :: (us ++ ds)) := .cons rfl (r.append hd)
 have hl : (Value.ref (s.heap.objs.size + 1) :: us ++ ds).length = ps.length := by
   have e := r2.length
   rw [F.len _ _ _ _ hq] at e
   exact e.symm
 refine wpAny_call (Yh (f := f) I.Ht M.makes M.init (beq_iff_eq.mp M.fn) (codeAny_mono (F.run _ X.stack _ _ ⟨Value.ref (s.heap.objs.size + 1) :: us, []⟩ (Value.ref (s.heap.objs.size + 1) :: (us ++ ds)) _ _ E (hr.make C us [])
   (I2.env0.make C us []) (hb _ (Value.ref (s.heap.objs.size + 1) :: us) I2.Ht hl) r2 hq) fun r s' hq' => ?_))
 cases r with
 | error e => exact hx pins σ _ _ e s' I2 hq'
 | ok fl =>
   cases fl with
   | ret u =>
     obtain ⟨v, H', I3, rv, ev, q3⟩ := I2.after hq'
     subst ev
     exact ⟨rv, ⟨V.ref (s.heap.objs.size + 1), H', I3, rfl, q3⟩⟩
   | next => exact False.elim hq'
   | brk => exact False.elim hq'
   | cont => exact False.elim hq'
theorem xG (M : Mk X.K C f) (F : aB X.prog X.w X.K X.mg X.base CX k f fd ps sp) (hr : gw (k + 1) X.A) (hg : Gl X x) (hm : X.mg x = some (.ref C)) (hb : Binds X.K fd ps ds) (hd : Vals oK ds) (hx : Passes CX X E)
   (ha : PA X (e :: es) t) (hdb : (x == ("__debug__" : Str)) = false := by decide) (he : starEach (e :: es) X.env = (false, eval e X.env) :: starEach es X.env := by rfl) (hpl : (backTo pos (starEach es X.env)).any (·.1) = false := by rfl) :
   PE X (.Call (.Name x p) (e :: es) [] pos) (acg C sp oK E t) := by
 intro pins s σ H Q I h
 refine wpAny_Call_Name_kw (oH I hg hm ?_ hdb)
 refine PySem.W.callWith_K (h₀ := X.base) I.ok.mod.kin M.kp (eG (ha pos pins s σ H _ I h) fun us s1 ⟨vs, H1, I1, r, q⟩ => ⟨I1.Ht, ?_⟩) he hpl
 exact QM M F hr hb hd hx I1 r q
theorem QQ (M : Mk X.K C f) (F : aB X.prog X.w X.K X.mg X.base CX k f fd ps sp) (hr : gw (k + 1) X.A) (hg : Gl X x) (hm : X.mg x = some (.ref C)) (hb : Binds X.K fd ps ds) (hd : Vals oK ds) (hx : Passes CX X E)
   (hdb : (x == ("__debug__" : Str)) = false := by decide) : PE X (.Call (.Name x p) [] [] pos) (acg C sp oK E tW) := by
 intro pins s σ H Q I h
 refine wpAny_Call_Name_kw (oH I hg hm ?_ hdb)
 exact PySem.W.callWith_K0 I.Ht M.kp (QM (us := []) M F hr hb hd hx I .nil h)
end
section
variable {X : Cx} {CX : Hx} {k : Nat} {f C : Addr} {fd : FuncData} {ps ks : List Str} {sp : Sp} {E : XK} {x m : Str} {p pos apos aEm : Pos} {e o : Expr} {es : List Expr} {kws : List Keyword} {te ta : TE} {t tk : TA} {nm : Option Str}
structure aui (K : PySem.W.Frag) (fd : FuncData) (ps ks : List Str) (g : List Value → List Value → List Value) (gV : List V → List V → List V) : Prop where
 to : ∀ (s : Shared) (us ws : List Value), K.In s.heap → (g us ws).length = ps.length → BindsTo s fd ⟨us, ks.zip ws⟩ (ps.zip (g us ws))
 rel : ∀ {vs : List V} {us : List Value} {zs : List V} {ws : List Value}, Vals vs us → Vals zs ws → Vals (gV vs zs) (g us ws)
variable {g : List Value → List Value → List Value} {gV : List V → List V → List V}
end
structure aq (N P : List Str) (sc : Scope) : Prop where
 kind : sc.kind = .function
 co : sc.isCoroutine = false
 gen : sc.isGenerator = false
 nd : N.Nodup
 pre : N.take P.length = P
 par : ∀ x ∈ P, sc.names.lookup x = some .local ∨ sc.names.lookup x = some .cell
 ade : ∀ y ∈ sc.names, y.2 ≠ .free
theorem Nh {kindOf : Str → Option NameKind} {x : Str} : ∀ {binds : List (Str × Value)} {m : Str → Option Value}, (∀ v, (x, v) ∉ binds) → bindL kindOf binds m x = m x
 | [], _, _ => rfl
 | (n, v) :: r, m, h => by
   unfold bindL
   rw [Nh fun w hw => h w (List.mem_cons_of_mem _ hw)]
   split
   · have : x ≠ n := by rintro rfl; exact h v List.mem_cons_self
     simp [this]
   · rfl
theorem Ni {kindOf : Str → Option NameKind} {x : Str} : ∀ {binds : List (Str × Value)} {m : Str → Option Value}, (∀ v, (x, v) ∉ binds) → bindC kindOf binds m x = m x
 | [], _, _ => rfl
 | (n, v) :: r, m, h => by
   unfold bindC
   rw [Ni fun w hw => h w (List.mem_cons_of_mem _ hw)]
   split
   · rfl
   · have : x ≠ n := by rintro rfl; exact h v List.mem_cons_self
     simp [this]
theorem Nj {kindOf : Str → Option NameKind} {x : Str} {v : Value} : ∀ {P : List Str} {vs : List Value} {i : Nat} {m : Str → Option Value}, P.Nodup → P[i]? = some x → vs[i]? = some v → kindOf x = some .local →
   bindL kindOf (P.zip vs) m x = some v
 | [], _, _, _, _, h, _, _ => by simp at h
 | _ :: _, [], _, _, _, _, h, _ => by simp at h
 | p :: P, w :: vs, 0, m, nd, h1, h2, hk => by
   simp at h1 h2; subst h1; subst h2
   show bindL kindOf ((p, w) :: P.zip vs) m p = _
   unfold bindL
   rw [Nh fun v hv => (List.nodup_cons.mp nd).1 (List.of_mem_zip hv).1, if_pos hk]
   simp
 | p :: P, w :: vs, i + 1, m, nd, h1, h2, hk => by
   show bindL kindOf ((p, w) :: P.zip vs) m x = _
   unfold bindL
   exact Nj (i := i) (List.nodup_cons.mp nd).2 (by simpa using h1) (by simpa using h2) hk
theorem Nk {kindOf : Str → Option NameKind} {x : Str} {v : Value} : ∀ {P : List Str} {vs : List Value} {i : Nat} {m : Str → Option Value}, P.Nodup → P[i]? = some x → vs[i]? = some v → kindOf x ≠ some .local →
   bindC kindOf (P.zip vs) m x = some v
 | [], _, _, _, _, h, _, _ => by simp at h
 | _ :: _, [], _, _, _, _, h, _ => by simp at h
 | p :: P, w :: vs, 0, m, nd, h1, h2, hk => by
   simp at h1 h2; subst h1; subst h2
   show bindC kindOf ((p, w) :: P.zip vs) m p = _
   unfold bindC
   rw [Ni fun v hv => (List.nodup_cons.mp nd).1 (List.of_mem_zip hv).1, if_neg hk]
   simp
 | p :: P, w :: vs, i + 1, m, nd, h1, h2, hk => by
   show bindC kindOf ((p, w) :: P.zip vs) m x = _
   unfold bindC
   exact Nk (i := i) (List.nodup_cons.mp nd).2 (by simpa using h1) (by simpa using h2) hk
def start (N : List Str) (vs : List V) : St := vs.map some ++ List.replicate (N.length - vs.length) none
def kZ (CX : Hx) (P : Program) (w : World) (K : PySem.W.Frag) (mg : Str → Option Value) (base : Heap) (N : List Str) (qual : Str) (scope : Scope) (f : Addr) (cd : Value) (A : Around) (outer : List Env) (s : Shared) (H : Hp) (E : XK) : Cx where
 prog := P
 w := w
 K := K
 mg := mg
 base := base
 A := A.deeper (envOfC qual scope s.heap.objs.size f cd)
 N := N
 s₀ := s
 H₀ := H
 env := envOfC qual scope s.heap.objs.size f cd
 outer := outer
 stack := envOfC qual scope s.heap.objs.size f cd :: outer
 ex := []
 calm := true
 fn := fun _ => true
 pn := []
 xe := fun e s' => wpAny (model P w) (A.deeper (envOfC qual scope s.heap.objs.size f cd)) (leaving (envOfC qual scope s.heap.objs.size f cd) e) (fun _ s'' => CX outer H s E e s'') (fun e' s'' => CX outer H s E e' s'') s'
theorem QR {sc : Scope} {n : Nat} {x : Str} (h : sc.names.lookup x = some .cell) : ∃ c, (cellsFrom n sc.names []).lookup x = some c := by
 have q := PySem.W.cellsFrom_some sc.names n [] (.inl h)
 exact Option.isSome_iff_exists.mp q
theorem Nm {CX : Hx} {P : Program} {w : World} {K : PySem.W.Frag} {mg : Str → Option Value} {base : Heap} {N ps : List Str} {qual : Str} {scope : Scope} {f : Addr} {cd : Value} {A : Around} {outer : List Env} {s s1 : Shared} {H : Hp} {E : XK} {us : List Value} {vs : List V}
   (S : aq N ps scope) (hd : A.handled = none) (e0 : Ig P w K mg base A outer s H) (hl : vs.length = ps.length) (r : Vals vs us)
   (x : InCallC s s.heap.objs.size (bindL (envOfC qual scope s.heap.objs.size f cd).kindOf (ps.zip us) fun _ => none) (cellsFrom (s.heap.objs.size + 1) scope.names []) (bindC (envOfC qual scope s.heap.objs.size f cd).kindOf (ps.zip us) fun _ => none) s1) :
   Inv (kZ CX P w K mg base N qual scope f cd A outer s H E) [] (start N vs) H s1 := by
 have hpl : ps.length ≤ N.length := by have := congrArg List.length S.pre; rw [List.length_take] at this; omega
 obtain ⟨h1, tk, rfl, hk⟩ := x.done
 have noA : ∀ b : Addr, b ∉ (kZ CX P w K mg base N qual scope f cd A outer s H E).ex := fun b z => absurd (show b ∈ ([] : List Addr) from z) (by simp)
 refine ⟨⟨e0.mod, S.kind, rfl, rfl, Nat.le_refl _, fun y z c h1 h2 => ?_, fun y hy => ?_, fun y c _ h => ?_, fun _ => hd, Around.frames_deeper e0.frames, .inr ⟨rfl, rfl⟩, fun b z => absurd z (noA b), e0.bs, e0.XR, fun b _ _ => noA b, fun b z => absurd z (noA b), e0.zz, e0.frf⟩,
   rfl, e0.bare, Un.kept hk, ⟨_, x.toInCall.ns, fun i y v h1 h2 h3 => ?_⟩, fun y c h => ⟨_, x.cell y c h⟩, e0.hok.fresh (Nat.le_refl _), fun y c h => ?_, fun p hp => absurd (show p ∈ ([] : List (Addr × Obj)) from hp) (by simp), e0.hok.kept hk, ?_⟩
 · exact name_of_addr x.apart (PySem.mem_of_lookup h1) (PySem.mem_of_lookup h2)
 · have hy : scope.names.lookup y = some .cell ∨ scope.names.lookup y = some .free := hy
   rcases hy with hy | hy
   · exact QR hy
   · exact absurd rfl (S.ade _ (PySem.mem_of_lookup hy))
 · exact Nat.le_of_lt (x.above y c (PySem.mem_of_lookup h))
 · have hi : i < vs.length := by
     unfold start at h2
     by_cases hi : i < vs.length
     · exact hi
     · rw [List.getElem?_append_right (by simpa using hi)] at h2
       rw [List.getElem?_replicate] at h2
       split at h2 <;> cases h2
   have ha : vs[i]? = some v := by
     unfold start at h2
     rw [List.getElem?_append_left (by simpa using hi), List.getElem?_map] at h2
     cases e : vs[i]? with
     | none => rw [e] at h2; cases h2
     | some a => rw [e] at h2; cases h2; rfl
   obtain ⟨u, hu, rv⟩ := r.get ha
   have hp : ps[i]? = some y := by
     rw [← S.pre, List.getElem?_take_of_lt (by omega)]; exact h1
   have ndP : ps.Nodup := by rw [← S.pre]; exact S.nd.sublist (List.take_sublist _ _)
   refine ⟨u, rv, ?_⟩
   rcases S.par y (List.mem_of_getElem? hp) with k | k
   · exact .inl ⟨k, Nj ndP hp hu k⟩
   · obtain ⟨c, e⟩ := QR (n := s.heap.objs.size + 1) k
     refine .inr ⟨.inl k, c, e, ?_⟩
     have q := x.cell y c e
     rw [Nk ndP hp hu (by show scope.names.lookup y ≠ _; rw [k]; decide)] at q
     exact q
 · exact e0.hok.fresh (Nat.le_of_lt (x.above y c (PySem.mem_of_lookup h)))
 · unfold start
   show _ = N.length
   rw [List.length_append, List.length_map, List.length_replicate]
   omega
theorem Vq {CX : Hx} {P : Program} {w : World} {K : PySem.W.Frag} {mg : Str → Option Value} {base : Heap} {k : Nat} {f : Addr} {name qual : Str} {params : Arguments} {body : List Stmt} {scope : Scope} {dV kV doc pm cdv ct oc : Value} {an od : Option Addr}
   {osl : Array (Option Value)} {N ps : List Str} {sp : Sp} (lk : K.lookup f = some ⟨oc, od, .func (PySem.W.fnOf name qual params body scope dV kV doc pm an cdv ct), osl⟩) (hcd : PySem.W.codeIn K cdv qual = true) (S : aq N ps scope)
   (len : ∀ vs H Q E, sp vs H Q E → vs.length = ps.length)
   (hbody : ∀ (A : Around) (outer : List Env) (s : Shared) (H : Hp) (vs : List V) (Q : VK) (E : XK), gw k (A.deeper (envOfC qual scope s.heap.objs.size f cdv)) → sp vs H Q E →
     ∃ t, j0 (kZ CX P w K mg base N qual scope f cdv A outer s H E) body t ∧ t { nx := fun _ H' => Q .non H', rt := Q } (start N vs) H) :
   aB P w K mg base CX (k + 1) f (PySem.W.fnOf name qual params body scope dV kV doc pm an cdv ct) ps sp := by
 refine ⟨len, fun A outer s H args us vs Q E hr e0 hb r hsp => ?_⟩
 have hl := len _ _ _ _ hsp
 have KX : K.In s.heap := e0.mod.kin.keeps fun b o e => (e0.bs b o e).1
 have lim : s.heap.NoLimit := e0.mod.nolimit.keeps fun b o e => (e0.bs b o e).1
 have hkind : ∀ y ∈ ps.zip us, scope.names.lookup y.1 = some .local ∨ (scope.names.lookup y.1 = some .cell ∧ ((cellsFrom (s.heap.objs.size + 1) scope.names []).lookup y.1).isSome = true) := fun ⟨n, v⟩ hy => by
   rcases S.par n (List.of_mem_zip hy).1 with q | q
   · exact .inl q
   · exact .inr ⟨q, PySem.W.cellsFrom_some _ _ _ (.inl q)⟩
 refine codeAny_call_function hr.depth (KX _ _ lk) rfl S.co S.gen rfl (PySem.W.codeRec_of KX hcd) (hb _ _ _ _ ?_)
 refine wpAny_newFunctionEnv_cells S.kind hkind fun env he s1 x => ?_
 subst he
 refine ⟨lim.keeps x.toInCall.keep, codeAny_func ?_⟩
 obtain ⟨t, ht, hq⟩ := hbody A outer s H vs Q E (hr.deeper _) hsp
 have I : Inv (kZ CX P w K mg base N qual scope f cdv A outer s H E) [] (start N vs) H s1 := Nm S hr.hd e0 hl r x
 refine wpAny_mono (ht [] s1 (start N vs) H _ I hq) (fun fl s' hs => ?_) fun e s' hs => hs
 have fin : ∀ {σ' : St} {H' : Hp} {v : V} {u : Value}, Inv (kZ CX P w K mg base N qual scope f cdv A outer s H E) [] σ' H' s' → RelV v u → Q v H' → CE outer P w H s Q u s' :=
   fun {σ' H' v u} J rv q => ⟨v, H', J.os, J.bare, J.base, J.hok, rv, q⟩
 cases fl with
 | ret u =>
   obtain ⟨v, σ', H', J, rv, q⟩ := hs
   exact fin J rv q
 | next =>
   obtain ⟨σ', H', J, q⟩ := hs
   exact fin (v := V.non) (u := Value.none) J rfl q
 | brk =>
   obtain ⟨_, _, _, q⟩ := hs
   exact False.elim q
 | cont =>
   obtain ⟨_, _, _, q⟩ := hs
   exact False.elim q
end L2
namespace L2
open PySem PySem.Spec PyProof.Rows
section
variable {X : Cx} {x : Str} {p pos : Pos} {e : Expr} {es : List Expr} {t : TA} {id T : String} {r : List V → Hp → VK → Prop}
def tCB (r : List V → Hp → VK → Prop) (t : TA) : TE := fun σ H Q => t σ H fun vs H1 => r vs H1 Q
theorem zW (hc : aU X (.builtin id) r) (hg : Gl X x) (hm : X.mg x = none) (hv : bootBuiltins x = some (.builtin id)) (ha : PA X (e :: es) t) (hn : x ≠ "__name__" := by decide) (hdb : (x == ("__debug__" : Str)) = false := by decide)
   (he : starEach (e :: es) X.env = (false, eval e X.env) :: starEach es X.env := by rfl) (hpl : (backTo pos (starEach es X.env)).any (·.1) = false := by rfl) : PE X (.Call (.Name x p) (e :: es) [] pos) (tCB r t) := by
 intro pins s σ H Q I h
 refine wpAny_Call_Name_kw (HQ I hg hm hv ?_ hn hdb)
 exact PyProof.Rows.callWith_builtin1 (eG (ha pos pins s σ H _ I h) fun us s1 ⟨vs, H1, I1, r1, q1⟩ => hc pins s1 σ H1 vs us Q I1 r1 q1) he hpl
theorem yR (hc : aU X (.type T) r) (hg : Gl X x) (hm : X.mg x = none) (hv : bootBuiltins x = some (.type T)) (ha : PA X (e :: es) t) (hn : x ≠ "__name__" := by decide) (hdb : (x == ("__debug__" : Str)) = false := by decide)
   (he : starEach (e :: es) X.env = (false, eval e X.env) :: starEach es X.env := by rfl) (hpl : (backTo pos (starEach es X.env)).any (·.1) = false := by rfl) : PE X (.Call (.Name x p) (e :: es) [] pos) (tCB r t) := by
 intro pins s σ H Q I h
 refine wpAny_Call_Name_kw (HQ I hg hm hv ?_ hn hdb)
 exact PyProof.Rows.callWith_type1 (eG (ha pos pins s σ H _ I h) fun us s1 ⟨vs, H1, I1, r1, q1⟩ => hc pins s1 σ H1 vs us Q I1 r1 q1) he hpl
end
end L2
namespace HT
open PySem PyProof.Rows
section
open PySem.SeqAt
open PySem.AutoSeq1 (wpAny_loadPart')
open PySem.MeetsSeq PySem.MeetsSeq2 PySem.MeetsSeq3
end
section
variable {prog : Program} {w : World} {A : Around} {E : Value → Shared → Prop} {s : Shared}
def uQ (n d : Nat) : Option Int → Nat
 | none => d
 | some v => if v < 0 then (v + (n : Int)).toNat else min v.toNat n
theorem Om (n d k : Nat) : uQ n d (some (k : Int)) = min k n := by
 show (if (k : Int) < 0 then ((k : Int) + (n : Int)).toNat else min (k : Int).toNat n) = min k n
 rw [if_neg (by omega), Int.toNat_natCast]
theorem adf (n d : Nat) (hd : d ≤ n) (o : Option Int) : uQ n d o ≤ n := by
 cases o with
 | none => exact hd
 | some v =>
   show (if v < 0 then (v + (n : Int)).toNat else min v.toNat n) ≤ n
   by_cases hv : v < 0
   · rw [if_pos hv]; omega
   · rw [if_neg hv]; exact Nat.min_le_right _ _
end
end HT
namespace L2
open PySem PySem.Spec PyProof.Rows
abbrev TO := St → Hp → (Option Int → Hp → Prop) → Prop
def PO (X : Cx) (e : Option Expr) (t : TO) : Prop :=
 ∀ (pins : List (Addr × Obj)) (s : Shared) (σ : St) (H : Hp) (Q : Option Int → Hp → Prop), Inv X pins σ H s → t σ H Q →
   wpAny (model X.prog X.w) X.A (evalPart e X.env) (fun u s' => ∃ o H', Inv X pins σ H' s' ∧ IsPart u o ∧ Q o H') X.xe s
def Oo : TO := fun _ H Q => Q none H
def Yj (t : TE) : TO := fun σ H Q => t σ H fun x H1 => ∃ i, x = .int i ∧ Q (some i) H1
section
variable {X : Cx} {e : Expr} {te : TE} {lo hi : Option Expr} {tl th : TO} {pos p2 : Pos}
theorem xR : PO X none Oo := by
 intro pins s σ H Q I h
 rw [evalPart_none]
 exact wpAny_pure ⟨none, H, I, .none, h⟩
theorem xM (h : PE X e te) : PO X (some e) (Yj te) := by
 intro pins s σ H Q I hw
 rw [evalPart_some]
 refine eG (h pins s σ H _ I hw) fun u s1 ⟨x, H1, I1, r1, q1⟩ => ?_
 obtain ⟨i, rfl, q⟩ := q1
 obtain ⟨t, rfl⟩ := r1
 exact ⟨some i, H1, I1, .int i t, q⟩
def rZ (X : Cx) (r : V → Option Int → Option Int → Hp → VK → Prop) : Prop :=
 ∀ (pins : List (Addr × Obj)) (s : Shared) (σ : St) (H : Hp) (x : V) (v vl vu : Value) (lo hi : Option Int) (sl : Addr) (Q : VK), Inv X pins σ H s → RelV x v → s.heap.IsSliceOf sl vl vu .none → IsPart vl lo → IsPart vu hi → r x lo hi H Q →
   ∃ T id, typeLookup (.type T) "__getitem__" = pure (some (.builtin id)) ∧ s.TypeIs v T ∧ wpAny (model X.prog X.w) X.A (getItem v (.ref sl)) (EP X pins σ Q) X.xe s
theorem rZ.or {r r' : V → Option Int → Option Int → Hp → VK → Prop} (h : rZ X r) (h' : rZ X r') : rZ X (fun x lo hi H Q => r x lo hi H Q ∨ r' x lo hi H Q) := by
 intro pins s σ H x v vl vu lo hi sl Q I rx hs pl pu q
 rcases q with q | q
 · exact h pins s σ H x v vl vu lo hi sl Q I rx hs pl pu q
 · exact h' pins s σ H x v vl vu lo hi sl Q I rx hs pl pu q
def tSl (r : V → Option Int → Option Int → Hp → VK → Prop) (te : TE) (tl th : TO) : TE := fun σ H Q => te σ H fun x H1 => tl σ H1 fun l H2 => th σ H2 fun u H3 => r x l u H3 Q
theorem xE {r : V → Option Int → Option Int → Hp → VK → Prop} (hr : rZ X r) (he : PE X e te) (hl : PO X lo tl) (hu : PO X hi th) : PE X (.Subscript e (.Slice lo hi none p2) pos) (tSl r te tl th) := by
 intro pins s σ H Q I h
 refine Subscript_ (eG (he pins s σ H _ I h) fun v s1 ⟨x, H1, I1, r1, q1⟩ => ?_)
 refine wpAny_Slice (eG (hl pins s1 σ H1 _ I1 q1) fun vl s2 ⟨l, H2, I2, pl, q2⟩ => eG (hu pins s2 σ H2 _ I2 q2) fun vu s3 ⟨u, H3, I3, pu, q3⟩ => ?_)
 rw [evalPart_none]
 refine wpAny_pure ?_
 have I4 : Inv X pins σ H3 { s3 with heap := s3.heap.push { cls := .type "slice", data := .fields #[vl, vu, .none] } } := I3.kept (t' := s3.toks) fun b ob q => Heap.get?_push_of_some _ q
 obtain ⟨T, id, hT, ht, hg⟩ := hr pins { s3 with heap := s3.heap.push { cls := .type "slice", data := .fields #[vl, vu, .none] } } σ H3 x v vl vu l u s3.heap.objs.size Q I4 r1 (Heap.IsSliceOf.new ..) pl pu q3
 show wpAny (model X.prog X.w) X.A (subscriptTail e (.Slice lo hi none p2) v (.ref s3.heap.objs.size)) (EP X pins σ Q) X.xe { s3 with heap := s3.heap.push { cls := .type "slice", data := .fields #[vl, vu, .none] } }
 exact tail_any (ops := [.ref s3.heap.objs.size, v]) ht hT hg (by with_unfolding_all rfl)
def Oq (xs : List V) (lo hi : Option Int) : List V := (xs.drop (HT.uQ xs.length 0 lo)).take (HT.uQ xs.length xs.length hi - HT.uQ xs.length 0 lo)
theorem QS (xs : List V) (lo hi : Option Int) : (Oq xs lo hi).length ≤ xs.length := by
 unfold Oq
 rw [List.length_take, List.length_drop]
 omega
end
end L2
namespace L2
open PySem PySem.Spec PyProof.Rows
def ixN (n : Nat) (i : Int) : Option Nat := if 0 ≤ i then (if i < n then some i.toNat else none) else if -(n : Int) ≤ i then some (i + n).toNat else none
def qG {α : Type} (xs : List α) (i : Int) : Option α := (ixN xs.length i).bind fun j => xs[j]?
theorem aaZ {n : Nat} {i : Int} {j : Nat} (h : ixN n i = some j) : seqIndex? i n = some j ∧ j < n ∧ -(n : Int) ≤ i ∧ i < n := by
 unfold ixN at h
 by_cases h0 : 0 ≤ i
 · rw [if_pos h0] at h
   by_cases h1 : i < n
   · rw [if_pos h1] at h
     have e : i.toNat = j := Option.some.inj h
     exact ⟨by rw [seqIndex_of h0 h1, e], by omega, by omega, h1⟩
   · rw [if_neg h1] at h; cases h
 · rw [if_neg h0] at h
   by_cases h1 : -(n : Int) ≤ i
   · rw [if_pos h1] at h
     have e : (i + n).toNat = j := Option.some.inj h
     exact ⟨by rw [seqIndex_neg (by omega) h1, e], by omega, h1, by omega⟩
   · rw [if_neg h1] at h; cases h
theorem Ot {α : Type} {xs : List α} {i : Int} {v : α} (h : qG xs i = some v) : ∃ j, seqIndex? i xs.length = some j ∧ xs[j]? = some v ∧ j < xs.length ∧ -(xs.length : Int) ≤ i ∧ i < xs.length := by
 unfold qG at h
 cases e : ixN xs.length i with
 | none => rw [e] at h; cases h
 | some j =>
   rw [e] at h
   obtain ⟨h1, h2, h3, h4⟩ := aaZ e
   exact ⟨j, h1, h, h2, h3, h4⟩
theorem yB {α : Type} {xs : List α} {j : Nat} {v : α} (h : xs[j]? = some v) : qG xs (j : Int) = some v := by
 have hj : j < xs.length := (List.getElem?_eq_some_iff.mp h).1
 have e : ixN xs.length (j : Int) = some j := by
   unfold ixN
   rw [if_pos (by omega), if_pos (by omega)]; simp
 unfold qG; rw [e]; exact h
theorem QT {α : Type} (xs : List α) (v : α) : qG (xs ++ [v]) (-1) = some v := by
 have hl : (xs ++ [v]).length = xs.length + 1 := by simp
 have e : ixN (xs ++ [v]).length (-1) = some xs.length := by
   unfold ixN
   rw [hl, if_neg (by decide), if_pos (by omega)]
   congr 1
   omega
 unfold qG
 rw [e]
 show (xs ++ [v])[xs.length]? = some v
 simp
def aa0 (b : Expr) : Prop := ∀ o i, subscripted b false o i = operate [o, i] (getItem o i)
def qZ (X : Cx) (r : R2) : Prop :=
 ∀ (value slice : Expr) (pins : List (Addr × Obj)) (s : Shared) (σ : St) (H : Hp) (x y : V) (v u : Value) (Q : VK), Inv X pins σ H s → RelV x v → RelV y u → r x y H Q →
   subscripted slice false v u = operate [v, u] (getItem v u) → wpAny (model X.prog X.w) X.A (subscriptTail value slice v u) (EP X pins σ Q) X.xe s
def MtR (X : Cx) (id : String) (r : V → List V → Hp → VK → Prop) : Prop :=
 ∀ (pins : List (Addr × Obj)) (s : Shared) (σ : St) (H : Hp) (x : V) (xs : List V) (v : Value) (us : List Value) (Q : VK), Inv X pins σ H s → RelV x v → Vals xs us → r x xs H Q →
   wpAny (model X.prog X.w) X.A (call (.builtin id) (v :: us)) (EP X pins σ Q) X.xe s
section
variable {X : Cx} {a b : Expr} {ta tb : TE} {pos : Pos}
theorem qZ.or {r r' : R2} (h : qZ X r) (h' : qZ X r') : qZ X (fun x y H Q => r x y H Q ∨ r' x y H Q) := by
 intro value slice pins s σ H x y v u Q I rx ry q hs
 rcases q with q | q
 · exact h value slice pins s σ H x y v u Q I rx ry q hs
 · exact h' value slice pins s σ H x y v u Q I rx ry q hs
theorem MtR.or {id : String} {r r' : V → List V → Hp → VK → Prop} (h : MtR X id r) (h' : MtR X id r') : MtR X id (fun x xs H Q => r x xs H Q ∨ r' x xs H Q) := by
 intro pins s σ H x xs v us Q I rx rs q
 rcases q with q | q
 · exact h pins s σ H x xs v us Q I rx rs q
 · exact h' pins s σ H x xs v us Q I rx rs q
theorem yN {r : R2} (hr : qZ X r) (ha : PE X a ta) (hb : PE X b tb) (hs : aa0 b) : PE X (.Subscript a b pos) (tOp r ta tb) := by
 intro pins s σ H Q I h
 exact Subscript_ (ada ha hb I h fun v u s2 x y H2 I2 rx ry q => hr a b pins s2 σ H2 x y v u Q I2 rx ry q (hs _ _))
def auk (K : PySem.W.Frag) : R2 := fun x y H Q => ∃ p xs i v, x = .ref p ∧ y = .int i ∧ bG K H p xs ∧ qG xs i = some v ∧ Q v H
def aul (K : PySem.W.Frag) : R2 := fun x y H Q => ∃ p xs i v, x = .ref p ∧ y = .int i ∧ o8 K H p xs ∧ qG xs i = some v ∧ Q v H
def aum : R2 := fun x y H Q => ∃ z i c, x = .str z ∧ y = .int i ∧ z.length ≤ sizeLine ∧ qG z.cps.toList i = some c ∧ Q (.str ⟨#[c]⟩) H
theorem xD : qZ X (auk X.K) := by
 intro value slice pins s σ H x y v u Q I rx ry h hs
 obtain ⟨p, xs, i, z, rfl, rfl, hq, he, q⟩ := h
 cases rx
 obtain ⟨t, rfl⟩ := ry
 obtain ⟨its, r, pl, hz⟩ := I.list hq
 obtain ⟨j, h1, h2, h3, h4, h5⟩ := Ot he
 obtain ⟨w, ew, rw'⟩ := r.get h2
 have hl := r.length
 have hn := H9
 have fin : EP X pins σ Q w s := ⟨z, H, I, rw', q⟩
 by_cases h0 : 0 ≤ i
 · have hj : i.toNat = j := by
     rw [seqIndex_of h0 h5] at h1
     exact Option.some.inj h1
   exact item_listR pl.isList h0 (by omega) (by rw [hj]; simpa using ew) fin hs
 · have hj : (i + (its.toArray.size : Int)).toNat = j := by
     rw [seqIndex_neg (by omega) h4] at h1
     rw [List.size_toArray, ← hl]
     exact Option.some.inj h1
   exact subscriptTail_builtinR (x := w) pl.isList.typeIs slot_list_getitem.lookup
     (wpAny_getItem_list_neg (Q := fun r s' => r = w ∧ EP X pins σ Q r s') pl.isList (by omega) (by rw [List.size_toArray] <;> omega) (by omega) (by rw [hj]; simpa using ew) ⟨rfl, fin⟩) hs
theorem yY : qZ X (aul X.K) := by
 intro value slice pins s σ H x y v u Q I rx ry h hs
 obtain ⟨p, xs, i, z, rfl, rfl, hq, he, q⟩ := h
 cases rx
 obtain ⟨t, rfl⟩ := ry
 obtain ⟨its, r, pl, hz⟩ := I.tuple hq
 obtain ⟨j, h1, h2, h3, h4, h5⟩ := Ot he
 obtain ⟨w, ew, rw'⟩ := r.get h2
 have hl := r.length
 have hn := H9
 have fin : EP X pins σ Q w s := ⟨z, H, I, rw', q⟩
 exact subscriptTail_builtinR (x := w) pl.typeIs slot_tuple_getitem.lookup
   (getItem_tuple (j := j) (Q := fun r s' => r = w ∧ EP X pins σ Q r s') pl (by omega) (by omega) (by rw [List.size_toArray, ← hl]; exact h1) (by simpa using ew) ⟨rfl, fin⟩) hs
theorem Yk : qZ X aum := by
 intro value slice pins s σ H x y v u Q I rx ry h hs
 obtain ⟨z, i, c, rfl, rfl, hz, he, q⟩ := h
 obtain ⟨t, rfl⟩ := rx
 obtain ⟨t', rfl⟩ := ry
 obtain ⟨j, h1, h2, h3, h4, h5⟩ := Ot he
 have hl : z.cps.toList.length = z.length := by simp [Str.length]
 rw [hl] at h1 h4 h5
 have hn := H9
 exact tail_any (typeIs_str s z t) slot_str_getitem.lookup (getItem_str (c := c) (by
   have e1 : decide (i < -(2 ^ 63 : Int)) = false := decide_eq_false (by omega)
   have e2 : decide (i ≥ 2 ^ 63) = false := decide_eq_false (by omega)
   rw [e1, e2, Bool.or_false]) (by rw [h1]; simpa using h2) ⟨.str ⟨#[c]⟩, H, I.tok _, ⟨_, rfl⟩, q⟩) hs
theorem Inv.lst {pins : List (Addr × Obj)} {σ : St} {H : Hp} {s : Shared} {p : Addr} {xs : List V} (I : Inv X pins σ H s) (h : H p = some (.lst xs)) :
   ∃ (its : List Value) (n : Nat), Vals xs its ∧ s.heap.get? p = some { cls := .type "list", data := .seq its.toArray n } ∧ xs.length ≤ sizeLine := by
 obtain ⟨z, its, n, r, e⟩ := I.hok p _ h
 exact ⟨its, n, r, e, z⟩
theorem Ou (lo hi : Option Int) (n : Nat) : (sliceBounds lo hi none n).1 = ((HT.uQ n 0 lo : Nat) : Int) ∧ (sliceBounds lo hi none n).2.1 = ((HT.uQ n n hi : Nat) : Int) ∧ (sliceBounds lo hi none n).2.2 = 1 := by
 refine ⟨?_, ?_, rfl⟩
 · cases lo with
   | none => simp [sliceBounds, HT.uQ]
   | some i =>
     simp only [sliceBounds, HT.uQ, Option.getD_none, show (1 : Int) > 0 by decide, if_true]
     by_cases h : i < 0
     · simp only [h, if_true] <;> omega
     · simp only [h, if_false] <;> omega
 · cases hi with
   | none => simp [sliceBounds, HT.uQ]
   | some i =>
     simp only [sliceBounds, HT.uQ, Option.getD_none, show (1 : Int) > 0 by decide, if_true]
     by_cases h : i < 0
     · simp only [h, if_true] <;> omega
     · simp only [h, if_false] <;> omega
theorem Lg (its : List Value) (lo hi : Option Int) : slicePick its.toArray lo hi none = ((its.drop (HT.uQ its.length 0 lo)).take (HT.uQ its.length its.length hi - HT.uQ its.length 0 lo)).toArray := by
 obtain ⟨h1, h2, h3⟩ := Ou lo hi its.toArray.size
 unfold slicePick
 rw [h1, h2, h3]
 simp only [sliceRange_one, pick_run, List.size_toArray] <;> rfl
def auo (K : PySem.W.Frag) : V → Option Int → Option Int → Hp → VK → Prop := fun x lo hi H Q => ∃ a xs, x = .ref a ∧ bG K H a xs ∧ ∀ p, H p = none → Q (.ref p) (upd H p (.lst (Oq xs lo hi)))
theorem Vr : rZ X (auo X.K) := by
 intro pins s σ H x v vl vu lo hi sl Q I rx hs pl pu h
 obtain ⟨a, xs, rfl, hx, q⟩ := h
 cases rx
 obtain ⟨its, r, ht, hz⟩ := I.list hx
 have hlen := r.length
 refine ⟨"list", _, slot_list_getitem.lookup, ht.isList.typeIs, ?_⟩
 refine wpAny_getItem_list_slice ht.isList hs pl pu .none (by simp) ?_ (by rw [List.size_toArray] <;> omega)
 rw [Lg, ← hlen]
 refine ⟨.ref s.heap.objs.size, _, I.laid (t' := s.toks) (o := .lst (Oq xs lo hi)) (fun b ob q => Heap.get?_push_of_some _ q) (Nat.le_refl _) ?_, rfl, q _ (I.hok.fresh (Nat.le_refl _))⟩
 exact ⟨Nat.le_trans (QS xs lo hi) hz, _, 0, (r.drop (HT.uQ xs.length 0 lo)).take (HT.uQ xs.length xs.length hi - HT.uQ xs.length 0 lo), Heap.get?_push_size _ rfl⟩
def Bu : V → Bool
 | .non => true
 | .bl _ => true
 | .int _ => true
 | .str _ => true
 | _ => false
def eqV : V → V → Bool
 | .non, .non => true
 | .bl a, .bl b => a == b
 | .bl a, .int b => (if a then 1 else 0) == b
 | .int a, .bl b => a == (if b then 1 else 0)
 | .int a, .int b => a == b
 | .str a, .str b => a == b
 | _, _ => false
theorem adg {A : Around} {s : Shared} {y x : V} {u v : Value} (ry : RelV y u) (rx : RelV x v) (fy : Bu y = true) (fx : Bu x = true) : SeqAt.EqAt A s u v (eqV y x) := by
 cases y with
 | non =>
   cases ry
   cases x with
   | non => cases rx; exact SeqAt.EqAt.same _
   | bl b => cases rx; exact SeqAt.EqAt.none_bool b
   | int b => obtain ⟨t, rfl⟩ := rx; exact SeqAt.EqAt.none_int b t
   | str b => obtain ⟨t, rfl⟩ := rx; exact SeqAt.EqAt.none_str b t
   | _ => exact absurd (show false = true from fx) Bool.false_ne_true
 | bl a =>
   cases ry
   cases x with
   | non => cases rx; exact SeqAt.EqAt.bool_none a
   | bl b => cases rx; exact SeqAt.EqAt.bool_bool a b
   | int b => obtain ⟨t, rfl⟩ := rx; exact SeqAt.EqAt.bool_int a b t
   | str b => obtain ⟨t, rfl⟩ := rx; exact SeqAt.EqAt.bool_str a b t
   | _ => exact absurd (show false = true from fx) Bool.false_ne_true
 | int a =>
   obtain ⟨t', rfl⟩ := ry
   cases x with
   | non => cases rx; exact SeqAt.EqAt.int_none a t'
   | bl b => cases rx; exact SeqAt.EqAt.int_bool a t' b
   | int b => obtain ⟨t, rfl⟩ := rx; exact SeqAt.EqAt.int_int a t' b t
   | str b => obtain ⟨t, rfl⟩ := rx; exact SeqAt.EqAt.int_str a t' b t
   | _ => exact absurd (show false = true from fx) Bool.false_ne_true
 | str a =>
   obtain ⟨t', rfl⟩ := ry
   cases x with
   | non => cases rx; exact SeqAt.EqAt.str_none a t'
   | bl b => cases rx; exact SeqAt.EqAt.str_bool a t' b
   | int b => obtain ⟨t, rfl⟩ := rx; exact SeqAt.EqAt.str_int a t' b t
   | str b => obtain ⟨t, rfl⟩ := rx; exact SeqAt.EqAt.str_str a t' b t
   | _ => exact absurd (show false = true from fx) Bool.false_ne_true
 | _ => exact absurd (show false = true from fy) Bool.false_ne_true
def T6 (x : V) (u : Value) : Bool := match u with
 | .none => eqV .non x
 | .bool b => eqV (.bl b) x
 | .int i _ => eqV (.int i) x
 | .str z _ => eqV (.str z) x
 | _ => false
theorem Yl {x y : V} {u : Value} (r : RelV y u) (f : Bu y = true) : T6 x u = eqV y x := by
 cases y with
 | non => cases r; rfl
 | bl b => cases r; rfl
 | int i => obtain ⟨t, rfl⟩ := r; rfl
 | str z => obtain ⟨t, rfl⟩ := r; rfl
 | _ => exact absurd (show false = true from f) Bool.false_ne_true
theorem Bv {x : V} : ∀ {xs : List V} {us : List Value}, Vals xs us → xs.all Bu = true → us.any (T6 x) = xs.any fun y => eqV y x
 | _, _, .nil, _ => rfl
 | y :: xs, u :: us, .cons r t, f => by
   rw [List.all_cons, Bool.and_eq_true] at f
   rw [List.any_cons, List.any_cons, Yl r f.1, Bv t f.2]
theorem uY {A : Around} {s : Shared} {x : V} {v : Value} (rx : RelV x v) (fx : Bu x = true) : ∀ {xs : List V} {us : List Value}, Vals xs us → xs.all Bu = true → ∀ u ∈ us, SeqAt.EqAt A s u v (T6 x u)
 | _, _, .nil, _ => fun u hu => by cases hu
 | y :: xs, u :: us, .cons r t, f => fun u' hu => by
   rw [List.all_cons, Bool.and_eq_true] at f
   rcases List.mem_cons.mp hu with rfl | hu
   · rw [Yl r f.1]; exact adg r rx f.1 fx
   · exact uY rx fx t f.2 u' hu
def inV (x : V) (xs : List V) : Bool := xs.any fun y => eqV y x
def rIn (K : PySem.W.Frag) (neg : Bool) : R2 := fun x y H Q => ∃ p xs, y = .ref p ∧ (bG K H p xs ∨ o8 K H p xs) ∧ Bu x = true ∧ xs.all Bu = true ∧ Q (.bl (if neg then !inV x xs else inV x xs)) H
theorem su : iW X (compareOp .In) (rIn X.K false) := by
 intro pins s σ H x y v u Q I rx ry h
 obtain ⟨p, xs, rfl, hq, fx, fs, q⟩ := h
 cases ry
 rcases hq with hq | hq
 · obtain ⟨its, r, pl, hz⟩ := I.list hq
   refine SeqAt.in_listAt (T6 x) pl.isList (fun w hw => uY rx fx r fs w (by simpa using hw)) ⟨.bl _, H, I, rfl, ?_⟩
   rw [show its.toArray.any (T6 x) = its.any (T6 x) by simp, Bv r fs]
   exact q
 · obtain ⟨its, r, pl, hz⟩ := I.tuple hq
   refine SeqAt.in_tupleAt (T6 x) pl (fun w hw => uY rx fx r fs w (by simpa using hw)) ⟨.bl _, H, I, rfl, ?_⟩
   rw [show its.toArray.any (T6 x) = its.any (T6 x) by simp, Bv r fs]
   exact q
theorem Ov : iW X (compareOp .NotIn) (rIn X.K true) := by
 intro pins s σ H x y v u Q I rx ry h
 obtain ⟨p, xs, rfl, hq, fx, fs, q⟩ := h
 cases ry
 rcases hq with hq | hq
 · obtain ⟨its, r, pl, hz⟩ := I.list hq
   refine SeqAt.notIn_listAt (T6 x) pl.isList (fun w hw => uY rx fx r fs w (by simpa using hw)) ⟨.bl _, H, I, rfl, ?_⟩
   rw [show its.toArray.any (T6 x) = its.any (T6 x) by simp, Bv r fs]
   exact q
 · obtain ⟨its, r, pl, hz⟩ := I.tuple hq
   refine SeqAt.notIn_tupleAt (T6 x) pl (fun w hw => uY rx fx r fs w (by simpa using hw)) ⟨.bl _, H, I, rfl, ?_⟩
   rw [show its.toArray.any (T6 x) = its.any (T6 x) by simp, Bv r fs]
   exact q
theorem zZ : aU X (.builtin "len") (fun xs H Q => ∃ p ys, xs = [.ref p] ∧ (bG X.K H p ys ∨ o8 X.K H p ys) ∧ Q (.int ys.length) H) := by
 intro pins s σ H xs us Q I r h
 obtain ⟨p, ys, rfl, hq, q⟩ := h
 obtain ⟨u, rfl, rx⟩ := vals1 r
 cases rx
 have hn := H9
 rcases hq with hq | hq
 · obtain ⟨its, r', pl, hz⟩ := I.list hq
   have hlen := r'.length
   exact Calls.call_len_list pl.isList (by simp only [List.size_toArray] <;> omega) ⟨.int ys.length, H, I.tok _, ⟨s.toks + 1, by rw [List.size_toArray, hlen]⟩, q⟩
 · obtain ⟨its, r', pl, hz⟩ := I.tuple hq
   have hlen := r'.length
   exact len_tuple pl (by simp only [List.size_toArray] <;> omega) ⟨.int ys.length, H, I.tok _, ⟨s.toks + 1, by rw [List.size_toArray, hlen]⟩, q⟩
theorem xW : aU X (.builtin "len") (fun xs H Q => ∃ z, xs = [.str z] ∧ z.length ≤ sizeLine ∧ Q (.int z.length) H) := by
 intro pins s σ H xs us Q I r h
 obtain ⟨z, rfl, hz, q⟩ := h
 obtain ⟨u, rfl, t, rfl⟩ := vals1 r
 have hn := H9
 exact len_str (by omega) ⟨.int z.length, H, I.tok _, ⟨_, rfl⟩, q⟩
theorem aU.or {f : Value} {r r' : List V → Hp → VK → Prop} (h : aU X f r) (h' : aU X f r') : aU X f (fun xs H Q => r xs H Q ∨ r' xs H Q) := by
 intro pins s σ H xs us Q I rs q
 rcases q with q | q
 · exact h pins s σ H xs us Q I rs q
 · exact h' pins s σ H xs us Q I rs q
theorem xU : aU X (.type "list") (fun xs H Q => ∃ p ys, xs = [.ref p] ∧ (bG X.K H p ys ∨ o8 X.K H p ys) ∧ ∀ l, H l = none → Q (.ref l) (upd H l (.lst ys))) := by
 intro pins s σ H xs us Q I r h
 obtain ⟨p, ys, rfl, hq, q⟩ := h
 obtain ⟨u, rfl, rx⟩ := vals1 r
 cases rx
 have fin : ∀ (its : List Value), Vals ys its → ys.length ≤ sizeLine → ∀ (h' : Heap) (c' : Nat), (∀ b o', s.heap.get? b = some o' → h'.get? b = some o') →
     h'.get? s.heap.objs.size = some { cls := .type "list", dict := none, data := .seq its.toArray c', slots := #[] } → EP X pins σ Q (.ref s.heap.objs.size) { s with heap := h' } := fun its r' hz h' c' kp e =>
   ⟨.ref s.heap.objs.size, _, I.laid (t' := s.toks) kp (Nat.le_refl _) (show iy X.prog X.w _ h' _ (.lst ys) from ⟨hz, its, c', r', e⟩), rfl, q _ (I.hok.fresh (Nat.le_refl _))⟩
 rcases hq with hq | hq
 · obtain ⟨its, r', pl, hz⟩ := I.list hq
   have hlen := r'.length
   obtain ⟨o, ho, hc, n, hd⟩ := pl.isList
   exact call_list_seq p (.inl rfl) ho hc hd (fun h' c' kp e => fin its r' hz h' c' kp e) (by simp only [List.size_toArray] <;> omega)
 · obtain ⟨its, r', pl, hz⟩ := I.tuple hq
   have hlen := r'.length
   obtain ⟨o, ho, hc, n, hd⟩ := pl
   exact call_list_seq p (.inr rfl) ho hc hd (fun h' c' kp e => fin its r' hz h' c' kp e) (by simp only [List.size_toArray] <;> omega)
def tyV (K : PySem.W.Frag) (T : String) (x : V) (H : Hp) : Prop := match x with
 | .str _ => T = "str"
 | .int _ => T = "int"
 | .ref p => (T = "list" ∧ ∃ xs, bG K H p xs) ∨ (T = "tuple" ∧ ∃ o, K.lookup p = some o ∧ o.cls = .type "tuple" ∧ o.dict = none) ∨
     (T = "dict" ∧ ((∃ kvs, H p = some (.dK kvs)) ∨ ∃ kvs, H p = some (.dT kvs))) ∨ (T = "set" ∧ ∃ S n, H p = some (.set S n))
 | _ => False
theorem adh {pins : List (Addr × Obj)} {σ : St} {H : Hp} {s : Shared} {T : String} {x : V} {v : Value} (I : Inv X pins σ H s) (r : RelV x v) (ty : tyV X.K T x H) :
   s.TypeIs v T ∧ ∀ a, v = .ref a → ∃ ob, s.heap.get? a = some ob ∧ ob.dict = none := by
 cases x with
 | str z =>
   obtain ⟨t, rfl⟩ := r
   cases (show T = "str" from ty)
   exact ⟨typeIs_str s z t, fun _ e => nomatch e⟩
 | int i =>
   obtain ⟨t, rfl⟩ := r
   cases (show T = "int" from ty)
   exact ⟨typeIs_int s i t, fun _ e => nomatch e⟩
 | ref p =>
   cases r
   rcases ty with ⟨rfl, xs, hq⟩ | ⟨rfl, o, hk, hc, hd⟩ | ⟨rfl, hk⟩ | ⟨rfl, S, n, hk⟩
   · obtain ⟨its, _, pl, _⟩ := I.list hq
     refine ⟨pl.isList.typeIs, fun a e => ?_⟩
     cases e
     obtain ⟨o, n, e, c, hd, _⟩ := pl
     exact ⟨o, e, hd⟩
   · refine ⟨⟨o, I.Ht p o hk, hc⟩, fun a e => ?_⟩
     cases e
     exact ⟨o, I.Ht _ o hk, hd⟩
   · have z : ∃ o, s.heap.get? p = some o ∧ o.ExactDict := by
       rcases hk with ⟨kvs, hk⟩ | ⟨kvs, hk⟩
       · obtain ⟨_, _, _, _, o, _, _, e, ex, _⟩ := I.hok p _ hk
         exact ⟨o, e, ex⟩
       · obtain ⟨_, _, _, _, o, _, _, e, ex, _⟩ := I.hok p _ hk
         exact ⟨o, e, ex⟩
     obtain ⟨o, e, ex⟩ := z
     refine ⟨⟨o, e, ex.1⟩, fun a e2 => ?_⟩
     cases e2
     exact ⟨o, e, ex.2.1⟩
   · obtain ⟨o, _, _, _, e, ex, _⟩ := I.hok p _ hk
     refine ⟨⟨o, e, ex.1⟩, fun a e2 => ?_⟩
     cases e2
     exact ⟨o, e, ex.2.1⟩
 | _ => exact False.elim ty
def tBM (K : PySem.W.Frag) (T : String) (r : V → List V → Hp → VK → Prop) (to : TE) (t : TA) : TE := fun σ H Q => to σ H fun x H1 => tyV K T x H1 ∧ t σ H1 fun xs H2 => r x xs H2 Q
variable {o e : Expr} {es : List Expr} {to : TE} {t : TA} {name : Str} {apos cpos : Pos} {T id : String} {r : V → List V → Hp → VK → Prop}
theorem xJ (pa : PlainAttrs T) (slot : Slot T name id) (hty : typeOf (.builtin id) = pure (.type "method_descriptor")) (hm : MtR X id r) (ho : PE X o to) (ha : PA X (e :: es) t)
   (hbase : attributeBase o name X.env (eval o X.env) = eval o X.env := by rfl)
   (hfew : ((backTo cpos (starEach (e :: es) X.env)).all (fun x => !x.1) && (backToKw cpos (keywordEach [] X.env)).all (fun x => x.1.isSome)
     && decide ((e :: es).length + ([] : List Keyword).length + (if ([] : List Keyword).isEmpty then 0 else 1) < 30)) = true := by rfl)
   (hline : (apos.endLine == cpos.line) = true := by rfl) (hs : starEach (e :: es) X.env = (false, eval e X.env) :: starEach es X.env := by rfl) (hplain : (backTo cpos (starEach es X.env)).any (·.1) = false := by rfl) :
   PE X (.Call (.Attribute o name apos) (e :: es) [] cpos) (tBM X.K T r to t) := by
 intro pins s σ H Q I h
 refine wpAny_Call_method_late hbase hfew hline rfl (eG (ho pins s σ H _ I h) fun v s1 ⟨x, H1, I1, r1, ty, q1⟩ => ?_)
 obtain ⟨h1, h2⟩ := adh I1 r1 ty
 refine ⟨T, id, pa, slot, hty, h1, h2, ?_⟩
 have hA := ha cpos pins s1 σ H1 _ I1 q1
 rw [hs] at hA ⊢
 refine Calls.callWith_builtin (by show (false || (backTo cpos (starEach es X.env)).any (·.1)) = false; rw [hplain] <;> rfl) (Calls.evalArgs_plain ?_)
 exact eG hA fun us s2 ⟨vs, H2, I2, r2, q2⟩ => hm pins s2 σ H2 x vs v us Q I2 r1 r2 q2
end
end L2
namespace L2
open PySem PySem.Spec PyProof.Rows
def MtM (X : Cx) (id : String) (r : V → List V → Hp → VK → Prop) : Prop :=
 ∀ (pins : List (Addr × Obj)) (s : Shared) (σ : St) (H : Hp) (x : V) (xs : List V) (v : Value) (us : List Value) (Q : VK), Inv X pins σ H s → RelV x v → Vals xs us → r x xs H Q →
   wpAny (model X.prog X.w) X.A (call (.builtin id) (v :: us)) (EP X pins σ Q) X.xe s
theorem Vals.one : ∀ {x : V} {us : List Value}, Vals [x] us → ∃ u, us = [u] ∧ RelV x u
 | _, _, .cons r .nil => ⟨_, rfl, r⟩
theorem Vals.two : ∀ {x y : V} {us : List Value}, Vals [x, y] us → ∃ u v, us = [u, v] ∧ RelV x u ∧ RelV y v
 | _, _, _, .cons r (.cons q .nil) => ⟨_, _, rfl, r, q⟩
theorem Vals.zero : ∀ {us : List Value}, Vals [] us → us = []
 | _, .nil => rfl
theorem Vals.dropLast {xs : List V} {us : List Value} (h : Vals xs us) : Vals xs.dropLast us.dropLast := by
 induction h with
 | nil => exact .nil
 | cons r t ih =>
   cases t with
   | nil => exact .nil
   | cons q t' => exact .cons r ih
theorem Vals.reverse {xs : List V} {us : List Value} (h : Vals xs us) : Vals xs.reverse us.reverse := by
 induction h with
 | nil => exact .nil
 | cons r t ih => rw [List.reverse_cons, List.reverse_cons]; exact Vals.append ih (.cons r .nil)
section
variable {X : Cx} {pins : List (Addr × Obj)} {σ : St} {H : Hp} {s : Shared} {l b : Addr} {xs ys zs : List V}
theorem Inv.agu {its its' : List Value} {n : Nat} {f : Array Value → Array Value} {t' : Nat} (I : Inv X pins σ H s) (hH : H l = some (.lst xs))
   (e : s.heap.get? l = some { cls := .type "list", data := .seq its.toArray n }) (hf : f its.toArray = its'.toArray) (hv : Vals ys its') (hz : ys.length ≤ sizeLine) :
   Inv X pins σ (upd H l (.lst ys)) { s with heap := s.heap.update l (Obj.mapSeq f), toks := t' } := by
 have q := PySem.IsL.update e f
 rw [hf] at q
 refine I.write (x := l) (e := l) (by rw [hH]; exact trivial) (.inl rfl) (fun b' u hb hu => (Heap.get?_update_other s.heap (Obj.mapSeq f) (Ne.symm hb)).trans hu) ⟨_, q⟩ ?_
 exact ⟨hz, its', _, hv, q⟩
theorem Inv.aup {its : List Value} {t' : Nat} (I : Inv X pins σ H s) (hv : Vals ys its) (hz : ys.length ≤ sizeLine) :
   Inv X pins σ (upd H s.heap.objs.size (.lst ys)) { s with heap := s.heap.push { cls := .type "list", data := .seq its.toArray }, toks := t' } :=
 I.laid (fun _ _ q => Heap.get?_push_of_some _ q) (Nat.le_refl _) ⟨hz, its, 0, hv, Heap.get?_push_size _ rfl⟩
theorem Inv.fresh (I : Inv X pins σ H s) : H s.heap.objs.size = none := I.hok.fresh (Nat.le_refl _)
theorem Inv.Ym (I : Inv X pins σ H s) (hH : H l = some (.lst xs)) : xs.length ≤ sizeLine ∧ ∃ (its : List Value) (n : Nat), Vals xs its ∧ xs.length = its.length ∧ s.heap.get? l = some { cls := .type "list", data := .seq its.toArray n } := by
 obtain ⟨z, its, n, r, e⟩ := I.hok l _ hH
 exact ⟨z, its, n, r, r.length, e⟩
theorem Yn {n : Nat} (h : n ≤ sizeLine) : Builtin.List.listTooLong n = false := by
 unfold Builtin.List.listTooLong
 exact decide_eq_false (by omega)
end
section
variable {X : Cx}
def aa1 : V → List V → Hp → VK → Prop := fun x vs H Q => ∃ l xs y, x = .ref l ∧ vs = [y] ∧ H l = some (.lst xs) ∧ xs.length < sizeLine ∧ Q .non (upd H l (.lst (xs ++ [y])))
theorem wF : MtM X "list.append" aa1 := by
 intro pins s σ H x vs v us Q I rx rv h
 obtain ⟨l, xs, y, rfl, rfl, hH, hz, q⟩ := h
 cases rx
 obtain ⟨u, rfl, ru⟩ := rv.one
 obtain ⟨z, its, n, r, hl, e⟩ := I.Ym hH
 refine call_meets F.slot_list_append ⟨_, e, rfl⟩ F.entry_list_append (F.args_list_append_2 _ _) (PySem.list_append l its.toArray n u (by rw [List.size_toArray]; omega)) ⟨e, ?_⟩
 refine ⟨.non, _, I.agu (its' := its ++ [u]) hH e (by simp) (r.append (.cons ru .nil)) ?_, rfl, q⟩
 rw [List.length_append, List.length_singleton]
 omega
def aa2 : V → List V → Hp → VK → Prop := fun x vs H Q => ∃ l b xs zs, x = .ref l ∧ vs = [.ref b] ∧ H l = some (.lst xs) ∧ H b = some (.lst zs) ∧ xs.length + zs.length ≤ sizeLine ∧ Q .non (upd H l (.lst (xs ++ zs)))
theorem Np : MtM X "list.extend" aa2 := by
 intro pins s σ H x vs v us Q I rx rv h
 obtain ⟨l, b, xs, zs, rfl, rfl, hH, hB, hz, q⟩ := h
 cases rx
 obtain ⟨u, rfl, ru⟩ := rv.one
 cases ru
 obtain ⟨z, its, n, r, hl, e⟩ := I.Ym hH
 obtain ⟨z2, its2, n2, r2, hl2, e2⟩ := I.Ym hB
 have hsz : its.toArray.size + its2.toArray.size ≤ sizeLine := by rw [List.size_toArray, List.size_toArray]; omega
 have agv : ¬ (!its.toArray.isEmpty && Builtin.List.listTooLong (its.toArray.size + its2.toArray.size)) = true := by
   rw [Yn hsz, Bool.and_false]
   exact Bool.false_ne_true
 refine call_meets F.slot_list_extend ⟨_, e, rfl⟩ F.entry_list_extend (F.args_list_extend_2 _ _)
   (AutoSeq1.list_extend_list_list_0 l its.toArray n b its2.toArray n2 agv (by rw [List.size_toArray]; omega) (by omega)) ⟨e, e2, ?_⟩
 refine ⟨.non, _, I.agu (its' := its ++ its2) hH e (by simp) (r.append r2) ?_, rfl, q⟩
 rw [List.length_append]
 omega
def auq : R2 := fun x y H Q => ∃ l b xs zs, x = .ref l ∧ y = .ref b ∧ H l = some (.lst xs) ∧ H b = some (.lst zs) ∧ xs.length + zs.length ≤ sizeLine ∧ ∀ p, H p = none → Q (.ref p) (upd H p (.lst (xs ++ zs)))
theorem Ow : iW X (binaryOp .Add) auq := by
 intro pins s σ H x y v u Q I rx ry h
 obtain ⟨l, b, xs, zs, rfl, rfl, hH, hB, hz, q⟩ := h
 cases rx
 cases ry
 obtain ⟨z, its, n, r, hl, e⟩ := I.Ym hH
 obtain ⟨z2, its2, n2, r2, hl2, e2⟩ := I.Ym hB
 refine PySem.P.add_list e e2 ?_ (by rw [List.size_toArray, List.size_toArray]; omega)
 have ea : its.toArray ++ its2.toArray = (its ++ its2).toArray := by simp
 rw [ea]
 exact ⟨.ref _, _, I.aup (t' := s.toks) (r.append r2) (by rw [List.length_append]; omega), rfl, q _ I.fresh⟩
end
section
variable {prog : Program} {w : World} {A : Around} {E : Value → Shared → Prop} {s : Shared}
end
section
variable {X : Cx}
end
end L2
namespace Att
open PySem PySem.W PySem.Calls PyProof.Rows
theorem Gf {P : Params} {h : Heap} : ∀ (ns : List Int) (vs : List Value), WellAll P h vs (ns.map WData.int) → IntsAre vs ns := by
 intro ns
 induction ns with
 | nil =>
   intro vs w
   rw [List.map_nil] at w
   cases w
   exact .nil
 | cons n ns ih =>
   intro vs w
   rw [List.map_cons] at w
   cases w with
   | cons a b =>
     cases a
     exact .cons _ _ (ih _ b)
theorem Wt {l : OpenLaw} {n : Nat} (hn : l.most = some n) {P : Params} {h : Heap} {args : List WData} {vals : List Value}
   (hpre : l.row.toRowW.claim.pre args = true) (hwl : WellAll P h vals args) :
   ∃ a vs ns, vals = [Value.ref a] ∧ args = [WData.list (ns.map WData.int)] ∧ h.get? a = some { cls := .type "list", data := .seq vs.toArray } ∧ IntsAre vs ns ∧ ns.length ≤ n := by
 have hsh : WShape.hasAll [] args [.list .int] = true := (pre_splitW hpre).1
 have hc : l.pre.holds [] { args := args } = true := (pre_splitW hpre).2
 obtain ⟨d, r, rfl, h1, h2⟩ := hasAllW_cons hsh
 obtain rfl := hasAllW_nil h2
 obtain ⟨xs, rfl, h3⟩ := hasW_list h1
 obtain ⟨ns, rfl⟩ := items_int h3
 have hlen : ns.length ≤ n := by
   unfold OpenLaw.pre at hc
   have h4 : (WTm.not (.lt (.lit (.int (n : Int))) (.len (.arg 0)))).holds [] { args := [.list (ns.map .int)] } = true := by
     have h4 := (holds_andW hc).1
     rw [hn] at h4
     exact h4
   have h5 := condW_of h4 (w_not (w_lt w_lit (w_len_list (w_arg rfl))))
   rw [List.length_map] at h5
   refine Nat.le_of_not_lt fun q => ?_
   have q' : (n : Int) < ((ns.length : Nat) : Int) := by omega
   first
     | (rw [decide_eq_true q'] at h5; exact absurd h5 (by decide))
     | (simp at h5; omega)
 cases hwl with
 | cons w1 w2 =>
   cases w2
   cases w1 with
   | list ho hall => exact ⟨_, _, ns, rfl, rfl, ho, Gf ns _ hall, hlen⟩
theorem Wu (l : OpenLaw) (args : List WData) : l.row.toRowW.claim.post args (.bool true) args = true :=
 postW_of (r := l.row.toRowW) (X := (true == true))
   (show WShape.has [] (.bool true) .bool = true by first | rfl | decide | simp [WShape.has, WShape.arms, WShape.armsAll])
   (show (WTm.eq .res (.lit (.bool true))).value [] { args := args, res := some (.bool true), after := args } = some (.bool (true == true)) from w_eq_bool (w_res rfl) w_lit) rfl
section
variable {prog : Program} {w : World} {A : Around} {E : Value → Shared → Prop} {s : Shared} {K : Frag}
end
end Att
namespace L2
open PySem PySem.Spec PyProof.Rows
theorem Nq : ∀ {vs : List Value} {ns : List Int}, IntsAre vs ns → Vals (ns.map V.int) vs
 | _, _, .nil => .nil
 | _, _, .cons n t h => .cons ⟨t, rfl⟩ (Nq h)
def Only (H : Hp) : Prop := ∀ b, H b = none ∨ ∃ o xs, H b = some (.Qy o (.lst xs))
theorem Yo {P : Program} {w : World} {K : PySem.W.Frag} {mg mb : Str → Option Value} {CX : Hx} {k : Nat} {fa a : Addr} {fd : FuncData} {x : Str} {sp : Sp} {s₁ : Shared} {vs : List Value} {ns : List Int}
   (KX : K.In s₁.heap) (hns : s₁.heap.Ns mainGlobals mg) (hb : s₁.heap.Ns builtinsNs mb) (hbb : ∀ x : Str, x ≠ "__name__" → mb x = bootBuiltins x) (hlim : s₁.heap.NoLimit) (hg : s₁.gens = #[])
   (ha : s₁.heap.get? a = some { cls := .type "list", data := .seq vs.toArray }) (hi : IntsAre vs ns) (hl : ns.length ≤ sizeLine) (hr : gw k callerA)
   (F : ∀ base : Heap, K.In base → base.Ns mainGlobals mg → aB P w K mg base CX k fa fd [x] sp) (hbind : ∀ (s : Shared) (u : Value), BindsTo s fd ⟨[u], []⟩ [(x, u)])
   (hsp : ∀ H : Hp, Only H → bG K H a (ns.map V.int) → sp [.ref a] H (fun v _ => v = .bl true) fun _ _ _ => False)
   (hCX : ∀ H e s', CX [] H s₁ (fun _ _ _ => False) e s' → False) :
   codeAny (model P w) callerA (.call (.ref fa) ⟨[.ref a], []⟩) (fun r s' => r = .ok (.ret (.bool true)) ∧ OldK s₁.heap s'.heap ∧ s'.os = s₁.os ∧ AllBare s'.gens) s₁ := by
 have rv := Nq hi
 have lenV := hi.length
 have core : ∀ H : Hp, Only H → bG K H a (ns.map V.int) → Ge P w H s₁.heap → (∀ b, H b ≠ none → b = a) → (H a ≠ none → K.lookup a = none) →
     codeAny (model P w) callerA (.call (.ref fa) ⟨[.ref a], []⟩) (fun r s' => r = .ok (.ret (.bool true)) ∧ OldK s₁.heap s'.heap ∧ s'.os = s₁.os ∧ AllBare s'.gens) s₁ := by
   intro H hO hS hok hA hK
   have Vs : ∀ {b : Addr} {o : Obj}, s₁.heap.get? b = some o → H b = none → (Oh s₁.heap H).get? b = some o := fun e n => XQ e n
   have noA : ∀ {b : Addr} {o : Obj} {es : Array DictEntry} {ep : Nat}, s₁.heap.get? b = some o → o.data = .dict es ep → H b = none := fun {b o es ep} e d => by
     cases q : H b with
     | none => rfl
     | some u =>
       have e' : b = a := hA b (by rw [q]; simp)
       subst e'
       rw [ha] at e; cases e
       have d' : Data.seq vs.toArray _ = Data.dict es ep := d
       cases d'
   have nsK : ∀ {b : Addr} {m : Str → Option Value}, s₁.heap.Ns b m → (Oh s₁.heap H).Ns b m := fun {b m} ⟨o, es, ep, e, d, r⟩ => ⟨o, es, ep, Vs e (noA e d), d, r⟩
   have hKb : K.In (Oh s₁.heap H) := fun b o e => Vs (KX b o e) (by
     cases q : H b with
     | none => rfl
     | some u =>
       have e' : b = a := hA b (by rw [q]; simp)
       subst e'
       rw [hK (by rw [q]; simp)] at e; cases e)
   have hM : Mod K mg (Oh s₁.heap H) := ⟨hKb, nsK hns, ⟨mb, nsK hb, hbb⟩, let ⟨mc, h1, h2⟩ := hlim; ⟨mc, nsK h1, h2⟩⟩
   have e0 : Ig P w K mg (Oh s₁.heap H) callerA [] s₁ H := ⟨rfl, hM, fun b o e => aaP e, Nat.le_of_eq (Wk _ _), trivial, fun b hb => absurd (show b ∈ ([] : List Addr) from hb) (by simp), hok, .of_eq hg⟩
   refine codeAny_mono ((F _ hKb (nsK hns)).run callerA [] s₁ H ⟨[.ref a], []⟩ [.ref a] [.ref a] _ _ hr e0 (hbind s₁ (.ref a)) (.cons rfl .nil) (hsp H hO hS)) fun r s' h => ?_
   cases r with
   | error e => exact (hCX H e s' h).elim
   | ok fl =>
     cases fl with
     | next => exact False.elim h
     | brk => exact False.elim h
     | cont => exact False.elim h
     | ret u =>
       obtain ⟨v, H', os, bare, un, hok', r', q⟩ := h
       have q' : v = .bl true := q
       subst q'
       obtain rfl : u = Value.bool true := r'
       refine ⟨rfl, OldK.of_keep fun b o e => ?_, os, bare⟩
       cases q : H b with
       | none => exact un.keep b o e q (by intro z; exact absurd (show b ∈ ([] : List Addr) from z) (by simp)) (by simp)
       | some u =>
         rcases hO b with z | ⟨ob, xs, z⟩
         · rw [q] at z; cases z
         · have z2 := un.sr b ob _ z
           obtain ⟨e1, _⟩ := hok b _ z
           obtain ⟨e2, _⟩ := hok' b _ z2
           rw [e] at e1; cases e1
           exact e2
 cases hk : K.lookup a with
 | some o =>
   have e := KX a o hk
   rw [ha] at e
   cases e
   refine core (fun _ => none) (fun _ => .inl rfl) (.inr ⟨_, vs.toArray, _, hk, rfl, rfl, rfl, by rw [List.size_toArray, lenV]; exact hl, by simpa using rv⟩) (fun b u z => by have z' : (none : Option HO) = some u := z; cases z') (fun b z => absurd rfl z) fun z => absurd rfl z
 | none =>
   refine core (fun b => if b = a then some (.Qy { cls := .type "list", data := .seq vs.toArray } (.lst (ns.map V.int))) else none) (fun b => ?_) (.inl (.inr ⟨{ cls := .type "list", data := .seq vs.toArray }, if_pos rfl⟩)) (fun b u z => ?_) (fun b z => ?_) fun _ => hk
   · by_cases hb : b = a
     · exact .inr ⟨_, _, if_pos hb⟩
     · exact .inl (if_neg hb)
   · by_cases hb : b = a
     · have z' := (if_pos hb).symm.trans z
       cases z'
       subst hb
       exact ⟨ha, by rw [List.length_map]; exact hl, vs, _, rv, ha⟩
     · have z' := (if_neg hb).symm.trans z
       cases z'
   · by_cases hb : b = a
     · exact hb
     · exact absurd (if_neg hb) z
end L2
namespace L2
open PySem PySem.Spec PyProof.Rows
abbrev KOf {K : PySem.W.Frag} {h : Heap} (_ : K.In h) : PySem.W.Frag := K
end L2
namespace L2
open PySem PySem.Spec PyProof.Rows
def inClass (s : Stmt) (j : Nat) : Stmt := match s with
 | .ClassDef _ _ _ body _ _ _ _ _ _ _ => body.getD j (.Pass ⟨0, 0, 0, 0⟩)
 | _ => .Pass ⟨0, 0, 0, 0⟩
def ao (s : Stmt) : Arguments := match s with
 | .FunctionDef _ a _ _ _ _ _ _ _ _ => a
 | _ => { posonlyargs := [], args := [], vararg := none, kwonlyargs := [], kw_defaults := [], kwarg := none, defaults := [] }
def ak (s : Stmt) : List Stmt := match s with
 | .FunctionDef _ _ b _ _ _ _ _ _ _ => b
 | _ => []
def aa (s : Stmt) : Scope := match s with
 | .FunctionDef _ _ _ _ _ _ sc _ _ _ => sc
 | _ => { kind := .function, names := [], isGenerator := false, isCoroutine := false }
abbrev aL : Hx := fun _ _ _ _ _ _ => False
abbrev E0 : XK := fun _ _ _ => False
theorem zL {X : Cx} : Passes aL X E0 := fun _ _ _ _ _ _ _ h => h.elim
structure fV (K : PySem.W.Frag) (x qual : Str) (st : Stmt) (f : Addr) (fd : FuncData) : Prop where
 ex : ∃ (oc : Value) (od : Option Addr) (kV doc pm : Value) (an : Option Addr) (cdv ct : Value) (osl : Array (Option Value)),
   fd = PySem.W.fnOf x qual (ao st) (ak st) (aa st) .none kV doc pm an cdv ct ∧ K.lookup f = some ⟨oc, od, .func fd, osl⟩ ∧ PySem.W.codeIn K cdv qual = true
 kp : PySem.W.keepIn K (.ref f) = true
section
variable {P : Program} {w : World} {K : PySem.W.Frag} {mg : Str → Option Value} {base : Heap}
theorem fV.ok {x qual : Str} {st : Stmt} {f : Addr} {fd : FuncData} {N ps : List Str} {k : Nat} {sp : Sp} (F : fV K x qual st f fd) (S : aq N ps (aa st)) (len : ∀ vs H Q E, sp vs H Q E → vs.length = ps.length)
   (hbody : ∀ (cdv : Value) (A : Around) (outer : List Env) (s : Shared) (H : Hp) (vs : List V) (Q : VK) (E : XK), gw k (A.deeper (envOfC qual (aa st) s.heap.objs.size f cdv)) → sp vs H Q E →
     ∃ t, j0 (kZ aL P w K mg base N qual (aa st) f cdv A outer s H E).Qz (ak st) t ∧ t { nx := fun _ H' => Q .non H', rt := Q } (start N vs) H) : aB P w K mg base aL (k + 1) f fd ps sp := by
 obtain ⟨oc, od, kV, doc, pm, an, cdv, ct, osl, rfl, lk, hcd⟩ := F.ex
 refine Vq lk hcd S len fun A outer s H vs Q E hr hsp => ?_
 obtain ⟨t, h, q⟩ := hbody cdv A outer s H vs Q E hr hsp
 exact ⟨t, h.Qz, q⟩
theorem fV.binds {x qual : Str} {st : Stmt} {f : Addr} {fd : FuncData} {ps : List Str} (F : fV K x qual st f fd)
   (h : ∀ (kV doc pm : Value) (an : Option Addr) (cdv ct : Value) (us : List Value), us.length = ps.length → bindArgs (PySem.W.fnOf x qual (ao st) (ak st) (aa st) .none kV doc pm an cdv ct) ⟨us, []⟩ = pure (ps.zip us)) : Binds K fd ps [] := by
 obtain ⟨oc, od, kV, doc, pm, an, cdv, ct, osl, rfl, lk, hcd⟩ := F.ex
 exact .all (h kV doc pm an cdv ct)
theorem aj {x qual : Str} {st : Stmt} {f : Addr} {oc : Value} {od an : Option Addr} {osl : Array (Option Value)} {kV doc pm cdv ct : Value} (l : K.lookup f = some ⟨oc, od, .func (PySem.W.fnOf x qual (ao st) (ak st) (aa st) .none kV doc pm an cdv ct), osl⟩)
   (c : PySem.W.codeIn K cdv qual = true) (k : PySem.W.keepIn K (.ref f) = true) : fV K x qual st f (PySem.W.fnOf x qual (ao st) (ak st) (aa st) .none kV doc pm an cdv ct) := ⟨⟨oc, od, kV, doc, pm, an, cdv, ct, osl, rfl, l, c⟩, k⟩
end
section
variable {X : Cx}
theorem pv (i : Nat) {x : Str} {pos : Pos} (hN : X.N[i]? = some x := by rfl) (hv : Vis X.env.scope x := by first | exact Or.inl rfl | exact Or.inr (Or.inl rfl) | exact Or.inr (Or.inr rfl)) (hd : (x == ("__debug__" : Str)) = false := by decide)
   (hcd : (x == ("__classdict__" : Str)) = false := by decide) : PE X (.Name x pos) (XX i) := ac0 hN hv hd hcd
end
theorem bh {A B : Prop} (h : B) : if false = true then A else B := by
 rw [if_neg Bool.false_ne_true]
 exact h
theorem bJ {A B : Prop} (h : A) : if true = true then A else B := by
 rw [if_pos rfl]
 exact h
theorem dD {c A B : Prop} [Decidable c] (h1 : c → A) (h2 : ¬ c → B) : if c then A else B := by
 by_cases h : c
 · rw [if_pos h]
   exact h1 h
 · rw [if_neg h]
   exact h2 h
def az (H H' : Hp) : Prop := ∀ b o, H b = some o → H' b = some o
theorem az.refl (H : Hp) : az H H := fun _ _ h => h
theorem az.trans {H H1 H2 : Hp} (a : az H H1) (b : az H1 H2) : az H H2 := fun c o h => b c o (a c o h)
theorem az.free {H H' : Hp} (e : az H H') {l : Addr} (h : H' l = Option.none) : H l = Option.none := by
 cases q : H l with
 | none => rfl
 | some o =>
   rw [e l o q] at h
   cases h
theorem az.seq {K : PySem.W.Frag} {H H' : Hp} {a : Addr} {xs : List V} (e : az H H') (h : bG K H a xs) : bG K H' a xs := by
 rcases h with (h | ⟨o, h⟩) | h
 · exact .inl (.inl (e _ _ h))
 · exact .inl (.inr ⟨o, e _ _ h⟩)
 · exact .inr h
end L2
namespace L2
open PySem PySem.Spec PyProof.Rows
section
variable {κ : Type} [DecidableEq κ]
def Gg (kvs : List (κ × V)) (k : κ) : Option V := (kvs.find? fun kv => decide (kv.1 = k)).map (·.2)
def putK (kvs : List (κ × V)) (k : κ) (v : V) : List (κ × V) :=
 if (kvs.any fun kv => decide (kv.1 = k)) = true then kvs.map (fun kv => if kv.1 = k then (kv.1, v) else kv) else kvs ++ [(k, v)]
def acj (kvs : List (κ × V)) (k : κ) : List (κ × V) := kvs.filter fun kv => decide (kv.1 ≠ k)
theorem Ih {p : κ × V} {r : List (κ × V)} {k : κ} (e : p.1 = k) : Gg (p :: r) k = some p.2 := by simp [Gg, List.find?_cons, e]
theorem Ii {p : κ × V} {r : List (κ × V)} {k : κ} (e : ¬ p.1 = k) : Gg (p :: r) k = Gg r k := by simp [Gg, List.find?_cons, e]
theorem QV (k : κ) : ∀ kvs : List (κ × V), (kvs.any fun kv => decide (kv.1 = k)) = (Gg kvs k).isSome
 | [] => rfl
 | p :: r => by
   rw [List.any_cons]
   by_cases e : p.1 = k
   · simp only [Ih e, decide_eq_true e, Bool.true_or, Option.isSome_some]
   · rw [Ii e, decide_eq_false e, Bool.false_or]; exact QV k r
theorem wW.Wv {o : Option V} {u : Option Value} (r : wW o u) : o.isSome = u.isSome := by
 cases o with
 | none => cases u with
   | none => rfl
   | some _ => exact (show False from r).elim
 | some _ => cases u with
   | none => exact (show False from r).elim
   | some _ => rfl
theorem wW.getD {o : Option V} {u : Option Value} {d : V} {d' : Value} (r : wW o u) (rd : RelV d d') : RelV (o.getD d) (u.getD d') := by
 cases o with
 | none => cases u with
   | none => exact rd
   | some _ => exact (show False from r).elim
 | some _ => cases u with
   | none => exact (show False from r).elim
   | some _ => exact r
theorem KV.val {kvs : List (κ × V)} {vs : List (κ × Value)} (r : KV kvs vs) (k : κ) : wW (Gg kvs k) (valueAt vs k) := by
 unfold KV at r
 induction r with
 | nil => exact True.intro
 | @cons p q ps qs h t ih =>
   obtain ⟨h1, h2⟩ := h
   by_cases e : p.1 = k
   · have e' : q.1 = k := h1.symm.trans e
     have b : valueAt (q :: qs) k = some q.2 := by simp [valueAt, List.find?_cons, e']
     rw [Ih e, b]; exact h2
   · have e' : ¬ q.1 = k := fun z => e (h1.trans z)
     have b : valueAt (q :: qs) k = valueAt qs k := by simp [valueAt, List.find?_cons, e']
     rw [Ii e, b]; exact ih
theorem KV.any {kvs : List (κ × V)} {vs : List (κ × Value)} (r : KV kvs vs) (k : κ) : (kvs.any fun kv => decide (kv.1 = k)) = vs.any fun kv => decide (kv.1 = k) := by
 unfold KV at r
 induction r with
 | nil => rfl
 | cons h t ih => rw [List.any_cons, List.any_cons, ih, h.1]
theorem KV.repl {kvs : List (κ × V)} {vs : List (κ × Value)} (r : KV kvs vs) (k : κ) {y : V} {u : Value} (ry : RelV y u) :
   KV (kvs.map fun kv => if kv.1 = k then (kv.1, y) else kv) (vs.map fun kv => if kv.1 = k then (kv.1, u) else kv) := by
 unfold KV at r ⊢
 induction r with
 | nil => exact .nil
 | @cons p q ps qs h t ih =>
   rw [List.map_cons, List.map_cons]
   refine .cons ?_ ih
   obtain ⟨h1, h2⟩ := h
   by_cases e : p.1 = k
   · rw [if_pos e, if_pos (h1.symm.trans e)]; exact ⟨h1, ry⟩
   · rw [if_neg e, if_neg (fun z => e (h1.trans z))]; exact ⟨h1, h2⟩
theorem KV.put {kvs : List (κ × V)} {vs : List (κ × Value)} (r : KV kvs vs) (k : κ) {y : V} {u : Value} (ry : RelV y u) : KV (putK kvs k y) (stored vs k u) := by
 unfold putK stored
 rw [r.any k]
 by_cases e : (vs.any fun kv => decide (kv.1 = k)) = true
 · rw [if_pos e, if_pos e]; exact r.repl k ry
 · rw [if_neg e, if_neg e]; exact Paired.snoc r ⟨rfl, ry⟩
theorem KV.drop {kvs : List (κ × V)} {vs : List (κ × Value)} (r : KV kvs vs) (k : κ) : KV (acj kvs k) (without vs k) := by
 unfold KV at r ⊢
 unfold acj without
 induction r with
 | nil => exact .nil
 | @cons p q ps qs h t ih =>
   obtain ⟨h1, h2⟩ := h
   rw [List.filter_cons, List.filter_cons]
   by_cases e : p.1 = k
   · have a : ¬ decide (p.1 ≠ k) = true := by simp [e]
     have b : ¬ decide (q.1 ≠ k) = true := by simp [h1.symm.trans e]
     rw [if_neg a, if_neg b]; exact ih
   · have e' : ¬ q.1 = k := fun z => e (h1.trans z)
     have a : decide (p.1 ≠ k) = true := by simp [e]
     have b : decide (q.1 ≠ k) = true := by simp [e']
     rw [if_pos a, if_pos b]; exact .cons ⟨h1, h2⟩ ih
theorem KV.keys {kvs : List (κ × V)} {vs : List (κ × Value)} (r : KV kvs vs) : kvs.map (·.1) = vs.map (·.1) := by
 unfold KV at r
 induction r with
 | nil => rfl
 | cons h t ih => rw [List.map_cons, List.map_cons, ih, h.1]
theorem KV.length {kvs : List (κ × V)} {vs : List (κ × Value)} (r : KV kvs vs) : kvs.length = vs.length := Paired.length r
end
abbrev KT (H : Hp) : List (List Key × V) → List (List Key × Addr × Value) → Prop := Paired fun p q => p.1 = q.1 ∧ H q.2.1 = some (.tup (p.1.map kV)) ∧ RelV p.2 q.2.2
theorem KT.val {H : Hp} {kvs : List (List Key × V)} {xs : List (List Key × Addr × Value)} (r : KT H kvs xs) (k : List Key) : wW (Gg kvs k) ((atKey xs k).map (·.2)) := by
 induction r with
 | nil => exact True.intro
 | @cons p q ps qs h t ih =>
   obtain ⟨h1, _, h2⟩ := h
   by_cases e : p.1 = k
   · have e' : q.1 = k := h1.symm.trans e
     have b : atKey (q :: qs) k = some q.2 := by simp [atKey, List.find?_cons, e']
     rw [Ih e, b]; exact h2
   · have e' : ¬ q.1 = k := fun z => e (h1.trans z)
     have b : atKey (q :: qs) k = atKey qs k := by simp [atKey, List.find?_cons, e']
     rw [Ii e, b]; exact ih
theorem KT.repl {H : Hp} {kvs : List (List Key × V)} {xs : List (List Key × Addr × Value)} (r : KT H kvs xs) (k : List Key) {y : V} {u : Value} (ry : RelV y u) :
   KT H (kvs.map fun kv => if kv.1 = k then (kv.1, y) else kv) (xs.map (putAt k u)) := by
 induction r with
 | nil => exact .nil
 | @cons p q ps qs h t ih =>
   rw [List.map_cons, List.map_cons]
   refine .cons ?_ ih
   obtain ⟨h1, h2, h3⟩ := h
   unfold putAt
   by_cases e : p.1 = k
   · rw [if_pos e, if_pos (h1.symm.trans e)]; exact ⟨h1, h2, ry⟩
   · rw [if_neg e, if_neg (fun z => e (h1.trans z))]; exact ⟨h1, h2, h3⟩
theorem KT.put {H : Hp} {kvs : List (List Key × V)} {xs : List (List Key × Addr × Value)} (r : KT H kvs xs) (k : List Key) {b : Addr} {y : V} {u : Value} (hb : H b = some (.tup (k.map kV))) (ry : RelV y u) :
   KT H (putK kvs k y) (storedH xs k b u) := by
 have e : (kvs.any fun kv => decide (kv.1 = k)) = (atKey xs k).isSome := by
   rw [QV, (r.val k).Wv, Option.isSome_map]
 unfold putK storedH
 rw [e]
 by_cases q : (atKey xs k).isSome = true
 · rw [if_pos q, if_pos q]; exact r.repl k ry
 · rw [if_neg q, if_neg q]; exact Paired.snoc r ⟨rfl, hb, ry⟩
theorem KT.keeps {H H' : Hp} {kvs : List (List Key × V)} {xs : List (List Key × Addr × Value)} (r : KT H kvs xs) (ht : ∀ b ys, H b = some (.tup ys) → H' b = some (.tup ys)) : KT H' kvs xs :=
 Paired.acY r fun _ _ z => ⟨z.1, ht _ _ z.2.1, z.2.2⟩
section
variable {P : Program} {w : World} {H : Hp} {h : Heap} {a : Addr}
end
def aa3 (H : Hp) (a : Addr) (y : V) (r : Option V) : Prop :=
 (∃ kvs k, Rd H a (.dK kvs) ∧ y = kV k ∧ r = Gg kvs k) ∨ ∃ kvs k b, Rd H a (.dT kvs) ∧ y = .ref b ∧ H b = some (.tup (k.map kV)) ∧ r = Gg kvs k
def aa4 (H : Hp) (a : Addr) (y v : V) (H' : Hp) : Prop :=
 (∃ kvs k, H a = some (.dK kvs) ∧ y = kV k ∧ kvs.length < sizeLine ∧ H' = upd H a (.dK (putK kvs k v))) ∨
 ∃ kvs k b, H a = some (.dT kvs) ∧ y = .ref b ∧ H b = some (.tup (k.map kV)) ∧ kvs.length < sizeLine ∧ H' = upd H a (.dT (putK kvs k v))
theorem aa3.k {H : Hp} {a : Addr} {kvs : List (Key × V)} {k : Key} (e : H a = some (.dK kvs)) : aa3 H a (kV k) (Gg kvs k) := .inl ⟨kvs, k, .inl e, rfl, rfl⟩
theorem aa3.t {H : Hp} {a b : Addr} {kvs : List (List Key × V)} {k : List Key} (e : H a = some (.dT kvs)) (eb : H b = some (.tup (k.map kV))) : aa3 H a (.ref b) (Gg kvs k) := .inr ⟨kvs, k, b, .inl e, rfl, eb, rfl⟩
theorem aa4.k {H : Hp} {a : Addr} {kvs : List (Key × V)} {k : Key} {v : V} (e : H a = some (.dK kvs)) (hl : kvs.length < sizeLine) : aa4 H a (kV k) v (upd H a (.dK (putK kvs k v))) := .inl ⟨kvs, k, e, rfl, hl, rfl⟩
theorem aa4.t {H : Hp} {a b : Addr} {kvs : List (List Key × V)} {k : List Key} {v : V} (e : H a = some (.dT kvs)) (eb : H b = some (.tup (k.map kV))) (hl : kvs.length < sizeLine) :
   aa4 H a (.ref b) v (upd H a (.dT (putK kvs k v))) := .inr ⟨kvs, k, b, e, rfl, eb, hl, rfl⟩
section
variable {X : Cx} {pins : List (Addr × Obj)} {σ : St} {H : Hp} {s : Shared} {a : Addr} {y v : V} {u r : Value} {o : Option V} {A : Around} {E : Value → Shared → Prop}
end
section
variable {X : Cx} {pins : List (Addr × Obj)} {σ : St} {H : Hp} {s : Shared} {a : Addr} {kvs : List (Key × V)} {k : Key} {u : Value} {A : Around} {E : Value → Shared → Prop}
end
section
variable {X : Cx} {o i e value : Expr} {pos pos' tpos : Pos} {td ty tv : TE}
end
section
variable {X : Cx} {pos : Pos}
end
def Yp : List (TE × TE) → St → Hp → (List (V × V) → Hp → Prop) → Prop
 | [], _, H, Q => Q [] H
 | (tk, tv) :: r, σ, H, Q => tk σ H fun x H1 => tv σ H1 fun y H2 => Yp r σ H2 fun ps H3 => Q ((x, y) :: ps) H3
abbrev VV : List (V × V) → List (Value × Value) → Prop := Paired fun p q => RelV p.1 q.1 ∧ RelV p.2 q.2
def uZ (X : Cx) (pos : Pos) (keys : List (Option Expr)) (values : List Expr) (trs : List (TE × TE)) : Prop :=
 ∀ (pins : List (Addr × Obj)) (s : Shared) (σ : St) (H : Hp) (Q : List (V × V) → Hp → Prop), Inv X pins σ H s → Yp trs σ H Q →
   wpAny (model X.prog X.w) X.A (evalPairs (pairTrees keys values X.env pos)) (fun vs s' => ∃ ps H', Inv X pins σ H' s' ∧ VV ps vs ∧ Q ps H') X.xe s
structure M1 (X : Cx) (o : Expr) (m : Str) (apos : Pos) (e : Expr) (cpos : Pos) : Prop where
 base : attributeBase o m X.env (eval o X.env) = eval o X.env
 few : ((backTo cpos (starEach [e] X.env)).all (fun x => !x.1) && (backToKw cpos (keywordEach [] X.env)).all (fun x => x.1.isSome)
   && decide (([e] : List Expr).length + ([] : List Keyword).length + (if ([] : List Keyword).isEmpty then 0 else 1) < 30)) = true
 line : (apos.endLine == cpos.line) = true
 trees : backTo cpos (starEach [e] X.env) = [(false, eval e X.env)]
structure M2 (X : Cx) (o : Expr) (m : Str) (apos : Pos) (e f : Expr) (cpos : Pos) : Prop where
 base : attributeBase o m X.env (eval o X.env) = eval o X.env
 few : ((backTo cpos (starEach [e, f] X.env)).all (fun x => !x.1) && (backToKw cpos (keywordEach [] X.env)).all (fun x => x.1.isSome)
   && decide (([e, f] : List Expr).length + ([] : List Keyword).length + (if ([] : List Keyword).isEmpty then 0 else 1) < 30)) = true
 line : (apos.endLine == cpos.line) = true
 trees : backTo cpos (starEach [e, f] X.env) = [(false, eval e X.env), (false, eval f X.env)]
section
variable {X : Cx} {pins : List (Addr × Obj)} {σ : St} {H : Hp} {s : Shared} {a : Addr} {y d : V} {u r : Value} {o : Option V} {A : Around} {E : Value → Shared → Prop}
end
section
variable {X : Cx} {o e f : Expr} {apos cpos : Pos} {td ty tx : TE}
end
section
variable {X : Cx} {pins : List (Addr × Obj)} {σ : St} {H : Hp} {s : Shared} {a : Addr} {kvs : List (Key × V)} {A : Around} {E : Value → Shared → Prop}
end
section
variable {X : Cx} {pins : List (Addr × Obj)} {σ : St} {H : Hp} {s : Shared} {a : Addr} {y : V} {u : Value} {A : Around} {E : Value → Shared → Prop}
end
end L2
namespace L2
open PySem PySem.Spec PyProof.Rows
section
variable {X : Cx}
end
section
variable {κ : Type} [DecidableEq κ]
end
end L2
namespace L2
open PySem PySem.Spec PyProof.Rows PySem.Calls
section
variable {prog : Program} {w : World} {A : Around} {R : Result → Shared → Prop} {s : Shared}
theorem Fl {elt target iter : Expr} {scope : Scope} {pos : Pos} {it acc : Value} {env : Env} (I : Nat → Shared → Prop)
   (turn : ∀ n s, I n s → wpAny (model prog w) A (pyNext it) (fun r s₁ => match r with
     | none => R (.ok .next) s₁
     | some v => wpAny (model prog w) A (letOwnedTupleGo target it v) (fun _ s₂ => wpAny (model prog w) A (assign target env v) (fun _ s₃ =>
         wpAny (model prog w) A (eval elt env) (fun x s₄ =>
           wpAny (model prog w) A (call (.builtin "list.append") [acc, x]) (fun _ s₅ => ∃ m, m < n ∧ I m s₅) (notedBy (model prog w) A env fun e s' => R (.error e) s') s₄)
           (notedBy (model prog w) A env fun e s' => R (.error e) s') s₃) (notedBy (model prog w) A env fun e s' => R (.error e) s') s₂) (notedBy (model prog w) A env fun e s' => R (.error e) s') s₁)
     (notedBy (model prog w) A env fun e s' => R (.error e) s') s)
   (n : Nat) (h : I n s) : codeAny (model prog w) A (.compLoop (.ListComp elt [⟨target, iter, [], 0⟩] scope pos) 0 it acc env) R s := by
 refine codeAny_loop rfl I (fun n s hI => ?_) n h
 show wpAny _ A ((compTurn (.ListComp elt [⟨target, iter, [], 0⟩] scope pos) 0 it acc env).onRaise (fun x => do noteFrame x env; theTreesLotGoes x)) _ _ s
 refine wpAny_noted ?_
 rw [compTurn_list1]
 refine wpAny_bind (wpAny_standAt (wpAny_bind (wpAny_mono (turn n s hI) (fun r s₁ h₁ => ?_) fun _ _ h' => h')))
 cases r with
 | none => exact wpAny_pure h₁
 | some v =>
   refine wpAny_bind (wpAny_mono h₁ (fun _ s₂ h₂ => wpAny_bind (wpAny_mono h₂ (fun _ s₃ h₃ => ?_) fun _ _ h' => h')) fun _ _ h' => h')
   exact wpAny_bind (wpAny_bind (wpAny_mono h₃ (fun x s₄ h₄ => wpAny_bind (wpAny_mono h₄ (fun _ s₅ h₅ => wpAny_pure (wpAny_pure ⟨rfl, h₅⟩)) fun _ _ h' => h')) fun _ _ h' => h'))
end
def jM (env : Env) : List (Str × NameKind) → List (Str × Addr) → List (Str × Addr)
 | [], cs => cs
 | (n, k) :: r, cs => jM env r (if k == .free then match env.cells.lookup n with | some c => (n, c) :: cs | none => cs else cs)
theorem QW {env : Env} : ∀ {ns : List (Str × NameKind)} {cs : List (Str × Addr)} {y : Str} {c : Addr}, (y, c) ∈ jM env ns cs → (y, c) ∈ cs ∨ env.cells.lookup y = some c
 | [], _, _, _, h => .inl h
 | (n, k) :: r, cs, y, c, h => by
   unfold jM at h
   rcases QW h with q | q
   · split at q
     · cases e : env.cells.lookup n with
       | none => rw [e] at q; exact .inl q
       | some d =>
         rw [e] at q
         rcases List.mem_cons.mp q with z | z
         · cases z; exact .inr e
         · exact .inl z
     · exact .inl q
   · exact .inr q
theorem QX {env : Env} : ∀ {ns : List (Str × NameKind)} {cs : List (Str × Addr)} {y : Str}, ((∃ c, (y, c) ∈ cs) ∨ ((y, NameKind.free) ∈ ns ∧ ∃ c, env.cells.lookup y = some c)) → ∃ c, (y, c) ∈ jM env ns cs
 | [], _, _, h => by
   rcases h with h | ⟨h, _⟩
   · exact h
   · cases h
 | (n, k) :: r, cs, y, h => by
   unfold jM
   apply QX
   rcases h with ⟨c, h⟩ | ⟨h, c, e⟩
   · left
     split
     · cases e : env.cells.lookup n with
       | none => exact ⟨c, h⟩
       | some d => exact ⟨c, List.mem_cons_of_mem _ h⟩
     · exact ⟨c, h⟩
   · rcases List.mem_cons.mp h with z | z
     · cases z
       left
       rw [e]
       exact ⟨c, by simp⟩
     · exact .inr ⟨z, c, e⟩
theorem Ij {env : Env} : ∀ {ns : List (Str × NameKind)} {cs : List (Str × Addr)}, (∀ y, (y, NameKind.free) ∈ ns → ∃ c, env.cells.lookup y = some c) →
   (forIn ns cs fun (x : Str × NameKind) (r : List (Str × Addr)) => (if x.2 == NameKind.free then (do let c ← cellOf env x.1; pure (ForInStep.yield ((x.1, c) :: r))) else pure (ForInStep.yield r) : Sem (ForInStep (List (Str × Addr))))) = (pure (jM env ns cs) : Sem (List (Str × Addr)))
 | [], _, _ => rfl
 | (n, k) :: r, cs, h => by
   have ih := @Ij env r
   rw [List.forIn_cons]
   unfold jM
   cases hk : k == NameKind.free with
   | false =>
     simp only [Bool.false_eq_true, if_false]
     exact ih fun y hy => h y (List.mem_cons_of_mem _ hy)
   | true =>
     have ek : k = NameKind.free := by simpa using hk
     subst ek
     obtain ⟨c, e⟩ := h n (by simp)
     have ec : cellOf env n = pure c := by unfold cellOf; rw [e]
     simp only [if_true]
     rw [ec, e]
     exact ih fun y hy => h y (List.mem_cons_of_mem _ hy)
theorem T7 {scope : Scope} {env : Env} (h : ∀ y, (y, NameKind.free) ∈ scope.names → ∃ c, env.cells.lookup y = some c) : closureFor scope env = pure (jM env scope.names []) := by
 have q := Ij (cs := []) h
 unfold closureFor
 exact congrArg (fun m => m >>= fun r => pure r) q
end L2
namespace L2
open PySem PySem.Spec PyProof.Rows PySem.Calls
theorem xT {env : Env} {y : Str} : ∀ {names : List (Str × NameKind)},
   (names.map fun (n, k) => if (k == NameKind.free && env.scope.kind == .function && env.kindOf n == some .cell) then (n, NameKind.cell) else (n, k)).lookup y
     = (names.lookup y).map fun k => if (k == NameKind.free && env.scope.kind == .function && env.kindOf y == some .cell) then NameKind.cell else k
 | [] => rfl
 | (n, k) :: r => by
   have ih := @xT env y r
   by_cases hx : y = n
   · subst hx
     simp only [List.map_cons]
     split <;> rename_i hc
     · rw [List.lookup_cons, List.lookup_cons]; simp only [beq_self_eq_true, Option.map_some]; rw [if_pos hc]
     · rw [List.lookup_cons, List.lookup_cons]; simp only [beq_self_eq_true, Option.map_some]; rw [if_neg hc]
   · have hb : (y == n) = false := beq_eq_false_iff_ne.mpr hx
     simp only [List.map_cons]
     split <;> simp only [List.lookup_cons, hb] <;> exact ih
section
variable {X : Cx} {pins : List (Addr × Obj)} {σ : St} {H : Hp} {s : Shared} {a : Addr} {o : HO}
theorem Inv.track (I : Inv X pins σ H s) (f : nG X pins H a) (hs : X.s₀.heap.objs.size ≤ a) (new : iy X.prog X.w (upd H a o) s.heap a o) : Inv X pins σ (upd H a o) s := by
 obtain ⟨f0, f1, f2, f3, f4, f5⟩ := f
 have old : ∀ b ob, X.s₀.heap.get? b = some ob → b ≠ a := fun b ob e z => by subst z; exact absurd (Nat.lt_of_lt_of_le (Heap.lt_size e) hs) (Nat.lt_irrefl _)
 refine ⟨I.ok, I.os, I.bare, ⟨I.base.keep, I.base.slot, fun b ob e n hx => ?_, I.base.there, fun b xs e => ?_, fun b ob u e => ?_, fun b ps e => ?_⟩, I.loc, I.cell, ?_, fun x c e => ?_, fun p hp => ?_, fun b u e => ?_, I.len⟩
 · rw [zK (old b ob e)]; exact I.base.free b ob e n hx
 · have q := I.base.tups b xs e; rw [zK (zR q f0)]; exact q
 · have q := I.base.sr b ob u e; rw [zK (zR q f0)]; exact q
 · obtain ⟨more, q⟩ := I.base.tQ b ps e; exact ⟨more, by rw [zK (zR q f0)]; exact q⟩
 · rw [zK (Ne.symm f1)]; exact I.free
 · rw [zK (f4 x c e)]; exact I.mW x c e
 · obtain ⟨e, n, ne, nf, d⟩ := I.pin p hp
   exact ⟨e, by rw [zK (f5 p hp)]; exact n, ne, nf, d⟩
 · by_cases hb : b = a
   · subst hb; rw [zE] at e; cases e; exact new
   · rw [zK hb] at e
     exact (I.hok b u e).stay (fun c v _ q => q) (fun c q => by rw [zK (zR q f0)]; exact q) fun c xs q => by rw [zK (zR q f0)]; exact q
end
def nH (X : Cx) (scope : Scope) (C : Addr) (x : Str) (M : List Str) (s₂ : Shared) (H₂ : Hp) (fp : List Addr) : Cx :=
 { X with N := x :: M, s₀ := s₂, H₀ := H₂, env := compEnvC scope (jM X.env scope.names []) C X.env, outer := X.stack, ex := fp, fn := fun _ => false, pn := [], xe := fun _ _ => False }
structure cP (X : Cx) (scope : Scope) (x : Str) (M : List Str) : Prop where
 kind : scope.kind = .function
 cell : ∀ y ∈ scope.names, y.2 ≠ .cell
 names : ∀ y ∈ scope.names, y.2 = .local → scope.names.lookup y.1 = some .local
 loc : scope.names.lookup x = some .local
 nd : (x :: M).Nodup
 free : ∀ y, (y, NameKind.free) ∈ scope.names → X.env.scope.names.lookup y = some .cell ∨ X.env.scope.names.lookup y = some .free
 len : M.length = X.N.length
 sub : ∀ (j : Nat) y, M[j]? = some y → scope.names.lookup y = some .local ∨ scope.names.lookup y = some .free → X.N[j]? = some y ∧ scope.names.lookup y = some .free
def Vt (names outer : List (Str × NameKind)) (N M : List Str) (x : Str) : Bool :=
 names.all (fun y => decide (y.2 ≠ .cell)) && names.all (fun y => decide (y.2 = .local → names.lookup y.1 = some .local)) && decide (names.lookup x = some .local) && decide (x :: M).Nodup &&
 names.all (fun y => decide (y.2 = .free → (outer.lookup y.1 = some .cell ∨ outer.lookup y.1 = some .free))) && decide (M.length = N.length) &&
 (M.zip N).all (fun p => decide (names.lookup p.1 = some .local ∨ names.lookup p.1 = some .free → p.1 = p.2 ∧ names.lookup p.1 = some .free))
theorem yX {X : Cx} {scope : Scope} {x : Str} {M : List Str} (hk : scope.kind = .function) (h : Vt scope.names X.env.scope.names X.N M x = true) : cP X scope x M := by
 unfold Vt at h
 simp only [Bool.and_eq_true, List.all_eq_true, decide_eq_true_eq] at h
 obtain ⟨⟨⟨⟨⟨⟨h1, h2⟩, h3⟩, h4⟩, h5⟩, h6⟩, h7⟩ := h
 refine ⟨hk, h1, h2, h3, h4, fun y hy => h5 _ hy rfl, h6, fun j y e q => ?_⟩
 have hj : j < M.length := (List.getElem?_eq_some_iff.mp e).1
 have hj2 : j < X.N.length := by omega
 have z : (M.zip X.N)[j]? = some (y, X.N[j]) := by rw [List.getElem?_zip_eq_some]; exact ⟨e, by simp [hj2]⟩
 have r := h7 _ (List.mem_of_getElem? z) q
 exact ⟨by rw [List.getElem?_eq_getElem hj2]; exact congrArg some r.1.symm, r.2⟩
section
variable {X : Cx} {scope : Scope} {x : Str} {M : List Str} {pins : List (Addr × Obj)} {σ : St} {H₂ : Hp} {s₂ : Shared}
theorem cP.yj {y : Str} {c : Addr} (h : (jM X.env scope.names []).lookup y = some c) : X.env.cells.lookup y = some c := by
 rcases QW (PySem.mem_of_lookup h) with q | q
 · cases q
 · exact q
theorem cP.T8 (K : cP X scope x M) (ok : X.Ok) {y : Str} (h : (y, NameKind.free) ∈ scope.names) : ∃ c, (jM X.env scope.names []).lookup y = some c ∧ X.env.cells.lookup y = some c := by
 have e1 : ∃ c, X.env.cells.lookup y = some c := ok.has y (K.free y h)
 obtain ⟨c, hc⟩ := QX (env := X.env) (ns := scope.names) (cs := []) (y := y) (.inr ⟨h, e1⟩)
 have q : ∃ c, (jM X.env scope.names []).lookup y = some c := by
   cases e : (jM X.env scope.names []).lookup y with
   | some c => exact ⟨c, rfl⟩
   | none =>
     rw [List.lookup_eq_none_iff] at e
     have := e _ hc
     simp at this
 obtain ⟨c', hc'⟩ := q
 exact ⟨c', hc', cP.yj hc'⟩
theorem cP.closure (K : cP X scope x M) (ok : X.Ok) : closureFor scope X.env = pure (jM X.env scope.names []) :=
 T7 fun y hy => by obtain ⟨c, _, q⟩ := K.T8 ok hy; exact ⟨c, q⟩
theorem Ik (K : cP X scope x M) (I : Inv X pins σ H₂ s₂) {fp : List Addr} (hf : ∀ b ∈ fp, nG X pins H₂ b) (hfl : ∀ b ∈ fp, b < s₂.heap.objs.size) {C : Addr} (hC : s₂.heap.objs.size ≤ C) {h₁ : Heap} {t : Nat} {m : Str → Option Value} (hn : h₁.Ns C m)
   (hk : ∀ b o, s₂.heap.get? b = some o → h₁.get? b = some o) : Inv (nH X scope C x M s₂ H₂ fp) [] (none :: σ) H₂ { s₂ with heap := h₁, toks := t } := by
 have lt : ∀ {b : Addr} {o : Obj}, s₂.heap.get? b = some o → b ≠ C := fun {b o} e z => by subst z; exact absurd (Nat.lt_of_lt_of_le (Heap.lt_size e) hC) (Nat.lt_irrefl _)
 have cC : ∀ y c, (jM X.env scope.names []).lookup y = some c → c ≠ C := fun y c e => by
   obtain ⟨v, o, ho, _⟩ := I.cell y c (cP.yj e)
   exact lt ho
 have sub : ∀ b ∈ frs X.stack, b = X.env.locals ∨ b ∈ X.fs := fun b hb => List.mem_cons.mp (I.uU b hb)
 have ok : (nH X scope C x M s₂ H₂ fp).Ok := by
   refine ⟨I.ok.mod, K.kind, I.ok.glob, I.ok.blt, hC, fun y z c h1 h2 => ?_, fun y hy => ?_, fun y c z => ?_, I.ok.hd, I.ok.frames, .inl rfl, fun b hb => ⟨?_, fun y c e => ?_⟩, I.bs, Nat.le_trans I.ok.XR I.sz, fun b o e hb => ?_, fun b hb hb2 => ?_, I.stack, I.Oi⟩
   · exact I.ok.inj y z c (cP.yj h1) (cP.yj h2)
   · have hy' : (relabel scope X.env).names.lookup y = some .cell ∨ (relabel scope X.env).names.lookup y = some .free := hy
     have q : (y, NameKind.free) ∈ scope.names := by
       unfold relabel at hy'
       rw [xT] at hy'
       cases e : scope.names.lookup y with
       | none => rw [e] at hy'; simp at hy'
       | some k =>
         have hm := PySem.mem_of_lookup e
         cases k with
         | free => exact hm
         | cell => exact absurd rfl (K.cell _ hm)
         | _ => rw [e] at hy'; simp at hy'
     obtain ⟨c, q, _⟩ := K.T8 I.ok q
     exact ⟨c, q⟩
   · exact Bool.noConfusion (show false = true from z)
   · intro z
     have z' : b = C := z
     subst z'
     exact absurd (Nat.lt_of_lt_of_le (hfl b hb) hC) (Nat.lt_irrefl _)
   · exact (hf b hb).2.2.2.2.1 y c (cP.yj e)
   · have q := (hf b hb).2.2.2.1
     rcases q with q | q
     · exact I.ok.Wl b o e q
     · exact absurd (Nat.lt_of_lt_of_le (Heap.lt_size (I.ok.bs b o e).1) q) (Nat.lt_irrefl _)
   · rcases sub b hb2 with z | z
     · exact (hf b hb).2.1 z
     · exact (hf b hb).2.2.1 z
 refine ⟨ok, rfl, I.bare, Un.kept hk, ⟨m, hn, fun i y v e1 e2 e3 => ?_⟩, fun y c e => ?_, ?_, fun y c e => ?_, fun p hp => absurd (show p ∈ ([] : List (Addr × Obj)) from hp) (by simp), I.hok.kept hk, ?_⟩
 · cases i with
   | zero =>
     have e2' : some (none : Option V) = some (some v) := e2
     cases e2'
   | succ j =>
     have e1' : M[j]? = some y := e1
     have e2' : σ[j]? = some (some v) := e2
     have e3' : (relabel scope X.env).names.lookup y = some .local ∨ (relabel scope X.env).names.lookup y = some .cell ∨ (relabel scope X.env).names.lookup y = some .free := e3
     have q : scope.names.lookup y = some .local ∨ scope.names.lookup y = some .free := by
       unfold relabel at e3'
       rw [xT] at e3'
       cases e : scope.names.lookup y with
       | none => rw [e] at e3'; simp at e3'
       | some k =>
         have hm := PySem.mem_of_lookup e
         cases k with
         | free => exact .inr rfl
         | «local» => exact .inl rfl
         | cell => exact absurd rfl (K.cell _ hm)
         | _ => rw [e] at e3'; simp at e3'
     obtain ⟨nj, fr⟩ := K.sub j y e1' q
     have hm := PySem.mem_of_lookup fr
     have kd := K.free y hm
     have vs : Vis X.env.scope y := .inr kd
     obtain ⟨mo, _, lo⟩ := I.loc
     obtain ⟨u, r, l⟩ := lo j y v nj e2' vs
     refine ⟨u, r, .inr ⟨?_, ?_⟩⟩
     · show (relabel scope X.env).names.lookup y = some .cell ∨ (relabel scope X.env).names.lookup y = some .free
       unfold relabel
       rw [xT, fr]
       simp only [Option.map_some]
       split
       · exact .inl rfl
       · exact .inr rfl
     · obtain ⟨c, q1, q2⟩ := K.T8 I.ok hm
       rcases l with ⟨k, _⟩ | ⟨_, c', q3, z⟩
       · have k' : X.env.scope.names.lookup y = some .local := k
         rcases kd with kd | kd <;> · rw [k'] at kd; cases kd
       · rw [q2] at q3
         cases q3
         obtain ⟨oc, ho, hd⟩ := z
         exact ⟨c, q1, oc, hk _ _ ho, hd⟩
 · obtain ⟨v, oc, ho, hd⟩ := I.cell y c (cP.yj e)
   exact ⟨v, oc, hk _ _ ho, hd⟩
 · exact I.hok.fresh hC
 · exact I.mW y c (cP.yj e)
 · show (none :: σ).length = (x :: M).length
   rw [List.length_cons, List.length_cons, K.len, I.len]
end
end L2
namespace L2
open PySem PySem.Spec PyProof.Rows PySem.Calls
def Yq (wi : TI) (te : TE) : TE := fun σ H Q => wi σ H fun J H1 => ∃ (n : Nat) (W : Nat → List V → Hp → Prop), n ≤ sizeLine ∧ W 0 [] H1 ∧ ∀ i ys H, i ≤ n → ys.length = i → W i ys H →
 (J.stop i H ∧ ∀ p, H p = none → Q (.ref p) (upd H p (.lst ys))) ∨ (J.go i H ∧ i < n ∧ ∀ x H', J.TQ i H x H' → te (some x :: σ) H' fun v Il => W (i + 1) (ys ++ [v]) Il)
section
variable {X : Cx} {scope : Scope} {x : Str} {M : List Str} {pins : List (Addr × Obj)} {σ : St} {H₂ : Hp} {s₂ : Shared} {elt iter : Expr} {px pos : Pos} {te : TE} {wi : TI}
theorem Im (K : cP X scope x M) (hc : X.calm = true) (I : Inv X pins σ H₂ s₂) (he : ∀ (C : Addr) (s₂ : Shared) (H₂ : Hp) (fp : List Addr), PE (nH X scope C x M s₂ H₂ fp) elt te)
   {it : Addr} {fp : List Addr} {tn : Nat → Heap → Prop} {J : It} (T : Turn X.prog X.w X.K (.Name x px) J fp it tn) (st : tn 0 s₂.heap) (hf : ∀ b ∈ fp, nG X pins H₂ b) {n : Nat} (hsz : n ≤ sizeLine) {W : Nat → List V → Hp → Prop} {F : List V → Hp → Prop}
   (w0 : W 0 [] H₂) (turn : ∀ i ys H, i ≤ n → ys.length = i → W i ys H → (J.stop i H ∧ F ys H) ∨ (J.go i H ∧ i < n ∧ ∀ x H', J.TQ i H x H' → te (some x :: σ) H' fun v Il => W (i + 1) (ys ++ [v]) Il))
   {E : Value → Shared → Prop} {RR : Value → Addr → Result → Shared → Prop}
   (hRR : ∀ (D C : Addr) (s' : Shared) (H' : Hp) (ys : List V) (m : Str → Option Value), Inv X pins σ (upd H' D (.lst ys)) s' → H' D = none → nG X pins (upd H' D (.lst ys)) C → s'.heap.Ns C m → F ys H' → RR (.ref D) C (.ok .next) s') :
   wpAny (model X.prog X.w) X.A (newList []) (fun acc s₃ => wpAny (model X.prog X.w) X.A (newFunctionEnv scope X.env.globals (jM X.env scope.names []) [] X.env.qual none .none (some X.env)) (fun cenv s₄ =>
     codeAny (model X.prog X.w) X.A (.compStart (.ListComp elt [⟨.Name x px, iter, [], 0⟩] scope pos) 0 (.ref it) acc { cenv with scope := relabel scope X.env }) (RR acc cenv.locals) s₄) E s₃) E s₂ := by
 refine wpAny_newObj_type (wpAny_newFunctionEnv K.cell (by intro y hy; simp at hy) (fun h₁ hns₁ hsb₁ => ?_) K.kind)
 dsimp only at hns₁ hsb₁ ⊢
 generalize hH2 : s₂.heap.push { cls := .type "list", dict := none, data := .seq ([] : List Value).toArray } = H2 at hns₁ hsb₁ ⊢
 have hC : H2.objs.size = s₂.heap.objs.size + 1 := by rw [← hH2, Heap.size_push]
 have hDC : s₂.heap.objs.size ≠ H2.objs.size := by rw [hC]; exact Nat.ne_of_lt (Nat.lt_succ_self _)
 have below : ∀ b, b < s₂.heap.objs.size → b ≠ H2.objs.size ∧ b ≠ s₂.heap.objs.size := fun b hb => ⟨by rw [hC]; exact Nat.ne_of_lt (Nat.lt_succ_of_lt hb), Nat.ne_of_lt hb⟩
 have hfl : ∀ b ∈ fp, b < s₂.heap.objs.size := fun b hb => by obtain ⟨o, e, _⟩ := T.obj _ _ st b hb; exact Heap.lt_size e
 have old : ∀ b o, s₂.heap.get? b = some o → h₁.get? b = some o := fun b o e => hsb₁.extBut b o (below b (Heap.lt_size e)).1 (Heap.get?_push_of_some _ (hH2 ▸ Heap.get?_push_of_some _ e))
 have hacc : h₁.get? s₂.heap.objs.size = some { cls := .type "list", data := .seq ([] : List Value).toArray 0 } := hsb₁.extBut _ _ hDC (Heap.get?_push_of_some _ (hH2 ▸ Heap.get?_push_size _ rfl))
 generalize hCC : H2.objs.size = C at *
 generalize yl : s₂.heap.objs.size = D at *
 have hCle : s₂.heap.objs.size ≤ C := by rw [yl, hC]; exact Nat.le_succ _
 have st₁ : tn 0 h₁ := T.keep _ _ _ st fun b _ o e => old b o e
 have I₁ := Ik (t := s₂.toks + ([] : List (Str × Value)).length) K I hf (fun b hb => by rw [yl]; exact hfl b hb) hCle hns₁ old
 generalize hX' : nH X scope C x M s₂ H₂ fp = X' at I₁
 have eX : X'.prog = X.prog ∧ X'.w = X.w ∧ X'.K = X.K ∧ X'.calm = true ∧ X'.A = X.A ∧ X'.ex = fp ∧ X'.env = compEnvC scope (jM X.env scope.names []) C X.env ∧ X'.s₀ = s₂ ∧ X'.pn = [] := by
   subst hX'; exact ⟨rfl, rfl, rfl, hc, rfl, rfl, rfl, rfl, rfl⟩
 obtain ⟨eP, ew, eK, ec, eA, eex, Du, es0, Yr⟩ := eX
 have eL : X'.env.locals = C := by rw [Du]; rfl
 have cells' : ∀ y c, X'.env.cells.lookup y = some c → X.env.cells.lookup y = some c := fun y c e => by rw [Du] at e; exact cP.yj e
 have efs : X'.fs = frs X.stack := by subst hX'; rfl
 have Bw : ∀ b ∈ X'.fs, b = X.env.locals ∨ b ∈ X.fs := fun b hb => List.mem_cons.mp (I.uU b (by rw [← efs]; exact hb))
 have Io : ∀ {pn : List (Addr × Obj)} {H' : Hp}, (∀ p ∈ pn, p.1 = D) → (∀ b ∈ fp, H' b = none) → ∀ b ∈ fp, nG X' pn H' b := fun {pn H'} hp hn b hb => by
   refine ⟨hn b hb, ?_, fun z => ?_, .inl (by rw [eex]; exact hb), fun y c e => (hf b hb).2.2.2.2.1 y c (cells' y c e), fun p hq => ?_⟩
   · rw [eL]; exact (below b (hfl b hb)).1
   · rcases Bw b z with q | q
     · exact (hf b hb).2.1 q
     · exact (hf b hb).2.2.1 q
   · rw [Yr, List.nil_append] at hq
     rw [hp p hq]; exact Ne.symm (below b (hfl b hb)).2
 have Dfp : D ∉ fp := fun z => Nat.lt_irrefl _ (hfl D z)
 have QZ : X.env.locals < D := by have := I.lt; rw [yl] at this; exact this
 have Ys : ∀ b ∈ X.fs, b < D := fun b hb => Nat.lt_of_not_le fun z => I.aaS (a := b) (by rw [yl]; exact z) hb
 have Q0 : ∀ {b : Addr} {pn : List (Addr × Obj)} {H' : Hp}, D ≤ b → b ≠ C → H' b = none → (∀ p ∈ pn, p.1 ≠ b) → nG X' pn H' b := fun {b pn H'} hb hbC hn hp => by
   refine ⟨hn, by rw [eL]; exact hbC, fun z => ?_, .inr (by rw [es0, yl]; exact hb), fun y c e => ?_, fun p hq => ?_⟩
   · rcases Bw b z with q | q
     · rw [q] at hb; exact absurd (Nat.lt_of_lt_of_le QZ hb) (Nat.lt_irrefl _)
     · exact absurd (Nat.lt_of_lt_of_le (Ys b q) hb) (Nat.lt_irrefl _)
   · obtain ⟨v, o, ho, _⟩ := I.cell y c (cells' y c e)
     have := Heap.lt_size ho
     rw [yl] at this
     exact Nat.ne_of_lt (Nat.lt_of_lt_of_le this hb)
   · rw [Yr, List.nil_append] at hq
     exact hp p hq
 have outer : ∀ {σ' : St} {H' : Hp} {s' : Shared} {pn : List (Addr × Obj)}, Inv X' pn σ' H' s' → Inv X pins σ H' s' := fun {σ' H' s' pn} J' => by
   subst hX'
   refine I.call' (ch := fp) J'.os J'.base J'.hok J'.bare fun b hb => ?_
   obtain ⟨f0, f1, f2, f3, f4, f5⟩ := hf b hb
   exact ⟨f3, f1, f4, f5⟩
 have Fo : ∀ {b : Addr} {H' : Hp}, D ≤ b → H' b = none → nG X pins H' b := fun {b H'} hb hn => by
   have q := I.Oj (H' := H') (b := b) (by rw [yl]; exact hb) hn
   exact q
 have loop : ∀ s₃ : Shared, s₃ = { s₂ with heap := h₁, toks := s₂.toks + ([] : List (Str × Value)).length } →
     codeAny (model X.prog X.w) X.A (.compLoop (.ListComp elt [⟨.Name x px, iter, [], 0⟩] scope pos) 0 (.ref it) (.ref D) (compEnvC scope (jM X.env scope.names []) C X.env)) (RR (.ref D) C) s₃ := by
   rintro s₃ rfl
   refine Fl (fun k s' => ∃ (i : Nat) (ys : List V) (its : List Value) (σ0 : Option V) (H' : Hp), i ≤ n ∧ k = n + 1 - i ∧ ys.length = i ∧ Inv X' [] (σ0 :: σ) H' s' ∧ tn i s'.heap ∧ (∀ b ∈ fp, H' b = none) ∧ H' D = none ∧ Vals ys its ∧
     (∃ c, s'.heap.get? D = some { cls := .type "list", data := .seq its.toArray c }) ∧ W i ys H') ?_ (n + 1) ⟨0, [], [], none, H₂, Nat.zero_le _, rfl, rfl, I₁, st₁, fun b hb => (hf b hb).1, by rw [← yl]; exact I.hok.fresh (Nat.le_refl _), .nil, ⟨0, hacc⟩, w0⟩
   rintro k s' ⟨i, ys, its, σ0, H', hi, rfl, hyl, I', st', fr', hD', rv, ⟨c, hobj⟩, w'⟩
   have hx0 : X'.N[0]? = some x := by subst hX'; rfl
   have hxl : X'.env.scope.names.lookup x = some .local := by rw [Du]; exact lookup_relabel_local K.loc
   have hNd : X'.N.Nodup := by subst hX'; exact K.nd
   rcases turn i ys H' hi hyl w' with ⟨stop, fin⟩ | ⟨go, hlt, step⟩
   · have Ip : Inv X' [(D, { cls := .type "list", data := .seq its.toArray c })] (σ0 :: σ) H' s' := I'.jr fun p hp => by
       obtain rfl : p = (D, { cls := .type "list", data := .seq its.toArray c }) := by simpa using hp
       refine ⟨hobj, hD', ?_, ?_, fun v z => nomatch z⟩
       · rw [eL]; exact hDC
       · intro z
         rcases Bw D z with q | q
         · rw [q] at QZ; exact Nat.lt_irrefl _ QZ
         · exact Nat.lt_irrefl _ (Ys D q)
     have q := T.done X' eP ew eK ec i _ s' (σ0 :: σ) H' (notedBy (model X.prog X.w) X.A (compEnvC scope (jM X.env scope.names []) C X.env) fun e s' => RR (.ref D) C (.error e) s') Ip (Io (fun p hp => by obtain rfl : p = (D, { cls := .type "list", data := .seq its.toArray c }) := (by simpa using hp); rfl) fr') st' stop
     rw [eA] at q
     refine wpAny_mono q (fun r s4 ⟨hr, I4⟩ => ?_) fun _ _ z => z
     subst hr
     obtain ⟨e4, n4, _⟩ := I4.pin (D, { cls := .type "list", data := .seq its.toArray c }) (List.mem_append_right _ (by simp))
     have O4 := outer I4
     obtain ⟨m4, ns4, _⟩ := I4.loc
     rw [eL] at ns4
     refine hRR D C s4 H' ys m4 (O4.track (Fo (Nat.le_refl _) n4) (Nat.le_trans I.sz (by rw [yl]; exact Nat.le_refl _)) ⟨by rw [hyl]; exact Nat.le_trans hi hsz, its, c, rv, e4⟩) n4 (Fo (by rw [hC]; exact Nat.le_succ _) ?_) ns4 fin
     rw [zK (Ne.symm hDC)]
     have := I4.free
     rw [eL] at this
     exact this
   · have Ip : Inv X' [(D, { cls := .type "list", data := .seq its.toArray c })] (σ0 :: σ) H' s' := I'.jr fun p hp => by
       obtain rfl : p = (D, { cls := .type "list", data := .seq its.toArray c }) := by simpa using hp
       refine ⟨hobj, hD', ?_, ?_, fun v z => nomatch z⟩
       · rw [eL]; exact hDC
       · intro z
         rcases Bw D z with q | q
         · rw [q] at QZ; exact Nat.lt_irrefl _ QZ
         · exact Nat.lt_irrefl _ (Ys D q)
     have pd : ∀ p ∈ [(D, ({ cls := .type "list", data := .seq its.toArray c } : Obj))], p.1 = D := fun p hp => by obtain rfl : p = (D, { cls := .type "list", data := .seq its.toArray c }) := (by simpa using hp); rfl
     have q := T.item X' eP ew eK ec i _ s' (σ0 :: σ) H' (notedBy (model X.prog X.w) X.A (compEnvC scope (jM X.env scope.names []) C X.env) fun e s' => RR (.ref D) C (.error e) s') Ip (Io pd fr') st' go
     rw [eA] at q
     refine wpAny_mono q (fun r s4 ⟨u, hr, h4⟩ => ?_) fun _ _ z => z
     subst hr
     refine wpAny_mono h4 (fun _ s5 ⟨xv, H5, I5, r5, y5, QH, fr5⟩ => ?_) fun _ _ z => z
     have I5' := I5.pinned (Io pd fr5) (T.obj _ _ QH)
     refine wpAny_assign_Name ?_
     rw [← Du]
     refine uV I5' hNd hx0 (.inl hxl) r5 (fun s6 I6 => ?_) (.inr hxl)
     have te6 := step xv H5 y5
     have q6 := (he C s₂ H₂ fp) (([(D, ({ cls := .type "list", data := .seq its.toArray c } : Obj))]) ++ uX fp s5.heap) s6 (some xv :: σ) H5 (fun v Il => W (i + 1) (ys ++ [v]) Il) (by rw [hX']; exact I6) te6
     rw [hX', eP, ew, eA] at q6
     refine wpAny_mono q6 (fun u7 s7 ⟨v7, H7, I7, r7, w7⟩ => ?_) (fun _ _ z => by subst hX'; exact (show False from z).elim)
     obtain ⟨e7, n7, _⟩ := I7.pin (D, { cls := .type "list", data := .seq its.toArray c }) (List.mem_append_right _ (List.mem_append_left _ (by simp)))
     refine append_at (hsz := by rw [List.size_toArray, ← rv.length, hyl]; exact Nat.le_trans hi hsz) e7 fun h8 sb8 g8 => ?_
     have I8 : Inv X' [] (some xv :: σ) H7 { s7 with heap := h8, toks := s7.toks } := (I7.jr (Ng := []) fun p hp => absurd hp (by simp)).turned (t' := s7.toks) (it := D) (fun b o hb e => (sb8.2 b hb).trans e) n7 (by rw [eL]; exact hDC) (.inr (by rw [es0, yl]; exact Nat.le_refl _))
       (Q0 (H' := H7) (pn := []) (Nat.le_refl _) hDC n7 (fun p hp => absurd hp (by simp))).2.2.2.2.1 (fun p hp => by rw [Yr] at hp; exact absurd hp (by simp))
     refine ⟨n + 1 - (i + 1), by omega, i + 1, ys ++ [v7], its ++ [u7], some xv, H7, hlt, rfl, by rw [List.length_append, List.length_singleton, hyl], I8, ?_, fun b hb => ?_, n7, rv.append (.cons r7 .nil), ⟨c + 1, ?_⟩, w7⟩
     · refine T.keep _ _ _ QH fun b hb o e => ?_
       have e' := (I7.pin (b, o) (List.mem_append_right _ (List.mem_append_right _ (xB hb e)))).1
       exact (sb8.2 b (fun z => Dfp (z ▸ hb))).trans e'
     · obtain ⟨o, e, d⟩ := T.obj _ _ QH b hb
       exact (I7.pin (b, o) (List.mem_append_right _ (List.mem_append_right _ (xB hb e)))).2.1
     · rw [g8, List.push_toArray]
 exact codeAny_compStart_list (loop _ rfl) (T.self X.A 0 _ _ _ st₁ (loop _ rfl))
theorem aa5 (K : cP X scope x M) (hc : X.calm = true) (hi : PI X (.Name x px) iter wi) (he : ∀ (C : Addr) (s₂ : Shared) (H₂ : Hp) (fp : List Addr), PE (nH X scope C x M s₂ H₂ fp) elt te)
   (hs : ∀ x, foldedSetIterable iter X.env x = pure x := by intro _; rfl) : PE X (.ListComp elt [⟨.Name x px, iter, [], 0⟩] scope pos) (Yq wi te) := by
 intro pins s σ H Q I h
 rw [eval_ListComp]
 refine wpAny_comprehension_free (use := none) rfl hs (K.closure I.ok) K.kind K.names (eG (hi pins s σ H _ I h) fun v s1 h1 => eG h1 fun itv s2 h2 => ?_)
 obtain ⟨it, fp, tn, J, H2, e, I2, T, st2, f2, n, W, hsz, w0, turn⟩ := h2
 subst e
 refine Im (RR := fun acc C => compPost (model X.prog X.w) X.A X.xe none (EP X pins σ Q) acc C) K hc I2 he T st2 f2 hsz (F := fun ys H => ∀ p, H p = none → Q (.ref p) (upd H p (.lst ys))) w0 turn ?_
 intro D C s' H' ys m I' n' fC ns fin
 refine ⟨m, ns, fun h' sb => ?_⟩
 obtain ⟨f0, f1, f2, f3, f4, f5⟩ := fC
 exact ⟨.ref D, _, I'.turned (t' := s'.toks) (it := C) (fun b o hb e => (sb.2 b hb).trans e) f0 f1 f3 f4 f5, rfl, fin D n'⟩
theorem aa6 {i : Nat} {y : Str} {spos py : Pos} (hN : X.N.Nodup) (hy : X.N[i]? = some y) (hl : Loc X.env.scope y) (K : cP X scope x M) (hc : X.calm = true) (hi : PI X (.Name x px) iter wi) (he : ∀ (C : Addr) (s₂ : Shared) (H₂ : Hp) (fp : List Addr), PE (nH X scope C x M s₂ H₂ fp) elt te)
   (hsw : swapsWith (.ListComp elt [⟨.Name x px, iter, [], 0⟩] scope pos) (some (.Name y py)) spos.line X.env = pure true := by rfl)
   (hs : ∀ x, foldedSetIterable iter X.env x = pure x := by intro _; rfl) (hf : X.fn y = true ∨ X.env.scope.names.lookup y = some .local := by first | exact .inl rfl | exact .inr rfl | assumption) :
   PS X (.Assign [.Name y py] (.ListComp elt [⟨.Name x px, iter, [], 0⟩] scope pos) spos) (QG (Yq wi te) (jg i)) := by
 intro pins s σ H Dn I h
 rw [exec_Assign_Name_used _ _ _ _ hsw]
 refine wpAny_bind (wpAny_standAt (wpAny_bind ?_))
 show wpAny _ X.A (do let _ ← comprehension (.ListComp elt [⟨.Name x px, iter, [], 0⟩] scope pos) scope X.env _ (newList []) false (eval iter X.env) (some (assign (.Name y py) X.env))) _ _ s
 refine wpAny_bind (eG (wpAny_comprehension_free (use := some (assign (.Name y py) X.env)) (Q := fun _ s' => SP X pins Dn .next s') rfl hs (K.closure I.ok) K.kind K.names (eG (hi pins s σ H _ I h) fun v s1 h1 => eG h1 fun itv s2 h2 => ?_)) fun _ s' hq => wpAny_pure (wpAny_pure hq))
 obtain ⟨it, fp, tn, J, H2, e, I2, T, st2, f2, n, W, hsz, w0, turn⟩ := h2
 subst e
 refine Im (RR := fun acc C => compPost (model X.prog X.w) X.A X.xe (some (assign (.Name y py) X.env)) (fun _ s' => SP X pins Dn .next s') acc C) K hc I2 he T st2 f2 hsz (F := fun ys H => ∀ p, H p = none → Dn.nx (σ.set i (some (.ref p))) (upd H p (.lst ys))) w0 turn ?_
 intro D C s' H' ys m I' n' fC ns fin
 refine wpAny_assign_Name (wC (v := .ref D) I' hN hy hl rfl (fun s'' I'' ch => ?_) hf)
 obtain ⟨f0, f1, f2, f3, f4, f5⟩ := fC
 obtain ⟨a, sb1, ha⟩ := ch
 have hCa : C ≠ a := by
   rcases ha with z | z
   · rw [z]; exact f1
   · exact Ne.symm (f4 y a z)
 refine ⟨m, ns.sameBut sb1 hCa, fun h' sb => ?_⟩
 exact ⟨_, _, I''.turned (t' := s''.toks) (it := C) (fun b o hb e => (sb.2 b hb).trans e) f0 f1 f3 f4 f5, fin D n'⟩
end
end L2
namespace L2
open PySem PySem.Spec PyProof.Rows PySem.Calls
def S (l : List Nat) : Str := ⟨l.toArray⟩
abbrev cd (x : Str) : List Nat := x.cps.toList
theorem cU (l : List Nat) : cd (S l) = l := rfl
theorem d8 (x : Str) : S (cd x) = x := by cases x; rfl
theorem Yt {a b : List Nat} (h : S a = S b) : a = b := congrArg cd h
theorem yL {x y : Str} (h : cd x = cd y) : x = y := by rw [← d8 x, ← d8 y, h]
theorem zU (l : List Nat) : (S l).length = l.length := by show l.toArray.size = _; simp
theorem yE (x : Str) : x.length = (cd x).length := by show x.cps.size = _; simp
theorem xN (a b : List Nat) : S a ++ S b = S (a ++ b) := by
 show (⟨a.toArray ++ b.toArray⟩ : Str) = ⟨(a ++ b).toArray⟩
 simp
theorem yA (x y : Str) : cd (x ++ y) = cd x ++ cd y := by
 show (x.cps ++ y.cps).toList = _
 simp
def Its (x : Str) : It := ⟨fun i _ => i < x.length, fun i H v H' => H' = H ∧ ∃ c, (cd x)[i]? = some c ∧ v = .str (S [c]), fun i _ => i = x.length⟩
theorem Nr {prog : Program} {w : World} {A : Around} (hh : A.handled = none) (I : Addr) (x : Str) (t : Tok) : Walks prog w A I [I] [I] x.cps.size (SignAt x) (fun i h => h.IsStrIter I (strIterType x) x t i) := by
 unfold strIterType
 split
 · exact Walks.strAscii hh I x t
 · exact Walks.strWide hh I x t
theorem Yu {P : Program} {w : World} {K : PySem.W.Frag} {tg : Expr} (it : Addr) (x : Str) (t : Tok) : Turn P w K tg (Its x) [it] it (fun i h => h.IsStrIter it (strIterType x) x t i) where
 mem := by simp
 obj := fun i h st b hb => by
   have e : b = it := by simpa using hb
   subst e
   obtain ⟨o, e, c, d⟩ := st
   exact ⟨o, e, fun v z => by rw [d] at z; cases z⟩
 keep := fun i h h' st k => by
   obtain ⟨o, e, r⟩ := st
   exact ⟨o, k it (by simp) o e, r⟩
 item := by
   intro X hP hw hK hc i pins s σ H E I hf st hg
   subst hP hw hK
   have W := Nr (prog := X.prog) (w := X.w) (A := X.A) (I.ok.hd hc) it x t
   obtain ⟨f0, f1, f2, f3, f4, f5⟩ := hf it (by simp)
   refine W.item i s _ E hg st fun v h' tk hv st' k => ?_
   have I1 : Inv X pins σ H { s with heap := h', toks := tk } := I.turned (t' := tk) (fun b o hb e => k b o (by simpa using hb) e) f0 f1 f3 f4 f5
   obtain ⟨c, u, hcx, rfl⟩ := hv
   obtain ⟨o, e, c1, d⟩ := id st'
   refine ⟨_, rfl, X6 (s := { s with heap := h', toks := tk }) e c1 d ?_ ⟨.str (S [c]), H, I1, ⟨_, rfl⟩, ⟨rfl, c, by rw [← hcx]; simp [cd], rfl⟩, st', fun b hb => (hf b hb).1⟩⟩
   unfold strIterType; split <;> decide
 done := by
   intro X hP hw hK hc i pins s σ H E I hf st hg
   subst hP hw hK
   have W := Nr (prog := X.prog) (w := X.w) (A := X.A) (I.ok.hd hc) it x t
   obtain ⟨f0, f1, f2, f3, f4, f5⟩ := hf it (by simp)
   have e : i = x.cps.size := hg
   subst e
   exact W.done s _ E st fun h' tk k => ⟨rfl, I.turned (t' := tk) (fun b o hb e => k b o (by simpa using hb) e) f0 f1 f3 f4 f5⟩
 self := fun A i s Q E st h => by
   obtain ⟨o, e, c, d⟩ := id st
   unfold strIterType at st
   split at st
   · exact wpAny_pyIter_striter_ascii st h
   · exact wpAny_pyIter_striter_wide st h
section
variable {X : Cx} {tg : Expr}
def aut (tl : TE) : TI := fun σ H R => tl σ H fun v H1 => ∃ x, v = .str x ∧ R (Its x) H1
theorem Dv {l : Expr} {tl : TE} (hl : PE X l tl) : PI X tg l (aut tl) := by
 intro pins s σ H R I h
 refine eG (hl pins s σ H _ I h) fun v s1 ⟨x, H1, I1, r1, q1⟩ => ?_
 obtain ⟨x, rfl, q⟩ := q1
 obtain ⟨t, rfl⟩ := r1
 refine wpAny_pyIter_strU ?_
 refine ⟨s1.heap.objs.size, [s1.heap.objs.size], _, _, H1, rfl, I1.kept (t' := s1.toks) fun b o e => Heap.get?_push_of_some _ e, Yu _ x t, ⟨_, Heap.get?_push_size _ rfl, rfl, rfl⟩, fun b hb => ?_, q⟩
 have e : b = s1.heap.objs.size := by simpa using hb
 subst e
 exact I1.Oj (Nat.le_refl _) (I1.hok.fresh (Nat.le_refl _))
end
theorem aa7 {x : Str} {g : TG} {tb : TS} {D : Ends} {σ : St} {H : Hp} (Pv : Nat → St → Hp → Prop) (h0 : Pv 0 σ H)
   (hs : ∀ i c σ H, (cd x)[i]? = some c → Pv i σ H → g (.str (S [c])) σ H fun σ2 H2 => tb { D with nx := Pv (i + 1), ct := Pv (i + 1), bk := D.nx } σ2 H2) (hd : ∀ σ H, Pv x.length σ H → D.nx σ H) :
   ∃ W : Nat → Nat → St → Hp → Prop, (∃ m, W 0 m σ H) ∧ ∀ i m σ H, W i m σ H →
     ((Its x).stop i H ∧ D.nx σ H) ∨ ((Its x).go i H ∧ ∃ N : St → Hp → Prop, (∀ σ' H', N σ' H' → ∃ m', m' < m ∧ W (i + 1) m' σ' H') ∧ ∀ v H', (Its x).TQ i H v H' → g v σ H' fun σ2 H2 => tb { D with nx := N, ct := N, bk := D.nx } σ2 H2) := by
 refine ⟨fun i m σ H => m = x.length - i ∧ i ≤ x.length ∧ Pv i σ H, ⟨x.length, by simp, Nat.zero_le _, h0⟩, ?_⟩
 rintro i m σ H ⟨rfl, hi, p⟩
 by_cases hlt : i < x.length
 · refine .inr ⟨hlt, Pv (i + 1), fun σ' H' p' => ⟨x.length - (i + 1), by omega, rfl, hlt, p'⟩, fun v H' y => ?_⟩
   obtain ⟨e, c, hc, rfl⟩ := y
   subst e
   exact hs i c σ _ hc p
 · have e : i = x.length := by omega
   subst e
   exact .inl ⟨rfl, hd σ H p⟩
theorem Yv {x : Str} {te : TE} {σ : St} {H : Hp} {Q : VK} (hz : x.length ≤ sizeLine) (W : Nat → List V → Hp → Prop) (h0 : W 0 [] H)
   (hs : ∀ i c ys H, (cd x)[i]? = some c → ys.length = i → W i ys H → te (some (.str (S [c])) :: σ) H fun v H' => W (i + 1) (ys ++ [v]) H')
   (hd : ∀ ys H, ys.length = x.length → W x.length ys H → ∀ p, H p = none → Q (.ref p) (upd H p (.lst ys))) :
   ∃ (n : Nat) (W : Nat → List V → Hp → Prop), n ≤ sizeLine ∧ W 0 [] H ∧ ∀ i ys H, i ≤ n → ys.length = i → W i ys H →
     ((Its x).stop i H ∧ ∀ p, H p = none → Q (.ref p) (upd H p (.lst ys))) ∨ ((Its x).go i H ∧ i < n ∧ ∀ v H', (Its x).TQ i H v H' → te (some v :: σ) H' fun v Il => W (i + 1) (ys ++ [v]) Il) := by
 refine ⟨x.length, W, hz, h0, fun i ys H hi hl hw => ?_⟩
 by_cases hlt : i < x.length
 · refine .inr ⟨hlt, hlt, fun v H' y => ?_⟩
   obtain ⟨e, c, hc, rfl⟩ := y
   subst e
   exact hs i c ys _ hc hl hw
 · have e : i = x.length := by omega
   subst e
   exact .inl ⟨rfl, hd ys H hl hw⟩
theorem Ww {K : PySem.W.Frag} {a : Addr} {xs : List V} {te : TE} {σ : St} {H : Hp} {Q : VK} (hz : xs.length ≤ sizeLine) (W : Nat → List V → Hp → Prop) (h0 : W 0 [] H) (hq : ∀ i ys H, W i ys H → bG K H a xs)
   (hs : ∀ i x ys H, xs[i]? = some x → ys.length = i → W i ys H → te (some x :: σ) H fun v H' => W (i + 1) (ys ++ [v]) H')
   (hd : ∀ ys H, ys.length = xs.length → W xs.length ys H → ∀ p, H p = none → Q (.ref p) (upd H p (.lst ys))) :
   ∃ (m : Nat) (W : Nat → List V → Hp → Prop), m ≤ sizeLine ∧ W 0 [] H ∧ ∀ i ys H, i ≤ m → ys.length = i → W i ys H →
     ((X7 K a).stop i H ∧ ∀ p, H p = none → Q (.ref p) (upd H p (.lst ys))) ∨ ((X7 K a).go i H ∧ i < m ∧ ∀ v H', (X7 K a).TQ i H v H' → te (some v :: σ) H' fun v Il => W (i + 1) (ys ++ [v]) Il) := by
 refine ⟨xs.length, W, hz, h0, fun i ys H hi hl hw => ?_⟩
 have q := hq i ys H hw
 by_cases hlt : i < xs.length
 · refine .inr ⟨⟨xs, xs[i], q, by simp [hlt]⟩, hlt, fun v H' y => ?_⟩
   obtain ⟨e, y⟩ := y
   subst e
   exact hs i v ys _ (y xs q) hl hw
 · have e : i = xs.length := by omega
   subst e
   exact .inl ⟨⟨xs, q, Nat.le_refl _⟩, hd ys H hl hw⟩
section
variable {X : Cx}
theorem Bx (hc : X.calm = true) : aU X (.builtin "all") (fun xs H Q => ∃ (p : Addr) (bs : List Bool), xs = [.ref p] ∧ bG X.K H p (bs.map V.bl) ∧ Q (.bl (bs.all id)) H) := by
 intro pins s σ H xs us Q I r h
 obtain ⟨p, bs, rfl, hq, q⟩ := h
 obtain ⟨u, rfl, ru⟩ := vals1 r
 cases ru
 obtain ⟨its, rv, pl, hz⟩ := I.list hq
 have hlt : p < s.heap.objs.size := by obtain ⟨o, n, e, _⟩ := pl; exact Heap.lt_size e
 refine call_all_walk (wpAny_pyIter_list pl.isList ?_)
 refine ⟨_, _, _, _, _, _, fun i => bs.getD i false, rfl, Walks.list (show X.A.in1.handled = none from I.ok.hd hc) s.heap.objs.size p (Nat.ne_of_lt hlt) its.toArray, ⟨⟨_, Heap.get?_push_size _ rfl, rfl, rfl⟩, pl.isList.push _⟩, fun i v s1 Q1 E1 hP hQ => ?_, fun h' tk k => ?_⟩
 · have hP' : its[i]? = some v := by simpa using hP
   obtain ⟨hi, _⟩ := List.getElem?_eq_some_iff.mp hP'
   have hl := rv.length
   rw [List.length_map] at hl
   have hb : (bs.map V.bl)[i]? = some (V.bl (bs.getD i false)) := by
     rw [List.getElem?_map, List.getElem?_eq_getElem (by omega)]
     simp [List.getD, List.getElem?_eq_getElem (show i < bs.length by omega)]
   obtain ⟨u, hu, ru⟩ := rv.get hb
   rw [hP'] at hu
   cases hu
   cases (show v = Value.bool _ from ru)
   exact wpAny_truthy_bool hQ
 · have e : (List.range its.toArray.size).all (fun i => bs.getD i false) = bs.all id := by
     have hl := rv.length
     rw [List.length_map] at hl
     rw [List.size_toArray, ← hl]
     have z : bs = (List.range bs.length).map fun i => bs.getD i false := by
       apply List.ext_getElem?
       intro i
       rw [List.getElem?_map]
       by_cases hi : i < bs.length
       · simp [List.getElem?_eq_getElem, hi, List.getD]
       · rw [List.getElem?_eq_none (Nat.not_lt.mp hi), List.getElem?_eq_none (by rw [List.length_range]; exact Nat.not_lt.mp hi)]; rfl
     conv => rhs; rw [z]
     rw [List.all_map]; rfl
   rw [e]
   refine ⟨.bl (bs.all id), H, ?_, rfl, q⟩
   have I0 : Inv X pins σ H { s with heap := s.heap.push { cls := .type "list_iterator", data := .fields #[.ref p, .int 0 0] } } := I.kept (t' := s.toks) fun b o e => Heap.get?_push_of_some _ e
   have fo := I.Oj (H' := H) (b := s.heap.objs.size) (Nat.le_refl _) I.fresh
   obtain ⟨f0, f1, f2, f3, f4, f5⟩ := fo
   exact I0.turned (t' := tk) (it := s.heap.objs.size) (fun b o hb e => k b o (by simpa using hb) e) f0 f1 f3 f4 f5
theorem tX {ys : List Str} : ∀ {its : List Value}, Vals (ys.map V.str) its → StrsAre its ys := by
 induction ys with
 | nil => intro its r; cases r; exact .nil
 | cons y ys ih =>
   intro its r
   cases r with
   | cons a b => obtain ⟨t, rfl⟩ := a; exact .cons _ _ (ih b)
def Fp (sep : Str) (ys : List Str) : Str := Txt.join sep ys
theorem By : MtM X "str.join" (fun x vs H Q => ∃ (sep : Str) (p : Addr) (ys : List Str), x = .str sep ∧ vs = [.ref p] ∧ (bG X.K H p (ys.map V.str) ∨ o8 X.K H p (ys.map V.str)) ∧ (ys.map (·.length)).sum + ys.length * sep.length ≤ 16777216 ∧ Q (.str (Fp sep ys)) H) := by
 intro pins s σ H x vs v us Q I rx rv h
 obtain ⟨sep, p, ys, rfl, rfl, hq, hz, q⟩ := h
 obtain ⟨t, rfl⟩ := rx
 obtain ⟨u, rfl, ru⟩ := rv.one
 cases ru
 rcases hq with hq | hq
 · obtain ⟨its, r, pl, _⟩ := I.list hq
   exact join_list pl.isList (by simpa using tX r) hz fun t' k => ⟨.str _, H, I.tok _, ⟨_, rfl⟩, q⟩
 · obtain ⟨its, r, pl, _⟩ := I.tuple hq
   exact join_tuple pl (by simpa using tX r) hz fun t' k => ⟨.str _, H, I.tok _, ⟨_, rfl⟩, q⟩
theorem BJ : iW X (binaryOp .Mult) (rI (fun i j => Builtin.Int.intBits i ≤ 60000000 ∧ Builtin.Int.intBits j ≤ 60000000) fun i j => .int (i * j)) := opI fun i j _ _ _ _ _ hc q => mul_int q (IntMulOk.of_le hc.1 hc.2 (by decide))
def pG (xs : List Nat) (lo hi : Option Int) : List Nat := (xs.drop (HT.uQ xs.length 0 lo)).take (HT.uQ xs.length xs.length hi - HT.uQ xs.length 0 lo)
theorem Yw (xs : List Nat) (i k : Nat) : (List.range k).filterMap (fun m => xs[i + m]?) = (xs.drop i).take k := by
 induction k generalizing i with
 | zero => simp
 | succ k ih =>
   rw [List.range_succ_eq_map, List.filterMap_cons]
   have e : (List.map Nat.succ (List.range k)).filterMap (fun m => xs[i + m]?) = (List.range k).filterMap (fun m => xs[(i + 1) + m]?) := by
     rw [List.filterMap_map]
     congr 1
     funext m
     show xs[i + (m + 1)]? = xs[i + 1 + m]?
     congr 1; omega
   rw [e, ih (i + 1)]
   by_cases hi : i < xs.length
   · rw [Nat.add_zero, List.getElem?_eq_getElem hi, List.drop_eq_getElem_cons hi, List.take_succ_cons]
   · rw [Nat.add_zero, List.getElem?_eq_none (Nat.not_lt.mp hi), List.drop_eq_nil_of_le (Nat.not_lt.mp hi), List.drop_eq_nil_of_le (by omega)]
     simp
theorem Wx (lo hi : Option Int) (n : Nat) : Builtin.Str.strSliceIndices lo hi 1 n = (List.range (HT.uQ n n hi - HT.uQ n 0 lo)).map fun m => HT.uQ n 0 lo + m := by
 unfold Builtin.Str.strSliceIndices sliceRange
 have h1 : (1 : Int) > 0 := by omega
 simp only [h1, if_true, Int.ediv_one]
 have cl : ∀ (v : Int) (d : Nat), max 0 (min (if v < 0 then v + (n : Int) else v) (n : Int)) = ((HT.uQ n d (some v) : Nat) : Int) := fun v d => by
   show _ = (((if v < 0 then (v + (n : Int)).toNat else min v.toNat n) : Nat) : Int)
   by_cases hv : v < 0
   · simp only [if_pos hv]; omega
   · simp only [if_neg hv]; omega
 have fin : ∀ a b : Nat, (List.range (if (a : Int) < (b : Int) then (b : Int) - (a : Int) + 1 - 1 else 0).toNat).map (fun k : Nat => ((a : Int) + 1 * (k : Int)).toNat) = (List.range (b - a)).map fun m => a + m := fun a b => by
   have e1 : (if (a : Int) < (b : Int) then (b : Int) - (a : Int) + 1 - 1 else 0).toNat = b - a := by split <;> omega
   rw [e1]
   apply List.map_congr_left
   intro k _
   omega
 cases lo with
 | none =>
   cases hi with
   | none => exact fin 0 n
   | some v => simp only [cl v n]; exact fin 0 _
 | some u =>
   cases hi with
   | none => simp only [cl u 0]; exact fin _ n
   | some v => simp only [cl u 0, cl v n]; exact fin _ _
theorem Yx (x : Str) (lo hi : Option Int) : Txt.slice x lo hi = S (pG (cd x) lo hi) := by
 unfold Txt.slice
 rw [Wx]
 have hx : x.length = (cd x).length := yE x
 split
 · rename_i h
   simp only [Bool.and_eq_true, beq_iff_eq, List.length_map, List.length_range] at h
   rw [hx] at h
   have h2 := h.2
   have l1 := HT.adf (cd x).length (cd x).length (Nat.le_refl _) hi
   unfold pG
   rw [h2]
   have l0 : HT.uQ (cd x).length 0 lo = 0 ∨ (cd x).length = 0 := by omega
   rcases l0 with l0 | l0
   · rw [l0, List.drop_zero, List.take_length, d8]
   · have e : cd x = [] := List.eq_nil_of_length_eq_zero l0
     apply yL
     rw [e]; simp [cU]
 · rw [List.filterMap_map]
   unfold S pG
   congr 2
   rw [← Yw, hx]
   congr 1
   funext m
   show x.cps[_]? = (cd x)[_]?
   simp [cd]
theorem q9 : rZ X (fun x lo hi H Q => ∃ z, x = .str z ∧ z.length ≤ sizeLine ∧ Q (.str (S (pG (cd z) lo hi))) H) := by
 intro pins s σ H x v vl vu lo hi sl Q I rx hs pl pu h
 obtain ⟨z, rfl, hz, q⟩ := h
 obtain ⟨t, rfl⟩ := rx
 refine ⟨"str", _, slot_str_getitem.lookup, typeIs_str s z t, ?_⟩
 rw [← Yx] at q
 have fin : ∀ (l u : Option (Int × Tok)), l.map (·.1) = lo → u.map (·.1) = hi → vl = partValue l → vu = partValue u → wpAny (model X.prog X.w) X.A (getItem (.str z t) (.ref sl)) (EP X pins σ Q) X.xe s := fun l u e1 e2 e3 e4 => by
   subst e3 e4
   obtain ⟨o, ho, hc, hd⟩ := hs
   subst e1 e2
   exact wpAny_getItem_str_slice (l := l) (u := u) (st := none) ⟨o, ho, hc, hd⟩ rfl (post_val_or_str ⟨Nat.le_trans (Txt.slice_le z _ _) hz, fun t' k => ⟨.str _, H, I.tok _, ⟨_, rfl⟩, q⟩⟩)
 cases pl with
 | none =>
   cases pu with
   | none => exact fin none none rfl rfl rfl rfl
   | int i t => exact fin none (some (i, t)) rfl rfl rfl rfl
 | int j t' =>
   cases pu with
   | none => exact fin (some (j, t')) none rfl rfl rfl rfl
   | int i t => exact fin (some (j, t')) (some (i, t)) rfl rfl rfl rfl
end
end L2
namespace Att
open PySem PySem.W PySem.Calls PyProof.Rows
theorem Q3 {ns : List Int} (h : WData.layableAll [WData.list (ns.map WData.int)] = true) : ∀ n ∈ ns, Builtin.Int.intBits n ≤ 1048576 := by
 have h1 : (WData.list (ns.map WData.int)).layable = true := by simpa [WData.layableAll] using h
 intro n hn
 have h2 := layableW_item h1 (.int n) (List.mem_map.mpr ⟨n, hn, rfl⟩)
 have h3 := (layableW_iff.mp h2).2.2
 simpa [WData.weight, Builtin.Int.intBits] using h3
theorem Ox {l : OpenLaw} {n : Nat} {q : Program} {loose : List Str} {XP : (Str → Option Value) → Heap → Prop} {YP : World → Heap → Prop} {d : DefRec}
   (hn : l.most = some n) (hdf : d.params.defaults = [])
   (call : ∀ (w : World) (s₀ s₁ : Shared) (mg mb : Str → Option Value) (fa : Addr) (o : Obj) (pm cd doc : Value) (a : Addr) (vs : List Value) (ns : List Int),
     Ground q loose [] XP w s₀ mg mb s₁.heap → YP w s₁.heap →
     s₁.heap.get? fa = some o → o.data = .func (docDef d.name d.params d.body d.scope pm cd doc) → s₁.heap.CodeRec cd d.name → mg d.name = some (.ref fa) →
     s₁.heap.get? a = some { cls := .type "list", data := .seq vs.toArray } → IntsAre vs ns → ns.length ≤ n → (∀ n ∈ ns, Builtin.Int.intBits n ≤ 1048576) → s₁.gens = #[] →
     codeAny (model l.prog w) callerA (.call (.ref fa) ⟨[.ref a], []⟩) (fun r s' => r = .ok (.ret (.bool true)) ∧ OldK s₁.heap s'.heap ∧ s'.os = s₁.os ∧ AllBare s'.gens) s₁) :
   WalkO q loose XP YP l.row.toRowW d [] (fun f vs => PySem.call f vs) := by
 intro w s₀ s₁ mg mb G Y fa o pm cd doc dV kV ho hd hcd hD hmg hg args vals as hpre hlay hrd hwl hlo
 obtain rfl : dV = .none := Dflts.none hD hdf
 obtain rfl : kV = .none := Dflts.noKw hD
 obtain ⟨a, vs, ns, rfl, rfl, hobj, hints, hlen⟩ := Wt hn hpre hwl
 refine enter_call (codeAny_mono (call w s₀ s₁ mg mb fa o pm cd doc a vs ns G Y ho (fd_plain hd) hcd hmg hobj hints hlen (Q3 hlay) hg) fun r s' hq => ?_)
 obtain ⟨rfl, h2, h3, h4⟩ := hq
 exact ⟨.inl ⟨.bool true, .bool true, [], rfl, fun _ => rfl, .bool true, Wu l _, fun _ => ⟨List.Pairwise.nil, fun _ hm => (nomatch hm)⟩⟩, h2, h3, h4⟩
end Att
namespace L2
open PySem PySem.Spec PyProof.Rows
theorem Yy {l : PySem.W.OpenLaw} {n k : Nat} {q : Program} {loose : List Str} {XP : (Str → Option Value) → Heap → Prop} {YP : World → Heap → Prop} {d : DefRec} {K : Params → PySem.W.Frag} {CX : World → Hx} {sp : World → Sp} {x : Str}
   (hn : l.most = some n) (hn2 : n ≤ sizeLine) (hdf : d.params.defaults = []) (hr : gw k callerA)
   (hY : ∀ (w : World) (h : Heap), YP w h → (K w.params).In h)
   (F : ∀ (w : World) (mg : Str → Option Value) (fa : Addr) (h : Heap), (K w.params).In h → h.Ns mainGlobals mg → mg d.name = some (.ref fa) →
     ∃ fd : FuncData, (∀ (s : Shared) (u : Value), BindsTo s fd ⟨[u], []⟩ [(x, u)]) ∧
       ∀ base : Heap, (K w.params).In base → base.Ns mainGlobals mg → aB l.prog w (K w.params) mg base (CX w) k fa fd [x] (sp w))
   (hsp : ∀ (w : World) (H : Hp) (a : Addr) (ns : List Int), ns.length ≤ n → (∀ n ∈ ns, Builtin.Int.intBits n ≤ 1048576) → Only H → bG (K w.params) H a (ns.map V.int) → sp w [.ref a] H (fun v _ => v = .bl true) fun _ _ _ => False)
   (hCX : ∀ (w : World) (H : Hp) (s : Shared) (e : Value) (s' : Shared), CX w [] H s (fun _ _ _ => False) e s' → False) :
   PySem.W.WalkO q loose XP YP l.row.toRowW d [] (fun f vs => PySem.call f vs) := by
 refine Att.Ox hn hdf fun w s₀ s₁ mg mb fa o pm cd doc a vs ns G Y ho hd hcd hmg hobj hints hlen Vu hg => ?_
 have KX := hY w _ Y
 obtain ⟨fd, hb, hF⟩ := F w mg fa _ KX G.T.g hmg
 exact Yo KX G.T.g G.T.b G.T.builtins G.T.nolimit hg hobj hints (Nat.le_trans hlen hn2) hr hF hb (fun H hO hS => hsp w H a ns hlen Vu hO hS) fun H e s' => hCX w H s₁ e s'
def mX (mg : Str → Option Value) (x : Str) (v : V) : Prop := ∃ u, mg x = some u ∧ RelV v u
theorem xO {X : Cx} {x : Str} {v : V} {pos : Pos} (hg : Gl X x) (h : mX X.mg x v) (hd : (x == ("__debug__" : Str)) = false := by decide) : PE X (.Name x pos) (tC v) := by
 obtain ⟨u, hm, r⟩ := h
 exact aaT hg hm r hd
theorem o8.mod {K : PySem.W.Frag} {a : Addr} {oc : Value} {od : Option Addr} {its : Array Value} {n : Nat} {sl : Array (Option Value)} {xs : List V} (h : K.lookup a = some ⟨oc, od, .seq its n, sl⟩) (hc : oc = .type "tuple") (hz : its.size ≤ sizeLine) (hv : Vals xs its.toList) (H : Hp) : o8 K H a xs :=
 .inr ⟨_, its, n, h, hc, rfl, hz, hv⟩
theorem az.tup {K : PySem.W.Frag} {H H' : Hp} {a : Addr} {xs : List V} (e : az H H') (h : o8 K H a xs) : o8 K H' a xs := by
 rcases h with (h | ⟨o, h⟩) | h
 · exact .inl (.inl (e _ _ h))
 · exact .inl (.inr ⟨o, e _ _ h⟩)
 · exact .inr h
theorem zS {H : Hp} {p : Addr} (h : H p = none) (o : HO) : az H (upd H p o) := fun b u q => by rw [zK (zR q h)]; exact q
namespace Bt
theorem int : bootBuiltins "int" = some (.type "int") := PyProof.Rows.boot_int
theorem bool : bootBuiltins "bool" = some (.type "bool") := PyProof.Rows.boot_bool
theorem str : bootBuiltins "str" = some (.type "str") := PyProof.Rows.boot_str
theorem list : bootBuiltins "list" = some (.type "list") := PyProof.Rows.boot_list
theorem tuple : bootBuiltins "tuple" = some (.type "tuple") := PyProof.Rows.boot_tuple
theorem dict : bootBuiltins "dict" = some (.type "dict") := PyProof.Rows.boot_dict
theorem set : bootBuiltins "set" = some (.type "set") := PyProof.Rows.boot_set
theorem isinstance : bootBuiltins "isinstance" = some (.builtin "isinstance") := PyProof.Rows.boot_isinstance
theorem all : bootBuiltins "all" = some (.builtin "all") := PyProof.Rows.boot_all
theorem abs : bootBuiltins "abs" = some (.builtin "abs") := PyProof.Rows.Boot.«abs»
end Bt
end L2
namespace L2
open PySem PySem.Spec PyProof.Rows
abbrev ib (x : Int) : Nat := Builtin.Int.intBits x
theorem Yz {x : Int} (h1 : -(2 ^ 64) < x) (h2 : x < 2 ^ 64) : ib x ≤ 64 := intBits_le_64 h1 h2
theorem YB {m : Nat} {x : Int} (h : x.natAbs < 2 ^ m) : ib x ≤ m := intBits_le_iff.mpr h
theorem aa8 {α : Type} {l : List α} {i : Int} (h0 : 0 ≤ i) (h1 : i < l.length) : ∃ c, qG l i = some c ∧ l[i.toNat]? = some c := by
 have hk : i.toNat < l.length := by omega
 refine ⟨l[i.toNat], ?_, List.getElem?_eq_getElem hk⟩
 have e : i = ((i.toNat : Nat) : Int) := by omega
 have q : qG l ((i.toNat : Nat) : Int) = some l[i.toNat] := yB (List.getElem?_eq_getElem hk)
 rw [← e] at q
 exact q
theorem az.ty {K : PySem.W.Frag} {H H' : Hp} {x : V} {t : Value} (e : az H H') (h : au K H x t) : au K H' x t := by
 cases h with
 | non => exact .non
 | bl x => exact .bl x
 | int i => exact .int i
 | str x => exact .str x
 | flt x => exact .flt x
 | lst q => exact .lst (e _ _ q)
 | Qy q => exact .Qy (e _ _ q)
 | tup q => exact .tup (e _ _ q)
 | dK q => exact .dK (e _ _ q)
 | dT q => exact .dT (e _ _ q)
 | ins q a b c d f => exact .ins (e _ _ q) a b c d f
theorem zJ {n m : Nat} (h : n ≤ m) (hm : m ≤ 16777216 := by decide) : n ≤ sizeLine := by rw [sizeLine_eq]; omega
def aF (sep : List Nat) : List (List Nat) → List Nat
 | [] => []
 | [x] => x
 | x :: y :: r => x ++ sep ++ aF sep (y :: r)
theorem xV (sep : Str) (ys : List Str) : Fp sep ys = S (aF (cd sep) (ys.map cd)) := by
 have e : Fp sep ys = Str.join sep ys := StrLaws.glued_eq_join sep ys
 rw [e]
 clear e
 induction ys with
 | nil => rfl
 | cons y r ih =>
   cases r with
   | nil => exact (d8 y).symm
   | cons z r =>
     show y ++ sep ++ Str.join sep (z :: r) = S (cd y ++ cd sep ++ aF (cd sep) ((z :: r).map cd))
     rw [ih, ← xN, ← xN, d8, d8]
structure YC (J : It) (te : TE) (σ : St) (H1 : Hp) (Q : VK) : Prop where
 ex : ∃ (n : Nat) (W : Nat → List V → Hp → Prop), n ≤ sizeLine ∧ W 0 [] H1 ∧ ∀ i ys H, i ≤ n → ys.length = i → W i ys H →
   (J.stop i H ∧ ∀ p, H p = none → Q (.ref p) (upd H p (.lst ys))) ∨ (J.go i H ∧ i < n ∧ ∀ x H', J.TQ i H x H' → te (some x :: σ) H' fun v Il => W (i + 1) (ys ++ [v]) Il)
def T9 (wi : TI) (te : TE) : TE := fun σ H Q => wi σ H fun J H1 => YC J te σ H1 Q
structure YD (J : It) (g : TG) (tb : TS) (D : Ends) (σ : St) (H1 : Hp) : Prop where
 ex : ∃ W : Nat → Nat → St → Hp → Prop, (∃ m, W 0 m σ H1) ∧ ∀ i m σ H, W i m σ H →
   (J.stop i H ∧ D.nx σ H) ∨ (J.go i H ∧ ∃ N : St → Hp → Prop, (∀ σ' H', N σ' H' → ∃ m', m' < m ∧ W (i + 1) m' σ' H') ∧ ∀ x H', J.TQ i H x H' → g x σ H' fun σ2 H2 => tb { D with nx := N, ct := N, bk := D.nx } σ2 H2)
def agD (wi : TI) (g : TG) (tb : TS) : TS := fun D σ H => wi σ H fun J H1 => YD J g tb D σ H1
structure auu (c : TT) (tb : TS) (D : Ends) (σ : St) (H : Hp) : Prop where
 ex : ac5 c tb D σ H
theorem PI.weak {X : Cx} {tg iter : Expr} {wi : TI} (h : PI X tg iter wi) {pins : List (Addr × Obj)} {s : Shared} {σ : St} {H : Hp} {R R' : It → Hp → Prop} (I : Inv X pins σ H s) (hw : wi σ H R) (hR : ∀ J H1, R J H1 → R' J H1) :
   wpAny (model X.prog X.w) X.A (eval iter X.env) (fun v s1 => wpAny (model X.prog X.w) X.A (pyIter v) (PIE X pins σ tg R') X.xe s1) X.xe s := by
 refine eG (h pins s σ H R I hw) fun v s1 h1 => eG h1 fun itv s2 ⟨it, fp, tn, J, H', e, I', T, st, f, r⟩ => ?_
 exact ⟨it, fp, tn, J, H', e, I', T, st, f, hR J H' r⟩
section
variable {X : Cx} {scope : Scope} {x : Str} {M : List Str} {elt iter : Expr} {px pos : Pos} {te : TE} {wi : TI}
theorem wG {tg : Expr} {wi wi' : TI} (h : PI X tg iter wi) (hw : ∀ σ H R, wi' σ H R → ∃ R0, wi σ H R0 ∧ ∀ J H1, R0 J H1 → R J H1) : PI X tg iter wi' := by
 intro pins s σ H R I q
 obtain ⟨R0, q0, hR⟩ := hw σ H R q
 exact h.weak I q0 hR
theorem pH (K : cP X scope x M) (hc : X.calm = true) (hi : PI X (.Name x px) iter wi) (he : ∀ (C : Addr) (s₂ : Shared) (H₂ : Hp) (fp : List Addr), PE (nH X scope C x M s₂ H₂ fp) elt te)
   (hs : ∀ x, foldedSetIterable iter X.env x = pure x := by intro _; rfl) : PE X (.ListComp elt [⟨.Name x px, iter, [], 0⟩] scope pos) (T9 wi te) := by
 intro pins s σ H Q I h
 have q := aa5 (pos := pos) K hc (wi := fun σ0 H0 R0 => ∃ R, wi σ0 H0 R ∧ ∀ J H1, R J H1 → R0 J H1) (wG hi fun σ H R ⟨R1, a, b⟩ => ⟨R1, a, b⟩) he hs pins s σ H Q I
 exact q ⟨_, h, fun J H1 r => r.ex⟩
theorem Q4 {i : Nat} {y : Str} {spos py : Pos} (hN : X.N.Nodup) (hy : X.N[i]? = some y) (hl : Loc X.env.scope y) (K : cP X scope x M) (hc : X.calm = true) (hi : PI X (.Name x px) iter wi) (he : ∀ (C : Addr) (s₂ : Shared) (H₂ : Hp) (fp : List Addr), PE (nH X scope C x M s₂ H₂ fp) elt te)
   (hsw : swapsWith (.ListComp elt [⟨.Name x px, iter, [], 0⟩] scope pos) (some (.Name y py)) spos.line X.env = pure true := by rfl)
   (hs : ∀ x, foldedSetIterable iter X.env x = pure x := by intro _; rfl) (hf : X.fn y = true ∨ X.env.scope.names.lookup y = some .local := by first | exact .inl rfl | exact .inr rfl | assumption) :
   PS X (.Assign [.Name y py] (.ListComp elt [⟨.Name x px, iter, [], 0⟩] scope pos) spos) (QG (T9 wi te) (jg i)) := by
 intro pins s σ H D I h
 have q := aa6 (pos := pos) (spos := spos) hN hy hl K hc (wi := fun σ0 H0 R0 => ∃ R, wi σ0 H0 R ∧ ∀ J H1, R J H1 → R0 J H1) (wG hi fun σ H R ⟨R1, a, b⟩ => ⟨R1, a, b⟩) he hsw hs hf pins s σ H D I
 exact q ⟨_, h, fun J H1 r => r.ex⟩
theorem wH {tg : Expr} {body : List Stmt} {g : TG} {tb : TS} (hp : PassesOwn (model X.prog X.w) X.A X.env X.xe) (hc : X.calm = true) (hi : PI X tg iter wi) (hg : PG X tg g) (hb : j0 X body tb)
   (hs : ∀ x, foldedSetIterable iter X.env x = pure x := by intro _; rfl) : PS X (.For tg iter body [] pos) (agD wi g tb) := by
 intro pins s σ H D I h
 have q := ac7 (pos := pos) hp hc (wi := fun σ0 H0 R0 => ∃ R, wi σ0 H0 R ∧ ∀ J H1, R J H1 → R0 J H1) (wG hi fun σ H R ⟨R1, a, b⟩ => ⟨R1, a, b⟩) hg hb hs pins s σ H D I
 exact q ⟨_, h, fun J H1 r => r.ex⟩
end
theorem sy {x : Str} {te : TE} {σ : St} {H : Hp} {Q : VK} (hz : x.length ≤ sizeLine) (W : Nat → List V → Hp → Prop) (h0 : W 0 [] H)
   (hs : ∀ i c ys H, (cd x)[i]? = some c → ys.length = i → W i ys H → te (some (.str (S [c])) :: σ) H fun v H' => W (i + 1) (ys ++ [v]) H')
   (hd : ∀ ys H, ys.length = x.length → W x.length ys H → ∀ p, H p = none → Q (.ref p) (upd H p (.lst ys))) : YC (Its x) te σ H Q := ⟨Yv hz W h0 hs hd⟩
theorem pI {K : PySem.W.Frag} {a : Addr} {xs : List V} {te : TE} {σ : St} {H : Hp} {Q : VK} (hz : xs.length ≤ sizeLine) (W : Nat → List V → Hp → Prop) (h0 : W 0 [] H) (hq : ∀ i ys H, W i ys H → bG K H a xs)
   (hs : ∀ i x ys H, xs[i]? = some x → ys.length = i → W i ys H → te (some x :: σ) H fun v H' => W (i + 1) (ys ++ [v]) H')
   (hd : ∀ ys H, ys.length = xs.length → W xs.length ys H → ∀ p, H p = none → Q (.ref p) (upd H p (.lst ys))) : YC (X7 K a) te σ H Q := ⟨Ww hz W h0 hq hs hd⟩
theorem Dw {K : PySem.W.Frag} {a : Addr} {xs : List V} {g : TG} {tb : TS} {D : Ends} {σ : St} {H : Hp} (Pv : Nat → St → Hp → Prop) (h0 : Pv 0 σ H) (hl : ∀ i σ H, i ≤ xs.length → Pv i σ H → bG K H a xs)
   (hs : ∀ i x σ H, xs[i]? = some x → Pv i σ H → g x σ H fun σ2 H2 => tb { D with nx := Pv (i + 1), ct := Pv (i + 1), bk := D.nx } σ2 H2) (hd : ∀ σ H, Pv xs.length σ H → D.nx σ H) : YD (X7 K a) g tb D σ H := ⟨Yb Pv h0 hl hs hd⟩
theorem Ua {lo : Int} {n : Nat} {g : TG} {tb : TS} {D : Ends} {σ : St} {H : Hp} (Pv : Nat → St → Hp → Prop) (h0 : Pv 0 σ H)
   (hs : ∀ i σ H, i < n → Pv i σ H → g (.int (lo + i)) σ H fun σ2 H2 => tb { D with nx := Pv (i + 1), ct := Pv (i + 1), bk := D.nx } σ2 H2) (hd : ∀ σ H, Pv n σ H → D.nx σ H) : YD (Itr lo n) g tb D σ H := ⟨Wq Pv h0 hs hd⟩
theorem YF {x : Str} {g : TG} {tb : TS} {D : Ends} {σ : St} {H : Hp} (Pv : Nat → St → Hp → Prop) (h0 : Pv 0 σ H)
   (hs : ∀ i c σ H, (cd x)[i]? = some c → Pv i σ H → g (.str (S [c])) σ H fun σ2 H2 => tb { D with nx := Pv (i + 1), ct := Pv (i + 1), bk := D.nx } σ2 H2) (hd : ∀ σ H, Pv x.length σ H → D.nx σ H) : YD (Its x) g tb D σ H := ⟨aa7 Pv h0 hs hd⟩
theorem wI {α : Type} {f : α → V} {l : List α} {i : Nat} {x : V} (h : (l.map f)[i]? = some x) : ∃ a, l[i]? = some a ∧ x = f a := by
 rw [List.getElem?_map] at h
 cases e : l[i]? with
 | none => rw [e] at h; cases h
 | some a => rw [e] at h; exact ⟨a, rfl, (Option.some.inj h).symm⟩
theorem fW {K : PySem.W.Frag} {a b : String} {r : Bool} (h : (if (Value.type a == Value.type b) = true then some true else if PySem.W.kitMeta b = true then (fastBuiltinMro a).map (·.contains (Value.type b)) else none) = some r) : PySem.W.kitOne K (.type a) (.type b) = some r := h
end L2
namespace L2
open PySem PySem.Spec PyProof.Rows PySem.Calls
structure XUn (outer : List Env) (H H' : Hp) (h B h1 : Heap) : Prop where
 YG : ∀ b o, h.get? b = some o → H b = none → b ∉ frs outer → B.get? b = some o
 Ub : ∀ b o, h.get? b = some o → b ∉ frs outer → ∃ o', B.get? b = some o'
 slot : ∀ b o, h.get? b = some o → H b = none → b ∈ frs outer → ∃ sl, h1.get? b = some { o with slots := sl }
 free : ∀ b o, h.get? b = some o → H b = none → H' b = none
 tups : ∀ b xs, H b = some (.tup xs) → H' b = some (.tup xs)
 sr : ∀ b o u, H b = some (.Qy o u) → H' b = some (.Qy o u)
 tQ : ∀ b ps, H b = some (.tbl ps) → ∃ more, H' b = some (.tbl (ps ++ more))
theorem XUn.step {outer : List Env} {H H' : Hp} {h B h1 h2 base : Heap} (x : XUn outer H H' h B h1) (fr : h1.FunFrames base outer) (up : h1.UpToSlots h2) : XUn outer H H' h B h2 :=
 ⟨x.YG, x.Ub, fun b o e n hb => by
   obtain ⟨sl, q⟩ := x.slot b o e n hb
   obtain ⟨_, o', ho', hd'⟩ := fr.mem hb
   rw [q] at ho'; cases ho'
   obtain ⟨sl', q'⟩ := up b _ q hd'
   exact ⟨sl', q'⟩, x.free, x.tups, x.sr, x.tQ⟩
theorem XUn.un {outer : List Env} {H H' : Hp} {h B h1 : Heap} (x : XUn outer H H' h B h1) (st : B.StaysIn h1) (fr : h1.FunFrames B outer) : Un (frs outer) [] H H' h h1 :=
 ⟨fun b o e n hb _ => st b o (x.YG b o e n hb), fun b o e n hb _ => x.slot b o e n hb, fun b o e n _ => x.free b o e n, fun b o e _ => by
   by_cases hb : b ∈ frs outer
   · obtain ⟨_, o', ho', _⟩ := fr.mem hb
     exact ⟨o', ho'⟩
   · obtain ⟨o', q⟩ := x.Ub b o e hb
     exact ⟨o', st b o' q⟩, x.tups, x.sr, x.tQ⟩
def wX (P : Program) (w : World) : Hx := fun outer H s E e s' =>
 ∃ (ea t : Addr) (cls : Value) (H' : Hp) (B : Heap), e = .ref ea ∧ Heap.FlyingW B outer ea cls (.ref t) s'.heap ∧ s'.os = s.os ∧ AllBare s'.gens ∧ Ge P w H' B ∧ XUn outer H H' s.heap B s'.heap ∧ E cls none H'
section
variable {P : Program} {w : World} {K : PySem.W.Frag} {mg : Str → Option Value} {base : Heap} {N : List Str} {qual : Str} {scope : Scope} {f : Addr} {cdv : Value} {A : Around} {outer : List Env} {s : Shared} {H : Hp} {E : XK}
theorem aa9 {pins : List (Addr × Obj)} {σ : St} {H1 : Hp} {s1 : Shared} {h' : Heap} {e : Addr} {cls : Value} {vs : List Value} (I : Inv (kZ (wX P w) P w K mg base N qual scope f cdv A outer s H E) pins σ H1 s1)
   (hx : Heap.MadeExcOf s1.heap h' e cls vs) (hE : E cls none H1) : (kZ (wX P w) P w K mg base N qual scope f cdv A outer s H E).xe (.ref e) { s1 with heap := h' } := by
 have hst := I.stack
 have hin : ∀ env ∈ (kZ (wX P w) P w K mg base N qual scope f cdv A outer s H E).stack, ∀ b, env.frame = some b → b ∈ frs (kZ (wX P w) P w K mg base N qual scope f cdv A outer s H E).stack := fun env he b hb => List.mem_filterMap.mpr ⟨env, he, hb⟩
 generalize hB : PySem.W.hideAll s1.heap (frs (kZ (wX P w) P w K mg base N qual scope f cdv A outer s H E).stack) = B
 have stB : B.StaysIn s1.heap := fun b o q => by rw [← hB] at q; exact PySem.W.of_hideAll _ q
 have adk : ∀ b o, s1.heap.get? b = some o → b ∉ frs (kZ (wX P w) P w K mg base N qual scope f cdv A outer s H E).stack → B.get? b = some o := fun b o q n => by rw [← hB]; exact PySem.W.hideAll_get _ q n
 have frB : s1.heap.FunFrames B (kZ (wX P w) P w K mg base N qual scope f cdv A outer s H E).stack := by rw [← hB]; exact PySem.W.funFrames_hide hst hin
 have noL : ∀ b o, s.heap.get? b = some o → b ∉ frs outer → b ∉ frs (kZ (wX P w) P w K mg base N qual scope f cdv A outer s H E).stack := fun b o q n z => by
   rcases List.mem_cons.mp (I.uU b z) with z | z
   · have : b < s.heap.objs.size := Heap.lt_size q
     have a := I.ok.above
     rw [← z] at a
     exact absurd (Nat.lt_of_lt_of_le this a) (Nat.lt_irrefl _)
   · exact n z
 show wpAny (model P w) _ (leaving (envOfC qual scope s.heap.objs.size f cdv) (.ref e)) _ _ _
 refine wpAny_leaves_madeW (base := B) (h := s1.heap) (outer := outer) I.ok.frames rfl stB frB hx fun h2 t fl tup tn up => ?_
 refine ⟨e, t, cls, H1, B, rfl, fl, I.os, I.bare, fun a o q => (I.hok a o q).stay (fun b u hb z => adk b u z fun m => ?_) (fun _ z => z) (fun _ _ z => z), ⟨fun b o q n hb => ?_, fun b o q hb => ?_, fun b o q n hb => ?_, fun b o q n => I.base.free b o q n (fun z => nomatch z), I.base.tups, I.base.sr, I.base.tQ⟩, hE⟩
 · have z := I.Oi b m
   rcases hb with r | r
   · rw [r, q] at z; cases z
   · rw [r] at z; cases z
 · exact adk b o (I.base.keep b o q n hb (fun z => nomatch z)) (noL b o q hb)
 · obtain ⟨o', q'⟩ := I.base.there b o q (fun z => nomatch z)
   exact ⟨o', adk b o' q' (noL b o q hb)⟩
 · obtain ⟨sl, q'⟩ := I.base.slot b o q n hb (fun z => nomatch z)
   have q2 := hx.keeps b _ q'
   obtain ⟨_, o2, ho2, hd2⟩ := I.zz.mem hb
   rw [q'] at ho2; cases ho2
   obtain ⟨sl', z⟩ := up b _ q2 hd2
   exact ⟨sl', z⟩
theorem BK : Passes (wX P w) (kZ (wX P w) P w K mg base N qual scope f cdv A outer s H E) E := by
 intro pins σ H1 s1 e s' I h
 obtain ⟨ea, t, cls, H', B, rfl, fl, os, bare, hok, x, hE⟩ := h
 show wpAny (model P w) _ (leaving (envOfC qual scope s.heap.objs.size f cdv) (.ref ea)) _ _ _
 have noL : ∀ b o, s.heap.get? b = some o → b ∉ frs outer → b ∉ frs (kZ (wX P w) P w K mg base N qual scope f cdv A outer s H E).stack := fun b o q n z => by
   rcases List.mem_cons.mp (I.uU b z) with z | z
   · have : b < s.heap.objs.size := Heap.lt_size q
     have a := I.ok.above
     rw [← z] at a
     exact absurd (Nat.lt_of_lt_of_le this a) (Nat.lt_irrefl _)
   · exact n z
 refine wpAny_leaves_onW (outer := outer) I.ok.frames rfl fl fun h2 fl2 up => ?_
 have x2 := x.step fl.2.2.1 up
 refine ⟨ea, t, cls, H', B, rfl, fl2, os.trans I.os, bare, hok, ⟨fun b o q n hb => ?_, fun b o q hb => ?_, fun b o q n hb => ?_, fun b o q n => ?_, fun b xs q => x.tups b xs (I.base.tups b xs q), fun b o u q => x.sr b o u (I.base.sr b o u q), fun b ps q => ?_⟩, hE⟩
 · exact x.YG b o (I.base.keep b o q n hb (fun z => nomatch z)) (I.base.free b o q n (fun z => nomatch z)) (noL b o q hb)
 · obtain ⟨o', q'⟩ := I.base.there b o q (fun z => nomatch z)
   exact x.Ub b o' q' (noL b o q hb)
 · obtain ⟨sl, q'⟩ := I.base.slot b o q n hb (fun z => nomatch z)
   obtain ⟨sl', q2⟩ := x2.slot b _ q' (I.base.free b o q n (fun z => nomatch z)) (by
     obtain ⟨env, he, hf⟩ := List.mem_filterMap.mp hb
     exact List.mem_filterMap.mpr ⟨env, List.mem_cons_of_mem _ he, hf⟩)
   exact ⟨sl', q2⟩
 · obtain ⟨o', q'⟩ := I.base.there b o q (fun z => nomatch z)
   exact x.free b o' q' (I.base.free b o q n (fun z => nomatch z))
 · obtain ⟨m1, e1⟩ := I.base.tQ b ps q
   obtain ⟨m2, e2⟩ := x.tQ b _ e1
   exact ⟨m1 ++ m2, by rw [e2, Array.append_assoc]⟩
end
section
variable {P : Program} {w : World} {K : PySem.W.Frag} {mg : Str → Option Value} {base : Heap}
theorem fV.okX {x qual : Str} {st : Stmt} {f : Addr} {fd : FuncData} {N ps : List Str} {k : Nat} {sp : Sp} (F : fV K x qual st f fd) (S : aq N ps (aa st)) (len : ∀ vs H Q E, sp vs H Q E → vs.length = ps.length)
   (hbody : ∀ (cdv : Value) (A : Around) (outer : List Env) (s : Shared) (H : Hp) (vs : List V) (Q : VK) (E : XK), gw k (A.deeper (envOfC qual (aa st) s.heap.objs.size f cdv)) → sp vs H Q E →
     ∃ t, j0 (kZ (wX P w) P w K mg base N qual (aa st) f cdv A outer s H E) (ak st) t ∧ t { nx := fun _ H' => Q .non H', rt := Q } (start N vs) H) : aB P w K mg base (wX P w) (k + 1) f fd ps sp := by
 obtain ⟨oc, od, kV, doc, pm, an, cdv, ct, osl, rfl, lk, hcd⟩ := F.ex
 exact Vq lk hcd S len fun A outer s H vs Q E hr hsp => hbody cdv A outer s H vs Q E hr hsp
end
end L2
namespace L2
open PySem PySem.Spec PyProof.Rows PySem.Calls PySem.W PySem.Builtin PySem.Builtin.ObjectAttr PySem.Builtin.Getset_descriptor
section
variable {prog : Program} {w : World} {A : Around} {E : Value → Shared → Prop} {s : Shared} {K : PySem.W.Frag} {x D : Addr}
def ClsAt (h : Heap) (x D : Addr) : Prop := ∃ o, h.get? x = some o ∧ o.cls = .ref D
theorem ClsAt.type {M : Model} {h : Heap} (p : ClsAt h x D) : Looks M h (typeOf (.ref x)) (.ref D) := by
 obtain ⟨o, e, c⟩ := p
 exact c ▸ (Looks.ld e).andThen .now
theorem Uc {M : Model} {h : Heap} {name : Str} {a g : Value} (X : K.In h) (hf : findIn K (.ref D) name = some (some a)) (hg : specialIn K a "__get__" = some (some g)) (ht : takesIn K a = some true) : Looks M h (find (.ref x) (.ref D) name) (.bind g a) := by
 have l1 := looks_findIn (M := M) X hf
 have l2 : Looks M h (getOf (some a)) (some g) := looks_specialIn X hg
 have l3 := looks_takesIn (M := M) X ht
 refine l1.andThen (l2.andThen ?_)
 have l4 : Looks M h (dataDescriptor? (some a) (some g)) (some (g, a)) := l3.andThen .now
 exact l4.andThen (Looks.tag .now)
structure Ir (K : PySem.W.Frag) (D : Addr) : Prop where
 ga : findIn K (.ref D) "__getattribute__" = some (some (.builtin "BaseException.__getattribute__"))
 gk : findIn K (.ref D) "__getattr__" = some none
 cl : (clsIn K D).isSome = true
 ha : findIn K (.ref D) "__class__" = some (some (.builtin "object.__class__"))
 hn : specialIn K (.builtin "object.__class__") "__get__" = some (some (.builtin "getset_descriptor.__get__"))
 tk : takesIn K (.builtin "object.__class__") = some true
 mo : mroIn K D (.type "object") = some true
 mb : mroIn K D (.type "BaseException") = some true
theorem class_get {R : Result → Shared → Prop} (c : Ir K D) (X : K.In s.heap) (p : ClsAt s.heap x D) (q : R (.ok (.ret (.ref D))) s) :
   codeAny (model prog w) A (.call (.builtin "getset_descriptor.__get__") ⟨[.builtin "object.__class__", .ref x, .ref D], []⟩) R s := by
 obtain ⟨hh, g, d, t, os⟩ := s
 obtain ⟨o, eo, ec⟩ := id p
 have t0 := p.type (M := model prog w)
 have l1 := looks_mroIn (M := model prog w) X c.mo
 have auv := KF.args_gs (Value.builtin "object.__class__") (Value.ref x) (Value.ref D)
 refine codeAny_call_builtin KF.slot_gs.plain KF.entry_gs
   (KF.slot_gs.check _ _ _ _ _ _ _ _ KF.type_class auv ?_)
 unfold Builtin.«getset_descriptor.__get__»
   descrGet
 rw [dga_obj]; refine wpAny_bind (wpAny_pure ?_)
 unfold descrGetter descrCheckInstance
   descrNameAndClass isInstance
 simp only [KF.owner_class]; (repeat lk)
 refine ⟨Code.quiet_builtin _
   (by symm), codeAny_builtin KF.entry_class ?_⟩
 unfold Builtin.«object.__class__»
   shownTypeOf
 (repeat lk); exact q
theorem Ud {tk : Tok} {R : Result → Shared → Prop} (c : Ir K D) (X : K.In s.heap) (p : ClsAt s.heap x D) (q : R (.ok (.ret (.ref D))) s) :
   codeAny (model prog w) A (.call (.builtin "BaseException.__getattribute__") ⟨[.ref x, .str "__class__" tk], []⟩) R s := by
 obtain ⟨hh, g, d, t, os⟩ := s
 obtain ⟨o, eo, ec⟩ := id p
 have t0 := p.type (M := model prog w)
 have lb := looks_mroIn (M := model prog w) X c.mb
 have f0 := Uc (x := x) (M := model prog w) X c.ha c.hn c.tk
 have hk : builtinKind "BaseException.__getattribute__" = some .slot := by symm
 have hsplit : splitId "BaseException.__getattribute__" = some ("BaseException", "__getattribute__") := by symm
 have ha := F.args_bexc_ga (.ref x) (.str "__class__" tk)
 refine codeAny_call_builtin F.excAttr_ValueError.ga.plain F.entry_bexc_ga ?_
 simp only [checkBuiltinCall, hk, hsplit]
 unfold isInstance
 refine wpAny_bind ?_
 (repeat (first | (with_reducible refine wpAny_call (class_get c X p ?_)) | lk))
 exact q
theorem YH {Q : Option Value → Shared → Prop} (c : Ir K D) (X : K.In s.heap) (p : ClsAt s.heap x D) (q : Q (some (.ref D)) { s with toks := s.toks + 1 }) : wpAny (model prog w) A (getAttr? (.ref x) "__class__") Q E s := by
 obtain ⟨hh, g, d, t, os⟩ := s
 obtain ⟨o, eo, ec⟩ := id p
 have t0 := p.type (M := model prog w)
 have t1 := looks_findIn (M := model prog w) X c.ga
 have f1 := looks_findIn (M := model prog w) X c.gk
 have f3 := F.excAttr_ValueError.ga.bind (.ref x)
 unfold getAttr? getAttrBy? getAttrBy
 refine wpAny_bind (wpAny_mkText (wpAny_bind (wpAny_attempt (wpAny_holding (wpAny_bind (t0.at (wpAny_bind (t1.at ?_))))))))
 show wpAny _ _ (getAttrByItsOwn _ _ _ _ _ _) _ _ _
 unfold getAttrByItsOwn hookBefore
 refine wpAny_bind (f1.at (wpAny_bind (wpAny_attempt (wpAny_holding ?_))))
 show wpAny _ _ (boundAndCalled _ _ _) _ _ _
 unfold boundAndCalled
 rw [f3]
 refine wpAny_bind (wpAny_pure (wpAny_call ?_))
 refine Ud c (s := ⟨hh, g, d, t + 1, os⟩) X p ?_
 exact wpAny_pure (wpAny_pure q)
theorem aba (c : Ir K D) : KitX K (.ref x) (.ref D) (fun h => ClsAt h x D) where
 ty := fun _ _ _ p => p.type
 it := fun _ _ X _ => by
   obtain ⟨cd, e⟩ := Option.isSome_iff_exists.mp c.cl
   unfold clsIn at e
   split at e
   · rename_i c' d' cd' sl' ho
     intro A' Q' E' s' k q
     unfold isType loadHead
     exact wpAny_bind (wpAny_loadPart (k _ _ (X _ _ ho)) (wpAny_pure q))
   · cases e
 ne := fun h tp dd its n sl X htp => by
   obtain ⟨cd, e⟩ := Option.isSome_iff_exists.mp c.cl
   refine Bool.eq_false_iff.mpr fun q => ?_
   have z : D = tp := Value.ref.inj (beq_iff_eq.mp q)
   subst z
   unfold clsIn at e
   split at e
   · rename_i c' d' cd' sl' ho
     have z := (X _ _ ho).symm.trans htp
     cases z
   · cases e
 ca := fun X p k => YH c X p k
end
def agF (a D : Addr) : HO := .ext fun h => ClsAt h a D
inductive XC (K : PySem.W.Frag) (H : Hp) : V → Value → Prop where
 | old {x : V} {t : Value} (h : au K H x t) : XC K H x t
 | exc {a D : Addr} (h : H a = some (agF a D)) (c : Ir K D) : XC K H (.ref a) (.ref D)
 | tpl {a : Addr} {xs : List V} (h : o8 K H a xs) : XC K H (.ref a) (.type "tuple")
def agG : V → Value
 | .ref a => .ref a
 | .ty n => .type n
 | _ => .none
def acq : V → Bool
 | .ref _ => true
 | .ty _ => true
 | _ => false
section
variable {X : Cx} {pins : List (Addr × Obj)} {σ : St} {H : Hp} {s : Shared} {A : Around} {E : Value → Shared → Prop} {Q : Value → Shared → Prop} {c : Value} {b : Bool}
theorem adl {x : V} {u t : Value} (I : Inv X pins σ H s) (rx : RelV x u) (ty : XC X.K H x t) : (∃ P : Heap → Prop, KitX X.K u t P ∧ P s.heap) ∧ u ≠ .builtin "__main__.__loader__#opaque" := by
 cases ty with
 | @tpl a xs h =>
   cases (show u = Value.ref a from rx)
   obtain ⟨its, r, pl, hz⟩ := I.tuple h
   obtain ⟨o, h1, h2, _⟩ := pl
   exact ⟨⟨_, kitx_tuple, ⟨o, h1, h2⟩⟩, fun z => nomatch z⟩
 | old ty =>
   cases ty with
   | non => cases (show u = Value.none from rx); exact ⟨⟨_, kitx_none, True.intro⟩, fun z => nomatch z⟩
   | bl y => cases (show u = Value.bool y from rx); exact ⟨⟨_, kitx_bool, True.intro⟩, fun z => nomatch z⟩
   | int i => obtain ⟨t, q⟩ := (show ∃ t, u = Value.int i t from rx); cases q; exact ⟨⟨_, kitx_int, True.intro⟩, fun z => nomatch z⟩
   | str y => obtain ⟨t, q⟩ := (show ∃ t, u = Value.str y t from rx); cases q; exact ⟨⟨_, kitx_str, True.intro⟩, fun z => nomatch z⟩
   | flt y => obtain ⟨t, q⟩ := (show ∃ t, u = Value.float y t from rx); cases q; exact ⟨⟨_, kitx_float, True.intro⟩, fun z => nomatch z⟩
   | @lst a xs ea =>
     cases (show u = Value.ref a from rx)
     obtain ⟨_, _, n, _, h1⟩ := (show iy X.prog X.w H s.heap a (.lst xs) from I.hok a _ ea)
     exact ⟨⟨_, kitx_list, ⟨_, h1, rfl⟩⟩, fun z => nomatch z⟩
   | @Qy a ob xs ea =>
     cases (show u = Value.ref a from rx)
     obtain ⟨_, _, _, n, _, h1⟩ := (show iy X.prog X.w H s.heap a (.Qy ob (.lst xs)) from I.hok a _ ea)
     exact ⟨⟨_, kitx_list, ⟨_, h1, rfl⟩⟩, fun z => nomatch z⟩
   | @tup a xs ea =>
     cases (show u = Value.ref a from rx)
     obtain ⟨_, _, _, p⟩ := (show iy X.prog X.w H s.heap a (.tup xs) from I.hok a _ ea)
     obtain ⟨o, h1, h2, _⟩ := p
     exact ⟨⟨_, kitx_tuple, ⟨o, h1, h2⟩⟩, fun z => nomatch z⟩
   | @dK a kvs ea =>
     cases (show u = Value.ref a from rx)
     obtain ⟨_, _, vs, _, p⟩ := (show iy X.prog X.w H s.heap a (.dK kvs) from I.hok a _ ea)
     obtain ⟨o, es, ep, h1, h2, _⟩ := p
     exact ⟨⟨_, kitx_dict, ⟨o, h1, h2.1⟩⟩, fun z => nomatch z⟩
   | @dT a kvs ea =>
     cases (show u = Value.ref a from rx)
     obtain ⟨_, _, xs, _, o, es, ep, h1, h2, _⟩ := (show iy X.prog X.w H s.heap a (.dT kvs) from I.hok a _ ea)
     exact ⟨⟨_, kitx_dict, ⟨o, h1, h2.1⟩⟩, fun z => nomatch z⟩
   | @ins a C dx fs ea cl ha hn htk hm =>
     cases (show u = Value.ref a from rx)
     obtain ⟨mA, O, _⟩ := Hv I.hok ea
     obtain ⟨od, J, _⟩ := O.look
     exact ⟨⟨_, kitx_own (cl.get _) cl.hd ha hn htk hm, J⟩, fun z => nomatch z⟩
 | @exc a D h c =>
   cases (show u = Value.ref a from rx)
   obtain ⟨p, _⟩ := (show iy X.prog X.w H s.heap a (agF a D) from I.hok a _ h)
   exact ⟨⟨_, aba c, p⟩, fun z => nomatch z⟩
theorem YJ {x : V} {u : Value} (h : acq x = true) (r : RelV x u) : u = agG x := by
 cases x with
 | ref a => exact r
 | ty n => exact r
 | _ => cases h
theorem xI : aU X (.builtin "isinstance") (fun xs H Q => ∃ x y t b, xs = [x, y] ∧ acq y = true ∧ XC X.K H x t ∧ PySem.W.kitOne X.K t (agG y) = some b ∧ Q (.bl b) H) := by
 intro pins s σ H xs us Q I r h
 obtain ⟨x, y, t, b, rfl, hc, ty, e, q⟩ := h
 obtain ⟨u, w', rfl, rx, ry⟩ := vals2 r
 obtain rfl := YJ hc ry
 obtain ⟨⟨P, Z, p⟩, nb⟩ := adl I rx ty
 exact kia_one Z I.Ht p e nb fun tk => ⟨.bl b, H, I.tok _, rfl, q⟩
end
end L2
namespace L2
open PySem PySem.Spec PyProof.Rows PySem.Calls PySem.W
theorem abb {K : PySem.W.Frag} {h : Heap} {C : Addr} {bmB : List Value} {newId : String} (X : K.In h) (q : excIn K C bmB newId = true) :
   ∃ bm N nm q bs hdct sn sub ab col dd k0 k1 k2 k3 k5 mN, h.get? C = some (excClassObj nm q C N bs bm hdct sn sub ab col dd k0 k1 k2 k3 k5 newId) ∧ h.Ns N mN ∧ mN "__init__" = none ∧ OwnTail h bmB bm := by
 unfold excIn at q
 split at q
 · rename_i dd cl sl ho
   split at q
   · rename_i C' bm k0 k1 k2 k3 n k5 hm hs
     simp only [Bool.and_eq_true, Bool.not_eq_true', beq_iff_eq] at q
     obtain ⟨⟨⟨⟨⟨e1, e2⟩, e3⟩, e4⟩, e5⟩, e6⟩ := q
     subst e1 e2
     obtain ⟨c1, c2, c3, c4, c5, c6, c7, c8, c9, c10, c11⟩ := cl
     dsimp only at hm e3 e5 e6; subst hm e3
     have es : sl = #[k0, k1, k2, k3, some (.builtin n), k5] := by
       cases sl with | mk l => (simp only at hs; rw [hs])
     subst es
     refine ⟨bm, c4, c1, c5, c2, c6, c7, c8, c9, c10, dd, k0, k1, k2, k3, k5, h.nsMap c4, X _ _ ho, ?_, ?_, tail_of_in X e4⟩
     · exact .of_isNs (isNs_of_in X e5)
     · exact nsMap_none_of_in X e5 e6
   · cases q
 · cases q
abbrev Iu : List Value := [.type "ValueError", .type "Exception", .type "BaseException", .type "object"]
section
variable {P : Program} {w : World} {K : PySem.W.Frag} {mg : Str → Option Value} {base : Heap} {N : List Str} {qual : Str} {scope : Scope} {f : Addr} {cdv : Value} {A : Around} {outer : List Env} {s : Shared} {H : Hp} {E : XK}
def adm (E : XK) (C : Addr) (t : TA) : TS := fun _ σ H => t σ H fun vs H1 => vs.length ≤ sizeLine ∧ E (.ref C) none H1
theorem xP {x : Str} {C : Addr} {np cpos pos : Pos} {e₀ : Expr} {rest : List Expr} {t : TA} (hm : mg x = some (.ref C)) (hq : excIn K C Iu "ValueError.__new__" = true)
   (ha : PA (kZ (wX P w) P w K mg base N qual scope f cdv A outer s H E) (e₀ :: rest) t) (hg : Gl (kZ (wX P w) P w K mg base N qual scope f cdv A outer s H E) x)
   (he : starEach (e₀ :: rest) (envOfC qual scope s.heap.objs.size f cdv) = (false, eval e₀ (envOfC qual scope s.heap.objs.size f cdv)) :: starEach rest (envOfC qual scope s.heap.objs.size f cdv) := by rfl)
   (hpl : (backTo cpos (starEach rest (envOfC qual scope s.heap.objs.size f cdv))).any (·.1) = false := by rfl) (hd : (x == ("__debug__" : Str)) = false := by decide) :
   PS (kZ (wX P w) P w K mg base N qual scope f cdv A outer s H E) (.Raise (some (.Call (.Name x np) (e₀ :: rest) [] cpos)) none pos) (adm E C t) := by
 intro pins s1 σ H1 D I h
 obtain ⟨bm, Nn, nm, qn, bs, hdct, sn, sub, ab, col, dd, k0, k1, k2, k3, k5, mN, hC, hN, hni, TL⟩ := abb I.ok.mod.kin hq
 have hand : (kZ (wX P w) P w K mg base N qual scope f cdv A outer s H E).A.handled = none := I.ok.hd rfl
 refine wpAny_Raise_call_subT (C := C) (nm := nm) (q := qn) (N := Nn) (bs := bs) (bm := bm) (hdct := hdct) (sn := sn) (sub := sub) (ab := ab) (col := col) (dd := dd) (k0 := k0) (k1 := k1) (k2 := k2) (k3 := k3) (k5 := k5)
   F.excBase_ValueError (mN := mN) (TL.hasType F.excBase_ValueError.hasBase) hand ?_ hni (oH I hg hm ⟨rfl, ?_⟩ hd)
 · show (backTo cpos (starEach (e₀ :: rest) (envOfC qual scope s.heap.objs.size f cdv))).any (·.1) = false
   rw [he]; show (false || (backTo cpos (starEach rest (envOfC qual scope s.heap.objs.size f cdv))).any (·.1)) = false
   rw [hpl]; rfl
 · have hA := ha cpos pins s1 σ H1 _ I h
   show wpAny _ _ (evalArgs (.ref C) true (backTo cpos (starEach (e₀ :: rest) (envOfC qual scope s.heap.objs.size f cdv))) []) _ _ _
   have hA' : wpAny (model P w) (kZ (wX P w) P w K mg base N qual scope f cdv A outer s H E).A (spliced (backTo cpos (starEach (e₀ :: rest) (envOfC qual scope s.heap.objs.size f cdv)))) _ _ s1 := hA
   rw [he] at hA' ⊢
   refine Calls.evalArgs_plain (eG hA' fun us s2 ⟨vs, H2, I2, r, hl, q⟩ => ⟨rfl, ?_, ?_, ?_, ?_, fun h' e mk => aa9 I2 mk q⟩)
   · show us.length ≤ sizeLine
     rw [← r.length]; exact hl
   · exact I2.bk _ _ hC
   · exact hN.keeps I2.bk
   · exact TL.keeps I2.bk
end
def YK (X : Cx) (pins : List (Addr × Obj)) (σ : St) (E : XK) (e : Value) (s' : Shared) : Prop := ∃ H1 s1, Inv X pins σ H1 s1 ∧ wX X.prog X.w X.stack H1 s1 E e s'
abbrev TEx := St → Hp → VK → XK → Prop
abbrev TSx := Ends → (St → XK) → St → Hp → Prop
def PEx (X : Cx) (e : Expr) (t : TEx) : Prop :=
 ∀ (pins : List (Addr × Obj)) (s : Shared) (σ : St) (H : Hp) (Q : VK) (E : XK), Inv X pins σ H s → t σ H Q E → wpAny (model X.prog X.w) X.A (eval e X.env) (EP X pins σ Q) (YK X pins σ E) s
def PSx (X : Cx) (st : Stmt) (t : TSx) : Prop :=
 ∀ (pins : List (Addr × Obj)) (s : Shared) (σ : St) (H : Hp) (D : Ends) (E : St → XK), Inv X pins σ H s → t D E σ H → wpAny (model X.prog X.w) X.A (exec st X.env) (SP X pins D) (fun e s' => ∃ σ', YK X pins σ' (E σ') e s') s
def agH (X : Cx) (st : List Stmt) (t : TSx) : Prop :=
 ∀ (pins : List (Addr × Obj)) (s : Shared) (σ : St) (H : Hp) (D : Ends) (E : St → XK), Inv X pins σ H s → t D E σ H → wpAny (model X.prog X.w) X.A (execs st X.env) (SP X pins D) (fun e s' => ∃ σ', YK X pins σ' (E σ') e s') s
section
variable {X : Cx} {k : Nat} {f C : Addr} {fd : FuncData} {ps : List Str} {sp : Sp} {oK : List V} {ds : List Value} {x m : Str} {p pos apos : Pos} {e o : Expr} {es : List Expr} {ta : TE} {t : TA}
theorem PA.Qz {es : List Expr} {t : TA} (h : PA X.Qz es t) (E : Value → Shared → Prop) {pos : Pos} {pins : List (Addr × Obj)} {s : Shared} {σ : St} {H : Hp} {Q : List V → Hp → Prop} (I : Inv X pins σ H s) (q : t σ H Q) :
   wpAny (model X.prog X.w) X.A (spliced (backTo pos (starEach es X.env))) (AP X pins σ Q) E s :=
 wpAny_mono (h pos pins s σ H Q (I.wish _) q) (fun _ _ ⟨vs, H', I', r, q⟩ => ⟨vs, H', I'.nF, r, q⟩) fun _ _ z => False.elim z
theorem abd {pins : List (Addr × Obj)} {σ : St} {H : Hp} {s : Shared} {Q : VK} {E : XK} {us : List Value} {vs : List V} (F : aB X.prog X.w X.K X.mg X.base (wX X.prog X.w) k f fd ps sp) (hr : gw k X.A) (hb : Binds X.K fd ps ds) (hd : Vals oK ds)
   (I : Inv X pins σ H s) (r : Vals vs us) (h : sp (vs ++ oK) H Q E) : wpAny (model X.prog X.w) X.A (call (.ref f) us) (EP X pins σ Q) (YK X pins σ E) s := by
 have r2 : Vals (vs ++ oK) (us ++ ds) := r.append hd
 have hl : (us ++ ds).length = ps.length := by rw [← r2.length]; exact F.len _ _ _ _ h
 refine wpAny_call (codeAny_mono (F.run X.A X.stack s H ⟨us, []⟩ (us ++ ds) (vs ++ oK) Q E hr I.env0 (hb s us I.Ht hl) r2 h) fun r s' hq => ?_)
 cases r with
 | error e => exact ⟨H, s, I, hq⟩
 | ok fl =>
   cases fl with
   | ret u => exact I.after hq
   | next => exact False.elim hq
   | brk => exact False.elim hq
   | cont => exact False.elim hq
def ado (sp : Sp) (oK : List V) (t : TA) : TEx := fun σ H Q E => t σ H fun vs H1 => sp (vs ++ oK) H1 Q E
theorem YL (F : aB X.prog X.w X.K X.mg X.base (wX X.prog X.w) k f fd ps sp) (hr : gw k X.A) (hg : Gl X x) (hm : X.mg x = some (.ref f)) (hk : PySem.W.keepIn X.K (.ref f) = true) (hb : Binds X.K fd ps ds) (hd : Vals oK ds)
   (ha : PA X.Qz (e :: es) t) (hdb : (x == ("__debug__" : Str)) = false := by decide) (he : starEach (e :: es) X.env = (false, eval e X.env) :: starEach es X.env := by rfl) (hpl : (backTo pos (starEach es X.env)).any (·.1) = false := by rfl) :
   PEx X (.Call (.Name x p) (e :: es) [] pos) (ado sp oK t) := by
 intro pins s σ H Q E I h
 refine wpAny_Call_Name_kw (oH I hg hm ?_ hdb)
 refine PySem.W.callWith_K (h₀ := X.base) I.ok.mod.kin hk (wpAny_mono (ha.Qz (YK X pins σ E) I h) (fun us s1 ⟨vs, H1, I1, r, q⟩ => ⟨I1.Ht, ?_⟩) fun _ _ z => z) he hpl
 exact abd F hr hb hd I1 r q
def agI (te : TEx) : TSx := fun D E σ H => te σ H D.rt (E σ)
theorem abe {te : TEx} (he : PEx X e te) : PSx X (.Return (some e) pos) (agI te) := by
 intro pins s σ H D E I h
 exact wpAny_Return_some (wpAny_mono (he pins s σ H _ _ I h) (fun v s1 ⟨x, H1, I1, r1, q1⟩ => ⟨x, σ, H1, I1, r1, q1⟩) fun e s' z => ⟨σ, z⟩)
theorem abf {st : Stmt} {t : TSx} (h1 : PSx X st t) : agH X [st] t := by
 intro pins s σ H D E I h
 refine wpAny_execs_cons (wpAny_mono (h1 pins s σ H D E I h) (fun f s1 q => ?_) fun _ _ z => z)
 cases f with
 | next => exact wpAny_execs_nil q
 | ret v => exact q
 | brk => exact q
 | cont => exact q
end
def hcx (X : Cx) (e : Addr) : Cx := { X with A := X.A.mark (some (.ref e)), calm := false, xe := fun _ _ => False }
theorem YM {X : Cx} {e : Addr} {pins : List (Addr × Obj)} {σ : St} {H : Hp} {s : Shared} (I : Inv X pins σ H s) : Inv (hcx X e) pins σ H s := by
 obtain ⟨ok, os, bare, bs, loc, cell, free, mW, pin, hok, len⟩ := I
 exact ⟨⟨ok.mod, ok.kind, ok.glob, ok.blt, ok.above, ok.inj, ok.has, ok.cab, fun z => Bool.noConfusion (show false = true from z), ok.frames, ok.stk, ok.exf, ok.bs, ok.XR, ok.Wl, ok.XS, ok.zz, ok.frf⟩, os, bare, bs, loc, cell, free, mW, pin, hok, len⟩
theorem Hy {X : Cx} {e : Addr} (ok : X.Ok) {pins : List (Addr × Obj)} {σ : St} {H : Hp} {s : Shared} (I : Inv (hcx X e) pins σ H s) : Inv X pins σ H s := by
 obtain ⟨_, os, bare, bs, loc, cell, free, mW, pin, hok, len⟩ := I
 exact ⟨ok, os, bare, bs, loc, cell, free, mW, pin, hok, len⟩
theorem adp {X : Cx} {e : Addr} (ok : X.Ok) {pins : List (Addr × Obj)} {D : Ends} {f : Flow} {s : Shared} (h : SP (hcx X e) pins D f s) : SP X pins D f s := by
 cases f with
 | next => obtain ⟨σ', H', I, q⟩ := h; exact ⟨σ', H', Hy ok I, q⟩
 | brk => obtain ⟨σ', H', I, q⟩ := h; exact ⟨σ', H', Hy ok I, q⟩
 | cont => obtain ⟨σ', H', I, q⟩ := h; exact ⟨σ', H', Hy ok I, q⟩
 | ret u => obtain ⟨v, σ', H', I, r, q⟩ := h; exact ⟨v, σ', H', Hy ok I, r, q⟩
section
variable {X : Cx} {body suite : List Stmt} {b₀ : Stmt} {x : Str} {C : Addr} {np hpos pos : Pos} {tb : TSx} {th : TS}
def auw (K : PySem.W.Frag) (C : Addr) (tb : TSx) (th : TS) : TS := fun D σ H => tb D (fun σ' cls _ H' => PySem.W.exmOne K cls (.ref C) = some true ∧ th D σ' H') σ H
theorem adq (hst : X.stack = X.env :: X.outer) (hfr : X.env.frame = some X.env.locals) (hb : agH X body tb) (hg : Gl X x) (hm : X.mg x = some (.ref C)) (hh : ∀ ea, j0 (hcx X ea) (b₀ :: suite) th) (hd : (x == ("__debug__" : Str)) = false := by decide) :
   PS X (.Try body [.ExceptHandler (some (.Name x np)) none (b₀ :: suite) hpos] [] [] pos) (auw X.K C tb th) := by
 intro pins s σ H D I h
 refine wpAny_Try_except (wpAny_mono (hb pins s σ H D _ I h) (fun f s1 q => ?_) fun e s1 q => ?_)
 · cases f with
   | next => exact wpAny_execs_nil q
   | ret v => exact q
   | brk => exact q
   | cont => exact q
 · obtain ⟨σ', H1, s2, I1, ea, t, cls, H', B, rfl, fl, os, bare, hok, xu, hx, q⟩ := q
   rw [hst] at fl
   have back : ∀ (h' : Heap) (tk : Nat), B.StaysIn h' → h'.FunFrames B X.stack → XUn X.stack H1 H' s2.heap B h' → Inv X pins σ' H' { s1 with heap := h', toks := tk } := fun h' tk st fr xu' =>
     I1.call' (ch := []) os (xu'.un st fr) (hok.kept st) bare fun b z => nomatch z
   have fr0 : s1.heap.FunFrames B X.stack := by rw [hst]; exact fl.2.2.1
   refine wpAny_looks_onW (by rw [I.ok.frames, hst]) hfr fl fun h4 acr up4 => ?_
   have x4 := xu.step fr0 up4
   refine wpAny_landsW acr fun h5 fl5 up5 => ?_
   have fr4 : h4.FunFrames B X.stack := by rw [hst]; exact acr.2.2.1
   have x5 := x4.step fr4 up5
   have fr5 : h5.FunFrames B X.stack := by rw [hst]; exact fl5.2.2.1
   have I5 : Inv X pins σ' H' { s1 with heap := h5 } := back h5 s1.toks fl5.1 fr5 x5
   obtain ⟨ob, hob, hobc⟩ := fl5.there
   have LT : Looks (model X.prog X.w) h5 (typeOf (.ref ea)) cls := hobc ▸ (Looks.ld hob).andThen .now
   refine wpAny_handleBy_cons (codeAny_handlers_test ?_) (by intro z; cases z)
   have ld := fun Q E q => oH (X := hcx X ea) (pos := np) (Q := Q) (E := E) (YM I5) hg hm q hd
   refine ld _ _ ?_
   refine (exm_one (M := model X.prog X.w) I5.Ht LT hx).here ?_
   refine codeAny_handlers_suite ?_
   refine lands_againW fl5 fun h6 fl6 up6 => ?_
   have x6 := x5.step fr5 up6
   have fr6 : h6.FunFrames B X.stack := by rw [hst]; exact fl6.2.2.1
   have I6 : Inv X pins σ' H' { s1 with heap := h6 } := back h6 s1.toks fl6.1 fr6 x6
   exact wpAny_mono (hh ea pins _ σ' H' D (YM I6) q) (fun f s7 q7 => adp I.ok q7) fun _ _ z => (show False from z).elim
end
end L2
namespace L2
open PySem PySem.Spec PyProof.Rows PySem.Calls PySem.W
section
variable {X : Cx} {pins : List (Addr × Obj)} {σ : St} {H : Hp} {s : Shared}
end
section
variable {X : Cx} {body suite : List Stmt} {b₀ : Stmt} {x n : Str} {C : Addr} {np hpos pos : Pos} {tb : TSx} {th : TS} {j : Nat}
end
end L2
namespace L2
open PySem PySem.Spec PyProof.Rows PySem.Calls
section
variable {X : Cx}
theorem ym : MtM X "str.startswith" (fun x vs H Q => ∃ z y, x = .str z ∧ vs = [.str y] ∧ Q (.bl (Txt.startswith z y)) H) := by
 intro pins s σ H x vs v us Q I rx rv h
 obtain ⟨z, y, rfl, rfl, q⟩ := h
 obtain ⟨t, rfl⟩ := rx
 obtain ⟨u, rfl, t', rfl⟩ := rv.one
 exact SC.startswith ⟨.bl _, H, I, rfl, q⟩
theorem abg : MtM X "str.find" (fun x vs H Q => ∃ z y, x = .str z ∧ vs = [.str y] ∧ Q (.int (Txt.find z y)) H) := by
 intro pins s σ H x vs v us Q I rx rv h
 obtain ⟨z, y, rfl, rfl, q⟩ := h
 obtain ⟨t, rfl⟩ := rx
 obtain ⟨u, rfl, t', rfl⟩ := rv.one
 exact SC.find ⟨.int _, H, I.tok _, ⟨_, rfl⟩, q⟩
theorem Q5 : MtM X "str.zfill" (fun x vs H Q => ∃ z i, x = .str z ∧ vs = [.int i] ∧ PadOk i = true ∧ Q (.str (Txt.zfill z i)) H) := by
 intro pins s σ H x vs v us Q I rx rv h
 obtain ⟨z, i, rfl, rfl, hz, q⟩ := h
 obtain ⟨t, rfl⟩ := rx
 obtain ⟨u, rfl, t', rfl⟩ := rv.one
 exact SC.zfill hz (fun t' k => ⟨.str _, H, I.tok _, ⟨_, rfl⟩, q⟩)
theorem Iv {c : Str} {j : Nat} {e : Expr} {te : TE} {p1 p2 pos : Pos} (he : PE X e te) (hc : c.length ≤ 1000 := by symm) :
   PE X (.JoinedStr [.Constant (.str c) j p1, .FormattedValue e 114 none p2] pos) (fun σ H Q => te σ H fun x H1 => ∃ z, x = .str z ∧ z.length ≤ 100000 ∧ (∀ k ∈ cd z, k < 1000) ∧ ∀ y, Q (.str y) H1) := by
 intro pins s σ H Q I h
 have l0 : (Str.empty ++ c).length = c.length := by rw [strLen_append]; exact Nat.zero_add _
 refine JoinedStr_many (joinParts_cons (Calls.Constant_str ⟨?_, ?_⟩))
 · rw [l0, sizeLine_eq]; omega
 · refine joinParts_cons (wpAny_FormattedValue_repr (eG (he pins _ σ H _ (I.tok _) h) fun v s1 ⟨x, H1, I1, r, z, ex, hz, hk, q⟩ => ?_))
   subst ex
   obtain ⟨t, rfl⟩ := r
   have hl : (reprText z).length ≤ 1000002 := Nat.le_trans (StrLaws.reprText_len z fun c hc => Nat.lt_of_lt_of_le (hk c hc) (by decide)) (by omega)
   refine wpAny_pyReprObj_str (formatField_str (fun t' tk => ⟨?_, joinParts_nil ⟨.str _, H1, I1.tok _, ⟨_, rfl⟩, q _⟩ ?_⟩) ?_) ?_
   · rw [strLen_append, l0, sizeLine_eq]; omega
   · rw [strLen_append, l0, sizeLine_eq]; omega
   · rw [sizeLine_eq]; omega
   · rw [sizeLine_eq]; omega
end
end L2
namespace L2
open PySem PySem.Spec PyProof.Rows PySem.Calls
structure Iw (K : PySem.W.Frag) (x qual : Str) (st : Stmt) (ds : List Value) (f : Addr) (fd : FuncData) : Prop where
 ex : ∃ (T : Addr) (oc : Value) (od : Option Addr) (kV doc pm : Value) (an : Option Addr) (cdv ct : Value) (osl : Array (Option Value)) (to : Obj) (n : Nat),
   fd = PySem.W.fnOf x qual (ao st) (ak st) (aa st) (.ref T) kV doc pm an cdv ct ∧ K.lookup f = some ⟨oc, od, .func fd, osl⟩ ∧ PySem.W.codeIn K cdv qual = true ∧ K.lookup T = some to ∧ to.cls = .type "tuple" ∧ to.data = .seq ds.toArray n
 kp : PySem.W.keepIn K (.ref f) = true
section
variable {P : Program} {w : World} {K : PySem.W.Frag} {mg : Str → Option Value} {base : Heap} {x qual : Str} {st : Stmt} {f : Addr} {fd : FuncData} {N ps : List Str} {k : Nat} {sp : Sp} {ds : List Value}
theorem Iw.okX (F : Iw K x qual st ds f fd) (S : aq N ps (aa st)) (len : ∀ vs H Q E, sp vs H Q E → vs.length = ps.length)
   (hbody : ∀ (cdv : Value) (A : Around) (outer : List Env) (s : Shared) (H : Hp) (vs : List V) (Q : VK) (E : XK), gw k (A.deeper (envOfC qual (aa st) s.heap.objs.size f cdv)) → sp vs H Q E →
     ∃ t, j0 (kZ (wX P w) P w K mg base N qual (aa st) f cdv A outer s H E) (ak st) t ∧ t { nx := fun _ H' => Q .non H', rt := Q } (start N vs) H) : aB P w K mg base (wX P w) (k + 1) f fd ps sp := by
 obtain ⟨T, oc, od, kV, doc, pm, an, cdv, ct, osl, to, n, rfl, lk, hcd, _⟩ := F.ex
 exact Vq lk hcd S len fun A outer s H vs Q E hr hsp => hbody cdv A outer s H vs Q E hr hsp
theorem Iw.ok (F : Iw K x qual st ds f fd) (S : aq N ps (aa st)) (len : ∀ vs H Q E, sp vs H Q E → vs.length = ps.length)
   (hbody : ∀ (cdv : Value) (A : Around) (outer : List Env) (s : Shared) (H : Hp) (vs : List V) (Q : VK) (E : XK), gw k (A.deeper (envOfC qual (aa st) s.heap.objs.size f cdv)) → sp vs H Q E →
     ∃ t, j0 (kZ aL P w K mg base N qual (aa st) f cdv A outer s H E).Qz (ak st) t ∧ t { nx := fun _ H' => Q .non H', rt := Q } (start N vs) H) : aB P w K mg base aL (k + 1) f fd ps sp := by
 obtain ⟨T, oc, od, kV, doc, pm, an, cdv, ct, osl, to, n, rfl, lk, hcd, _⟩ := F.ex
 refine Vq lk hcd S len fun A outer s H vs Q E hr hsp => ?_
 obtain ⟨t, h, q⟩ := hbody cdv A outer s H vs Q E hr hsp
 exact ⟨t, h.Qz, q⟩
theorem Iw.binds {es : List Value} (F : Iw K x qual st ds f fd)
   (h : ∀ (T : Addr) (kV doc pm : Value) (an : Option Addr) (cdv ct : Value) (us : List Value) (M : Model) (A : Around) (E : Value → Shared → Prop) (Q : List (Str × Value) → Shared → Prop) (s : Shared) (to : Obj) (n : Nat), s.heap.get? T = some to → to.cls = .type "tuple" → to.data = .seq ds.toArray n →
     (us ++ es).length = ps.length → Q (ps.zip (us ++ es)) s → wpAny M A (bindArgs (PySem.W.fnOf x qual (ao st) (ak st) (aa st) (.ref T) kV doc pm an cdv ct) ⟨us, []⟩) Q E s) : Binds K fd ps es := by
 obtain ⟨T, oc, od, kV, doc, pm, an, cdv, ct, osl, to, n, rfl, lk, hcd, lt, tc, td⟩ := F.ex
 intro s us X hl M A E Q q
 exact h T kV doc pm an cdv ct us M A E Q s to n (X _ _ lt) tc td hl q
end
section
variable {K : PySem.W.Frag} {C D : Addr} {cd : ClassData} {r b : Bool} {T : String}
theorem sE : PySem.W.kitOne K (.ref D) (.ref D) = some true := by unfold PySem.W.kitOne; rw [if_pos (beq_self_eq_true _)]
theorem Iz (h1 : PySem.W.clsIn K C = some cd) (h2 : PySem.W.typeIn K (.ref C) = some (.type "type")) (h3 : PySem.W.mroIn K D (.ref C) = some r) : PySem.W.kitCls K (.ref D) (.ref C) = some r := by
 show (if ((PySem.W.clsIn K C).isSome && PySem.W.typeIn K (.ref C) == some (.type "type")) = true then PySem.W.mroIn K D (.ref C) else none) = some r
 rw [h1, h2, h3]; rfl
theorem wJ (h1 : PySem.W.clsIn K C = some cd) (h2 : PySem.W.typeIn K (.ref C) = some (.type "type")) (h3 : PySem.W.mroIn K D (.ref C) = some r) (hne : (Value.ref D == Value.ref C) = false) : PySem.W.kitOne K (.ref D) (.ref C) = some r := by
 unfold PySem.W.kitOne
 rw [if_neg (by rw [hne]; decide)]
 exact Iz h1 h2 h3
theorem abh (h0 : PySem.W.subIn K (.ref C) (.type "BaseException") = some true) (h1 : PySem.W.clsIn K C = some cd) (h2 : PySem.W.typeIn K (.ref C) = some (.type "type")) (h3 : PySem.W.mroIn K D (.ref C) = some r) : PySem.W.exmOne K (.ref D) (.ref C) = some r := by
 unfold PySem.W.exmOne
 rw [h0, if_pos (by rfl)]
 exact Iz h1 h2 h3
theorem Vv {α : Type} {us ds : List α} {n m : Nat} (h : (us ++ ds).length = n) (hm : ds.length + m = n) : us.length = m := by rw [List.length_append] at h; omega
theorem qH {x qual : Str} {st : Stmt} {f T : Addr} {oc : Value} {od an dd : Option Addr} {osl dsl : Array (Option Value)} {kV doc pm cdv ct : Value} {ds : List Value} {n : Nat} (l : K.lookup f = some ⟨oc, od, .func (PySem.W.fnOf x qual (ao st) (ak st) (aa st) (.ref T) kV doc pm an cdv ct), osl⟩)
   (c : PySem.W.codeIn K cdv qual = true) (k : PySem.W.keepIn K (.ref f) = true) (lt : K.lookup T = some ⟨.type "tuple", dd, .seq ds.toArray n, dsl⟩) : Iw K x qual st ds f (PySem.W.fnOf x qual (ao st) (ak st) (aa st) (.ref T) kV doc pm an cdv ct) :=
 ⟨⟨T, oc, od, kV, doc, pm, an, cdv, ct, osl, _, n, rfl, l, c, lt, rfl, rfl⟩, k⟩
end
end L2
namespace L2
theorem Bt.ValueError : PySem.bootBuiltins "ValueError" = some (.type "ValueError") := PyProof.Rows.Boot.«ValueError»
open PySem PySem.Spec PyProof.Rows
def YQ : Str := "0123456789"
def inF (c : Nat) : Bool := !(Builtin.Str.occurrences YQ (S [c]) 0 YQ.length 1).isEmpty
theorem tY (c : Nat) : inF c = true ↔ 48 ≤ c ∧ c ≤ 57 := by
 have h : inF c = decide (c ∈ YQ.cps.toList) := StrLaws.found_one YQ c
 have e : YQ.cps.toList = [48, 49, 50, 51, 52, 53, 54, 55, 56, 57] := by symm
 rw [h, e, decide_eq_true_iff]
 simp only [List.mem_cons, List.not_mem_nil, or_false]
 omega
theorem auy {c : Nat} (h : inF c = true) : Builtin.Str.occurrences YQ (S [c]) 0 YQ.length 1 = [c - 48] := by
 obtain ⟨h1, h2⟩ := (tY c).mp h
 have : c = 48 ∨ c = 49 ∨ c = 50 ∨ c = 51 ∨ c = 52 ∨ c = 53 ∨ c = 54 ∨ c = 55 ∨ c = 56 ∨ c = 57 := by omega
 rcases this with e | e | e | e | e | e | e | e | e | e <;> (subst e; decide +kernel)
theorem findF {c : Nat} (h : inF c = true) : Txt.find YQ (S [c]) = ((c - 48 : Nat) : Int) := by
 unfold Txt.find
 rw [auy h]
def val (l : List Nat) : Int := l.foldl (fun a c => a * 10 + ((c - 48 : Nat) : Int)) 0
theorem IK (l : List Nat) (c : Nat) : val (l ++ [c]) = val l * 10 + ((c - 48 : Nat) : Int) := by unfold val; rw [List.foldl_append]; rfl
theorem YS {l : List Nat} {i c : Nat} (h : l[i]? = some c) : val (l.take (i + 1)) = val (l.take i) * 10 + ((c - 48 : Nat) : Int) := by
 rw [List.take_succ, h]; exact IK _ _
theorem Dy : ∀ (n : Nat) (l : List Nat), l.length = n → l.all inF = true → 0 ≤ val l ∧ val l < 10 ^ n
 | 0, l, e, _ => by rw [List.eq_nil_of_length_eq_zero e]; exact ⟨by decide, by decide⟩
 | n + 1, l, e, h => by
   have hne : l ≠ [] := fun z => by rw [z] at e; cases e
   have el : l = l.dropLast ++ [l.getLast hne] := (List.dropLast_concat_getLast hne).symm
   rw [el, List.all_append, Bool.and_eq_true] at h
   obtain ⟨i1, i2⟩ := Dy n l.dropLast (by rw [List.length_dropLast]; omega) h.1
   have hc := (tY (l.getLast hne)).mp (by simpa using h.2)
   rw [el, IK, Int.pow_succ]
   exact ⟨by omega, by omega⟩
theorem YT {x : Int} {n : Nat} (h0 : 0 ≤ x) (h : x < 10 ^ n) : ib x ≤ 4 * n := by
 refine YB ?_
 have h1 : (10 : Int) ^ n ≤ 16 ^ n := by
   have : (10 : Nat) ^ n ≤ 16 ^ n := Nat.pow_le_pow_left (by decide) n
   exact_mod_cast this
 have h2 : ((2 : Nat) ^ (4 * n)) = 16 ^ n := by rw [Nat.pow_mul]
 rw [h2]
 have h3 : x < ((16 ^ n : Nat) : Int) := by
   have e : ((16 ^ n : Nat) : Int) = (16 : Int) ^ n := by push_cast; rfl
   rw [e]; omega
 omega
theorem abi (l : List Nat) (k : Nat) : pG l (some (k : Int)) none = l.drop k := by
 unfold pG
 have e1 : HT.uQ l.length 0 (some (k : Int)) = min k l.length := HT.Om l.length 0 k
 have e2 : HT.uQ l.length l.length none = l.length := rfl
 rw [e1, e2]
 by_cases h : k ≤ l.length
 · rw [Nat.min_eq_left h, List.take_of_length_le (by rw [List.length_drop]; exact Nat.le_refl _)]
 · rw [Nat.min_eq_right (by omega), List.drop_length, List.drop_eq_nil_of_le (by omega), List.take_nil]
theorem Vw (z : Str) (k : Nat) : Txt.startswith z (S [k]) = decide ((cd z).take 1 = [k]) := by
 unfold Txt.startswith Builtin.Str.subAt
 have hl : (S [k]).length = 1 := rfl
 rw [hl]
 have hz : z.length = (cd z).length := yE z
 have e : z = S (cd z) := (d8 z).symm
 cases h : cd z with
 | nil =>
   rw [hz, h]
   simp
 | cons c r =>
   rw [hz, h]
   have ex : z.cps.extract 0 (0 + 1) = #[c] := by
     apply Array.ext'
     rw [Array.toList_extract]
     have : z.cps.toList = c :: r := h
     rw [this]; rfl
   rw [ex]
   have e1 : decide (0 + 1 ≤ (c :: r).length) = true := decide_eq_true (by rw [List.length_cons]; omega)
   have e2 : (c :: r).take 1 = [c] := rfl
   rw [e1, e2, Bool.true_and]
   by_cases hk : c = k
   · subst hk
     rw [decide_eq_true rfl]
     show (#[c] == #[c]) = true
     exact beq_self_eq_true _
   · have e3 : ([c] = [k]) = False := by
       rw [eq_iff_iff]; exact ⟨fun h => hk (List.cons.inj h).1, False.elim⟩
     rw [decide_eq_false (by rw [e3]; exact not_false)]
     show (#[c] == #[k]) = false
     rw [beq_eq_false_iff_ne]
     intro h
     exact hk (List.cons.inj (congrArg Array.toList h)).1
theorem Ue (x y : Str) : decide (V.str x = V.str y) = decide (cd x = cd y) := by
 rw [Bool.eq_iff_iff, decide_eq_true_iff, decide_eq_true_iff]
 exact ⟨fun h => congrArg cd (V.str.inj h), fun h => congrArg V.str (yL h)⟩
def BL (l : List Nat) : List Nat := if l.take 1 = [45] then l.drop 1 else l
def gK (l : List Nat) (most : Int) : Option Int :=
 if (BL l).length < 1 ∨ most < (BL l).length ∨ ((BL l).take 1 = [48] ∧ l ≠ [48]) ∨ (BL l).all inF = false then none
 else some (if l.take 1 = [45] then - val (BL l) else val (BL l))
def Gh (l : List Nat) : Bool := decide (0 < l.length) && l.all inF
theorem sI (l : List Nat) : Gh l = true ↔ 0 < l.length ∧ l.all inF = true := by unfold Gh; rw [Bool.and_eq_true, decide_eq_true_iff]
theorem Q6 {l : List Nat} {m : Int} (h : Gh (BL l) = false) : gK l m = none := by
 unfold gK
 rw [if_pos]
 by_cases h1 : (BL l).length < 1
 · exact .inl h1
 · refine .inr (.inr (.inr ?_))
   cases e : (BL l).all inF with
   | false => rfl
   | true => exact absurd ((sI _).mpr ⟨by omega, e⟩) (by rw [h]; decide)
theorem Q7 {l : List Nat} {m : Int} (h : (BL l).take 1 = [48]) (h2 : l ≠ [48]) : gK l m = none := if_pos (.inr (.inr (.inl ⟨h, h2⟩)))
theorem Q8 {l : List Nat} {m : Int} (h : m < (BL l).length) : gK l m = none := if_pos (.inr (.inl h))
theorem Q9 {l : List Nat} {m : Int} (h1 : Gh (BL l) = true) (h2 : ¬ (BL l).take 1 = [48]) (h3 : ¬ m < (BL l).length) : gK l m = some (if l.take 1 = [45] then - val (BL l) else val (BL l)) := by
 unfold gK
 rw [if_neg]
 obtain ⟨a, b⟩ := (sI _).mp h1
 intro h
 rcases h with h | h | h | h
 · omega
 · exact h3 h
 · exact h2 h.1
 · rw [b] at h; cases h
theorem Wy {most : Int} (h : 1 ≤ most) : gK [48] most = some 0 := by
 unfold gK
 have e1 : BL [48] = [48] := by decide
 rw [e1, if_neg]
 · decide
 · intro h
   rcases h with h | h | h | h
   · exact absurd h (by decide)
   · simp only [List.length_cons, List.length_nil] at h; omega
   · exact absurd rfl h.2
   · exact absurd h (by symm)
theorem Ra {l : List Nat} (h : 1 ≤ l.length) : ∃ c, qG l 0 = some c ∧ l.take 1 = [c] := by
 cases l with
 | nil => cases h
 | cons c r => exact ⟨c, yB (j := 0) rfl, rfl⟩
structure bA (n : Nat) (z : Str) : Prop where
 len : z.length ≤ n
 Oz : ∀ c ∈ cd z, c < 1000
theorem bA.mono {n m : Nat} {z : Str} (h : bA n z) (l : n ≤ m) : bA m z := ⟨Nat.le_trans h.len l, h.Oz⟩
theorem bA.app {n m : Nat} {x y : Str} (h : bA n x) (k : bA m y) : bA (n + m) (x ++ y) := by
 refine ⟨?_, fun c hc => ?_⟩
 · rw [yE, yA, List.length_append, ← yE, ← yE]; have := h.len; have := k.len; omega
 · rw [yA] at hc
   rcases List.mem_append.mp hc with e | e
   · exact h.Oz c e
   · exact k.Oz c e
theorem bA.cut {n : Nat} {z : Str} (h : bA n z) (lo hi : Option Int) : bA n (S (pG (cd z) lo hi)) := by
 refine ⟨?_, fun c hc => ?_⟩
 · rw [zU]; unfold pG; rw [List.length_take, List.length_drop, ← yE]; have := h.len; omega
 · rw [cU] at hc; exact h.Oz c (List.mem_of_mem_drop (List.mem_of_mem_take hc))
theorem bA.size {n : Nat} {z : Str} (h : bA n z) (hn : n ≤ 100000 := by decide) : z.length ≤ sizeLine := by rw [sizeLine_eq]; have := h.len; omega
theorem bA.int {i : Int} {k : Nat} (hk : 0 < k) (h : i.natAbs < 10 ^ k) : bA (k + 1) (toString i) := by
 refine ⟨?_, fun c hc => ?_⟩
 · rw [show ((toString i : String) : Str).length = (toString i).length from PySem.ofString_length _]
   exact int_text_length_le10 hk h
 · rcases Nat.lt_or_ge c 1000 with z | z
   · exact z
   · exact absurd hc (int_text_free' c ⟨by omega, by omega⟩ i)
end L2
namespace L2
open PySem PySem.Spec PyProof.Rows PySem.Calls
structure EqJ (X : Cx) (H : Hp) (n : Nat) (x y : V) (b : Bool) : Prop where
 rc : ∀ (pins : List (Addr × Obj)) (s : Shared) (σ : St) (u v : Value) (A : Around), Inv X pins σ H s → RelV x u → RelV y v → A.units + n < cLine → SeqAt.RcAt A s u v b
 ne : ∀ (pins : List (Addr × Obj)) (s : Shared) (σ : St) (u v : Value) (A : Around), Inv X pins σ H s → RelV x u → RelV y v → A.units + n < cLine → SeqAt.RcNeAt A s u v (!b)
def auz (X : Cx) (H : Hp) (n : Nat) (x y : V) (b : Bool) : Prop :=
 ∀ (pins : List (Addr × Obj)) (s : Shared) (σ : St) (u v : Value) (A : Around), Inv X pins σ H s → RelV x u → RelV y v → A.units + n < cLine → SeqAt.EqAt A s u v b
section
variable {X : Cx} {H : Hp} {n : Nat} {x y : V} {b : Bool} {p q : Addr} {xs ys : List V}
theorem OD {xs : List V} {us : List Value} (r : Vals xs us) {j : Nat} (h : j < us.toArray.size) : ∃ x, xs[j]? = some x ∧ RelV x us.toArray[j] := by
 have hj : j < us.length := by simpa using h
 have hx : j < xs.length := by rw [r.length]; exact hj
 obtain ⟨u, hu, ru⟩ := r.get (List.getElem?_eq_getElem hx)
 refine ⟨xs[j], List.getElem?_eq_getElem hx, ?_⟩
 rw [List.getElem?_eq_getElem hj] at hu
 cases hu
 simpa using ru
theorem Dz {e : Nat → Bool} (h : bG X.K H p xs) (k : bG X.K H q ys) (hl : xs.length = ys.length) (he : ∀ (j : Nat) x y, xs[j]? = some x → ys[j]? = some y → auz X H n x y (e j)) :
   EqJ X H (n + 1) (.ref p) (.ref q) ((List.range xs.length).all e) := by
 have g : ∀ (pins : List (Addr × Obj)) (s : Shared) (σ : St) (A : Around), Inv X pins σ H s → A.units + (n + 1) < cLine → ∃ its its' : List Value, s.heap.IsList p its.toArray ∧ s.heap.IsList q its'.toArray ∧ its.toArray.size = its'.toArray.size ∧ its.toArray.size = xs.length ∧
     ∀ j (h1 : j < its.toArray.size) (h2 : j < its'.toArray.size), SeqAt.EqAt A.in1 s its.toArray[j] its'.toArray[j] (e j) := fun pins s σ A I hu => by
   obtain ⟨its, r, pl, _⟩ := I.list h
   obtain ⟨its', r', pl', _⟩ := I.list k
   have l1 := r.length
   have l2 := r'.length
   refine ⟨its, its', pl.isList, pl'.isList, by simp only [List.size_toArray]; omega, by simp only [List.size_toArray]; omega, fun j h1 h2 => ?_⟩
   obtain ⟨x, hx, rx⟩ := OD r h1
   obtain ⟨y, hy, ry⟩ := OD r' h2
   exact he j x y hx hy pins s σ _ _ A.in1 I rx ry (by show A.units + 1 + n < _; omega)
 refine ⟨fun pins s σ u v A I rx ry hu => ?_, fun pins s σ u v A I rx ry hu => ?_⟩ <;> (cases rx; cases ry; have hu' : A.units < cLine := by omega)
 · obtain ⟨its, its', a, b, c, d, z⟩ := g pins s σ A I hu
   rw [← d]; exact SeqAt.RcAt.lists a b c hu' z
 · obtain ⟨its, its', a, b, c, d, z⟩ := g pins s σ A I hu
   rw [← d]; exact SeqAt.RcNeAt.lists a b c hu' z
theorem Lh (h : bG X.K H p xs) (k : bG X.K H q ys) (hl : xs.length ≠ ys.length) : EqJ X H (n + 1) (.ref p) (.ref q) false := by
 refine ⟨fun pins s σ u v A I rx ry hu => ?_, fun pins s σ u v A I rx ry hu => ?_⟩ <;> (cases rx; cases ry; have hu' : A.units < cLine := by omega)
 · obtain ⟨its, r, pl, _⟩ := I.list h
   obtain ⟨its', r', pl', _⟩ := I.list k
   exact SeqAt.RcAt.lists_lengths pl.isList pl'.isList (by rw [List.size_toArray, List.size_toArray, ← r.length, ← r'.length]; simpa using hl) hu'
 · obtain ⟨its, r, pl, _⟩ := I.list h
   obtain ⟨its', r', pl', _⟩ := I.list k
   exact SeqAt.RcNeAt.lists_lengths pl.isList pl'.isList (by rw [List.size_toArray, List.size_toArray, ← r.length, ← r'.length]; simpa using hl) hu'
theorem adt (hu : X.A.units + 20 < cLine) : iW X (compareOp .Eq) (fun x y H Q => ∃ b, EqJ X H 20 x y b ∧ Q (.bl b) H) := by
 intro pins s σ H x y v u Q I rx ry h
 obtain ⟨b, e, q⟩ := h
 exact e.rc pins s σ v u X.A I rx ry hu X.prog X.w X.xe _ ⟨.bl b, H, I, rfl, q⟩
theorem YW (hu : X.A.units + 20 < cLine) : iW X (compareOp .NotEq) (fun x y H Q => ∃ b, EqJ X H 20 x y b ∧ Q (.bl (!b)) H) := by
 intro pins s σ H x y v u Q I rx ry h
 obtain ⟨b, e, q⟩ := h
 exact e.ne pins s σ v u X.A I rx ry hu X.prog X.w X.xe _ ⟨.bl (!b), H, I, rfl, q⟩
theorem adu {A : Around} {k : Nat} (hr : gw k A) : A.units + 20 < cLine := by have := hr.units; omega
end
end L2
namespace L2
open PySem PySem.Spec PyProof.Rows PySem.Calls
section
variable {P : Program} {w : World} {K : PySem.W.Frag} {mg : Str → Option Value} {base : Heap}
structure jQ (P : Program) (w : World) (K : PySem.W.Frag) (mg : Str → Option Value) (base : Heap) (CX : Hx) (k : Nat) (C : Addr) (m : Str) where
 f : Addr
 fd : FuncData
 ps : List Str
 sp : Sp
 ds : List Value
 oK : List V
 c : yh K C
 hm : Meth K C m f
 F : aB P w K mg base CX k f fd ps sp
 hb : Binds K fd ps ds
 hd : Vals oK ds
end
theorem YX {X : Cx} : Passes (wX X.prog X.w) X E0 := fun _ _ _ _ _ _ _ h => by
 obtain ⟨_, _, _, _, _, _, _, _, _, _, _, z⟩ := h
 exact z.elim
section
variable {X : Cx} {CX : Hx} {k : Nat} {E : XK} {m : Str} {pos apos : Pos} {e o : Expr} {es : List Expr} {ta : TE} {t : TA}
def YZ (X : Cx) (CX : Hx) (k : Nat) (m : Str) (E : XK) (ta : TE) (t : TA) : TE := fun σ H Q => ta σ H fun x H1 => ∃ (a C dx : Addr) (fs : List (Str × V)) (M : jQ X.prog X.w X.K X.mg X.base CX k C m), x = .ref a ∧ H1 a = some (.ins C dx fs) ∧ fs.lookup m = none ∧
 t σ H1 fun vs H2 => M.sp (x :: (vs ++ M.oK)) H2 Q E
theorem yH {pl : Sem Bool} (hr : gw k X.A) (hx : Passes CX X E) (he : PE X o ta) (ha : PA X (e :: es) t)
   (hst : starEach (e :: es) X.env = (false, eval e X.env) :: starEach es X.env := by rfl) (hpl : (backTo pos (starEach es X.env)).any (·.1) = false := by rfl)
   (ht : eval (.Call (.Attribute o m apos) (e :: es) [] pos) X.env = (do
     let ov ← eval o X.env
     standAt apos.atName
     let (f, first) ← holding [ov] (getMethod ov m pl)
     callWith pos f first (backTo pos (starEach (e :: es) X.env)) (backToKw pos (keywordEach [] X.env))) := by rfl) :
   PE X (.Call (.Attribute o m apos) (e :: es) [] pos) (YZ X CX k m E ta t) := by
 intro pins s σ H Q I h
 refine PySem.W.methodCall_KW (pl := pl) (eG (he pins s σ H _ I h) fun u s1 ⟨x, H1, I1, rx, a, C, dx, fs, M, ex, ea, l, q⟩ => ?_) ht
 subst ex
 obtain rfl : u = Value.ref a := rx
 refine Ib I1 ea M.c M.hm l ?_
 refine PySem.W.callWith_K (first := [.ref a]) (h₀ := X.base) I.ok.mod.kin M.hm.kp (eG (ha pos pins s1 σ H1 _ I1 q) fun us s2 ⟨vs, H2, I2, r, q2⟩ => ⟨I2.Ht, ?_⟩) hst hpl
 exact Ol (us := .ref a :: us) (vs := .ref a :: vs) M.F hr M.hb M.hd hx I2 (.cons rfl r) q2
theorem yC {pl : Sem Bool} (hr : gw k X.A) (hx : Passes CX X E) (he : PE X o ta)
   (ht : eval (.Call (.Attribute o m apos) [] [] pos) X.env = (do
     let ov ← eval o X.env
     standAt apos.atName
     let (f, first) ← holding [ov] (getMethod ov m pl)
     callWith pos f first (backTo pos (starEach [] X.env)) (backToKw pos (keywordEach [] X.env))) := by rfl) :
   PE X (.Call (.Attribute o m apos) [] [] pos) (YZ X CX k m E ta tW) := by
 intro pins s σ H Q I h
 refine PySem.W.methodCall_KW (pl := pl) (eG (he pins s σ H _ I h) fun u s1 ⟨x, H1, I1, rx, a, C, dx, fs, M, ex, ea, l, q⟩ => ?_) ht
 subst ex
 obtain rfl : u = Value.ref a := rx
 refine Ib I1 ea M.c M.hm l ?_
 exact PySem.W.callWith_K0 (first := [.ref a]) I1.Ht M.hm.kp (Ol (us := [.ref a]) (vs := [.ref a]) M.F hr M.hb M.hd hx I1 (.cons rfl .nil) q)
structure Y0 (K : PySem.W.Frag) (C : Addr) (m : Str) (f : Addr) : Prop where
 rd : PySem.W.readsIn K C (.type "type") = true
 at_ : PySem.W.findCls K (.ref C) (.type "type") m = some (.val (.ref f))
 sp : PySem.W.specialIn K (.ref C) "__getattribute__" = some (some (.builtin "type.__getattribute__"))
 kp : PySem.W.keepIn K (.ref f) = true
theorem BP {pl : Sem Bool} {C f : Addr} {fd : FuncData} {ps : List Str} {sp : Sp} {x : Str} {np : Pos} (c : Y0 X.K C m f) (F : aB X.prog X.w X.K X.mg X.base CX k f fd ps sp) (hr : gw k X.A) (hg : Gl X x) (hmg : X.mg x = some (.ref C)) (hb : Binds X.K fd ps []) (hx : Passes CX X E)
   (ha : PA X (e :: es) t) (hd : (x == ("__debug__" : Str)) = false := by decide)
   (hst : starEach (e :: es) X.env = (false, eval e X.env) :: starEach es X.env := by rfl) (hpl : (backTo pos (starEach es X.env)).any (·.1) = false := by rfl)
   (ht : eval (.Call (.Attribute (.Name x np) m apos) (e :: es) [] pos) X.env = (do
     let ov ← eval (.Name x np) X.env
     standAt apos.atName
     let (f, first) ← holding [ov] (getMethod ov m pl)
     callWith pos f first (backTo pos (starEach (e :: es) X.env)) (backToKw pos (keywordEach [] X.env))) := by rfl) :
   PE X (.Call (.Attribute (.Name x np) m apos) (e :: es) [] pos) (Yi sp [] E t) := by
 intro pins s σ H Q I h
 refine PySem.W.methodCall_KW (pl := pl) (oH I hg hmg ?_ hd) ht
 refine PySem.W.method_cls I.Ht c.sp (PySem.W.cls_value (s := s) I.Ht c.rd c.at_ rfl ?_)
 refine PySem.W.callWith_K (first := []) (h₀ := X.base) I.ok.mod.kin c.kp (eG (ha pos pins _ σ H _ (I.tok _) h) fun us s2 ⟨vs, H2, I2, r, q2⟩ => ⟨I2.Ht, ?_⟩) hst hpl
 exact Ol (us := us) (vs := vs) F hr hb .nil hx I2 r q2
end
end L2
namespace L2
open PySem PySem.Spec PyProof.Rows
def yo (l : List Nat) : List Nat := l.dropWhile (· == 32)
def tZ (l : List Nat) : List Nat := (yo (yo l).reverse).reverse
theorem DG (a : Nat) (l : List Nat) : yo (List.replicate a 32 ++ l) = yo l := by
 induction a with
 | zero => rfl
 | succ a ih => rw [List.replicate_succ, List.cons_append]; unfold yo; rw [List.dropWhile_cons, if_pos (by decide)]; exact ih
theorem Nt {l : List Nat} (h : ∀ c, l.head? = some c → c ≠ 32) : yo l = l := by
 cases l with
 | nil => rfl
 | cons a r => unfold yo; rw [List.dropWhile_cons, if_neg (by simpa using h a rfl)]
theorem Rb {a b : Nat} {w : List Nat} (h1 : ∀ c, w.head? = some c → c ≠ 32) (h2 : ∀ c, w.getLast? = some c → c ≠ 32) : tZ (List.replicate a 32 ++ w ++ List.replicate b 32) = w := by
 unfold tZ
 rw [List.append_assoc, DG]
 cases w with
 | nil =>
   rw [List.nil_append]
   have : yo (List.replicate b 32) = [] := by have := DG b []; rwa [List.append_nil] at this
   rw [this]; rfl
 | cons x r =>
   have e : yo (x :: r ++ List.replicate b 32) = x :: r ++ List.replicate b 32 := Nt fun c hc => h1 c hc
   rw [e, List.reverse_append, List.reverse_replicate, DG]
   have e2 : yo (x :: r).reverse = (x :: r).reverse := Nt fun c hc => h2 c (by rwa [List.head?_reverse] at hc)
   rw [e2, List.reverse_reverse]
theorem u5 {w : List Nat} (h1 : ∀ c, w.head? = some c → c ≠ 32) (h2 : ∀ c, w.getLast? = some c → c ≠ 32) : tZ w = w := by
 have := Rb (a := 0) (b := 0) h1 h2
 simpa using this
theorem Nu {w : List Nat} (h : ∀ c ∈ w, c ≠ 32) : tZ w = w := u5 (fun c hc => h c (List.mem_of_mem_head? hc)) (fun c hc => h c (List.mem_of_getLast? hc))
def dig (n : Nat) : List Nat := (Nat.toDigits 10 n).map Char.toNat
theorem Vx : ∀ d : Nat, d < 10 → (Nat.digitChar d).toNat = 48 + d := by decide
theorem OJ {n : Nat} (h : n < 10) : dig n = [48 + n] := by
 unfold dig; rw [Nat.toDigits_of_lt_base h]; show [(Nat.digitChar n).toNat] = _; rw [Vx n h]
theorem Ug {n : Nat} (h : 10 ≤ n) : dig n = dig (n / 10) ++ [48 + n % 10] := by
 unfold dig; rw [Nat.toDigits_of_base_le (by decide) h, List.map_append]; show _ ++ [(Nat.digitChar (n % 10)).toNat] = _; rw [Vx _ (Nat.mod_lt _ (by decide))]
theorem Hz (n : Nat) : 0 < (dig n).length := by unfold dig; rw [List.length_map]; exact Nat.length_toDigits_pos
theorem wK {k n : Nat} (hk : 1 ≤ k) (hn : n < 10 ^ k) : (dig n).length ≤ k := by unfold dig; rw [List.length_map]; exact toDigits_len_pow (by decide) hk hn
theorem Vy (n : Nat) : (dig n).all inF = true := by
 induction n using Nat.strongRecOn with
 | _ n ih =>
   by_cases h : n < 10
   · rw [OJ h, List.all_cons, (tY _).mpr ⟨by omega, by omega⟩]; rfl
   · rw [Ug (by omega), List.all_append, ih (n / 10) (by omega), List.all_cons, (tY _).mpr ⟨by omega, by have := Nat.mod_lt n (show 0 < 10 by decide); omega⟩]; rfl
theorem Vz (n : Nat) : val (dig n) = n := by
 induction n using Nat.strongRecOn with
 | _ n ih =>
   by_cases h : n < 10
   · rw [OJ h]; show (0 : Int) * 10 + ((48 + n - 48 : Nat) : Int) = n; omega
   · rw [Ug (by omega), IK, ih (n / 10) (by omega)]; omega
theorem Rc {n : Nat} (h : n ≠ 0) : ∃ c r, dig n = c :: r ∧ 49 ≤ c ∧ c ≤ 57 := by
 induction n using Nat.strongRecOn with
 | _ n ih =>
   by_cases h10 : n < 10
   · exact ⟨_, _, OJ h10, by omega, by omega⟩
   · obtain ⟨c, r, e, h1, h2⟩ := ih (n / 10) (by omega) (by omega)
     exact ⟨c, r ++ [48 + n % 10], by rw [Ug (by omega), e]; rfl, h1, h2⟩
theorem oM {n c : Nat} (h : c ∈ dig n) : 48 ≤ c ∧ c ≤ 57 := (tY c).mp (List.all_eq_true.mp (Vy n) c h)
theorem Rf : dig 0 = [48] := OJ (by decide)
def bB (i : Int) : List Nat := if i < 0 then 45 :: dig i.natAbs else dig i.natAbs
theorem Uh (i : Int) : cd ((toString i : String) : Str) = bB i := by
 show (Str.ofString (toString i)).cps.toList = _
 rw [signs_ofString]
 unfold bB
 cases i with
 | ofNat m =>
   rw [if_neg (show ¬ Int.ofNat m < 0 from by have : Int.ofNat m = (m : Int) := rfl; omega)]
   show (Nat.repr m).toList.map Char.toNat = _
   rw [Nat.toList_repr]; rfl
 | negSucc m =>
   rw [if_pos (Int.negSucc_lt_zero m)]
   have : (toString (Int.negSucc m)) = "-" ++ Nat.repr (m + 1) := rfl
   rw [this, String.toList_append, Nat.toList_repr]; rfl
theorem Y4 (i : Int) : BL (bB i) = dig i.natAbs := by
 unfold bB
 split
 · rfl
 · unfold BL
   rw [if_neg]
   obtain ⟨c, r, e⟩ : ∃ c r, dig i.natAbs = c :: r := by
     cases h : dig i.natAbs with
     | nil => have := Hz i.natAbs; rw [h] at this; cases this
     | cons c r => exact ⟨c, r, rfl⟩
   intro z
   have hc := oM (n := i.natAbs) (c := c) (by rw [e]; simp)
   rw [e] at z
   have : c = 45 := by simpa using z
   omega
theorem abj (i : Int) : bB i ≠ [] := by
 unfold bB
 split
 · simp
 · intro z; have := Hz i.natAbs; rw [z] at this; cases this
theorem pJ {i : Int} {c : Nat} (h : c ∈ bB i) : c = 45 ∨ (48 ≤ c ∧ c ≤ 57) := by
 unfold bB at h
 split at h
 · rcases List.mem_cons.mp h with e | e
   · exact .inl e
   · exact .inr (oM e)
 · exact .inr (oM h)
theorem Ui (i : Int) : tZ (bB i) = bB i := Nu fun c hc => by rcases pJ hc with e | e <;> omega
theorem Wz {i : Int} {most : Int} (h1 : 1 ≤ most) (h : ((dig i.natAbs).length : Int) ≤ most) : gK (bB i) most = some i := by
 have e := Y4 i
 unfold gK
 rw [e, if_neg]
 · congr 1
   rw [Vz]
   unfold bB
   by_cases hi : i < 0
   · rw [if_pos hi]
     rw [if_pos (show (45 :: dig i.natAbs).take 1 = [45] from rfl)]; omega
   · rw [if_neg hi, if_neg]
     · omega
     · intro z
       obtain ⟨c, r, ec⟩ : ∃ c r, dig i.natAbs = c :: r := by
         cases h : dig i.natAbs with
         | nil => have := Hz i.natAbs; rw [h] at this; cases this
         | cons c r => exact ⟨c, r, rfl⟩
       have hc := oM (n := i.natAbs) (c := c) (by rw [ec]; simp)
       rw [ec] at z
       have : c = 45 := by simpa using z
       omega
 · intro z
   rcases z with z | z | z | z
   · have := Hz i.natAbs; omega
   · omega
   · by_cases h0 : i.natAbs = 0
     · have : i = 0 := by omega
       subst this
       exact z.2 (by show (if (0:Int) < 0 then _ else _) = _; rw [if_neg (by decide)]; exact Rf)
     · obtain ⟨c, r, ec, hc, _⟩ := Rc h0
       rw [ec] at z
       have : c = 48 := by simpa using z.1
       omega
   · rw [Vy] at z; cases z
theorem Rg {i : Int} (h : i.natAbs < 10 ^ 60) : gK (bB i) 60 = some i := Wz (by decide) (by have := wK (k := 60) (by decide) h; omega)
end L2
namespace L2
open PySem PySem.Spec PyProof.Rows PySem.Calls
section
variable {X : Cx}
end
theorem lk0 {f a b : Str} {v w : V} (h1 : (f == a) = false) (h2 : (f == b) = false) : ([(a, v), (b, w)] : List (Str × V)).lookup f = none := by
 rw [List.lookup_cons, h1, List.lookup_cons, h2]; rfl
theorem lk1 {a : Str} {v : V} {r : List (Str × V)} : ((a, v) :: r).lookup a = some v := by rw [List.lookup_cons, beq_self_eq_true]
theorem lk2 {a b : Str} {v w : V} (h : (b == a) = false) {r : List (Str × V)} : ((a, v) :: (b, w) :: r).lookup b = some w := by rw [List.lookup_cons, h]; exact lk1
theorem Y5 {c : Bool} {A B : Prop} (h : c = false) (q : B) : if c = true then A else B := by subst h; exact bh q
theorem adv {c : Bool} {A B : Prop} (h : c = true) (q : A) : if c = true then A else B := by subst h; exact bJ q
structure Thing (K : PySem.W.Frag) (H : Hp) (x : V) where
 t : Value
 bi : Bool
 bb : Bool
 bs : Bool
 ty : XC K H x t
 ki : PySem.W.kitOne K t (.type "int") = some bi
 kb : PySem.W.kitOne K t (.type "bool") = some bb
 ks : PySem.W.kitOne K t (.type "str") = some bs
 hi : (bi && !bb) = true → ∃ n, x = .int n
 hs : bs = true → ∃ z, x = .str z
 ni : ∀ n, x = .int n → (bi && !bb) = true
 ns : ∀ z, x = .str z → bs = true
 hbl : bb = true → ∃ b, x = .bl b
 nbl : ∀ b, x = .bl b → bb = true
theorem az.adw {K : PySem.W.Frag} {H H' : Hp} {a : Addr} {xs : List V} (e : az H H') (h : o8 K H a xs) : o8 K H' a xs := by
 rcases h with h | h
 · exact .inl (h.imp (fun k => e _ _ k) (fun ⟨o, k⟩ => ⟨o, e _ _ k⟩))
 · exact .inr h
theorem az.agM {K : PySem.W.Frag} {H H' : Hp} {x : V} {t : Value} (e : az H H') (h : XC K H x t) : XC K H' x t := by
 cases h with
 | old h => exact .old (e.ty h)
 | exc h c => exact .exc (e _ _ h) c
 | tpl h => exact .tpl (e.adw h)
def Thing.same {K : PySem.W.Frag} {H H' : Hp} {x : V} (h : Thing K H x) (e : az H H') : Thing K H' x := ⟨h.t, h.bi, h.bb, h.bs, e.agM h.ty, h.ki, h.kb, h.ks, h.hi, h.hs, h.ni, h.ns, h.hbl, h.nbl⟩
theorem az.upd {H H' : Hp} {p : Addr} {o : HO} (e : az H H') (h : H p = none ∨ H p = some o) : az H (L2.upd H' p o) := fun b u q => by
 by_cases z : b = p
 · subst z
   rcases h with h | h
   · rw [h] at q; cases q
   · rw [h] at q; rw [zE]; exact q
 · rw [zK z]; exact e b u q
def lq : Option Int → V
 | some n => .int n
 | none => .non
end L2
namespace L2
open PySem PySem.Spec PyProof.Rows
theorem str_is (n : Int) : ((toString n : String) : Str) = S (bB n) := yL (Uh n)
theorem abk {n : Int} (h : n.natAbs < 10 ^ 60) : bA 61 (S (bB n)) := by rw [← str_is]; exact bA.int (by decide) h
theorem VB {m : Int} (h : m.natAbs < 10 ^ 61) : m.natAbs.log2 < 1920 := by
 by_cases h0 : m.natAbs = 0
 · rw [h0]; decide
 · exact (Nat.log2_lt h0).mpr (Nat.lt_trans h (by symm))
end L2
namespace L2
open PySem PySem.Spec PyProof.Rows PySem.Calls
theorem adx {X : Cx} {e : Expr} {te te' : TE} (h : PE X e te') (h2 : te' = te) : PE X e te := h2 ▸ h
section
variable {X : Cx}
end
end L2
namespace L2
open PySem PySem.Spec PyProof.Rows PySem.Calls
theorem snocInd {p : List Str → Prop} (l : List Str) (h0 : p []) (hs : ∀ l v, p l → p (l ++ [v])) : p l := by
 have key : ∀ l : List Str, p l.reverse := fun l => by
   induction l with
   | nil => exact h0
   | cons a r ih => rw [List.reverse_cons]; exact hs _ _ ih
 have := key l.reverse
 rwa [List.reverse_reverse] at this
def stepT (σ : List Str) (v : Str) : List Str := if v ∈ σ then σ else σ ++ [v]
def iY (ws : List Str) : List Str := ws.foldl stepT []
theorem sJ (ws : List Str) (v : Str) : iY (ws ++ [v]) = stepT (iY ws) v := by unfold iY; rw [List.foldl_append]; rfl
theorem Nv (σ : List Str) (v k : Str) : k ∈ stepT σ v ↔ k ∈ σ ∨ k = v := by
 unfold stepT
 split
 · constructor
   · exact .inl
   · rintro (h | h)
     · exact h
     · subst h; assumption
 · simp
theorem Rh (ws : List Str) : ∀ k, k ∈ iY ws ↔ k ∈ ws := by
 refine snocInd (p := fun ws => ∀ k, k ∈ iY ws ↔ k ∈ ws) ws (fun k => Iff.rfl) fun l v ih k => ?_
 rw [sJ, Nv, ih k, List.mem_append, List.mem_singleton]
theorem Ri (ws : List Str) : (iY ws).length ≤ ws.length := by
 refine snocInd (p := fun ws => (iY ws).length ≤ ws.length) ws (Nat.le_refl _) fun l v ih => ?_
 rw [sJ]; unfold stepT
 split <;> simp <;> omega
theorem Uj (ws : List Str) : (iY ws).length = ws.length ↔ ws.Nodup := by
 refine snocInd (p := fun ws => (iY ws).length = ws.length ↔ ws.Nodup) ws (by simp [iY]) fun l v ih => ?_
 rw [sJ, List.nodup_append]
 have hl := Ri l
 unfold stepT
 by_cases h : v ∈ iY l
 · rw [if_pos h]
   have h' := (Rh l v).mp h
   constructor
   · intro e; simp at e; omega
   · intro ⟨_, _, d⟩; exact absurd rfl (d v h' v (by simp))
 · rw [if_neg h]
   have h' : v ∉ l := fun z => h ((Rh l v).mpr z)
   simp only [List.length_append, List.length_singleton, Nat.add_right_cancel_iff, ih]
   constructor
   · intro e; exact ⟨e, by simp, fun a ha b hb z => by rw [List.mem_singleton.mp hb] at z; exact h' (z ▸ ha)⟩
   · exact fun ⟨e, _⟩ => e
theorem IV (P : Program) (w : World) (z : Str) (t : Tok) : (strKind P w).is z (.str z t) = true := by
 show Value.isStrOf z (.str z t) = true
 simp [Value.isStrOf]
section
variable {prog : Program} {w : World} {A : Around} {R : Result → Shared → Prop} {I : Addr} {fp wr : List Addr} {G : Array GenState → Array GenState → Prop} {n : Nat} {P : Nat → Value → Prop} {St : Nat → Shared → Prop}
theorem WD (W : WalksS prog w A.in1 I fp wr G n P St) (S : Addr) (hSf : S ∉ fp) (ws : List Str) (hn : ws.length = n) (hval : ∀ i v, P i v → ∃ z t, v = .str z t ∧ ws[i]? = some z) (hb : n + 1 < scanBound) :
   ∀ (k i : Nat) (s : Shared), n - i = k → i ≤ n → St i s →
     s.heap.SetOf (strKind prog w) S (fun k' => decide (k' ∈ iY (ws.take i))) (iY (ws.take i)).length →
     (∀ s', Moved (S :: wr) G s s' → s'.heap.SetOf (strKind prog w) S (fun k' => decide (k' ∈ iY ws)) (iY ws).length → R (.ok (.ret .none)) s') →
     codeAny (model prog w) A (.builtin "set.update.loop" ⟨[.ref S, .ref I], []⟩) R s := by
 have hSw : S ∉ wr := fun h => hSf (W.sub _ h)
 have hsub : ∀ b ∈ wr, b ∈ S :: wr := fun b hb => List.mem_cons_of_mem _ hb
 intro k
 induction k with
 | zero =>
   intro i s hk hi hst hS hR
   have hin : i = n := by omega
   subst hin
   rw [← hn, List.take_length] at hS
   refine codeAny_builtin F.entry_set_update_loop ?_
   rw [Around.under_plainId F.plain_set_update_loop _]
   show wpAny _ A.in1 (pyNext (.ref I) >>= _) _ _ s
   refine wpAny_bind (W.done s _ _ hst fun s' hm => ?_)
   exact wpAny_pure (hR s' (hm.mono hsub) (by
     obtain ⟨o, es, ep, t, ho, rest⟩ := hS
     exact ⟨o, es, ep, t, hm.heap S _ hSw ho, rest⟩))
 | succ k ih =>
   intro i s hk hi hst hS hR
   have hlt : i < n := by omega
   refine codeAny_builtin F.entry_set_update_loop ?_
   rw [Around.under_plainId F.plain_set_update_loop _]
   show wpAny _ A.in1 (pyNext (.ref I) >>= _) _ _ s
   refine wpAny_bind (W.item i s _ _ hlt hst fun v s' hP hst' hm => ?_)
   obtain ⟨z, t, rfl, hz⟩ := hval i v hP
   obtain ⟨o, es, ep, tb, ho, rest⟩ := hS
   have hS' : s'.heap.SetOf (strKind prog w) S (fun k' => decide (k' ∈ iY (ws.take i))) (iY (ws.take i)).length := ⟨o, es, ep, tb, hm.heap S _ hSw ho, rest⟩
   show wpAny _ A.in1 (holding [Value.str z t] (setAdd S (.str z t)) >>= _) _ _ s'
   refine wpAny_bind (wpAny_holding ?_)
   unfold setAdd
   refine wpAny_holding ?_
   refine wpAny_bind ((strKind prog w).pyHash (k := z) (IV _ _ _ _) ?_)
   have hroom : (iY (ws.take i)).length + 1 < scanBound := by have := Ri (ws.take i); rw [List.length_take] at this; omega
   refine wpAny_setAddHashed_of (knd := strKind prog w) (s := { s' with toks := s'.toks + 1 }) (IV _ _ _ _) rfl hS' hroom fun h' hsb hS2 => ?_
   have et : ws.take (i + 1) = ws.take i ++ [z] := by rw [List.take_succ, hz]; rfl
   have hSi : h'.SetOf (strKind prog w) S (fun k' => decide (k' ∈ iY (ws.take (i + 1)))) (iY (ws.take (i + 1))).length := by
     refine SetOf_congr hS2 (fun k' => ?_) ?_
     · rw [et, sJ, Bool.eq_iff_iff, decide_eq_true_iff, Nv]
       simp only [Bool.or_eq_true, decide_eq_true_iff]
     · rw [et, sJ]
       unfold stepT
       by_cases h : z ∈ iY (ws.take i)
       · rw [if_pos h, if_pos (decide_eq_true h)]
       · rw [if_neg h, if_neg (by simpa using h), List.length_append]; rfl
   refine wpAny_pure ⟨plainId_quiet F.plain_set_update_loop _, ih (i + 1) _ (by omega) hlt (W.frame _ s' _ _ hst' (Nat.le_succ _) fun b hb o e => ?_) hSi fun s'' hm'' hS'' => ?_⟩
   · rw [hsb.2 b (fun h : b = S => hSf (by rw [← h]; exact hb))]; exact e
   · refine hR s'' (Moved.trans W.gtrans ((hm.mono hsub).then_heap (Nat.le_succ _) fun b o hb e => ?_) hm'') hS''
     rw [hsb.2 b (fun h : b = S => hb (by rw [h]; exact List.mem_cons_self))]; exact e
end
section
variable {prog : Program} {w : World} {A : Around} {E : Value → Shared → Prop} {s : Shared}
end
def SetT (P : Program) (w : World) (a : Addr) (S : Str → Bool) (n : Nat) : HO := .ext fun h => h.SetOf (strKind P w) a S n
section
variable {X : Cx}
theorem Li : aU X (.builtin "len") (fun xs H Q => ∃ p S n, xs = [.ref p] ∧ H p = some (SetT X.prog X.w p S n) ∧ Q (.int (n : Nat)) H) := by
 intro pins s σ H xs us Q I r h
 obtain ⟨p, S, n, rfl, hp, q⟩ := h
 obtain ⟨u, rfl, ru⟩ := vals1 r
 cases ru
 obtain ⟨⟨o, es, ep, t, ho, hex, hd, _, _, hb, hf, e⟩, _⟩ := (show iy X.prog X.w H s.heap p (SetT X.prog X.w p S n) from I.hok p _ hp)
 subst e
 exact call_len_set ho hex hd hf (by unfold scanBound at hb; omega) ⟨.int es.size, H, I.tok _, ⟨_, rfl⟩, q⟩
end
end L2
namespace L2
open PySem PySem.Spec PyProof.Rows PySem.Calls
theorem Nx : ∀ (ws : List Str) (tk : Nat), Vals (ws.map V.str) (strsFrom tk ws)
 | [], _ => .nil
 | x :: r, tk => .cons ⟨tk, rfl⟩ (Nx r (tk + 1))
section
variable {X : Cx}
theorem IW : MtM X "str.split" (fun x vs H Q => ∃ z y, x = .str z ∧ vs = [.str y] ∧ 0 < y.length ∧ z.length ≤ 100000 ∧ ∀ l, H l = none → Q (.ref l) (upd H l (.lst ((Txt.split z y).map V.str)))) := by
 intro pins s σ H x vs v us Q I rx rv h
 obtain ⟨z, y, rfl, rfl, hy, hz, q⟩ := h
 obtain ⟨t, rfl⟩ := rx
 obtain ⟨u, rfl, ⟨t', rfl⟩⟩ := rv.one
 have hy' : (y.length == 0) = false := by rw [beq_eq_false_iff_ne]; omega
 have hle := split_le z y
 have hsz : (Txt.split z y).length ≤ sizeLine := by rw [sizeLine_eq]; omega
 have hzs : z.length ≤ sizeLine := by rw [sizeLine_eq]; omega
 have q := q _ (I.hok.fresh (Nat.le_refl _))
 have fin : ∀ (its : List Value) (tk : Nat), Vals ((Txt.split z y).map V.str) its → EP X pins σ Q (.ref s.heap.objs.size) { s with toks := tk, heap := s.heap.push { cls := .type "list", data := .seq its.toArray } } := fun its tk r =>
   ⟨.ref s.heap.objs.size, _, I.laid (t' := tk) (a := s.heap.objs.size) (fun b o e => Heap.get?_push_of_some _ e) (Nat.le_refl _) (show iy X.prog X.w _ _ _ (.lst ((Txt.split z y).map V.str)) from ⟨by rw [List.length_map]; exact hsz, its, _, r, Heap.get?_push_size _ rfl⟩), rfl, q⟩
 cases h1 : (decide (z.length < y.length) || decide (Builtin.Str.strKind z < Builtin.Str.strKind y)) with
 | true =>
   have e : Txt.split z y = [z] := if_pos h1
   exact call_meets PySem.F.slot_str_split (typeIs_str _ _ _) PySem.F.entry_str_split (PySem.F.args_str_split_2 _ _) (meets_str_split_cannot_occur z y t t' h1) (fin [.str z t] _ (by rw [e]; exact .cons ⟨t, rfl⟩ .nil))
 | false =>
   cases hf : (Builtin.Str.occurrences z y 0 z.length (z.length + 1)).isEmpty with
   | true =>
     have e : Txt.split z y = [z] := (if_neg (ne_true_of_eq_false h1)).trans (if_pos hf)
     exact call_meets PySem.F.slot_str_split (typeIs_str _ _ _) PySem.F.entry_str_split (PySem.F.args_str_split_2 _ _) (meets_str_split_not_found z y t t' h1 hy' hf) (fin [.str z t] _ (by rw [e]; exact .cons ⟨t, rfl⟩ .nil))
   | false =>
     have e : Txt.split z y = Builtin.Str.partsBetween z (Builtin.Str.occurrences z y 0 z.length (z.length + 1)) y.length := (if_neg (ne_true_of_eq_false h1)).trans (if_neg (ne_true_of_eq_false hf))
     refine call_meets PySem.F.slot_str_split (typeIs_str _ _ _) PySem.F.entry_str_split (PySem.F.args_str_split_2 _ _) (meets_str_split_sep z y t t' h1 hy' hf hzs (by rw [← e]; exact hsz)) (fin _ _ ?_)
     rw [e]; exact Nx _ _
end
theorem WK : ∀ {a b : List (List Nat)}, a ≠ [] → b ≠ [] → (∀ p ∈ a, 32 ∉ p) → (∀ p ∈ b, 32 ∉ p) → aF [32] a = aF [32] b → a = b := by
 have cut : ∀ {x y u v : List Nat}, 32 ∉ x → 32 ∉ y → x ++ 32 :: u = y ++ 32 :: v → x = y ∧ u = v := by
   intro x
   induction x with
   | nil =>
     intro y u v hx hy e
     cases y with
     | nil => exact ⟨rfl, (List.cons.inj e).2⟩
     | cons b r => exact absurd (by rw [show b = 32 from (List.cons.inj e).1.symm]; simp) hy
   | cons a x ih =>
     intro y u v hx hy e
     cases y with
     | nil => exact absurd (by rw [show a = 32 from (List.cons.inj e).1]; simp) hx
     | cons b r =>
       have h := List.cons.inj e
       obtain ⟨h1, h2⟩ := ih (fun z => hx (List.mem_cons_of_mem _ z)) (fun z => hy (List.mem_cons_of_mem _ z)) h.2
       exact ⟨by rw [h.1, h1], h2⟩
 intro a
 induction a with
 | nil => intro b h; exact absurd rfl h
 | cons x r ih =>
   intro b _ hb ha hbb e
   cases b with
   | nil => exact absurd rfl hb
   | cons y s =>
     have fx := ha x (by simp)
     have fy := hbb y (by simp)
     cases r with
     | nil =>
       cases s with
       | nil => exact congrArg (· :: []) e
       | cons y2 s =>
         have e' : x = y ++ [32] ++ aF [32] (y2 :: s) := e
         exact absurd (by rw [e']; simp) fx
     | cons x2 r =>
       cases s with
       | nil =>
         have e' : x ++ [32] ++ aF [32] (x2 :: r) = y := e
         exact absurd (by rw [← e']; simp) fy
       | cons y2 s =>
         have e' : x ++ [32] ++ aF [32] (x2 :: r) = y ++ [32] ++ aF [32] (y2 :: s) := e
         rw [List.append_assoc, List.append_assoc] at e'
         obtain ⟨h1, h2⟩ := cut fx fy e'
         have := ih (b := y2 :: s) (by simp) (by simp) (fun p hp => ha p (List.mem_cons_of_mem _ hp)) (fun p hp => hbb p (List.mem_cons_of_mem _ hp)) h2
         rw [h1, this]
def aH (l : List Nat) : List (List Nat) := (Txt.split (S l) (S [32])).map cd
theorem Fq {l p : List Nat} (h : p ∈ aH l) : 32 ∉ p := by
 obtain ⟨z, hz, rfl⟩ := List.mem_map.mp h
 exact StrLaws.split_free (S l) 32 z hz
theorem sO (l : List Nat) : aH l ≠ [] := by
 intro e
 have := split_pos (S l) (S [32])
 have e2 := congrArg List.length e
 unfold aH at e2
 rw [List.length_map] at e2
 rw [e2] at this; cases this
theorem xQ (l : List Nat) : aF [32] (aH l) = l := by
 have e := StrLaws.join_split (S l) (S [32])
 rw [← StrLaws.glued_eq_join] at e
 have e2 := xV (S [32]) (Txt.split (S l) (S [32]))
 rw [show Fp (S [32]) (Txt.split (S l) (S [32])) = S l from e] at e2
 exact (Yt e2).symm
theorem o9 {ws : List (List Nat)} (h : ws ≠ []) (hf : ∀ p ∈ ws, 32 ∉ p) : aH (aF [32] ws) = ws :=
 WK (sO _) h (fun _ hp => Fq hp) hf (xQ _)
theorem Rj (z : Str) : Txt.split z (S [32]) = (aH (cd z)).map S := by
 unfold aH
 rw [List.map_map, d8]
 have : (S ∘ cd) = id := funext fun x => d8 x
 rw [this, List.map_id]
theorem z8 {l : List Nat} (h : 32 ∉ l) : aH l = [l] := by
 have := o9 (ws := [l]) (by simp) (by simpa using h)
 exact this
end L2
namespace HT
open PySem PySem.Spec PyProof.Rows PySem.Calls
section
variable {prog : Program} {w : World} {A : Around} {E : Value → Shared → Prop} {s : Shared}
end
end HT
namespace L2
open PySem PySem.Spec PyProof.Rows PySem.Calls
section
variable {X : Cx}
end
end L2
namespace L2
open PySem PySem.Spec PyProof.Rows PySem.Calls
def PEp (X : Cx) (e : Expr) (t : TE) : Prop :=
 ∀ (pins : List (Addr × Obj)) (s : Shared) (σ : St) (H : Hp) (Q : VK), Inv X pins σ H s → 1 ≤ s.toks → t σ H Q → wpAny (model X.prog X.w) X.A (eval e X.env) (EP X pins σ Q) X.xe s
def PSp (X : Cx) (st : Stmt) (t : TS) : Prop :=
 ∀ (pins : List (Addr × Obj)) (s : Shared) (σ : St) (H : Hp) (D : Ends), Inv X pins σ H s → 1 ≤ s.toks → t D σ H → wpAny (model X.prog X.w) X.A (exec st X.env) (SP X pins D) X.xe s
def z9 (X : Cx) (st : List Stmt) (t : TS) : Prop :=
 ∀ (pins : List (Addr × Obj)) (s : Shared) (σ : St) (H : Hp) (D : Ends), Inv X pins σ H s → 1 ≤ s.toks → t D σ H → wpAny (model X.prog X.w) X.A (execs st X.env) (SP X pins D) X.xe s
def PAp (X : Cx) (es : List Expr) (t : TA) : Prop :=
 ∀ (pos : Pos) (pins : List (Addr × Obj)) (s : Shared) (σ : St) (H : Hp) (Q : List V → Hp → Prop), Inv X pins σ H s → 1 ≤ s.toks → t σ H Q → wpAny (model X.prog X.w) X.A (spliced (backTo pos (starEach es X.env))) (AP X pins σ Q) X.xe s
theorem XD {α : Type} {t : Sem α} {Q Q' : α → Shared → Prop} {M : Model} {A : Around} {E : Value → Shared → Prop} {s : Shared} {n : Nat} (hn : n ≤ s.toks) (h : wpAny M A t Q E s) (hQ : ∀ a s, n ≤ s.toks → Q a s → Q' a s) : wpAny M A t Q' E s := wpAny_mono (wpAny_toks_of hn h) (fun a s z => hQ a s z.1 z.2) fun _ _ z => z.2
section
variable {X : Cx} {e : Expr} {te : TE} {pos : Pos} {st : Stmt} {rest : List Stmt} {t u : TS}
theorem PE.made (h : PE X e te) : PEp X e te := fun pins s σ H Q I _ q => h pins s σ H Q I q
theorem abn (he : PEp X e te) : PSp X (.Return (some e) pos) (ac2 te) := by
 intro pins s σ H D I hn h
 exact wpAny_Return_some (eG (he pins s σ H _ I hn h) fun v s1 ⟨x, H1, I1, r1, q1⟩ => ⟨x, σ, H1, I1, r1, q1⟩)
theorem abo {i : Nat} {x : Str} {pos' : Pos} (hN : X.N.Nodup) (hi : X.N[i]? = some x) (hx : Loc X.env.scope x) (he : PEp X e te) (hs : swapsWith e (some (.Name x pos')) pos.line X.env = pure false := by rfl) (hf : X.fn x = true ∨ X.env.scope.names.lookup x = some .local := by first | exact .inl rfl | exact .inr rfl | assumption) :
   PSp X (.Assign [.Name x pos'] e pos) (QG te (jg i)) := by
 intro pins s σ H D I hn h
 refine wpAny_Assign_Name (eG (he pins s σ H _ I hn h) fun v s1 ⟨y, H1, I1, r1, q1⟩ => ?_) hs
 exact uV I1 hN hi hx r1 (fun s2 I2 => ⟨_, H1, I2, q1⟩) hf
theorem Ny (h1 : PSp X st t) (h2 : j0 X rest u) : z9 X (st :: rest) (X3 t u) := by
 intro pins s σ H D I hn h
 refine wpAny_execs_cons (eG (h1 pins s σ H { D with nx := u D } I hn h) fun f s1 q => ?_)
 cases f with
 | next =>
   obtain ⟨σ', H', I', q⟩ := q
   exact h2 pins s1 σ' H' D I' q
 | ret v => exact q
 | brk => exact q
 | cont => exact q
theorem Y6 (h1 : PSp X st t) : z9 X [st] t := by
 intro pins s σ H D I hn h
 refine wpAny_execs_cons (eG (h1 pins s σ H D I hn h) fun f s1 q => ?_)
 cases f with
 | next => exact wpAny_execs_nil q
 | ret v => exact q
 | brk => exact q
 | cont => exact q
theorem Ft {o : Expr} {to : TE} {a b : Str} {ka kb : Nat} {apos cpos pa pb : Pos} (ho : PEp X o to) (hab : (a == b) = false := by symm)
   (hbase : attributeBase o "replace" X.env (eval o X.env) = eval o X.env := by rfl)
   (hfew : ((backTo cpos (starEach [.Constant (.str a) ka pa, .Constant (.str b) kb pb] X.env)).all (fun x => !x.1) && (backToKw cpos (keywordEach [] X.env)).all (fun x => x.1.isSome)
     && decide ([Expr.Constant (.str a) ka pa, .Constant (.str b) kb pb].length + ([] : List Keyword).length + (if ([] : List Keyword).isEmpty then 0 else 1) < 30)) = true := by rfl)
   (hline : (apos.endLine == cpos.line) = true := by rfl)
   (hs : backTo cpos (starEach [.Constant (.str a) ka pa, .Constant (.str b) kb pb] X.env) = [(false, eval (.Constant (.str a) ka pa) X.env), (false, eval (.Constant (.str b) kb pb) X.env)] := by rfl) :
   PEp X (.Call (.Attribute o "replace" apos) [.Constant (.str a) ka pa, .Constant (.str b) kb pb] [] cpos) (fun σ H Q => to σ H fun v H1 => ∃ z, v = .str z ∧ z.length + (z.length + 1) * b.length ≤ 16777216 ∧ Q (.str (Txt.replace z a b)) H1) := by
 intro pins s σ H Q I hn h
 refine wpAny_Call_method_late hbase hfew hline rfl (XD hn (ho pins s σ H _ I hn h) fun v s1 hn1 ⟨x, H1, I1, r1, z, ex, hz, q⟩ => ?_)
 subst ex
 obtain ⟨tk, rfl⟩ := r1
 refine ⟨"str", _, PySem.F.plainAttrs_str, PySem.F.slot_str_replace, PySem.F.type_str_replace, typeIs_str _ _ _, (fun _ e => nomatch e), ?_⟩
 rw [hs]
 refine Calls.callWith_builtin rfl (Calls.evalArgs_plain (Calls.spliced_cons (Calls.Constant_str (Calls.spliced_cons (Calls.Constant_str (Calls.spliced_nil ?_))))))
 refine SC.replace (by show s1.toks ≠ 0; omega) (by show s1.toks + 1 ≠ 0; omega) (by show s1.toks ≠ s1.toks + 1; omega) hab hz ?_
 intro t' k
 exact ⟨.str _, H1, I1.tok _, ⟨_, rfl⟩, q⟩
end
structure sU (P : Program) (w : World) (K : PySem.W.Frag) (mg : Str → Option Value) (base : Heap) (CX : Hx) (k : Nat) (f : Addr) (fd : FuncData) (ps : List Str) (sp : Sp) : Prop where
 len : ∀ vs H Q E, sp vs H Q E → vs.length = ps.length
 run : ∀ (A : Around) (outer : List Env) (s : Shared) (H : Hp) (args : Args) (us : List Value) (vs : List V) (Q : VK) (E : XK), gw k A → Ig P w K mg base A outer s H → 1 ≤ s.toks → BindsTo s fd args (ps.zip us) → Vals vs us → sp vs H Q E →
   codeAny (model P w) A (.call (.ref f) args) (CR CX outer P w H s Q E) s
theorem sU.mono {P : Program} {w : World} {K : PySem.W.Frag} {mg : Str → Option Value} {base : Heap} {CX : Hx} {j k : Nat} {f : Addr} {fd : FuncData} {ps : List Str} {sp : Sp} (F : sU P w K mg base CX j f fd ps sp) (h : j ≤ k) :
   sU P w K mg base CX k f fd ps sp := ⟨F.len, fun A outer s H args us vs Q E hr => F.run A outer s H args us vs Q E (hr.mono h)⟩
theorem ady {CX : Hx} {P : Program} {w : World} {K : PySem.W.Frag} {mg : Str → Option Value} {base : Heap} {k : Nat} {f : Addr} {name qual : Str} {params : Arguments} {body : List Stmt} {scope : Scope} {dV kV doc pm cdv ct oc : Value} {an od : Option Addr}
   {osl : Array (Option Value)} {N ps : List Str} {sp : Sp} (lk : K.lookup f = some ⟨oc, od, .func (PySem.W.fnOf name qual params body scope dV kV doc pm an cdv ct), osl⟩) (hcd : PySem.W.codeIn K cdv qual = true) (S : aq N ps scope)
   (len : ∀ vs H Q E, sp vs H Q E → vs.length = ps.length)
   (hbody : ∀ (A : Around) (outer : List Env) (s : Shared) (H : Hp) (vs : List V) (Q : VK) (E : XK), gw k (A.deeper (envOfC qual scope s.heap.objs.size f cdv)) → sp vs H Q E →
     ∃ t, z9 (kZ CX P w K mg base N qual scope f cdv A outer s H E) body t ∧ t { nx := fun _ H' => Q .non H', rt := Q } (start N vs) H) :
   sU P w K mg base CX (k + 1) f (PySem.W.fnOf name qual params body scope dV kV doc pm an cdv ct) ps sp := by
 refine ⟨len, fun A outer s H args us vs Q E hr e0 hn hb r hsp => ?_⟩
 have hl := len _ _ _ _ hsp
 have KX : K.In s.heap := e0.mod.kin.keeps fun b o e => (e0.bs b o e).1
 have lim : s.heap.NoLimit := e0.mod.nolimit.keeps fun b o e => (e0.bs b o e).1
 have hkind : ∀ y ∈ ps.zip us, scope.names.lookup y.1 = some .local ∨ (scope.names.lookup y.1 = some .cell ∧ ((cellsFrom (s.heap.objs.size + 1) scope.names []).lookup y.1).isSome = true) := fun ⟨n, v⟩ hy => by
   rcases S.par n (List.of_mem_zip hy).1 with q | q
   · exact .inl q
   · exact .inr ⟨q, PySem.W.cellsFrom_some _ _ _ (.inl q)⟩
 refine codeAny_call_function hr.depth (KX _ _ lk) rfl S.co S.gen rfl (PySem.W.codeRec_of KX hcd) (hb _ _ _ _ ?_)
 refine wpAny_with_toks hn (wpAny_newFunctionEnv_cells S.kind hkind fun env he s1 x hn1 => ?_)
 subst he
 refine ⟨lim.keeps x.toInCall.keep, codeAny_func ?_⟩
 obtain ⟨t, ht, hq⟩ := hbody A outer s H vs Q E (hr.deeper _) hsp
 have I : Inv (kZ CX P w K mg base N qual scope f cdv A outer s H E) [] (start N vs) H s1 := Nm S hr.hd e0 hl r x
 refine wpAny_mono (ht [] s1 (start N vs) H _ I hn1 hq) (fun fl s' hs => ?_) fun e s' hs => hs
 have fin : ∀ {σ' : St} {H' : Hp} {v : V} {u : Value}, Inv (kZ CX P w K mg base N qual scope f cdv A outer s H E) [] σ' H' s' → RelV v u → Q v H' → CE outer P w H s Q u s' :=
   fun {σ' H' v u} J rv q => ⟨v, H', J.os, J.bare, J.base, J.hok, rv, q⟩
 cases fl with
 | ret u =>
   obtain ⟨v, σ', H', J, rv, q⟩ := hs
   exact fin J rv q
 | next =>
   obtain ⟨σ', H', J, q⟩ := hs
   exact fin (v := V.non) (u := Value.none) J rfl q
 | brk =>
   obtain ⟨_, _, _, q⟩ := hs
   exact False.elim q
 | cont =>
   obtain ⟨_, _, _, q⟩ := hs
   exact False.elim q
theorem z9.Qz {X : Cx} {b : List Stmt} {t : TS} (h : z9 X.Qz b t) : z9 X b t := fun pins s σ H D I hn hw =>
 wpAny_mono (h pins s σ H D (I.wish _) hn hw) (fun _ _ q => q.nF) fun _ _ z => False.elim z
section
variable {P : Program} {w : World} {K : PySem.W.Frag} {mg : Str → Option Value} {base : Heap}
theorem fV.okP {x qual : Str} {st : Stmt} {f : Addr} {fd : FuncData} {N ps : List Str} {k : Nat} {sp : Sp} (F : fV K x qual st f fd) (S : aq N ps (aa st)) (len : ∀ vs H Q E, sp vs H Q E → vs.length = ps.length)
   (hbody : ∀ (cdv : Value) (A : Around) (outer : List Env) (s : Shared) (H : Hp) (vs : List V) (Q : VK) (E : XK), gw k (A.deeper (envOfC qual (aa st) s.heap.objs.size f cdv)) → sp vs H Q E →
     ∃ t, z9 (kZ aL P w K mg base N qual (aa st) f cdv A outer s H E).Qz (ak st) t ∧ t { nx := fun _ H' => Q .non H', rt := Q } (start N vs) H) : sU P w K mg base aL (k + 1) f fd ps sp := by
 obtain ⟨oc, od, kV, doc, pm, an, cdv, ct, osl, rfl, lk, hcd⟩ := F.ex
 refine ady lk hcd S len fun A outer s H vs Q E hr hsp => ?_
 obtain ⟨t, h, q⟩ := hbody cdv A outer s H vs Q E hr hsp
 exact ⟨t, h.Qz, q⟩
structure auA (P : Program) (w : World) (K : PySem.W.Frag) (mg : Str → Option Value) (base : Heap) (CX : Hx) (k : Nat) (C : Addr) (m : Str) where
 f : Addr
 fd : FuncData
 ps : List Str
 sp : Sp
 ds : List Value
 oK : List V
 c : yh K C
 hm : Meth K C m f
 F : sU P w K mg base CX k f fd ps sp
 hb : Binds K fd ps ds
 hd : Vals oK ds
end
section
variable {X : Cx} {CX : Hx} {k : Nat} {E : XK} {m x : Str} {p pos apos : Pos} {e o : Expr} {es : List Expr} {ta te : TE} {t : TA} {f : Addr} {fd : FuncData} {ps : List Str} {ds : List Value} {oK : List V} {sp : Sp}
theorem abp {pins : List (Addr × Obj)} {σ : St} {H : Hp} {s : Shared} {Q : VK} {us : List Value} {vs : List V} (F : sU X.prog X.w X.K X.mg X.base CX k f fd ps sp) (hr : gw k X.A) (hb : Binds X.K fd ps ds) (hd : Vals oK ds) (hx : Passes CX X E)
   (I : Inv X pins σ H s) (hn : 1 ≤ s.toks) (r : Vals vs us) (h : sp (vs ++ oK) H Q E) : wpAny (model X.prog X.w) X.A (call (.ref f) us) (EP X pins σ Q) X.xe s := by
 have r2 : Vals (vs ++ oK) (us ++ ds) := r.append hd
 have hl : (us ++ ds).length = ps.length := by rw [← r2.length]; exact F.len _ _ _ _ h
 refine wpAny_call (codeAny_mono (F.run X.A X.stack s H ⟨us, []⟩ (us ++ ds) (vs ++ oK) Q E hr I.env0 hn (hb s us I.Ht hl) r2 h) fun r s' hq => ?_)
 cases r with
 | error e => exact hx pins σ H s e s' I hq
 | ok fl =>
   cases fl with
   | ret u => exact I.after hq
   | next => exact False.elim hq
   | brk => exact False.elim hq
   | cont => exact False.elim hq
theorem Rk (F : sU X.prog X.w X.K X.mg X.base CX k f fd ps sp) (hr : gw k X.A) (hg : Gl X x) (hm : X.mg x = some (.ref f)) (hk : PySem.W.keepIn X.K (.ref f) = true) (hb : Binds X.K fd ps ds) (hd : Vals oK ds) (hx : Passes CX X E)
   (ha : PA X (e :: es) t) (hdb : (x == ("__debug__" : Str)) = false := by decide) (he : starEach (e :: es) X.env = (false, eval e X.env) :: starEach es X.env := by rfl) (hpl : (backTo pos (starEach es X.env)).any (·.1) = false := by rfl) :
   PEp X (.Call (.Name x p) (e :: es) [] pos) (Yi sp oK E t) := by
 intro pins s σ H Q I hn h
 refine wpAny_Call_Name_kw (oH I hg hm ?_ hdb)
 refine PySem.W.callWith_K (h₀ := X.base) I.ok.mod.kin hk (XD hn (ha pos pins s σ H _ I h) fun us s1 hn1 ⟨vs, H1, I1, r, q⟩ => ⟨I1.Ht, ?_⟩) he hpl
 exact abp F hr hb hd hx I1 hn1 r q
def PEm (X : Cx) (e : Expr) (t : TE) : Prop :=
 ∀ (pins : List (Addr × Obj)) (s : Shared) (σ : St) (H : Hp) (Q : VK), Inv X pins σ H s → t σ H Q → wpAny (model X.prog X.w) X.A (eval e X.env) (fun u s' => 1 ≤ s'.toks ∧ EP X pins σ Q u s') X.xe s
end
end L2
namespace L2
open PySem PySem.Spec PyProof.Rows PySem.Calls
def WL (X : Cx) (ifs : List Expr) (t : TT) : Prop :=
 ∀ (pins : List (Addr × Obj)) (s : Shared) (σ : St) (H : Hp) (Q : Bool → Hp → Prop), Inv X pins σ H s → t σ H Q →
   wpAny (model X.prog X.w) X.A (forIn ifs true fun c r => if r = true then do let ok ← isTrue c X.env (eval c X.env); pure (ForInStep.yield ok) else pure (ForInStep.yield r)) (TP X pins σ Q) X.xe s
def agN : TT := fun _ H Q => Q true H
theorem Ja {X : Cx} : WL X [] agN := fun pins s σ H Q I h => wpAny_pure ⟨H, I, h⟩
theorem O1 {prog : Program} {w : World} {A : Around} {R : Result → Shared → Prop} {s : Shared} {elt target iter : Expr} {ifs : List Expr} {scope : Scope} {pos : Pos} {it acc : Value} {env : Env} (I : Nat → Shared → Prop)
   (turn : ∀ n s, I n s → wpAny (model prog w) A (pyNext it) (fun r s₁ => match r with
     | none => R (.ok .next) s₁
     | some v => wpAny (model prog w) A (letOwnedTupleGo target it v) (fun _ s₂ => wpAny (model prog w) A (assign target env v) (fun _ s₃ =>
         wpAny (model prog w) A (forIn ifs true fun c r => if r = true then do let ok ← isTrue c env (eval c env); pure (ForInStep.yield ok) else pure (ForInStep.yield r)) (fun ok s₄ =>
           if ok = true then wpAny (model prog w) A (eval elt env) (fun x s₅ =>
             wpAny (model prog w) A (call (.builtin "list.append") [acc, x]) (fun _ s₆ => ∃ m, m < n ∧ I m s₆) (notedBy (model prog w) A env fun e s' => R (.error e) s') s₅)
             (notedBy (model prog w) A env fun e s' => R (.error e) s') s₄ else ∃ m, m < n ∧ I m s₄)
           (notedBy (model prog w) A env fun e s' => R (.error e) s') s₃) (notedBy (model prog w) A env fun e s' => R (.error e) s') s₂) (notedBy (model prog w) A env fun e s' => R (.error e) s') s₁)
     (notedBy (model prog w) A env fun e s' => R (.error e) s') s)
   (n : Nat) (h : I n s) : codeAny (model prog w) A (.compLoop (.ListComp elt [⟨target, iter, ifs, 0⟩] scope pos) 0 it acc env) R s := by
 refine codeAny_loop rfl I (fun n s hI => ?_) n h
 show wpAny _ A ((compTurn (.ListComp elt [⟨target, iter, ifs, 0⟩] scope pos) 0 it acc env).onRaise (fun x => do noteFrame x env; theTreesLotGoes x)) _ _ s
 refine wpAny_noted ?_
 rw [compTurn_list]
 refine wpAny_bind (wpAny_standAt (wpAny_bind (wpAny_mono (turn n s hI) (fun r s₁ h₁ => ?_) fun _ _ h' => h')))
 cases r with
 | none => exact wpAny_pure h₁
 | some v =>
   refine wpAny_bind (wpAny_mono h₁ (fun _ s₂ h₂ => wpAny_bind (wpAny_mono h₂ (fun _ s₃ h₃ => ?_) fun _ _ h' => h')) fun _ _ h' => h')
   refine wpAny_bind (wpAny_mono h₃ (fun ok s₄ h₄ => ?_) fun _ _ h' => h')
   cases ok with
   | false => exact wpAny_pure ⟨rfl, h₄⟩
   | true => exact wpAny_bind (wpAny_bind (wpAny_mono h₄ (fun x s₅ h₅ => wpAny_bind (wpAny_mono h₅ (fun _ s₆ h₆ => wpAny_pure (wpAny_pure ⟨rfl, h₆⟩)) fun _ _ h' => h')) fun _ _ h' => h'))
def dH (X : Cx) (scope : Scope) (C : Addr) (x y : Str) (M : List Str) (s₂ : Shared) (H₂ : Hp) (fp : List Addr) : Cx :=
 { X with N := x :: y :: M, s₀ := s₂, H₀ := H₂, env := compEnvC scope (jM X.env scope.names []) C X.env, outer := X.stack, ex := fp, fn := fun _ => false, pn := [], xe := fun _ _ => False }
structure qI (X : Cx) (scope : Scope) (x y : Str) (M : List Str) : Prop where
 base : cP X scope x M
 agO : scope.names.lookup y = some .local
 nd2 : (x :: y :: M).Nodup
theorem Aa {X : Cx} {scope : Scope} {x y : Str} {M : List Str} (h : cP X scope x M) (h1 : scope.names.lookup y = some .local) (h2 : (x :: y :: M).Nodup) : qI X scope x y M := ⟨h, h1, h2⟩
section
variable {X : Cx} {scope : Scope} {x y : Str} {M : List Str} {pins : List (Addr × Obj)} {σ : St} {H₂ : Hp} {s₂ : Shared} {elt iter tg : Expr} {ifs : List Expr} {pos : Pos} {te : TE} {wi : TI} {g : TG} {tc : TT}
theorem WM (K : qI X scope x y M) (I : Inv X pins σ H₂ s₂) {fp : List Addr} (hf : ∀ b ∈ fp, nG X pins H₂ b) (hfl : ∀ b ∈ fp, b < s₂.heap.objs.size) {C : Addr} (hC : s₂.heap.objs.size ≤ C) {h₁ : Heap} {t : Nat} {m : Str → Option Value} (hn : h₁.Ns C m)
   (hk : ∀ b o, s₂.heap.get? b = some o → h₁.get? b = some o) : Inv (dH X scope C x y M s₂ H₂ fp) [] (none :: none :: σ) H₂ { s₂ with heap := h₁, toks := t } := by
 have I1 := Ik (t := t) K.base I hf hfl hC hn hk
 have ok : (dH X scope C x y M s₂ H₂ fp).Ok := by
   obtain ⟨a1, a2, a3, a4, a5, a6, a7, a8, a9, a10, a11, a12, a13, a14, a15, a16, a17, a18⟩ := I1.ok
   exact ⟨a1, a2, a3, a4, a5, a6, a7, a8, a9, a10, a11, a12, a13, a14, a15, a16, a17, a18⟩
 obtain ⟨m', ns', lo⟩ := I1.loc
 refine ⟨ok, I1.os, I1.bare, I1.base, ⟨m', ns', fun i z v e1 e2 e3 => ?_⟩, I1.cell, I1.free, I1.mW, I1.pin, I1.hok, ?_⟩
 · match i, e1, e2 with
   | 0, _, e2 => cases e2
   | 1, _, e2 => cases e2
   | j + 2, e1, e2 => exact lo (j + 1) z v e1 e2 e3
 · have := I1.len
   show (none :: none :: σ).length = (x :: y :: M).length
   have h2 : (none :: σ).length = (x :: M).length := this
   simp only [List.length_cons] at h2 ⊢
   omega
def Y7 (wi : TI) (g : TG) (tc : TT) (te : TE) : TE := fun σ H Q => wi σ H fun J H1 => ∃ (n : Nat) (W : Nat → List V → Hp → Prop), n ≤ sizeLine ∧ W 0 [] H1 ∧ ∀ i ys H, i ≤ n → ys.length ≤ i → W i ys H →
 (J.stop i H ∧ ∀ p, H p = none → Q (.ref p) (upd H p (.lst ys))) ∨ (J.go i H ∧ i < n ∧ ∀ x H', J.TQ i H x H' → ∀ u v, g x (u :: v :: σ) H' fun ρ H2 => (∃ u' v', ρ = u' :: v' :: σ) ∧ tc ρ H2 fun c H3 => if c = true then te ρ H3 fun z H4 => W (i + 1) (ys ++ [z]) H4 else W (i + 1) ys H3)
theorem Fv (K : qI X scope x y M) (hc : X.calm = true) (I : Inv X pins σ H₂ s₂) (hg : ∀ (C : Addr) (s₂ : Shared) (H₂ : Hp) (fp : List Addr), PG (dH X scope C x y M s₂ H₂ fp) tg g) (ht : ∀ (C : Addr) (s₂ : Shared) (H₂ : Hp) (fp : List Addr), WL (dH X scope C x y M s₂ H₂ fp) ifs tc) (he : ∀ (C : Addr) (s₂ : Shared) (H₂ : Hp) (fp : List Addr), PE (dH X scope C x y M s₂ H₂ fp) elt te)
   {it : Addr} {fp : List Addr} {tn : Nat → Heap → Prop} {J : It} (T : Turn X.prog X.w X.K tg J fp it tn) (st : tn 0 s₂.heap) (hf : ∀ b ∈ fp, nG X pins H₂ b) {n : Nat} (hsz : n ≤ sizeLine) {W : Nat → List V → Hp → Prop} {F : List V → Hp → Prop}
   (w0 : W 0 [] H₂) (turn : ∀ i ys H, i ≤ n → ys.length ≤ i → W i ys H → (J.stop i H ∧ F ys H) ∨ (J.go i H ∧ i < n ∧ ∀ x H', J.TQ i H x H' → ∀ u v, g x (u :: v :: σ) H' fun ρ H2 => (∃ u' v', ρ = u' :: v' :: σ) ∧ tc ρ H2 fun c H3 => if c = true then te ρ H3 fun z H4 => W (i + 1) (ys ++ [z]) H4 else W (i + 1) ys H3))
   {E : Value → Shared → Prop} {RR : Value → Addr → Result → Shared → Prop}
   (hRR : ∀ (D C : Addr) (s' : Shared) (H' : Hp) (ys : List V) (m : Str → Option Value), Inv X pins σ (upd H' D (.lst ys)) s' → H' D = none → nG X pins (upd H' D (.lst ys)) C → s'.heap.Ns C m → F ys H' → RR (.ref D) C (.ok .next) s') :
   wpAny (model X.prog X.w) X.A (newList []) (fun acc s₃ => wpAny (model X.prog X.w) X.A (newFunctionEnv scope X.env.globals (jM X.env scope.names []) [] X.env.qual none .none (some X.env)) (fun cenv s₄ =>
     codeAny (model X.prog X.w) X.A (.compStart (.ListComp elt [⟨tg, iter, ifs, 0⟩] scope pos) 0 (.ref it) acc { cenv with scope := relabel scope X.env }) (RR acc cenv.locals) s₄) E s₃) E s₂ := by
 refine wpAny_newObj_type (wpAny_newFunctionEnv K.base.cell (by intro y hy; simp at hy) (fun h₁ hns₁ hsb₁ => ?_) K.base.kind)
 dsimp only at hns₁ hsb₁ ⊢
 generalize hH2 : s₂.heap.push { cls := .type "list", dict := none, data := .seq ([] : List Value).toArray } = H2 at hns₁ hsb₁ ⊢
 have hC : H2.objs.size = s₂.heap.objs.size + 1 := by rw [← hH2, Heap.size_push]
 have hDC : s₂.heap.objs.size ≠ H2.objs.size := by rw [hC]; exact Nat.ne_of_lt (Nat.lt_succ_self _)
 have below : ∀ b, b < s₂.heap.objs.size → b ≠ H2.objs.size ∧ b ≠ s₂.heap.objs.size := fun b hb => ⟨by rw [hC]; exact Nat.ne_of_lt (Nat.lt_succ_of_lt hb), Nat.ne_of_lt hb⟩
 have hfl : ∀ b ∈ fp, b < s₂.heap.objs.size := fun b hb => by obtain ⟨o, e, _⟩ := T.obj _ _ st b hb; exact Heap.lt_size e
 have old : ∀ b o, s₂.heap.get? b = some o → h₁.get? b = some o := fun b o e => hsb₁.extBut b o (below b (Heap.lt_size e)).1 (Heap.get?_push_of_some _ (hH2 ▸ Heap.get?_push_of_some _ e))
 have hacc : h₁.get? s₂.heap.objs.size = some { cls := .type "list", data := .seq ([] : List Value).toArray 0 } := hsb₁.extBut _ _ hDC (Heap.get?_push_of_some _ (hH2 ▸ Heap.get?_push_size _ rfl))
 generalize hCC : H2.objs.size = C at *
 generalize yl : s₂.heap.objs.size = D at *
 have hCle : s₂.heap.objs.size ≤ C := by rw [yl, hC]; exact Nat.le_succ _
 have st₁ : tn 0 h₁ := T.keep _ _ _ st fun b _ o e => old b o e
 have I₁ := WM (t := s₂.toks + ([] : List (Str × Value)).length) K I hf (fun b hb => by rw [yl]; exact hfl b hb) hCle hns₁ old
 generalize hX' : dH X scope C x y M s₂ H₂ fp = X' at I₁
 have eX : X'.prog = X.prog ∧ X'.w = X.w ∧ X'.K = X.K ∧ X'.calm = true ∧ X'.A = X.A ∧ X'.ex = fp ∧ X'.env = compEnvC scope (jM X.env scope.names []) C X.env ∧ X'.s₀ = s₂ ∧ X'.pn = [] := by
   subst hX'; exact ⟨rfl, rfl, rfl, hc, rfl, rfl, rfl, rfl, rfl⟩
 obtain ⟨eP, ew, eK, ec, eA, eex, Du, es0, Yr⟩ := eX
 have eL : X'.env.locals = C := by rw [Du]; rfl
 have cells' : ∀ y c, X'.env.cells.lookup y = some c → X.env.cells.lookup y = some c := fun y c e => by rw [Du] at e; exact cP.yj e
 have efs : X'.fs = frs X.stack := by subst hX'; rfl
 have Bw : ∀ b ∈ X'.fs, b = X.env.locals ∨ b ∈ X.fs := fun b hb => List.mem_cons.mp (I.uU b (by rw [← efs]; exact hb))
 have Io : ∀ {pn : List (Addr × Obj)} {H' : Hp}, (∀ p ∈ pn, p.1 = D) → (∀ b ∈ fp, H' b = none) → ∀ b ∈ fp, nG X' pn H' b := fun {pn H'} hp hn b hb => by
   refine ⟨hn b hb, ?_, fun z => ?_, .inl (by rw [eex]; exact hb), fun y c e => (hf b hb).2.2.2.2.1 y c (cells' y c e), fun p hq => ?_⟩
   · rw [eL]; exact (below b (hfl b hb)).1
   · rcases Bw b z with q | q
     · exact (hf b hb).2.1 q
     · exact (hf b hb).2.2.1 q
   · rw [Yr, List.nil_append] at hq
     rw [hp p hq]; exact Ne.symm (below b (hfl b hb)).2
 have Dfp : D ∉ fp := fun z => Nat.lt_irrefl _ (hfl D z)
 have QZ : X.env.locals < D := by have := I.lt; rw [yl] at this; exact this
 have Ys : ∀ b ∈ X.fs, b < D := fun b hb => Nat.lt_of_not_le fun z => I.aaS (a := b) (by rw [yl]; exact z) hb
 have Q0 : ∀ {b : Addr} {pn : List (Addr × Obj)} {H' : Hp}, D ≤ b → b ≠ C → H' b = none → (∀ p ∈ pn, p.1 ≠ b) → nG X' pn H' b := fun {b pn H'} hb hbC hn hp => by
   refine ⟨hn, by rw [eL]; exact hbC, fun z => ?_, .inr (by rw [es0, yl]; exact hb), fun y c e => ?_, fun p hq => ?_⟩
   · rcases Bw b z with q | q
     · rw [q] at hb; exact absurd (Nat.lt_of_lt_of_le QZ hb) (Nat.lt_irrefl _)
     · exact absurd (Nat.lt_of_lt_of_le (Ys b q) hb) (Nat.lt_irrefl _)
   · obtain ⟨v, o, ho, _⟩ := I.cell y c (cells' y c e)
     have := Heap.lt_size ho
     rw [yl] at this
     exact Nat.ne_of_lt (Nat.lt_of_lt_of_le this hb)
   · rw [Yr, List.nil_append] at hq
     exact hp p hq
 have outer : ∀ {σ' : St} {H' : Hp} {s' : Shared} {pn : List (Addr × Obj)}, Inv X' pn σ' H' s' → Inv X pins σ H' s' := fun {σ' H' s' pn} J' => by
   subst hX'
   refine I.call' (ch := fp) J'.os J'.base J'.hok J'.bare fun b hb => ?_
   obtain ⟨f0, f1, f2, f3, f4, f5⟩ := hf b hb
   exact ⟨f3, f1, f4, f5⟩
 have Fo : ∀ {b : Addr} {H' : Hp}, D ≤ b → H' b = none → nG X pins H' b := fun {b H'} hb hn => by
   have q := I.Oj (H' := H') (b := b) (by rw [yl]; exact hb) hn
   exact q
 have loop : ∀ s₃ : Shared, s₃ = { s₂ with heap := h₁, toks := s₂.toks + ([] : List (Str × Value)).length } →
     codeAny (model X.prog X.w) X.A (.compLoop (.ListComp elt [⟨tg, iter, ifs, 0⟩] scope pos) 0 (.ref it) (.ref D) (compEnvC scope (jM X.env scope.names []) C X.env)) (RR (.ref D) C) s₃ := by
   rintro s₃ rfl
   refine O1 (fun k s' => ∃ (i : Nat) (ys : List V) (its : List Value) (σ0 σ1 : Option V) (H' : Hp), i ≤ n ∧ k = n + 1 - i ∧ ys.length ≤ i ∧ Inv X' [] (σ0 :: σ1 :: σ) H' s' ∧ tn i s'.heap ∧ (∀ b ∈ fp, H' b = none) ∧ H' D = none ∧ Vals ys its ∧
     (∃ c, s'.heap.get? D = some { cls := .type "list", data := .seq its.toArray c }) ∧ W i ys H') ?_ (n + 1) ⟨0, [], [], none, none, H₂, Nat.zero_le _, rfl, Nat.le_refl _, I₁, st₁, fun b hb => (hf b hb).1, by rw [← yl]; exact I.hok.fresh (Nat.le_refl _), .nil, ⟨0, hacc⟩, w0⟩
   rintro k s' ⟨i, ys, its, σ0, σ1, H', hi, rfl, hyl, I', st', fr', hD', rv, ⟨c, hobj⟩, w'⟩
   rcases turn i ys H' hi hyl w' with ⟨stop, fin⟩ | ⟨go, hlt, step⟩
   · have Ip : Inv X' [(D, { cls := .type "list", data := .seq its.toArray c })] (σ0 :: σ1 :: σ) H' s' := I'.jr fun p hp => by
       obtain rfl : p = (D, { cls := .type "list", data := .seq its.toArray c }) := by simpa using hp
       refine ⟨hobj, hD', ?_, ?_, fun v z => nomatch z⟩
       · rw [eL]; exact hDC
       · intro z
         rcases Bw D z with q | q
         · rw [q] at QZ; exact Nat.lt_irrefl _ QZ
         · exact Nat.lt_irrefl _ (Ys D q)
     have q := T.done X' eP ew eK ec i _ s' (σ0 :: σ1 :: σ) H' (notedBy (model X.prog X.w) X.A (compEnvC scope (jM X.env scope.names []) C X.env) fun e s' => RR (.ref D) C (.error e) s') Ip (Io (fun p hp => by obtain rfl : p = (D, { cls := .type "list", data := .seq its.toArray c }) := (by simpa using hp); rfl) fr') st' stop
     rw [eA] at q
     refine wpAny_mono q (fun r s4 ⟨hr, I4⟩ => ?_) fun _ _ z => z
     subst hr
     obtain ⟨e4, n4, _⟩ := I4.pin (D, { cls := .type "list", data := .seq its.toArray c }) (List.mem_append_right _ (by simp))
     have O4 := outer I4
     obtain ⟨m4, ns4, _⟩ := I4.loc
     rw [eL] at ns4
     refine hRR D C s4 H' ys m4 (O4.track (Fo (Nat.le_refl _) n4) (Nat.le_trans I.sz (by rw [yl]; exact Nat.le_refl _)) ⟨Nat.le_trans hyl (Nat.le_trans hi hsz), its, c, rv, e4⟩) n4 (Fo (by rw [hC]; exact Nat.le_succ _) ?_) ns4 fin
     rw [zK (Ne.symm hDC)]
     have := I4.free
     rw [eL] at this
     exact this
   · have Ip : Inv X' [(D, { cls := .type "list", data := .seq its.toArray c })] (σ0 :: σ1 :: σ) H' s' := I'.jr fun p hp => by
       obtain rfl : p = (D, { cls := .type "list", data := .seq its.toArray c }) := by simpa using hp
       refine ⟨hobj, hD', ?_, ?_, fun v z => nomatch z⟩
       · rw [eL]; exact hDC
       · intro z
         rcases Bw D z with q | q
         · rw [q] at QZ; exact Nat.lt_irrefl _ QZ
         · exact Nat.lt_irrefl _ (Ys D q)
     have pd : ∀ p ∈ [(D, ({ cls := .type "list", data := .seq its.toArray c } : Obj))], p.1 = D := fun p hp => by obtain rfl : p = (D, { cls := .type "list", data := .seq its.toArray c }) := (by simpa using hp); rfl
     have q := T.item X' eP ew eK ec i _ s' (σ0 :: σ1 :: σ) H' (notedBy (model X.prog X.w) X.A (compEnvC scope (jM X.env scope.names []) C X.env) fun e s' => RR (.ref D) C (.error e) s') Ip (Io pd fr') st' go
     rw [eA] at q
     refine wpAny_mono q (fun r s4 ⟨u, hr, h4⟩ => ?_) fun _ _ z => z
     subst hr
     refine wpAny_mono h4 (fun _ s5 ⟨xv, H5, I5, r5, y5, QH, fr5⟩ => ?_) fun _ _ z => z
     have I5' := I5.pinned (Io pd fr5) (T.obj _ _ QH)
     rw [← Du]
     have g6 := step xv H5 y5 σ0 σ1
     have q6 := (hg C s₂ H₂ fp) (([(D, ({ cls := .type "list", data := .seq its.toArray c } : Obj))]) ++ uX fp s5.heap) s5 (σ0 :: σ1 :: σ) H5 xv u _ (by rw [hX']; exact I5') r5 g6
     rw [hX', eP, ew, eA] at q6
     refine wpAny_mono q6 (fun _ s6 ⟨ρ, H6, I6, ⟨u', v', eρ⟩, t6⟩ => ?_) (fun _ _ z => by subst hX'; exact (show False from z).elim)
     subst eρ
     have q7 := (ht C s₂ H₂ fp) _ s6 (u' :: v' :: σ) H6 _ (by rw [hX']; exact I6) t6
     rw [hX', eP, ew, eA] at q7
     refine wpAny_mono q7 (fun ok s7 ⟨H7, I7, w7⟩ => ?_) (fun _ _ z => by subst hX'; exact (show False from z).elim)
     have aC0 : ∀ {s8 : Shared} {H8 : Hp} {pn : List (Addr × Obj)}, Inv X' (pn ++ (([(D, ({ cls := .type "list", data := .seq its.toArray c } : Obj))]) ++ uX fp s5.heap)) (u' :: v' :: σ) H8 s8 → True := fun _ => trivial
     cases ok with
     | false =>
       obtain ⟨e7, n7, _⟩ := I7.pin (D, { cls := .type "list", data := .seq its.toArray c }) (List.mem_append_right _ (List.mem_append_left _ (by simp)))
       refine ⟨n + 1 - (i + 1), by omega, i + 1, ys, its, u', v', H7, hlt, rfl, Nat.le_succ_of_le hyl, I7.jr (Ng := []) fun p hp => absurd hp (by simp), ?_, fun b hb => ?_, n7, rv, ⟨c, e7⟩, w7⟩
       · refine T.keep _ _ _ QH fun b hb o e => ?_
         exact (I7.pin (b, o) (List.mem_append_right _ (List.mem_append_right _ (xB hb e)))).1
       · obtain ⟨o, e, d⟩ := T.obj _ _ QH b hb
         exact (I7.pin (b, o) (List.mem_append_right _ (List.mem_append_right _ (xB hb e)))).2.1
     | true =>
       have q8 := (he C s₂ H₂ fp) _ s7 (u' :: v' :: σ) H7 (fun z Il => W (i + 1) (ys ++ [z]) Il) (by rw [hX']; exact I7) w7
       rw [hX', eP, ew, eA] at q8
       refine wpAny_mono q8 (fun u8 s8 ⟨v8, H8, I8, r8, w8⟩ => ?_) (fun _ _ z => by subst hX'; exact (show False from z).elim)
       obtain ⟨e7, n7, _⟩ := I8.pin (D, { cls := .type "list", data := .seq its.toArray c }) (List.mem_append_right _ (List.mem_append_left _ (by simp)))
       refine append_at (hsz := by rw [List.size_toArray, ← rv.length]; exact Nat.le_trans hyl (Nat.le_trans hi hsz)) e7 fun h8 sb8 g8 => ?_
       have I9 : Inv X' [] (u' :: v' :: σ) H8 { s8 with heap := h8, toks := s8.toks } := (I8.jr (Ng := []) fun p hp => absurd hp (by simp)).turned (t' := s8.toks) (it := D) (fun b o hb e => (sb8.2 b hb).trans e) n7 (by rw [eL]; exact hDC) (.inr (by rw [es0, yl]; exact Nat.le_refl _))
         (Q0 (H' := H8) (pn := []) (Nat.le_refl _) hDC n7 (fun p hp => absurd hp (by simp))).2.2.2.2.1 (fun p hp => by rw [Yr] at hp; exact absurd hp (by simp))
       refine ⟨n + 1 - (i + 1), by omega, i + 1, ys ++ [v8], its ++ [u8], u', v', H8, hlt, rfl, by rw [List.length_append, List.length_singleton]; omega, I9, ?_, fun b hb => ?_, n7, rv.append (.cons r8 .nil), ⟨c + 1, ?_⟩, w8⟩
       · refine T.keep _ _ _ QH fun b hb o e => ?_
         have e' := (I8.pin (b, o) (List.mem_append_right _ (List.mem_append_right _ (xB hb e)))).1
         exact (sb8.2 b (fun z => Dfp (z ▸ hb))).trans e'
       · obtain ⟨o, e, d⟩ := T.obj _ _ QH b hb
         exact (I8.pin (b, o) (List.mem_append_right _ (List.mem_append_right _ (xB hb e)))).2.1
       · rw [g8, List.push_toArray]
 exact codeAny_compStart_list (loop _ rfl) (T.self X.A 0 _ _ _ st₁ (loop _ rfl))
theorem Y8 (K : qI X scope x y M) (hc : X.calm = true) (hi : PI X tg iter wi) (hg : ∀ (C : Addr) (s₂ : Shared) (H₂ : Hp) (fp : List Addr), PG (dH X scope C x y M s₂ H₂ fp) tg g) (ht : ∀ (C : Addr) (s₂ : Shared) (H₂ : Hp) (fp : List Addr), WL (dH X scope C x y M s₂ H₂ fp) ifs tc) (he : ∀ (C : Addr) (s₂ : Shared) (H₂ : Hp) (fp : List Addr), PE (dH X scope C x y M s₂ H₂ fp) elt te)
   (hs : ∀ x, foldedSetIterable iter X.env x = pure x := by intro _; rfl) : PE X (.ListComp elt [⟨tg, iter, ifs, 0⟩] scope pos) (Y7 wi g tc te) := by
 intro pins s σ H Q I h
 rw [eval_ListComp]
 refine wpAny_comprehension_free (use := none) rfl hs (K.base.closure I.ok) K.base.kind K.base.names (eG (hi pins s σ H _ I h) fun v s1 h1 => eG h1 fun itv s2 h2 => ?_)
 obtain ⟨it, fp, tn, J, H2, e, I2, T, st2, f2, n, W, hsz, w0, turn⟩ := h2
 subst e
 refine Fv (RR := fun acc C => compPost (model X.prog X.w) X.A X.xe none (EP X pins σ Q) acc C) K hc I2 hg ht he T st2 f2 hsz (F := fun ys H => ∀ p, H p = none → Q (.ref p) (upd H p (.lst ys))) w0 turn ?_
 intro D C s' H' ys m I' n' fC ns fin
 refine ⟨m, ns, fun h' sb => ?_⟩
 obtain ⟨f0, f1, f2, f3, f4, f5⟩ := fC
 exact ⟨.ref D, _, I'.turned (t' := s'.toks) (it := C) (fun b o hb e => (sb.2 b hb).trans e) f0 f1 f3 f4 f5, rfl, fin D n'⟩
end
end L2
namespace L2
open PySem PySem.Spec PyProof.Rows PySem.Calls
section
variable {X : Cx} {scope : Scope} {x y : Str} {M : List Str} {elt iter : Expr} {ifs : List Expr} {pos p1 p2 p3 : Pos} {kk : Nat} {te : TE} {wi : TI} {tc : TT}
structure Y9 (K : PySem.W.Frag) (J : It) (tc : TT) (te : TE) (σ : St) (H1 : Hp) (Q : VK) : Prop where
 ex : ∃ (n : Nat) (W : Nat → List V → Hp → Prop), n ≤ sizeLine ∧ W 0 [] H1 ∧ ∀ i ys H, i ≤ n → ys.length ≤ i → W i ys H →
   (J.stop i H ∧ ∀ p, H p = none → Q (.ref p) (upd H p (.lst ys))) ∨ (J.go i H ∧ i < n ∧ ∀ z H', J.TQ i H z H' → ∃ (p : Addr) (a b : V), z = .ref p ∧ o8 K H' p [a, b] ∧ tc (some a :: some b :: σ) H' fun c H3 => if c = true then te (some a :: some b :: σ) H3 fun z H4 => W (i + 1) (ys ++ [z]) H4 else W (i + 1) ys H3)
def Za (K : PySem.W.Frag) (wi : TI) (tc : TT) (te : TE) : TE := fun σ H Q => wi σ H fun J H1 => Y9 K J tc te σ H1 Q
theorem Zb (K : qI X scope x y M) (hc : X.calm = true) {C : Addr} {s₂ : Shared} {H₂ : Hp} {fp : List Addr} : PG (dH X scope C x y M s₂ H₂ fp) (.Tuple [.Name x p1, .Name y p2] kk p3) (agk X.K 2 (X4 (jg 0) (X4 (jg 1) agj))) :=
 X5 (X := dH X scope C x y M s₂ H₂ fp) hc (Br (oJ K.nd2 rfl (.inl (lookup_relabel_local K.base.loc)) (.inr (lookup_relabel_local K.base.loc))) (Br (oJ K.nd2 rfl (.inl (lookup_relabel_local K.agO)) (.inr (lookup_relabel_local K.agO))) Vm))
theorem Rm (K : qI X scope x y M) (hc : X.calm = true) (hi : PI X (.Tuple [.Name x p1, .Name y p2] kk p3) iter wi) (ht : ∀ (C : Addr) (s₂ : Shared) (H₂ : Hp) (fp : List Addr), WL (dH X scope C x y M s₂ H₂ fp) ifs tc) (he : ∀ (C : Addr) (s₂ : Shared) (H₂ : Hp) (fp : List Addr), PE (dH X scope C x y M s₂ H₂ fp) elt te)
   (hs : ∀ x, foldedSetIterable iter X.env x = pure x := by intro _; rfl) : PE X (.ListComp elt [⟨.Tuple [.Name x p1, .Name y p2] kk p3, iter, ifs, 0⟩] scope pos) (Za X.K wi tc te) := by
 intro pins s σ H Q I h
 have q := Y8 (pos := pos) K hc (wi := fun σ0 H0 R0 => ∃ R, wi σ0 H0 R ∧ ∀ J H1, R J H1 → R0 J H1) (wG hi fun σ H R ⟨R1, a, b⟩ => ⟨R1, a, b⟩) (fun C s₂ H₂ fp => Zb (p1 := p1) (p2 := p2) (p3 := p3) (kk := kk) K hc) ht he hs pins s σ H Q I
 refine q ⟨_, h, fun J H1 r => ?_⟩
 obtain ⟨n, W, h1, h2, h3⟩ := r.ex
 refine ⟨n, W, h1, h2, fun i ys H' hi hy hw => ?_⟩
 rcases h3 i ys H' hi hy hw with hq | ⟨g1, g2, g3⟩
 · exact .inl hq
 · refine .inr ⟨g1, g2, fun z H2 hz u v => ?_⟩
   obtain ⟨p, a, b, e, hq, t⟩ := g3 z H2 hz
   exact ⟨p, [a, b], e, hq, rfl, a, [b], rfl, b, [], rfl, rfl, ⟨_, _, rfl⟩, t⟩
end
theorem Ab {K : PySem.W.Frag} {a : Addr} {xs : List V} {tc : TT} {te : TE} {σ : St} {H : Hp} {Q : VK} (hz : xs.length ≤ sizeLine) (W : Nat → List V → Hp → Prop) (h0 : W 0 [] H) (hq : ∀ i ys H, W i ys H → bG K H a xs)
   (hs : ∀ i x ys H, xs[i]? = some x → ys.length ≤ i → W i ys H → ∃ (p : Addr) (u v : V), x = .ref p ∧ o8 K H p [u, v] ∧ tc (some u :: some v :: σ) H fun c H3 => if c = true then te (some u :: some v :: σ) H3 fun z H4 => W (i + 1) (ys ++ [z]) H4 else W (i + 1) ys H3)
   (hd : ∀ ys H, W xs.length ys H → ∀ p, H p = none → Q (.ref p) (upd H p (.lst ys))) : Y9 K (X7 K a) tc te σ H Q := by
 refine ⟨xs.length, W, hz, h0, fun i ys H hi hl hw => ?_⟩
 have q := hq i ys H hw
 by_cases hlt : i < xs.length
 · refine .inr ⟨⟨xs, xs[i], q, by simp [hlt]⟩, hlt, fun v H' y => ?_⟩
   obtain ⟨e, y⟩ := y
   subst e
   exact hs i v ys _ (y xs q) hl hw
 · have e : i = xs.length := by omega
   subst e
   exact .inl ⟨⟨xs, q, Nat.le_refl _⟩, hd ys H hw⟩
theorem Rn : isSubtype (.type "list") (.type "set") = pure false := by rw [isSubtype_type]; kernel_rfl
theorem BR : isSubtype (.type "list") (.type "frozenset") = pure false := by rw [isSubtype_type]; kernel_rfl
section
variable {prog : Program} {w : World} {A : Around} {E : Value → Shared → Prop} {s : Shared}
set_option maxHeartbeats 3200000 in
theorem WN {l : Addr} {items : Array Value} {ws : List Str} {Q : Value → Shared → Prop}
   (hh : A.handled = none) (hl : s.heap.IsList l items) (hn : ws.length = items.size) (hi : ∀ (i : Nat) v, items[i]? = some v → ∃ z t, v = .str z t ∧ ws[i]? = some z) (hb : items.size + 1 < scanBound)
   (h : ∀ (h' : Heap) (tk : Nat), h'.SetOf (strKind prog w) s.heap.objs.size (fun k' => decide (k' ∈ iY ws)) (iY ws).length →
     (∀ b o, b < s.heap.objs.size → s.heap.get? b = some o → h'.get? b = some o) → Q (.ref s.heap.objs.size) { s with heap := h', toks := tk }) :
   wpAny (model prog w) A (call (.type "set") [.ref l]) Q E s := by
 obtain ⟨c, tl, hmro⟩ := F.called_set.mro
 have hmade := F.called_set.made
 have hsub := F.called_set.sub
 refine wpAny_call (codeAny_of_tree ?_)
 show wpAny _ _ (callAny (.type "set") _) _ _ _
 refine wpAny_pure ⟨Code.quiet_builtin _ (by symm), codeAny_builtin F.entry_type_call ?_⟩
 rw [Around.under_plain (weight_type_call_type "set" [.ref l] []) rfl]
 have h1 := F.called_set.notType
 have h2 := F.called_set.canCreate
 have hct := F.typeCall_set_1 (.ref l)
 repeat (any_goals (first | assumption | wp_step))
 refine codeAny_mono (code_set_new_1 (.ref l) (E := E) (Q₁ := fun obj s₁ => ∃ led : Bool, obj = .ref s.heap.objs.size ∧ s₁ = { s with heap := s.heap.push { cls := .type "set", dict := none, data := .set #[] 0 (.fresh 0 0 led) } }) fun led => ⟨led, rfl, rfl⟩) fun r s₁ hr => ?_
 cases r with
 | error e => exact hr
 | ok fl =>
   cases fl with
   | ret obj =>
     obtain ⟨led, rfl, rfl⟩ := hr
     have hS : (s.heap.push { cls := .type "set", dict := none, data := .set #[] 0 (.fresh 0 0 led) }).get? s.heap.objs.size = some { cls := .type "set", dict := none, data := .set #[] 0 (.fresh 0 0 led) } := Heap.get?_push_size _ rfl
     have hT : Shared.TypeIs { s with heap := s.heap.push { cls := .type "set", dict := none, data := .set #[] 0 (.fresh 0 0 led) } } (.ref s.heap.objs.size) "set" := ⟨_, hS, rfl⟩
     have hli := F.called_set.init.lookup
     have hbi := F.called_set.init.bind (.ref s.heap.objs.size)
     repeat (any_goals (first | assumption | wp_step))
     refine codeAny_mono (codeAny_call_builtin (R := wants (fun r s₂ => r = .none ∧ ∃ h' tk, s₂ = { s with heap := h', toks := tk } ∧
         h'.SetOf (strKind prog w) s.heap.objs.size (fun k' => decide (k' ∈ iY ws)) (iY ws).length ∧
         (∀ b o, b < s.heap.objs.size → s.heap.get? b = some o → h'.get? b = some o)) E) F.called_set.init.plain F.entry_set_init (check_set_init_1 hT ?_)) fun r₂ s₂ hr₂ => ?_
     · obtain ⟨ol, hol, hcl, nl, hdl⟩ := hl
       obtain ⟨ocls, odict, odata, oslots⟩ := ol
       simp only at hcl hdl
       subst hcl; subst hdl
       have hol' : (s.heap.push { cls := .type "set", dict := none, data := .set #[] 0 (.fresh 0 0 led) }).get? l = some { cls := .type "list", dict := odict, data := .seq items nl, slots := oslots } := Heap.get?_push_of_some _ hol
       have hsls := Rn
       have hslf := BR
       have hne : (Value.type "list" == Value.type "dict") = false := by decide
       have hl1 : (s.heap.push { cls := .type "set", dict := none, data := .set #[] 0 (.fresh 0 0 led) }).IsList l items := ⟨_, hol', rfl, nl, rfl⟩
       unfold Builtin.«set.__init__» noKeywords Builtin.Frozenset.updateFrom
       generalize hPI : pyIter = PI
       wp_walk
       subst hPI
       refine wpAny_pyIter_list hl1 ?_
       refine wpAny_bind (wpAny_runValue ?_)
       have hlS : l < s.heap.objs.size := Heap.lt_size hol
       have hh3 : A.in1.in1.in1.handled = none := by simp [hh]
       have hneI : l ≠ (s.heap.push { cls := .type "set", dict := none, data := .set #[] 0 (.fresh 0 0 led) }).objs.size := by
         rw [Heap.size_push]; exact Nat.ne_of_lt (Nat.lt_succ_of_lt hlS)
       have hSf : s.heap.objs.size ∉ [(s.heap.push { cls := .type "set", dict := none, data := .set #[] 0 (.fresh 0 0 led) }).objs.size, l] := by
         rw [Heap.size_push]; simp only [List.mem_cons, List.mem_singleton, List.not_mem_nil, or_false, not_or]
         exact ⟨Nat.ne_of_lt (Nat.lt_succ_self _), Nat.ne_of_gt hlS⟩
       refine WD ((Walks.list hh3 _ l hneI items).toS) s.heap.objs.size
         hSf ws hn hi hb (items.size - 0) 0 _ (by omega) (Nat.zero_le _)
         ⟨⟨_, Heap.get?_push_size _ rfl, rfl, rfl⟩, ⟨_, Heap.get?_push_of_some _ hol', rfl, nl, rfl⟩⟩ ?hS0 ?hR
       case hS0 =>
         have hget : ((s.heap.push { cls := .type "set", dict := none, data := .set #[] 0 (.fresh 0 0 led) }).push { cls := .type "list_iterator", data := .fields #[.ref l, .int 0 0] }).get? s.heap.objs.size
             = some { cls := .type "set", dict := none, data := .set #[] 0 (.fresh 0 0 led) } := Heap.get?_push_of_some _ hS
         exact SetOf_congr ((setObjOf_fresh (knd := strKind prog w) led).setOf hget (by unfold scanBound; omega)) (fun _ => rfl) rfl
       case hR =>
         intro s' hm hS'
         obtain ⟨h', g', d', tk', os'⟩ := s'
         have eg : g' = s.gens := hm.gens
         have ed : d' = s.drawn := hm.drawn
         have eo : os' = s.os := hm.os
         subst eg; subst ed; subst eo
         show wpAny _ _ _ _ _ _
         refine wpAny_pure ?_
         show wpAny _ _ (ret Value.none) _ _ _
         refine wpAny_pure ⟨rfl, h', tk', rfl, hS', fun b o hb e => ?_⟩
         have hb1 : b ≠ s.heap.objs.size := Nat.ne_of_lt hb
         have hb2 : b ≠ (s.heap.push { cls := .type "set", dict := none, data := .set #[] 0 (.fresh 0 0 led) }).objs.size := by
           rw [Heap.size_push]; exact Nat.ne_of_lt (Nat.lt_succ_of_lt hb)
         exact hm.heap b o (by simp only [List.mem_cons, List.mem_singleton, List.not_mem_nil, or_false, not_or]; exact ⟨hb1, hb2⟩) (Heap.get?_push_of_some _ (Heap.get?_push_of_some _ e))
     · cases r₂ with
       | error e => exact hr₂
       | ok fl₂ =>
         cases fl₂ with
         | ret r =>
           obtain ⟨rfl, h', tk, rfl, hS', hk'⟩ := hr₂
           repeat (any_goals (first | assumption | wp_step))
           exact h _ _ hS' hk'
         | _ => exact hr₂.elim
   | _ => exact hr.elim
end
section
variable {X : Cx}
theorem O2 (hc : X.calm = true) : aU X (.type "set") (fun xs H Q => ∃ (p : Addr) (ws : List Str), xs = [.ref p] ∧ bG X.K H p (ws.map V.str) ∧ ws.length ≤ 1000 ∧ ∀ l, H l = none → Q (.ref l) (upd H l (SetT X.prog X.w l (fun k => decide (k ∈ iY ws)) (iY ws).length))) := by
 intro pins s σ H xs us Q I r h
 obtain ⟨p, ws, rfl, hq, hw, q⟩ := h
 obtain ⟨u, rfl, ru⟩ := vals1 r
 cases ru
 obtain ⟨its, rv, pl, hz⟩ := I.list hq
 have hl := rv.length
 rw [List.length_map] at hl
 refine WN (ws := ws) (I.ok.hd hc) pl.isList (by rw [List.size_toArray]; omega) (fun i v hv => ?_) (by rw [List.size_toArray]; unfold scanBound; omega) (fun h' tk hS k => ?_)
 · have hv' : its[i]? = some v := by simpa using hv
   obtain ⟨x, hx, rx⟩ := OD rv (j := i) (by rw [List.size_toArray]; exact (List.getElem?_eq_some_iff.mp hv').1)
   obtain ⟨z, hz', rfl⟩ := wI hx
   obtain ⟨t, e⟩ := rx
   refine ⟨z, t, ?_, hz'⟩
   rw [← e]
   exact (List.getElem?_eq_some_iff.mp hv').2.symm.trans (by simp)
 · refine ⟨.ref s.heap.objs.size, _, I.laid (t' := tk) (a := s.heap.objs.size) (o := SetT X.prog X.w s.heap.objs.size (fun k => decide (k ∈ iY ws)) (iY ws).length) (fun b o e => k b o (Heap.lt_size e) e) (Nat.le_refl _) ?_, rfl, q _ (I.hok.fresh (Nat.le_refl _))⟩
   obtain ⟨o, es, ep, t, ho, rest⟩ := hS
   refine ⟨⟨o, es, ep, t, ho, rest⟩, ⟨o, ho⟩, fun h1 h2 ⟨o1, es1, ep1, t1, ho1, agP⟩ hk => ⟨o1, es1, ep1, t1, hk _ ho1, agP⟩⟩
end
section
variable {X : Cx} {tg : Expr}
end
end L2
namespace L2
open PySem PySem.Spec PyProof.Rows PySem.Calls
end L2
namespace L2
open PySem PySem.Spec PyProof.Rows PySem.Calls
end L2
namespace L2
open PySem PySem.Spec PyProof.Rows PySem.Calls
open PySem.W (tabObj CodeHd kla_obj kla_fn)
structure Ro where
 qual : Str
 params : Arguments
 body : Expr
 scope : Scope
 x : Str
 y : Str
def jR (P : Addr) (H H' : Hp) : Prop := ∀ b u, b ≠ P → H b = some u → H' b = some u
theorem jR.trans {P : Addr} {H H1 H2 : Hp} (a : jR P H H1) (b : jR P H1 H2) : jR P H H2 := fun c u n e => b c u n (a c u n e)
theorem jR.refl {P : Addr} {H : Hp} : jR P H H := fun _ _ _ e => e
theorem IsCell.one {h1 h2 : Heap} {c : Addr} {v : Option Value} (x : h1.IsCell c v) (k : ∀ o, h1.get? c = some o → h2.get? c = some o) : h2.IsCell c v :=
 let ⟨o, ho, hd⟩ := x; ⟨o, k o ho, hd⟩
structure Ro.Ok (D : Ro) : Prop where
 kind : D.scope.kind = .function
 co : D.scope.isCoroutine = false
 gen : D.scope.isGenerator = false
 names : D.scope.names = [(D.x, .local), (D.y, .free)]
 ne : D.x ≠ D.y
 bind : ∀ (cc : Addr) (pm cdv ct u : Value), bindArgs (kla_fn "<lambda>" D.qual D.params D.body D.scope [(D.y, cc)] pm cdv ct) ⟨[u], []⟩ = pure [(D.x, u)]
theorem Ro.Ok.lx {D : Ro} (O : D.Ok) : D.scope.names.lookup D.x = some .local := by rw [O.names, List.lookup_cons, beq_self_eq_true]
theorem Ro.Ok.ly {D : Ro} (O : D.Ok) : D.scope.names.lookup D.y = some .free := by
 rw [O.names, List.lookup_cons, beq_eq_false_iff_ne.mpr O.ne.symm, List.lookup_cons, beq_self_eq_true]
theorem Ro.Ok.of {D : Ro} (O : D.Ok) {x : Str} {k : NameKind} (h : D.scope.names.lookup x = some k) : (x = D.x ∧ k = .local) ∨ (x = D.y ∧ k = .free) := by
 rw [O.names, List.lookup_cons] at h
 cases e : x == D.x with
 | true => rw [e] at h; cases h; exact .inl ⟨eq_of_beq e, rfl⟩
 | false =>
   rw [e, List.lookup_cons] at h
   cases e2 : x == D.y with
   | true => rw [e2] at h; cases h; exact .inr ⟨eq_of_beq e2, rfl⟩
   | false => rw [e2] at h; cases h
end L2
namespace L2
open PySem PySem.Spec PyProof.Rows PySem.Calls
open PySem.W (tabObj CodeHd kla_obj kla_fn)
end L2
namespace L2
open PySem PySem.Spec PyProof.Rows PySem.Calls
open PySem.W (tabObj CodeHd kla_obj kla_fn)
end L2
namespace L2
open PySem PySem.Spec PyProof.Rows PySem.Calls
section
variable {X : Cx}
end
end L2
namespace L2
open PySem PySem.Spec PyProof.Rows PySem.Calls
section
variable {X : Cx}
end
end L2
namespace L2
open PySem PySem.Spec
theorem acs {X : Cx} {s : Stmt} : PS X s (fun _ _ _ => False) := fun _ _ _ _ _ _ h => h.elim
end L2
namespace L2
open PySem PySem.Spec PyProof.Rows PySem.Calls
section
variable {X : Cx}
def TJ := St → Hp → (Hp → Prop) → Prop
def JP (X : Cx) (n : Nat) (es : List Expr) (t : TJ) : Prop := ∀ (out : Str) (pins : List (Addr × Obj)) (s : Shared) (σ : St) (H : Hp) (Q : VK), out.length ≤ n → Inv X pins σ H s → t σ H (fun H1 => ∀ y, Q (.str y) H1) → wpAny (model X.prog X.w) X.A (joinParts out (evalEach es X.env)) (EP X pins σ Q) X.xe s
theorem Zc {n : Nat} (hn : n ≤ 16777216 := by symm) : JP X n [] (fun σ H K => K H) := by
 intro out pins s σ H Q ho I h
 refine joinParts_nilE (joinParts_nil ⟨.str _, H, I.tok _, ⟨_, rfl⟩, h _⟩ ?_)
 rw [sizeLine_eq]; omega
theorem Ze {n : Nat} {c : Str} {j : Nat} {p : Pos} {es : List Expr} {t : TJ} (h : JP X (n + c.length) es t) (hn : n + c.length ≤ 16777216 := by symm) : JP X n (.Constant (.str c) j p :: es) t := by
 intro out pins s σ H Q ho I ht
 have hl : (out ++ c).length ≤ n + c.length := by rw [strLen_append]; omega
 exact joinParts_consE (joinParts_cons (Calls.Constant_str ⟨by rw [sizeLine_eq]; omega, h _ pins _ σ H Q hl (I.tok _) ht⟩))
theorem abq {n : Nat} {e : Expr} {te : TE} {p : Pos} {es : List Expr} {t : TJ} (he : PE X e te) (h : JP X (n + 1000002) es t) (hn : n + 1000002 ≤ 16777216 := by symm) :
   JP X n (.FormattedValue e 114 none p :: es) (fun σ H K => te σ H fun x H1 => ∃ z, x = .str z ∧ z.length ≤ 100000 ∧ (∀ k ∈ cd z, k < 1000) ∧ t σ H1 K) := by
 intro out pins s σ H Q ho I ht
 refine joinParts_consE (joinParts_cons (wpAny_FormattedValue_repr (eG (he pins _ σ H _ I ht) fun v s1 ⟨x, H1, I1, r, z, ex, hz, hk, q⟩ => ?_)))
 subst ex
 obtain ⟨t', rfl⟩ := r
 have hl : (reprText z).length ≤ 1000002 := Nat.le_trans (StrLaws.reprText_len z fun c hc => Nat.lt_of_lt_of_le (hk c hc) (by decide)) (by omega)
 have hl2 : (out ++ reprText z).length ≤ n + 1000002 := by rw [strLen_append]; omega
 refine wpAny_pyReprObj_str (formatField_str (fun t' tk => ⟨?_, h _ pins _ σ H1 Q hl2 (I1.tok _) q⟩) ?_) ?_
 · rw [sizeLine_eq]; omega
 · rw [sizeLine_eq]; omega
 · rw [sizeLine_eq]; omega
theorem Rp {v1 v2 : Expr} {rest : List Expr} {pos : Pos} {t : TJ} (h : JP X 0 (v1 :: v2 :: rest) t) : PE X (.JoinedStr (v1 :: v2 :: rest) pos) (fun σ H Q => t σ H fun H1 => ∀ y, Q (.str y) H1) := by
 intro pins s σ H Q I ht
 exact JoinedStr_many (h Str.empty pins s σ H Q (Nat.le_refl _) I ht)
end
end L2
namespace L2
open PySem PySem.Spec PyProof.Rows PySem.Calls
section
variable {X : Cx}
theorem VD {e : Expr} : PE X e (fun _ _ _ => False) := fun _ _ _ _ _ _ h => h.elim
theorem oN : MtM X "str.partition" (fun x vs H Q => ∃ z y, x = .str z ∧ vs = [.str y] ∧ 0 < y.length ∧ z.length ≤ 100000 ∧ ∀ p, H p = none → Q (.ref p) (upd H p (.tup [.str (Txt.partition z y).1, .str (Txt.partition z y).2.1, .str (Txt.partition z y).2.2]))) := by
 intro pins s σ H x vs v us Q I rx rv h
 obtain ⟨z, y, rfl, rfl, hy, hz, q⟩ := h
 obtain ⟨t, rfl⟩ := rx
 obtain ⟨u, rfl, ⟨t', rfl⟩⟩ := rv.one
 have hy' : (y.length == 0) = false := by rw [beq_eq_false_iff_ne]; omega
 have hzs : z.length ≤ sizeLine := by rw [sizeLine_eq]; omega
 have q := q _ (I.hok.fresh (Nat.le_refl _))
 have fin : ∀ (a b c : Str) (ta tb tc tk : Nat), (a, b, c) = Txt.partition z y → EP X pins σ Q (.ref s.heap.objs.size) { s with toks := tk, heap := s.heap.push { cls := .type "tuple", data := .seq [.str a ta, .str b tb, .str c tc].toArray } } := fun a b c ta tb tc tk e => by
   rw [← e] at q
   refine ⟨.ref s.heap.objs.size, _, I.laid (t' := tk) (a := s.heap.objs.size) (o := .tup [.str a, .str b, .str c]) (fun b o e => Heap.get?_push_of_some _ e) (Nat.le_refl _) ?_, rfl, q⟩
   exact ⟨by show 3 ≤ sizeLine; decide, _, .cons ⟨_, rfl⟩ (.cons ⟨_, rfl⟩ (.cons ⟨_, rfl⟩ .nil)), IsTup.new _ _⟩
 refine call_meets PySem.F.slot_str_partition (typeIs_str _ _ _) PySem.F.entry_str_partition (PySem.F.args_str_partition_2 _ _) (meets_str_partition z y t t' hy' hzs) ?_
 cases ho : Builtin.Str.occurrences z y 0 z.length 1 with
 | nil => exact fin _ _ _ _ _ _ _ (by unfold Txt.partition; rw [ho])
 | cons i r => exact fin _ _ _ _ _ _ _ (by unfold Txt.partition; rw [ho])
theorem abr {body : List Stmt} {h0 : ExceptHandler} {hs : List ExceptHandler} {pos : Pos} {t : TS} (hx : ∀ e s, X.xe e s → False) (hb : j0 X body t) : PS X (.Try body (h0 :: hs) [] [] pos) t := by
 intro pins s σ H D I h
 refine wpAny_Try_except (wpAny_mono (hb pins s σ H D I h) (fun f s1 q => ?_) fun e s1 q => (hx e s1 q).elim)
 cases f with
 | next => exact wpAny_execs_nil q
 | ret v => exact q
 | brk => exact q
 | cont => exact q
end
theorem VF {b : List Nat} {c : Nat} : ∀ {a : List Nat}, c ∉ a → (a ++ c :: b).dropWhile (· != c) = c :: b
 | [], _ => by simp
 | x :: r, h => by
   have hx : x ≠ c := fun e => h (by rw [e]; exact List.mem_cons_self)
   have hr : c ∉ r := fun e => h (List.mem_cons_of_mem _ e)
   rw [List.cons_append, List.dropWhile_cons_of_pos (by simp [hx])]
   exact VF hr
theorem VG {a b : List Nat} {c : Nat} (h : c ∉ a) : Txt.partition (S (a ++ c :: b)) (S [c]) = (S a, S [c], S b) := by
 have hs := StrLaws.partition_sum (S (a ++ c :: b)) (S [c])
 have hf : (Builtin.Str.occurrences (S (a ++ c :: b)) ⟨#[c]⟩ 0 (S (a ++ c :: b)).length 1).isEmpty = false := by
   have := StrLaws.found_one (S (a ++ c :: b)) c
   rw [decide_eq_true (by show c ∈ a ++ c :: b; simp)] at this
   simpa using this
 have h1 := from_first_some (x := S (a ++ c :: b)) (y := ⟨#[c]⟩) (z := ⟨#[c]⟩) rfl rfl hf
 have h1 := eq_of_beq h1
 have hd := VF (b := b) h
 have e3 : (Txt.partition (S (a ++ c :: b)) (S [c])).2.2 = S b := by
   apply yL
   have := congrArg cd h1
   rw [yA] at this
   have e' : cd (⟨((S (a ++ c :: b)).cps.toList.dropWhile (· != c)).toArray⟩ : Str) = c :: b := by
     show ((a ++ c :: b).dropWhile (· != c)) = _
     exact hd
   rw [e'] at this
   exact (List.cons.inj this).2
 have e2 : (Txt.partition (S (a ++ c :: b)) (S [c])).2.1 = S [c] := by
   unfold Txt.partition
   rcases StrLaws.occ_head (S (a ++ c :: b)) ⟨#[c]⟩ 1 (Nat.le_refl 1) with ⟨h0, _⟩ | ⟨i, r, h0, hi, _⟩
   · rw [h0] at hf; cases hf
   · rw [show S [c] = ⟨#[c]⟩ from rfl, h0]
 have e1 : (Txt.partition (S (a ++ c :: b)) (S [c])).1 = S a := by
   rw [e2, e3] at hs
   apply yL
   have := congrArg cd hs
   rw [yA, yA, cU, cU, cU, List.append_assoc] at this
   exact List.append_cancel_right this
 exact Prod.ext e1 (Prod.ext e2 e3)
end L2
namespace L2
open PySem PySem.Spec PyProof.Rows PySem.Calls
section
variable {X : Cx} {scope : Scope} {x y : Str} {M : List Str} {tg elt iter : Expr} {ifs : List Expr} {pos p1 p2 p3 : Pos} {kk : Nat} {te : TE} {wi : TI} {tc : TT} {g : TG}
theorem Zf {i : Nat} {z : Str} {spos py : Pos} (hN : X.N.Nodup) (hy : X.N[i]? = some z) (hl : Loc X.env.scope z) (K : qI X scope x y M) (hc : X.calm = true) (hi : PI X tg iter wi) (hg : ∀ (C : Addr) (s₂ : Shared) (H₂ : Hp) (fp : List Addr), PG (dH X scope C x y M s₂ H₂ fp) tg g) (ht : ∀ (C : Addr) (s₂ : Shared) (H₂ : Hp) (fp : List Addr), WL (dH X scope C x y M s₂ H₂ fp) ifs tc) (he : ∀ (C : Addr) (s₂ : Shared) (H₂ : Hp) (fp : List Addr), PE (dH X scope C x y M s₂ H₂ fp) elt te)
   (hsw : swapsWith (.ListComp elt [⟨tg, iter, ifs, 0⟩] scope pos) (some (.Name z py)) spos.line X.env = pure true)
   (hs : ∀ x, foldedSetIterable iter X.env x = pure x) (hf : X.fn z = true ∨ X.env.scope.names.lookup z = some .local) :
   PS X (.Assign [.Name z py] (.ListComp elt [⟨tg, iter, ifs, 0⟩] scope pos) spos) (QG (Y7 wi g tc te) (jg i)) := by
 intro pins s σ H Dn I h
 rw [exec_Assign_Name_used _ _ _ _ hsw]
 refine wpAny_bind (wpAny_standAt (wpAny_bind ?_))
 show wpAny _ X.A (do let _ ← comprehension (.ListComp elt [⟨tg, iter, ifs, 0⟩] scope pos) scope X.env _ (newList []) false (eval iter X.env) (some (assign (.Name z py) X.env))) _ _ s
 refine wpAny_bind (eG (wpAny_comprehension_free (use := some (assign (.Name z py) X.env)) (Q := fun _ s' => SP X pins Dn .next s') rfl hs (K.base.closure I.ok) K.base.kind K.base.names (eG (hi pins s σ H _ I h) fun v s1 h1 => eG h1 fun itv s2 h2 => ?_)) fun _ s' hq => wpAny_pure (wpAny_pure hq))
 obtain ⟨it, fp, tn, J, H2, e, I2, T, st2, f2, n, W, hsz, w0, turn⟩ := h2
 subst e
 refine Fv (RR := fun acc C => compPost (model X.prog X.w) X.A X.xe (some (assign (.Name z py) X.env)) (fun _ s' => SP X pins Dn .next s') acc C) K hc I2 hg ht he T st2 f2 hsz (F := fun ys H => ∀ p, H p = none → Dn.nx (σ.set i (some (.ref p))) (upd H p (.lst ys))) w0 turn ?_
 intro D C s' H' ys m I' n' fC ns fin
 refine wpAny_assign_Name (wC (v := .ref D) I' hN hy hl rfl (fun s'' I'' ch => ?_) hf)
 obtain ⟨f0, f1, f2, f3, f4, f5⟩ := fC
 obtain ⟨a, sb1, ha⟩ := ch
 have hCa : C ≠ a := by
   rcases ha with z | z
   · rw [z]; exact f1
   · exact Ne.symm (f4 _ a z)
 refine ⟨m, ns.sameBut sb1 hCa, fun h' sb => ?_⟩
 exact ⟨_, _, I''.turned (t' := s''.toks) (it := C) (fun b o hb e => (sb.2 b hb).trans e) f0 f1 f3 f4 f5, fin D n'⟩
theorem Zg {i : Nat} {z : Str} {spos py : Pos} (hN : X.N.Nodup) (hy : X.N[i]? = some z) (hl : Loc X.env.scope z) (K : qI X scope x y M) (hc : X.calm = true) (hi : PI X (.Tuple [.Name x p1, .Name y p2] kk p3) iter wi) (ht : ∀ (C : Addr) (s₂ : Shared) (H₂ : Hp) (fp : List Addr), WL (dH X scope C x y M s₂ H₂ fp) ifs tc) (he : ∀ (C : Addr) (s₂ : Shared) (H₂ : Hp) (fp : List Addr), PE (dH X scope C x y M s₂ H₂ fp) elt te)
   (hsw : swapsWith (.ListComp elt [⟨.Tuple [.Name x p1, .Name y p2] kk p3, iter, ifs, 0⟩] scope pos) (some (.Name z py)) spos.line X.env = pure true := by rfl)
   (hs : ∀ x, foldedSetIterable iter X.env x = pure x := by intro _; rfl) (hf : X.fn z = true ∨ X.env.scope.names.lookup z = some .local := by first | exact .inl rfl | exact .inr rfl | assumption) :
   PS X (.Assign [.Name z py] (.ListComp elt [⟨.Tuple [.Name x p1, .Name y p2] kk p3, iter, ifs, 0⟩] scope pos) spos) (QG (Za X.K wi tc te) (jg i)) := by
 intro pins s σ H D I h
 have q := Zf (pos := pos) (spos := spos) hN hy hl K hc (wi := fun σ0 H0 R0 => ∃ R, wi σ0 H0 R ∧ ∀ J H1, R J H1 → R0 J H1) (wG hi fun σ H R ⟨R1, a, b⟩ => ⟨R1, a, b⟩) (fun C s₂ H₂ fp => Zb (p1 := p1) (p2 := p2) (p3 := p3) (kk := kk) K hc) ht he hsw hs hf pins s σ H D I
 refine q ⟨_, h, fun J H1 r => ?_⟩
 obtain ⟨n, W, h1, h2, h3⟩ := r.ex
 refine ⟨n, W, h1, h2, fun i ys H' hi hy hw => ?_⟩
 rcases h3 i ys H' hi hy hw with hq | ⟨g1, g2, g3⟩
 · exact .inl hq
 · refine .inr ⟨g1, g2, fun z H2 hz u v => ?_⟩
   obtain ⟨p, a, b, e, hq, t⟩ := g3 z H2 hz
   exact ⟨p, [a, b], e, hq, rfl, a, [b], rfl, b, [], rfl, rfl, ⟨_, _, rfl⟩, t⟩
end
end L2
namespace L2
open PySem PySem.Spec PyProof.Rows PySem.Calls
theorem WQ (k : Nat) : ∀ {a b : List (List Nat)}, a ≠ [] → b ≠ [] → (∀ p ∈ a, k ∉ p) → (∀ p ∈ b, k ∉ p) → aF [k] a = aF [k] b → a = b := by
 have cut : ∀ {x y u v : List Nat}, k ∉ x → k ∉ y → x ++ k :: u = y ++ k :: v → x = y ∧ u = v := by
   intro x
   induction x with
   | nil =>
     intro y u v hx hy e
     cases y with
     | nil => exact ⟨rfl, (List.cons.inj e).2⟩
     | cons b r => exact absurd (by rw [show b = k from (List.cons.inj e).1.symm]; simp) hy
   | cons a x ih =>
     intro y u v hx hy e
     cases y with
     | nil => exact absurd (by rw [show a = k from (List.cons.inj e).1]; simp) hx
     | cons b r =>
       have h := List.cons.inj e
       obtain ⟨h1, h2⟩ := ih (fun z => hx (List.mem_cons_of_mem _ z)) (fun z => hy (List.mem_cons_of_mem _ z)) h.2
       exact ⟨by rw [h.1, h1], h2⟩
 intro a
 induction a with
 | nil => intro b h; exact absurd rfl h
 | cons x r ih =>
   intro b _ hb ha hbb e
   cases b with
   | nil => exact absurd rfl hb
   | cons y s =>
     have fx := ha x (by simp)
     have fy := hbb y (by simp)
     cases r with
     | nil =>
       cases s with
       | nil => exact congrArg (· :: []) e
       | cons y2 s =>
         have e' : x = y ++ [k] ++ aF [k] (y2 :: s) := e
         exact absurd (by rw [e']; simp) fx
     | cons x2 r =>
       cases s with
       | nil =>
         have e' : x ++ [k] ++ aF [k] (x2 :: r) = y := e
         exact absurd (by rw [← e']; simp) fy
       | cons y2 s =>
         have e' : x ++ [k] ++ aF [k] (x2 :: r) = y ++ [k] ++ aF [k] (y2 :: s) := e
         rw [List.append_assoc, List.append_assoc] at e'
         obtain ⟨h1, h2⟩ := cut fx fy e'
         have := ih (b := y2 :: s) (by simp) (by simp) (fun p hp => ha p (List.mem_cons_of_mem _ hp)) (fun p hp => hbb p (List.mem_cons_of_mem _ hp)) h2
         rw [h1, this]
def Ac (k : Nat) (l : List Nat) : List (List Nat) := (Txt.split (S l) (S [k])).map cd
theorem Rq {k : Nat} {l p : List Nat} (h : p ∈ Ac k l) : k ∉ p := by
 obtain ⟨z, hz, rfl⟩ := List.mem_map.mp h
 exact StrLaws.split_free (S l) k z hz
theorem WR (k : Nat) (l : List Nat) : Ac k l ≠ [] := by
 intro e
 have := split_pos (S l) (S [k])
 have e2 := congrArg List.length e
 unfold Ac at e2
 rw [List.length_map] at e2
 rw [e2] at this; cases this
theorem Rr (k : Nat) (l : List Nat) : aF [k] (Ac k l) = l := by
 have e := StrLaws.join_split (S l) (S [k])
 rw [← StrLaws.glued_eq_join] at e
 have e2 := xV (S [k]) (Txt.split (S l) (S [k]))
 rw [show Fp (S [k]) (Txt.split (S l) (S [k])) = S l from e] at e2
 exact (Yt e2).symm
theorem WT {k : Nat} {ws : List (List Nat)} (h : ws ≠ []) (hf : ∀ p ∈ ws, k ∉ p) : Ac k (aF [k] ws) = ws :=
 WQ k (WR k _) h (fun _ hp => Rq hp) hf (Rr k _)
theorem WW {k : Nat} {ws : List (List Nat)} (h : ws ≠ []) (hf : ∀ p ∈ ws, k ∉ p) : Txt.split (S (aF [k] ws)) (S [k]) = ws.map S := by
 have e := WT h hf
 have e2 : ws.map S = (Ac k (aF [k] ws)).map S := by rw [e]
 have : (S ∘ cd) = id := funext fun x => d8 x
 rw [e2]
 unfold Ac
 rw [List.map_map, this, List.map_id]
end L2
namespace L2
open PySem PySem.Spec PyProof.Rows PySem.Calls
theorem thI {α : Type} {t : Sem α} {Q : α → Shared → Prop} {M : Model} {A : Around} {E : Value → Shared → Prop} {s : Shared} {n : Nat} (hn : n ≤ s.toks) (h : wpAny M A t (fun a s => n ≤ s.toks → Q a s) E s) : wpAny M A t Q E s := XD hn h fun _ _ hn q => q hn
section
variable {X : Cx} {scope : Scope} {x : Str} {M : List Str} {pins : List (Addr × Obj)} {σ : St} {H₂ : Hp} {s₂ : Shared} {elt iter : Expr} {px pos : Pos} {te : TE} {wi : TI}
theorem Rt (K : cP X scope x M) (hc : X.calm = true) (I : Inv X pins σ H₂ s₂) (ht₂ : 1 ≤ s₂.toks) (he : ∀ (C : Addr) (s₂ : Shared) (H₂ : Hp) (fp : List Addr), PEp (nH X scope C x M s₂ H₂ fp) elt te)
   {it : Addr} {fp : List Addr} {tn : Nat → Heap → Prop} {J : It} (T : Turn X.prog X.w X.K (.Name x px) J fp it tn) (st : tn 0 s₂.heap) (hf : ∀ b ∈ fp, nG X pins H₂ b) {n : Nat} (hsz : n ≤ sizeLine) {W : Nat → List V → Hp → Prop} {F : List V → Hp → Prop}
   (w0 : W 0 [] H₂) (turn : ∀ i ys H, i ≤ n → ys.length = i → W i ys H → (J.stop i H ∧ F ys H) ∨ (J.go i H ∧ i < n ∧ ∀ x H', J.TQ i H x H' → te (some x :: σ) H' fun v Il => W (i + 1) (ys ++ [v]) Il))
   {E : Value → Shared → Prop} {RR : Value → Addr → Result → Shared → Prop}
   (hRR : ∀ (D C : Addr) (s' : Shared) (H' : Hp) (ys : List V) (m : Str → Option Value), Inv X pins σ (upd H' D (.lst ys)) s' → H' D = none → nG X pins (upd H' D (.lst ys)) C → s'.heap.Ns C m → F ys H' → RR (.ref D) C (.ok .next) s') :
   wpAny (model X.prog X.w) X.A (newList []) (fun acc s₃ => wpAny (model X.prog X.w) X.A (newFunctionEnv scope X.env.globals (jM X.env scope.names []) [] X.env.qual none .none (some X.env)) (fun cenv s₄ =>
     codeAny (model X.prog X.w) X.A (.compStart (.ListComp elt [⟨.Name x px, iter, [], 0⟩] scope pos) 0 (.ref it) acc { cenv with scope := relabel scope X.env }) (RR acc cenv.locals) s₄) E s₃) E s₂ := by
 refine wpAny_newObj_type (wpAny_newFunctionEnv K.cell (by intro y hy; simp at hy) (fun h₁ hns₁ hsb₁ => ?_) K.kind)
 dsimp only at hns₁ hsb₁ ⊢
 generalize hH2 : s₂.heap.push { cls := .type "list", dict := none, data := .seq ([] : List Value).toArray } = H2 at hns₁ hsb₁ ⊢
 have hC : H2.objs.size = s₂.heap.objs.size + 1 := by rw [← hH2, Heap.size_push]
 have hDC : s₂.heap.objs.size ≠ H2.objs.size := by rw [hC]; exact Nat.ne_of_lt (Nat.lt_succ_self _)
 have below : ∀ b, b < s₂.heap.objs.size → b ≠ H2.objs.size ∧ b ≠ s₂.heap.objs.size := fun b hb => ⟨by rw [hC]; exact Nat.ne_of_lt (Nat.lt_succ_of_lt hb), Nat.ne_of_lt hb⟩
 have hfl : ∀ b ∈ fp, b < s₂.heap.objs.size := fun b hb => by obtain ⟨o, e, _⟩ := T.obj _ _ st b hb; exact Heap.lt_size e
 have old : ∀ b o, s₂.heap.get? b = some o → h₁.get? b = some o := fun b o e => hsb₁.extBut b o (below b (Heap.lt_size e)).1 (Heap.get?_push_of_some _ (hH2 ▸ Heap.get?_push_of_some _ e))
 have hacc : h₁.get? s₂.heap.objs.size = some { cls := .type "list", data := .seq ([] : List Value).toArray 0 } := hsb₁.extBut _ _ hDC (Heap.get?_push_of_some _ (hH2 ▸ Heap.get?_push_size _ rfl))
 generalize hCC : H2.objs.size = C at *
 generalize yl : s₂.heap.objs.size = D at *
 have hCle : s₂.heap.objs.size ≤ C := by rw [yl, hC]; exact Nat.le_succ _
 have st₁ : tn 0 h₁ := T.keep _ _ _ st fun b _ o e => old b o e
 have I₁ := Ik (t := s₂.toks + ([] : List (Str × Value)).length) K I hf (fun b hb => by rw [yl]; exact hfl b hb) hCle hns₁ old
 generalize hX' : nH X scope C x M s₂ H₂ fp = X' at I₁
 have eX : X'.prog = X.prog ∧ X'.w = X.w ∧ X'.K = X.K ∧ X'.calm = true ∧ X'.A = X.A ∧ X'.ex = fp ∧ X'.env = compEnvC scope (jM X.env scope.names []) C X.env ∧ X'.s₀ = s₂ ∧ X'.pn = [] := by
   subst hX'; exact ⟨rfl, rfl, rfl, hc, rfl, rfl, rfl, rfl, rfl⟩
 obtain ⟨eP, ew, eK, ec, eA, eex, Du, es0, Yr⟩ := eX
 have eL : X'.env.locals = C := by rw [Du]; rfl
 have cells' : ∀ y c, X'.env.cells.lookup y = some c → X.env.cells.lookup y = some c := fun y c e => by rw [Du] at e; exact cP.yj e
 have efs : X'.fs = frs X.stack := by subst hX'; rfl
 have Bw : ∀ b ∈ X'.fs, b = X.env.locals ∨ b ∈ X.fs := fun b hb => List.mem_cons.mp (I.uU b (by rw [← efs]; exact hb))
 have Io : ∀ {pn : List (Addr × Obj)} {H' : Hp}, (∀ p ∈ pn, p.1 = D) → (∀ b ∈ fp, H' b = none) → ∀ b ∈ fp, nG X' pn H' b := fun {pn H'} hp hn b hb => by
   refine ⟨hn b hb, ?_, fun z => ?_, .inl (by rw [eex]; exact hb), fun y c e => (hf b hb).2.2.2.2.1 y c (cells' y c e), fun p hq => ?_⟩
   · rw [eL]; exact (below b (hfl b hb)).1
   · rcases Bw b z with q | q
     · exact (hf b hb).2.1 q
     · exact (hf b hb).2.2.1 q
   · rw [Yr, List.nil_append] at hq
     rw [hp p hq]; exact Ne.symm (below b (hfl b hb)).2
 have Dfp : D ∉ fp := fun z => Nat.lt_irrefl _ (hfl D z)
 have QZ : X.env.locals < D := by have := I.lt; rw [yl] at this; exact this
 have Ys : ∀ b ∈ X.fs, b < D := fun b hb => Nat.lt_of_not_le fun z => I.aaS (a := b) (by rw [yl]; exact z) hb
 have Q0 : ∀ {b : Addr} {pn : List (Addr × Obj)} {H' : Hp}, D ≤ b → b ≠ C → H' b = none → (∀ p ∈ pn, p.1 ≠ b) → nG X' pn H' b := fun {b pn H'} hb hbC hn hp => by
   refine ⟨hn, by rw [eL]; exact hbC, fun z => ?_, .inr (by rw [es0, yl]; exact hb), fun y c e => ?_, fun p hq => ?_⟩
   · rcases Bw b z with q | q
     · rw [q] at hb; exact absurd (Nat.lt_of_lt_of_le QZ hb) (Nat.lt_irrefl _)
     · exact absurd (Nat.lt_of_lt_of_le (Ys b q) hb) (Nat.lt_irrefl _)
   · obtain ⟨v, o, ho, _⟩ := I.cell y c (cells' y c e)
     have := Heap.lt_size ho
     rw [yl] at this
     exact Nat.ne_of_lt (Nat.lt_of_lt_of_le this hb)
   · rw [Yr, List.nil_append] at hq
     exact hp p hq
 have outer : ∀ {σ' : St} {H' : Hp} {s' : Shared} {pn : List (Addr × Obj)}, Inv X' pn σ' H' s' → Inv X pins σ H' s' := fun {σ' H' s' pn} J' => by
   subst hX'
   refine I.call' (ch := fp) J'.os J'.base J'.hok J'.bare fun b hb => ?_
   obtain ⟨f0, f1, f2, f3, f4, f5⟩ := hf b hb
   exact ⟨f3, f1, f4, f5⟩
 have Fo : ∀ {b : Addr} {H' : Hp}, D ≤ b → H' b = none → nG X pins H' b := fun {b H'} hb hn => by
   have q := I.Oj (H' := H') (b := b) (by rw [yl]; exact hb) hn
   exact q
 have loop : ∀ s₃ : Shared, s₃ = { s₂ with heap := h₁, toks := s₂.toks + ([] : List (Str × Value)).length } →
     codeAny (model X.prog X.w) X.A (.compLoop (.ListComp elt [⟨.Name x px, iter, [], 0⟩] scope pos) 0 (.ref it) (.ref D) (compEnvC scope (jM X.env scope.names []) C X.env)) (RR (.ref D) C) s₃ := by
   rintro s₃ rfl
   refine Fl (fun k s' => ∃ (i : Nat) (ys : List V) (its : List Value) (σ0 : Option V) (H' : Hp), i ≤ n ∧ k = n + 1 - i ∧ ys.length = i ∧ Inv X' [] (σ0 :: σ) H' s' ∧ tn i s'.heap ∧ (∀ b ∈ fp, H' b = none) ∧ H' D = none ∧ Vals ys its ∧
     (∃ c, s'.heap.get? D = some { cls := .type "list", data := .seq its.toArray c }) ∧ W i ys H' ∧ 1 ≤ s'.toks) ?_ (n + 1) ⟨0, [], [], none, H₂, Nat.zero_le _, rfl, rfl, I₁, st₁, fun b hb => (hf b hb).1, by rw [← yl]; exact I.hok.fresh (Nat.le_refl _), .nil, ⟨0, hacc⟩, w0, (by show 1 ≤ s₂.toks + _; omega)⟩
   rintro k s' ⟨i, ys, its, σ0, H', hi, rfl, hyl, I', st', fr', hD', rv, ⟨c, hobj⟩, w', ht'⟩
   have hx0 : X'.N[0]? = some x := by subst hX'; rfl
   have hxl : X'.env.scope.names.lookup x = some .local := by rw [Du]; exact lookup_relabel_local K.loc
   have hNd : X'.N.Nodup := by subst hX'; exact K.nd
   rcases turn i ys H' hi hyl w' with ⟨stop, fin⟩ | ⟨go, hlt, step⟩
   · have Ip : Inv X' [(D, { cls := .type "list", data := .seq its.toArray c })] (σ0 :: σ) H' s' := I'.jr fun p hp => by
       obtain rfl : p = (D, { cls := .type "list", data := .seq its.toArray c }) := by simpa using hp
       refine ⟨hobj, hD', ?_, ?_, fun v z => nomatch z⟩
       · rw [eL]; exact hDC
       · intro z
         rcases Bw D z with q | q
         · rw [q] at QZ; exact Nat.lt_irrefl _ QZ
         · exact Nat.lt_irrefl _ (Ys D q)
     have q := T.done X' eP ew eK ec i _ s' (σ0 :: σ) H' (notedBy (model X.prog X.w) X.A (compEnvC scope (jM X.env scope.names []) C X.env) fun e s' => RR (.ref D) C (.error e) s') Ip (Io (fun p hp => by obtain rfl : p = (D, { cls := .type "list", data := .seq its.toArray c }) := (by simpa using hp); rfl) fr') st' stop
     rw [eA] at q
     refine wpAny_mono q (fun r s4 ⟨hr, I4⟩ => ?_) fun _ _ z => z
     subst hr
     obtain ⟨e4, n4, _⟩ := I4.pin (D, { cls := .type "list", data := .seq its.toArray c }) (List.mem_append_right _ (by simp))
     have O4 := outer I4
     obtain ⟨m4, ns4, _⟩ := I4.loc
     rw [eL] at ns4
     refine hRR D C s4 H' ys m4 (O4.track (Fo (Nat.le_refl _) n4) (Nat.le_trans I.sz (by rw [yl]; exact Nat.le_refl _)) ⟨by rw [hyl]; exact Nat.le_trans hi hsz, its, c, rv, e4⟩) n4 (Fo (by rw [hC]; exact Nat.le_succ _) ?_) ns4 fin
     rw [zK (Ne.symm hDC)]
     have := I4.free
     rw [eL] at this
     exact this
   · have Ip : Inv X' [(D, { cls := .type "list", data := .seq its.toArray c })] (σ0 :: σ) H' s' := I'.jr fun p hp => by
       obtain rfl : p = (D, { cls := .type "list", data := .seq its.toArray c }) := by simpa using hp
       refine ⟨hobj, hD', ?_, ?_, fun v z => nomatch z⟩
       · rw [eL]; exact hDC
       · intro z
         rcases Bw D z with q | q
         · rw [q] at QZ; exact Nat.lt_irrefl _ QZ
         · exact Nat.lt_irrefl _ (Ys D q)
     have pd : ∀ p ∈ [(D, ({ cls := .type "list", data := .seq its.toArray c } : Obj))], p.1 = D := fun p hp => by obtain rfl : p = (D, { cls := .type "list", data := .seq its.toArray c }) := (by simpa using hp); rfl
     have q := T.item X' eP ew eK ec i _ s' (σ0 :: σ) H' (notedBy (model X.prog X.w) X.A (compEnvC scope (jM X.env scope.names []) C X.env) fun e s' => RR (.ref D) C (.error e) s') Ip (Io pd fr') st' go
     rw [eA] at q
     refine XD ht' q (fun r s4 ht4 ⟨u, hr, h4⟩ => ?_)
     subst hr
     refine XD ht4 h4 (fun _ s5 ht5 ⟨xv, H5, I5, r5, y5, QH, fr5⟩ => ?_)
     have I5' := I5.pinned (Io pd fr5) (T.obj _ _ QH)
     refine wpAny_assign_Name ?_
     rw [← Du]
     refine thI ht5 (uV I5' hNd hx0 (.inl hxl) r5 (fun s6 I6 => fun ht6 => ?_) (.inr hxl))
     have te6 := step xv H5 y5
     have q6 := (he C s₂ H₂ fp) (([(D, ({ cls := .type "list", data := .seq its.toArray c } : Obj))]) ++ uX fp s5.heap) s6 (some xv :: σ) H5 (fun v Il => W (i + 1) (ys ++ [v]) Il) (by rw [hX']; exact I6) ht6 te6
     rw [hX', eP, ew, eA] at q6
     refine wpAny_mono (wpAny_toks_of ht6 q6) (fun u7 s7 ⟨ht7, v7, H7, I7, r7, w7⟩ => ?_) (fun _ _ z => by subst hX'; exact (show False from z.2).elim)
     obtain ⟨e7, n7, _⟩ := I7.pin (D, { cls := .type "list", data := .seq its.toArray c }) (List.mem_append_right _ (List.mem_append_left _ (by simp)))
     refine append_at (hsz := by rw [List.size_toArray, ← rv.length, hyl]; exact Nat.le_trans hi hsz) e7 fun h8 sb8 g8 => ?_
     have I8 : Inv X' [] (some xv :: σ) H7 { s7 with heap := h8, toks := s7.toks } := (I7.jr (Ng := []) fun p hp => absurd hp (by simp)).turned (t' := s7.toks) (it := D) (fun b o hb e => (sb8.2 b hb).trans e) n7 (by rw [eL]; exact hDC) (.inr (by rw [es0, yl]; exact Nat.le_refl _))
       (Q0 (H' := H7) (pn := []) (Nat.le_refl _) hDC n7 (fun p hp => absurd hp (by simp))).2.2.2.2.1 (fun p hp => by rw [Yr] at hp; exact absurd hp (by simp))
     refine ⟨n + 1 - (i + 1), by omega, i + 1, ys ++ [v7], its ++ [u7], some xv, H7, hlt, rfl, by rw [List.length_append, List.length_singleton, hyl], I8, ?_, fun b hb => ?_, n7, rv.append (.cons r7 .nil), ⟨c + 1, ?_⟩, w7, ht7⟩
     · refine T.keep _ _ _ QH fun b hb o e => ?_
       have e' := (I7.pin (b, o) (List.mem_append_right _ (List.mem_append_right _ (xB hb e)))).1
       exact (sb8.2 b (fun z => Dfp (z ▸ hb))).trans e'
     · obtain ⟨o, e, d⟩ := T.obj _ _ QH b hb
       exact (I7.pin (b, o) (List.mem_append_right _ (List.mem_append_right _ (xB hb e)))).2.1
     · rw [g8, List.push_toArray]
 exact codeAny_compStart_list (loop _ rfl) (T.self X.A 0 _ _ _ st₁ (loop _ rfl))
theorem Zh {i : Nat} {y : Str} {spos py : Pos} (hN : X.N.Nodup) (hy : X.N[i]? = some y) (hl : Loc X.env.scope y) (K : cP X scope x M) (hc : X.calm = true) (hi : PI X (.Name x px) iter wi) (he : ∀ (C : Addr) (s₂ : Shared) (H₂ : Hp) (fp : List Addr), PEp (nH X scope C x M s₂ H₂ fp) elt te)
   (hsw : swapsWith (.ListComp elt [⟨.Name x px, iter, [], 0⟩] scope pos) (some (.Name y py)) spos.line X.env = pure true := by rfl)
   (hs : ∀ x, foldedSetIterable iter X.env x = pure x := by intro _; rfl) (hf : X.fn y = true ∨ X.env.scope.names.lookup y = some .local := by first | exact .inl rfl | exact .inr rfl | assumption) :
   PSp X (.Assign [.Name y py] (.ListComp elt [⟨.Name x px, iter, [], 0⟩] scope pos) spos) (QG (Yq wi te) (jg i)) := by
 intro pins s σ H Dn I hn h
 rw [exec_Assign_Name_used _ _ _ _ hsw]
 refine wpAny_bind (wpAny_standAt (wpAny_bind ?_))
 show wpAny _ X.A (do let _ ← comprehension (.ListComp elt [⟨.Name x px, iter, [], 0⟩] scope pos) scope X.env _ (newList []) false (eval iter X.env) (some (assign (.Name y py) X.env))) _ _ s
 refine wpAny_bind (eG (wpAny_comprehension_free (use := some (assign (.Name y py) X.env)) (Q := fun _ s' => SP X pins Dn .next s') rfl hs (K.closure I.ok) K.kind K.names (XD hn (hi pins s σ H _ I h) fun v s1 hn1 h1 => XD hn1 h1 fun itv s2 hn2 h2 => ?_)) fun _ s' hq => wpAny_pure (wpAny_pure hq))
 obtain ⟨it, fp, tn, J, H2, e, I2, T, st2, f2, n, W, hsz, w0, turn⟩ := h2
 subst e
 refine Rt (RR := fun acc C => compPost (model X.prog X.w) X.A X.xe (some (assign (.Name y py) X.env)) (fun _ s' => SP X pins Dn .next s') acc C) K hc I2 hn2 he T st2 f2 hsz (F := fun ys H => ∀ p, H p = none → Dn.nx (σ.set i (some (.ref p))) (upd H p (.lst ys))) w0 turn ?_
 intro D C s' H' ys m I' n' fC ns fin
 refine wpAny_assign_Name (wC (v := .ref D) I' hN hy hl rfl (fun s'' I'' ch => ?_) hf)
 obtain ⟨f0, f1, f2, f3, f4, f5⟩ := fC
 obtain ⟨a, sb1, ha⟩ := ch
 have hCa : C ≠ a := by
   rcases ha with z | z
   · rw [z]; exact f1
   · exact Ne.symm (f4 y a z)
 refine ⟨m, ns.sameBut sb1 hCa, fun h' sb => ?_⟩
 exact ⟨_, _, I''.turned (t' := s''.toks) (it := C) (fun b o hb e => (sb.2 b hb).trans e) f0 f1 f3 f4 f5, fin D n'⟩
theorem WX {i : Nat} {y : Str} {spos py : Pos} (hN : X.N.Nodup) (hy : X.N[i]? = some y) (hl : Loc X.env.scope y) (K : cP X scope x M) (hc : X.calm = true) (hi : PI X (.Name x px) iter wi) (he : ∀ (C : Addr) (s₂ : Shared) (H₂ : Hp) (fp : List Addr), PEp (nH X scope C x M s₂ H₂ fp) elt te)
   (hsw : swapsWith (.ListComp elt [⟨.Name x px, iter, [], 0⟩] scope pos) (some (.Name y py)) spos.line X.env = pure true := by rfl)
   (hs : ∀ x, foldedSetIterable iter X.env x = pure x := by intro _; rfl) (hf : X.fn y = true ∨ X.env.scope.names.lookup y = some .local := by first | exact .inl rfl | exact .inr rfl | assumption) :
   PSp X (.Assign [.Name y py] (.ListComp elt [⟨.Name x px, iter, [], 0⟩] scope pos) spos) (QG (T9 wi te) (jg i)) := by
 intro pins s σ H D I hn h
 have q := Zh (pos := pos) (spos := spos) hN hy hl K hc (wi := fun σ0 H0 R0 => ∃ R, wi σ0 H0 R ∧ ∀ J H1, R J H1 → R0 J H1) (wG hi fun σ H R ⟨R1, a, b⟩ => ⟨R1, a, b⟩) he hsw hs hf pins s σ H D I hn
 exact q ⟨_, h, fun J H1 r => r.ex⟩
end
section
variable {X : Cx} {pos : Pos} {a b e : Expr} {es : List Expr} {ta tb te : TE} {t : TA} {st : Stmt} {rest : List Stmt}
theorem PS.made {t : TS} (h : PS X st t) : PSp X st t := fun pins s σ H D I _ q => h pins s σ H D I q
theorem j0.made {t : TS} (h : j0 X rest t) : z9 X rest t := fun pins s σ H D I _ q => h pins s σ H D I q
theorem PA.made (h : PA X es t) : PAp X es t := fun pos pins s σ H Q I _ q => h pos pins s σ H Q I q
theorem Jb {t u : TS} (h1 : PSp X st t) (h2 : z9 X rest u) : z9 X (st :: rest) (X3 t u) := by
 intro pins s σ H D I hn h
 refine wpAny_execs_cons (XD hn (h1 pins s σ H { D with nx := u D } I hn h) fun f s1 hn1 q => ?_)
 cases f with
 | next =>
   obtain ⟨σ', H', I', q⟩ := q
   exact h2 pins s1 σ' H' D I' hn1 q
 | ret v => exact q
 | brk => exact q
 | cont => exact q
theorem adz {c : Expr} {a b : List Stmt} {tc : TT} {t u : TS} (hc : PT X c tc) (ha : z9 X a t) (hb : z9 X b u) : PSp X (.If c a b pos) (ac3 tc t u) := by
 intro pins s σ H D I hn h
 refine wpAny_If (XD hn (hc pins s σ H _ I h) fun d s1 hn1 ⟨H1, I1, q1⟩ => ?_)
 cases d with
 | true => exact ha pins s1 σ H1 D I1 hn1 q1
 | false => exact hb pins s1 σ H1 D I1 hn1 q1
theorem abt {x j pos} : PEm X (.Constant (.str x) j pos) (tC (.str x)) := fun _ s _ H _ I h => Calls.Constant_str ⟨by show 1 ≤ s.toks + 1; omega, .str x, H, I.tok _, ⟨_, rfl⟩, h⟩
def PTm (X : Cx) (e : Expr) (t : TT) : Prop :=
 ∀ (pins : List (Addr × Obj)) (s : Shared) (σ : St) (H : Hp) (Q : Bool → Hp → Prop), Inv X pins σ H s → t σ H Q → wpAny (model X.prog X.w) X.A (isTrue e X.env (eval e X.env)) (fun d s' => 1 ≤ s'.toks ∧ TP X pins σ Q d s') X.xe s
theorem Zi {op : CmpOp} {r : R2} (ho : iW X (compareOp op) r) (ha : PE X a ta) (hb : PEm X b tb) (hm : behindInMarks op b = false) : PTm X (.Compare a [op] [b] pos) (Yd (tOp r ta tb)) := by
 intro pins s σ H Q I h
 refine wpAny_isTrue_Compare1 (eG (ha pins s σ H _ I h) fun v s1 ⟨x, H1, I1, r1, q1⟩ => eG (hb pins s1 σ H1 _ I1 q1) fun u s2 ⟨hn, y, H2, I2, r2, q2⟩ =>
   XD hn (ho pins s2 σ H2 x y v u _ I2 r1 r2 q2) fun c s3 hn3 ⟨z, H3, I3, r3, k, e, q3⟩ => ?_) hm
 subst e
 cases r3
 exact wpAny_truthy_bool ⟨hn3, H3, I3, q3⟩
theorem abu {c : Expr} {a b : List Stmt} {tc : TT} {t u v : TS} (hc : PTm X c tc) (ha : z9 X a t) (hb : z9 X b u) (hr : z9 X rest v) : j0 X (.If c a b pos :: rest) (X3 (ac3 tc t u) v) := by
 intro pins s σ H D I h
 have key : wpAny (model X.prog X.w) X.A (exec (.If c a b pos) X.env) (fun f s' => 1 ≤ s'.toks ∧ SP X pins { D with nx := v D } f s') X.xe s := by
   refine wpAny_If (eG (hc pins s σ H _ I h) fun d s1 ⟨hn1, H1, I1, q1⟩ => ?_)
   cases d with
   | true => exact XD hn1 (ha pins s1 σ H1 { D with nx := v D } I1 hn1 q1) fun _ _ hn q => ⟨hn, q⟩
   | false => exact XD hn1 (hb pins s1 σ H1 { D with nx := v D } I1 hn1 q1) fun _ _ hn q => ⟨hn, q⟩
 refine wpAny_execs_cons (eG key fun f s1 ⟨hn, q⟩ => ?_)
 cases f with
 | next =>
   obtain ⟨σ', H', I', q⟩ := q
   exact hr pins s1 σ' H' D I' hn q
 | ret v => exact q
 | brk => exact q
 | cont => exact q
end
end L2
namespace L2
open PySem PySem.Spec PyProof.Rows PySem.Calls
end L2
namespace L2
open PySem PySem.Spec PyProof.Rows PySem.Calls
section
variable {X : Cx} {pins : List (Addr × Obj)} {σ : St} {H : Hp} {s : Shared} {h' : Heap}
theorem Inv.VH {t' : Nat} {L : List Addr} (I : Inv X pins σ H s) (k : ∀ b o, b ∉ L → s.heap.get? b = some o → h'.get? b = some o) (hL : ∀ b ∈ L, nG X pins H b) : Inv X pins σ H { s with heap := h', toks := t' } := by
 have nit : ∀ b u, H b = some u → b ∉ L := fun b u e z => by have := (hL b z).1; rw [this] at e; cases e
 refine I.step (g' := s.gens) (d' := s.drawn) (ch := L) (fun b hb => ?_) (fun b o _ _ hc e _ => k b o hc e) (fun b o _ _ hc e _ => ⟨o.slots, k b o hc e⟩) (fun _ _ _ _ n => n)
   (fun b o hc e => ⟨o, k b o hc e⟩) (fun _ _ e => e) (fun _ _ _ e => e) (fun b ps e => ⟨#[], by rw [e]; simp⟩) (fun m hm => ?_) (fun b u e => ?_) I.bare
 · obtain ⟨f0, f1, f2, f3, f4, f5⟩ := hL b hb
   exact ⟨f3, f1, f4, f5⟩
 · obtain ⟨o, es, ep, ho, r⟩ := hm
   exact ⟨o, es, ep, k _ o (fun z => (hL _ z).2.1 rfl) ho, r⟩
 · refine (I.hok b u e).stay (fun c v hc q => k c v ?_ q) (fun _ q => q) fun _ _ q => q
   rcases hc with z | z
   · rw [z]; exact nit b u e
   · exact nit c _ z
end
def Itz (K : PySem.W.Frag) (a b : Addr) : It :=
 ⟨fun i H => ∃ xs ys x y, bG K H a xs ∧ bG K H b ys ∧ xs[i]? = some x ∧ ys[i]? = some y,
  fun i H z H' => ∃ T x y, z = .ref T ∧ H T = none ∧ H' = upd H T (.tup [x, y]) ∧ (∀ xs, bG K H a xs → xs[i]? = some x) ∧ ∀ ys, bG K H b ys → ys[i]? = some y,
  fun i H => ∃ xs ys, bG K H a xs ∧ bG K H b ys ∧ (xs.length ≤ i ∨ ys.length ≤ i)⟩
def auC (z TI TO i1 i2 a b : Addr) (i : Nat) (h : Heap) : Prop := IsZip h z TI TO .none ∧ IsPair h TI (.ref i1) (.ref i2) ∧ (∃ u v, IsPair h TO u v) ∧ h.IsListIter i1 a i ∧ h.IsListIter i2 b i
theorem Zj {P : Program} {w : World} {K : PySem.W.Frag} {elts : List Expr} {x1 : Nat} {tp : Pos} {z TI TO i1 i2 a b : Addr} (D : ZipApart z TI TO i1 i2 a b) : Turn P w K (.Tuple elts x1 tp) (Itz K a b) [z, TI, TO, i1, i2] z (auC z TI TO i1 i2 a b) where
 mem := by simp
 obj := fun i h st c hc => by
   obtain ⟨h1, h2, ⟨u, v, h3⟩, h4, h5⟩ := st
   simp only [List.mem_cons, List.not_mem_nil, or_false] at hc
   rcases hc with e | e | e | e | e
   · subst e; exact ⟨_, h1, fun v q => by cases q⟩
   · subst e; exact ⟨_, h2, fun v q => by cases q⟩
   · subst e; exact ⟨_, h3, fun v q => by cases q⟩
   · subst e; obtain ⟨o, e, c, d⟩ := h4; exact ⟨o, e, fun v q => by rw [d] at q; cases q⟩
   · subst e; obtain ⟨o, e, c, d⟩ := h5; exact ⟨o, e, fun v q => by rw [d] at q; cases q⟩
 keep := fun i h h' st k => by
   obtain ⟨h1, h2, ⟨u, v, h3⟩, h4, h5⟩ := st
   exact ⟨k _ (by simp) _ h1, k _ (by simp) _ h2, ⟨u, v, k _ (by simp) _ h3⟩, h4.at fun o e => k i1 (by simp) o e, h5.at fun o e => k i2 (by simp) o e⟩
 item := by
   intro X hP hw hK hc i pins s σ H E I hf st hg
   subst hP hw hK
   obtain ⟨xs, ys, x, y, hq, hq2, hx, hy⟩ := hg
   obtain ⟨h1, h2, ⟨u0, v0, h3⟩, h4, h5⟩ := st
   obtain ⟨its, rv, p, hz⟩ := I.list hq
   obtain ⟨its2, rv2, p2, hz2⟩ := I.list hq2
   obtain ⟨u, hu, ru⟩ := rv.get hx
   obtain ⟨v, hv, rv'⟩ := rv2.get hy
   refine wpAny_pyNext_zip_item D h1 h2 h3 h4 h5 p.isList p2.isList (x := u) (y := v) (by simpa using hu) (by simpa using hv) fun h' a1 a2 a3 a4 a5 a6 a7 => ?_
   refine ⟨_, rfl, wpAny_letOwnedTupleGo_zip (s := { s with heap := h' }) a1 fun h'' b1 b2 => ?_⟩
   have hT : H s.heap.objs.size = none := I.hok.fresh (Nat.le_refl _)
   have lt : ∀ c ∈ [z, TI, TO, i1, i2], c < s.heap.objs.size := fun c hc => by
     simp only [List.mem_cons, List.not_mem_nil, or_false] at hc
     rcases hc with e | e | e | e | e
     · subst e; exact Heap.lt_size h1
     · subst e; exact Heap.lt_size h2
     · subst e; exact Heap.lt_size h3
     · subst e; obtain ⟨o, e, _⟩ := h4; exact Heap.lt_size e
     · subst e; obtain ⟨o, e, _⟩ := h5; exact Heap.lt_size e
   have kk : ∀ c o, c ∉ [z, TI, TO, i1, i2] → s.heap.get? c = some o → h''.get? c = some o := fun c o hc e => by
     simp only [List.mem_cons, List.not_mem_nil, or_false, not_or] at hc
     exact (b2.2 c hc.1).trans (a7 c o hc.1 hc.2.2.1 hc.2.2.2.1 hc.2.2.2.2 e)
   have I1 : Inv X pins σ H { s with heap := h'' } := I.VH (t' := s.toks) kk hf
   have zT : s.heap.objs.size ≠ z := fun e => Nat.lt_irrefl _ (e ▸ lt z (by simp))
   have a5' : IsPair h'' s.heap.objs.size u v := (b2.2 _ zT).trans a5
   have I2 := I1.track (a := s.heap.objs.size) (o := .tup [x, y]) (I.Oj (Nat.le_refl _) hT) I.sz ⟨by show 2 ≤ sizeLine; decide, [u, v], .cons ru (.cons rv' .nil), ⟨_, a5', rfl, _, rfl⟩⟩
   refine ⟨.ref s.heap.objs.size, _, I2, rfl, ⟨_, x, y, rfl, hT, rfl, fun zs hzs => by rw [I.HR hzs hq]; exact hx, fun zs hzs => by rw [I.HR hzs hq2]; exact hy⟩, ⟨b1, (b2.2 _ D.TIz).trans (a7 _ _ D.TIz D.TITO D.TIi1 D.TIi2 h2), ⟨u, v, (b2.2 _ D.TOz).trans a2⟩, a3.at fun o e => (b2.2 _ D.i1z).trans e, a4.at fun o e => (b2.2 _ D.i2z).trans e⟩, fun c hc => ?_⟩
   rw [zK (Nat.ne_of_lt (lt c hc))]; exact (hf c hc).1
 done := by
   intro X hP hw hK hc i pins s σ H E I hf st hg
   subst hP hw hK
   obtain ⟨xs, ys, hq, hq2, hx⟩ := hg
   obtain ⟨h1, h2, ⟨u0, v0, h3⟩, h4, h5⟩ := st
   obtain ⟨its, rv, p, hz⟩ := I.list hq
   obtain ⟨its2, rv2, p2, hz2⟩ := I.list hq2
   have hl := rv.length
   have hl2 := rv2.length
   refine wpAny_pyNext_zip_end (I.ok.hd hc) D h1 h2 h3 h4 h5 p.isList p2.isList ?_ fun h' a7 => ⟨rfl, I.VH (t' := s.toks) (fun c o hc e => ?_) hf⟩
   · rcases hx with hx | hx
     · exact .inl (by simp; omega)
     · exact .inr (by simp; omega)
   · simp only [List.mem_cons, List.not_mem_nil, or_false, not_or] at hc
     exact a7 c o hc.1 hc.2.2.1 hc.2.2.2.1 hc.2.2.2.2 e
 self := fun _ _ _ _ _ st h => wpAny_pyIter_zip st.1 h
section
variable {X : Cx} {ea eb : Expr} {t : TA} {p pos tp : Pos} {elts : List Expr} {x1 : Nat}
def auD (K : PySem.W.Frag) (t : TA) : TI := fun σ H R => t σ H fun vs H1 => ∃ a b, vs = [.ref a, .ref b] ∧ (∃ xs, bG K H1 a xs) ∧ (∃ ys, bG K H1 b ys) ∧ R (Itz K a b) H1
theorem boot_zip : bootBuiltins "zip" = some (.type "zip") := by symm
theorem adA (hg : Gl X "zip") (hm : X.mg "zip" = none) (ha : PA X [ea, eb] t) (hs : starEach [ea, eb] X.env = [(false, eval ea X.env), (false, eval eb X.env)] := by rfl) (hs2 : starEach [eb] X.env = [(false, eval eb X.env)] := by rfl) :
   PI X (.Tuple elts x1 tp) (.Call (.Name "zip" p) [ea, eb] [] pos) (auD X.K t) := by
 intro pins s σ H R I h
 refine Call_ (HQ I hg hm boot_zip (PyProof.Rows.callWith_type1 (eG (ha pos pins s σ H _ I h) fun us s1 ⟨vs, H1, I1, r1, q1⟩ => ?_) (by rw [hs, hs2]) (by rw [hs2]; rfl)))
 obtain ⟨a, b, e, ⟨xs, hq⟩, ⟨ys, hq2⟩, q⟩ := q1
 subst e
 cases r1 with
 | cons r rr =>
   cases rr with
   | cons r' rr' =>
     cases rr'
     cases r
     cases r'
     obtain ⟨its, rv, pl, hz⟩ := I1.list hq
     obtain ⟨its2, rv2, pl2, hz2⟩ := I1.list hq2
     have l1 : a < s1.heap.objs.size := by obtain ⟨_, e, _⟩ := pl.isList; exact Heap.lt_size e
     have l2 : b < s1.heap.objs.size := by obtain ⟨_, e, _⟩ := pl2.isList; exact Heap.lt_size e
     refine call_zip_2 pl.isList pl2.isList fun h' z1 z2 z3 z4 z5 z6 z7 => ?_
     refine wpAny_pyIter_zip (s := { s1 with heap := h' }) z1 ?_
     have I2 : Inv X pins σ H1 { s1 with heap := h' } := I1.kept (t' := s1.toks) z7
     refine ⟨_, [s1.heap.objs.size + 4, s1.heap.objs.size + 2, s1.heap.objs.size + 3, s1.heap.objs.size, s1.heap.objs.size + 1], _, _, H1, rfl, I2, Zj (zipApart_new l1 l2), ⟨z1, z2, ⟨_, _, z3⟩, z4, z5⟩, fun c hc => ?_, q⟩
     have hle : s1.heap.objs.size ≤ c := by
       simp only [List.mem_cons, List.not_mem_nil, or_false] at hc
       rcases hc with e | e | e | e | e
       · rw [e]; exact Nat.le_add_right _ _
       · rw [e]; exact Nat.le_add_right _ _
       · rw [e]; exact Nat.le_add_right _ _
       · rw [e]; exact Nat.le_refl _
       · rw [e]; exact Nat.le_add_right _ _
     exact I1.Oj hle (I1.hok.fresh hle)
end
theorem Zk {K : PySem.W.Frag} {a b : Addr} {xs ys : List V} {g : TG} {tb : TS} {D : Ends} {σ : St} {H : Hp} (hl : xs.length = ys.length) (Pv : Nat → St → Hp → Prop) (h0 : Pv 0 σ H) (hq : ∀ i σ H, i ≤ xs.length → Pv i σ H → bG K H a xs ∧ bG K H b ys)
   (hs : ∀ i x y σ H, xs[i]? = some x → ys[i]? = some y → Pv i σ H → ∀ T, H T = none → g (.ref T) σ (upd H T (.tup [x, y])) fun σ2 H2 => tb { D with nx := Pv (i + 1), ct := Pv (i + 1), bk := D.nx } σ2 H2) (hd : ∀ σ H, Pv xs.length σ H → D.nx σ H) : YD (Itz K a b) g tb D σ H := by
 refine ⟨fun i m σ H => i ≤ xs.length ∧ m = xs.length - i ∧ Pv i σ H, ⟨_, Nat.zero_le _, rfl, h0⟩, fun i m σ H ⟨hi, hm, hp⟩ => ?_⟩
 obtain ⟨q1, q2⟩ := hq i σ H hi hp
 by_cases c : i = xs.length
 · subst c
   exact .inl ⟨⟨xs, ys, q1, q2, .inl (Nat.le_refl _)⟩, hd σ H hp⟩
 · have hlt : i < xs.length := by omega
   have hx : xs[i]? = some xs[i] := List.getElem?_eq_getElem hlt
   have hlt2 : i < ys.length := by omega
   have hy : ys[i]? = some ys[i] := List.getElem?_eq_getElem hlt2
   refine .inr ⟨⟨xs, ys, _, _, q1, q2, hx, hy⟩, Pv (i + 1), fun σ' H' hn => ⟨xs.length - (i + 1), by omega, by omega, rfl, hn⟩, fun z H' hz => ?_⟩
   obtain ⟨T, x, y, rfl, hT, rfl, e1, e2⟩ := hz
   exact hs i x y σ H (e1 xs q1) (e2 ys q2) hp T hT
end L2
namespace L2
open PySem PySem.Spec PyProof.Rows PySem.Calls
theorem abv {l y : List Nat} {c i : Nat} (h : StrLaws.At (S l) (S (c :: y)) (S l).length i) : l[i]? = some c := by
 have h2 := h.2
 rw [StrLaws.subAt_eq] at h2
 have h2 : (l.drop i).take (S (c :: y)).length = c :: y := eq_of_beq h2
 have h3 : ((l.drop i).take (S (c :: y)).length)[0]? = some c := by rw [h2]; rfl
 rw [List.getElem?_take_of_lt (by rw [zU]; simp), List.getElem?_drop] at h3
 exact h3
theorem Zm {l y : List Nat} {c : Nat} (h : c ∉ l) : Txt.partition (S l) (S (c :: y)) = (S l, Str.empty, Str.empty) := by
 unfold Txt.partition
 rcases StrLaws.occ_head (S l) (S (c :: y)) 1 (Nat.le_refl 1) with ⟨h0, _⟩ | ⟨i, r, h0, hi, _⟩
 · rw [h0]
 · exact absurd (List.mem_of_getElem? (abv hi)) h
end L2
namespace L2
open PySem PySem.Spec PyProof.Rows
def t7 (l : List Nat) : List Nat := List.replicate (3 - l.length) 48 ++ l
def eF (n : Int) : List Nat := t7 (dig n.natAbs)
def sgn (n : Int) : List Nat := if n < 0 then [45] else []
def bZ (n : Int) : List Nat := sgn n ++ ((eF n).take ((eF n).length - 2) ++ 46 :: (eF n).drop ((eF n).length - 2))
def isF (c : Nat) : Prop := 48 ≤ c ∧ c ≤ 57
theorem sV (l : List Nat) : 3 ≤ (t7 l).length ∧ (t7 l).length = max 3 l.length := by
 unfold t7; rw [List.length_append, List.length_replicate]; omega
theorem sW {n : Int} {c : Nat} (h : c ∈ eF n) : isF c := by
 unfold eF t7 at h
 rcases List.mem_append.mp h with h | h
 · rw [(List.mem_replicate.mp h).2]; exact ⟨by decide, by decide⟩
 · exact oM h
theorem abw (k : Nat) (l : List Nat) : val (List.replicate k 48 ++ l) = val l := by
 induction k with
 | zero => rfl
 | succ k ih => rw [List.replicate_succ, List.cons_append]; unfold val; rw [List.foldl_cons]; exact ih
theorem Zn (n : Int) : val (eF n) = n.natAbs := by unfold eF t7; rw [abw, Vz]
theorem WY {n : Int} (h : (eF n).head? = some 48) : (eF n).length = 3 := by
 have hl := (sV (dig n.natAbs)).2
 by_cases h3 : (dig n.natAbs).length ≤ 3
 · show (t7 _).length = 3; omega
 · exfalso
   have e : eF n = dig n.natAbs := by unfold eF t7; rw [show 3 - (dig n.natAbs).length = 0 by omega]; rfl
   rw [e] at h
   by_cases h0 : n.natAbs = 0
   · rw [h0, Rf] at h3; simp at h3
   · obtain ⟨c, r, ec, hc, _⟩ := Rc h0
     rw [ec] at h
     have : c = 48 := by simpa using h
     omega
theorem sX (n : Int) : ∃ a x y, bZ n = sgn n ++ (a ++ [46, x, y]) ∧ eF n = a ++ [x, y] ∧ a ≠ [] ∧ (∀ c ∈ a, isF c) ∧ isF x ∧ isF y ∧ (a.head? = some 48 → a = [48]) := by
 have hl : 3 ≤ (eF n).length := (sV _).1
 have hd : ((eF n).drop ((eF n).length - 2)).length = 2 := by rw [List.length_drop]; omega
 obtain ⟨x, y, e⟩ : ∃ x y, (eF n).drop ((eF n).length - 2) = [x, y] := by
   match h : (eF n).drop ((eF n).length - 2), hd with
   | [x, y], _ => exact ⟨x, y, rfl⟩
 have ea : eF n = (eF n).take ((eF n).length - 2) ++ [x, y] := by rw [← e, List.take_append_drop]
 have ht : ((eF n).take ((eF n).length - 2)).length = (eF n).length - 2 := by rw [List.length_take]; omega
 refine ⟨(eF n).take ((eF n).length - 2), x, y, ?_, ea, ?_, fun c hc => sW (List.mem_of_mem_take hc), sW (n := n) (by rw [ea]; simp), sW (n := n) (by rw [ea]; simp), fun h => ?_⟩
 · unfold bZ; rw [e]
 · intro z; rw [z] at ht; simp at ht; omega
 · have h1 : (eF n).head? = some 48 := by
     rw [ea]
     cases hh : (eF n).take ((eF n).length - 2) with
     | nil => rw [hh] at h; cases h
     | cons c r => rw [hh] at h; exact h
   have h3 := WY h1
   rw [h3] at h ht ⊢
   match hh : (eF n).take (3 - 2), ht with
   | [c], _ => rw [hh] at h; have : c = 48 := by simpa using h
               rw [this]
theorem abx {n : Int} {c : Nat} (h : c ∈ sgn n) : c = 45 := by unfold sgn at h; split at h; exact List.mem_singleton.mp h; cases h
theorem Nz {n : Int} {c : Nat} (h : c ∈ bZ n) : c = 45 ∨ c = 46 ∨ isF c := by
 obtain ⟨a, x, y, e, _, _, ha, hx, hy, _⟩ := sX n
 rw [e] at h
 rcases List.mem_append.mp h with h | h
 · exact .inl (abx h)
 · rcases List.mem_append.mp h with h | h
   · exact .inr (.inr (ha c h))
   · simp only [List.mem_cons, List.not_mem_nil, or_false] at h
     rcases h with h | h | h
     · exact .inr (.inl h)
     · rw [h]; exact .inr (.inr hx)
     · rw [h]; exact .inr (.inr hy)
theorem aby (n : Int) : 4 ≤ (bZ n).length := by
 obtain ⟨a, x, y, e, _, ha, _⟩ := sX n
 rw [e, List.length_append, List.length_append]
 have : 0 < a.length := List.length_pos_iff.mpr ha
 simp only [List.length_cons, List.length_nil]; omega
def iC (l : List Nat) : List Nat := (l.filter (· != 45)).filter (· != 46)
def oO (l : List Nat) : Option Int := if (iC l).length = 0 ∨ (iC l).all inF = false ∨ 60 < (iC l).length then none else if bZ (if l.take 1 = [45] then -val (iC l) else val (iC l)) = l then some (if l.take 1 = [45] then -val (iC l) else val (iC l)) else none
theorem Ru {l : List Nat} (h : ∀ c ∈ l, isF c) : iC l = l := by
 unfold iC
 have e1 : l.filter (· != 45) = l := List.filter_eq_self.mpr fun c hc => by have := h c hc; unfold isF at this; simp; omega
 rw [e1]
 exact List.filter_eq_self.mpr fun c hc => by have := h c hc; unfold isF at this; simp; omega
theorem Jc (a b : List Nat) : iC (a ++ b) = iC a ++ iC b := by unfold iC; rw [List.filter_append, List.filter_append]
theorem Zo (n : Int) : iC (bZ n) = eF n := by
 obtain ⟨a, x, y, e, ef, ha, hc, hx, hy, _⟩ := sX n
 have e1 : iC (sgn n) = [] := by unfold sgn; split <;> rfl
 have e2 : iC [46, x, y] = [x, y] := by
   rw [show [46, x, y] = [46] ++ [x, y] from rfl, Jc, show iC [46] = [] from rfl, List.nil_append]
   exact Ru fun c hc => by simp only [List.mem_cons, List.not_mem_nil, or_false] at hc; rcases hc with e | e <;> rw [e] <;> assumption
 rw [e, Jc, Jc, e1, Ru hc, e2, ef, List.nil_append]
theorem Rv (n : Int) : (bZ n).take 1 = [45] ↔ n < 0 := by
 obtain ⟨a, x, y, e, ef, ha, hc, hx, hy, _⟩ := sX n
 rw [e]
 unfold sgn
 split
 · rename_i h; exact ⟨fun _ => h, fun _ => rfl⟩
 · rename_i h
   refine ⟨fun z => ?_, fun z => absurd z h⟩
   cases a with
   | nil => exact absurd rfl ha
   | cons b a =>
     have : b = 45 := by simpa using z
     have hb := hc b (by simp)
     unfold isF at hb; omega
theorem Zq {n : Int} (h : n.natAbs < 10 ^ 60) : oO (bZ n) = some n := by
 unfold oO
 rw [Zo, Zn]
 have hl := sV (dig n.natAbs)
 have hd := wK (k := 60) (by decide) h
 have hh : (if (bZ n).take 1 = [45] then -((n.natAbs : Nat) : Int) else ((n.natAbs : Nat) : Int)) = n := by
   by_cases hn : n < 0
   · rw [if_pos ((Rv n).mpr hn)]; omega
   · rw [if_neg (fun z => hn ((Rv n).mp z))]; omega
 rw [hh, if_neg, if_pos rfl]
 rintro (z | z | z)
 · have : (eF n).length = (t7 (dig n.natAbs)).length := rfl
   omega
 · rw [List.all_eq_false] at z
   obtain ⟨c, hc, k⟩ := z
   exact k ((tY c).mpr (sW hc))
 · have : (eF n).length = (t7 (dig n.natAbs)).length := rfl
   omega
theorem Jd {n : Int} (h : n.natAbs < 10 ^ 60) : bA 65 (S (bZ n)) := by
 refine ⟨?_, fun c hc => ?_⟩
 · obtain ⟨a, x, y, e, ef, _⟩ := sX n
   have hl := (sV (dig n.natAbs)).2
   have hd := wK (k := 60) (by decide) h
   have e3 := congrArg List.length ef
   rw [List.length_append] at e3
   have e4 : (eF n).length = (t7 (dig n.natAbs)).length := rfl
   rw [zU, e, List.length_append, List.length_append]
   have e5 : (sgn n).length ≤ 1 := by unfold sgn; split <;> simp
   simp only [List.length_cons, List.length_nil] at e3 ⊢
   omega
 · rw [cU] at hc
   rcases Nz hc with z | z | z
   · omega
   · omega
   · unfold isF at z; omega
theorem NB {n : Int} : (∀ c, (bZ n).head? = some c → c ≠ 32) ∧ (∀ c, (bZ n).getLast? = some c → c ≠ 32) := by
 have k : ∀ c ∈ bZ n, c ≠ 32 := fun c hc => by rcases Nz hc with z | z | z; omega; omega; unfold isF at z; omega
 exact ⟨fun c hc => k c (List.mem_of_mem_head? hc), fun c hc => k c (List.mem_of_getLast? hc)⟩
theorem BV {c : Nat} : ∀ {ps : List (List Nat)}, (∀ p ∈ ps, c ∉ p) → (aF [c] ps).filter (· != c) = aF [] ps
 | [], _ => rfl
 | [x], h => List.filter_eq_self.mpr fun d hd => by
     have := h x (by simp)
     simp; intro z; subst z; exact this hd
 | x :: y :: r, h => by
   have hx : x.filter (· != c) = x := List.filter_eq_self.mpr fun d hd => by
     have := h x (by simp)
     simp; intro z; subst z; exact this hd
   show (x ++ [c] ++ aF [c] (y :: r)).filter (· != c) = x ++ [] ++ aF [] (y :: r)
   rw [List.filter_append, List.filter_append, hx, BV fun p hp => h p (List.mem_cons_of_mem _ hp)]
   simp
theorem Ad (z : Str) (c : Nat) : cd (Txt.replace z (S [c]) (S [])) = (cd z).filter (· != c) := by
 have h1 : Txt.replace z (S [c]) (S []) = Str.join (S []) (Txt.split z (S [c])) := StrLaws.replace_one z (S []) c
 have h2 : Str.join (S [c]) (Txt.split z (S [c])) = z := StrLaws.join_split z (S [c])
 rw [h1, ← StrLaws.glued_eq_join, show Builtin.Str.glued (S []) (Txt.split z (S [c])) = Fp (S []) (Txt.split z (S [c])) from rfl, xV, cU, cU]
 rw [← StrLaws.glued_eq_join, show Builtin.Str.glued (S [c]) (Txt.split z (S [c])) = Fp (S [c]) (Txt.split z (S [c])) from rfl, xV] at h2
 have h3 := congrArg cd h2
 rw [cU, cU] at h3
 rw [← h3, BV]
 intro p hp
 obtain ⟨x, hx, rfl⟩ := List.mem_map.mp hp
 exact StrLaws.split_free z c x hx
end L2
namespace dI
open PySem L2
def top (i : Nat) : Stmt := PySem.Challenge.pw_askpaper_k22_a_question_read.main.body.getD i (.Pass ⟨0, 0, 0, 0⟩)
abbrev jT : Stmt := top 16
abbrev bj : Stmt := top 17
abbrev dJ : Stmt := top 18
abbrev cu : Stmt := top 19
abbrev gA : Stmt := top 20
abbrev bK : Stmt := top 21
abbrev dM : Stmt := top 38
abbrev cA : Stmt := top 39
abbrev cB : Stmt := inClass (top 40) 0
abbrev bL : Stmt := inClass (top 41) 0
abbrev cV : Stmt := inClass (top 41) 6
abbrev cD : Stmt := inClass (top 42) 2
abbrev bM : Stmt := inClass (top 42) 5
abbrev cW : Stmt := inClass (top 42) 6
abbrev cF : Stmt := inClass (top 43) 1
abbrev cX : Stmt := inClass (top 43) 2
abbrev cG : Stmt := inClass (top 44) 0
abbrev dN : Stmt := inClass (top 44) 6
abbrev bN : Stmt := inClass (top 45) 0
abbrev cY : Stmt := inClass (top 45) 6
abbrev eO : Stmt := top 46
abbrev cH : Stmt := top 47
abbrev aN : Stmt := top 48
abbrev cZ : Stmt := top 49
abbrev cJ : Stmt := top 50
abbrev dg : Stmt := top 51
abbrev jU : Stmt := top 52
abbrev dh : Stmt := inClass (top 54) 0
abbrev di : Stmt := inClass (top 55) 0
abbrev bO : Stmt := inClass (top 57) 0
abbrev bQ : Stmt := inClass (top 58) 0
abbrev dO : Stmt := inClass (top 65) 0
abbrev eQ : Stmt := inClass (top 65) 1
abbrev eU : Stmt := inClass (top 65) 2
abbrev bu : Stmt := inClass (top 66) 0
abbrev bC : Stmt := inClass (top 66) 1
abbrev bD : Stmt := inClass (top 66) 2
abbrev dm : Stmt := inClass (top 67) 0
abbrev dR : Stmt := inClass (top 67) 1
abbrev dU : Stmt := inClass (top 67) 2
abbrev cL : Stmt := inClass (top 68) 0
abbrev aV : Stmt := inClass (top 68) 1
abbrev dq : Stmt := inClass (top 68) 2
abbrev du : Stmt := inClass (top 69) 0
abbrev bR : Stmt := inClass (top 70) 0
abbrev aO : Stmt := inClass (top 71) 0
abbrev bw : Stmt := inClass (top 71) 1
abbrev aG : Stmt := inClass (top 71) 2
abbrev gB : Stmt := top 72
abbrev gC : Stmt := top 73
abbrev gD : Stmt := top 74
abbrev dW : Stmt := top 75
abbrev eV : Stmt := top 82
abbrev gF : Stmt := top 83
abbrev dX : Stmt := top 84
abbrev dY : Stmt := top 85
abbrev bT : Stmt := inClass (top 86) 0
abbrev bU : Stmt := inClass (top 86) 1
abbrev aW : Stmt := inClass (top 86) 2
abbrev aX : Stmt := inClass (top 86) 3
abbrev aK : Stmt := inClass (top 86) 4
abbrev bF : Stmt := inClass (top 86) 5
abbrev aP : Stmt := inClass (top 86) 6
abbrev aQ : Stmt := inClass (top 86) 7
abbrev bx : Stmt := inClass (top 86) 8
abbrev bz : Stmt := inClass (top 86) 12
abbrev aY : Stmt := inClass (top 86) 13
abbrev eY : Stmt := top 87
abbrev dZ : Stmt := top 89
abbrev gG : Stmt := top 90
abbrev iD : Stmt := top 91
abbrev iG : Stmt := top 92
abbrev eZ : Stmt := top 93
abbrev gH : Stmt := top 94
abbrev fc : Stmt := top 95
abbrev iH : Stmt := top 96
abbrev iI : Stmt := top 97
abbrev fj : Stmt := top 98
abbrev iJ : Stmt := top 99
abbrev dw : Stmt := top 100
abbrev dz : Stmt := top 101
abbrev Je : Stmt := top 102
structure cj where
 sY : Addr
 wM : FuncData
 gM : Addr
 jN : FuncData
 mF : Addr
 rm : FuncData
 jt : Addr
 nJ : FuncData
 qJ : Addr
 u6 : FuncData
 t8 : List Value
 iZ : Addr
 lD : FuncData
 mG : Addr
 rn : FuncData
 ju : Addr
 nM : FuncData
 eH : Addr
 jw : FuncData
 lE : Addr
 lF : FuncData
 pK : Addr
 pL : FuncData
 jx : Addr
 jy : FuncData
 d7 : Addr
 gj : FuncData
 pM : Addr
 pN : FuncData
 jz : Addr
 jA : FuncData
 pO : Addr
 pP : FuncData
 nO : Addr
 nP : FuncData
 rA : Addr
 rB : FuncData
 lG : Addr
 lH : FuncData
 BX : List Value
 pQ : Addr
 pR : FuncData
 oR : Addr
 uc : FuncData
 jB : Addr
 nQ : FuncData
 fu : Addr
 iK : FuncData
 j5 : Addr
 pU : FuncData
 jC : Addr
 nR : FuncData
 j6 : Addr
 pX : FuncData
 wN : Addr
 DK : FuncData
 pY : Addr
 pZ : FuncData
 p6 : Addr
 p7 : FuncData
 Gi : List Value
 lJ : Addr
 lK : FuncData
 lL : Addr
 lM : FuncData
 rC : Addr
 rD : FuncData
 qb : List Value
 j7 : Addr
 j8 : FuncData
 j9 : Addr
 kh : FuncData
 jO : Addr
 jP : FuncData
 fD : Addr
 fG : FuncData
 fH : Addr
 fJ : FuncData
 qd : Addr
 qe : FuncData
 jk : Addr
 jl : FuncData
 jm : Addr
 jn : FuncData
 jD : Addr
 nT : FuncData
 aM : Addr
 aZ : FuncData
 d9 : Addr
 gm : FuncData
 iM : Addr
 iQ : FuncData
 gn : Addr
 gq : FuncData
 iR : Addr
 iT : FuncData
 gO : Addr
 gP : FuncData
 bV : Addr
 bW : FuncData
 qK : Addr
 u9 : FuncData
 mY : Addr
 qL : FuncData
 jV : Addr
 mZ : FuncData
 mH : Addr
 rE : FuncData
 oU : Addr
 ud : FuncData
 qM : Addr
 vd : FuncData
 mJ : Addr
 rF : FuncData
 mK : Addr
 rG : FuncData
 lN : Addr
 lO : FuncData
 jb : Addr
 jc : FuncData
 fX : Addr
 fY : FuncData
 fZ : Addr
 gb : FuncData
 dB : Addr
 dC : FuncData
 il : Addr
 ir : FuncData
 fK : Addr
 fL : FuncData
 fM : Addr
 fO : FuncData
 gQ : Addr
 gR : FuncData
 gU : Addr
 gW : FuncData
 gf : Addr
 gh : FuncData
 oV : Addr
 ue : FuncData
 mL : Addr
 rH : FuncData
 qO : Addr
 vf : FuncData
 qg : Addr
 uf : FuncData
 ug : Addr
 Ae : FuncData
 oW : Addr
 uh : FuncData
 qP : Addr
 vg : FuncData
 oX : Addr
 um : FuncData
 uo : Addr
 Af : FuncData
 uq : Addr
 Ag : FuncData
 oY : Addr
 ur : FuncData
 uv : Addr
 Ah : FuncData
 kj : Addr
 qi : FuncData
 km : Addr
 qj : FuncData
 VJ : Addr
 VL : FuncData
 Zr : Addr
 Jf : Addr
 ou : Addr
 kE : Addr
 VM : Addr
 b8 : Addr
 aR : Addr
 fQ : Addr
 wY : Addr
 Zt : Addr
 kI : Addr
 mO : Addr
 BZ : Addr
 lQ : Addr
 gY : Addr
 ql : Addr
 auE : Addr
 jE : Addr
 lR : Addr
 acu : Addr
 agQ : Addr
 mQ : Addr
 kJ : Addr
 aA : Addr
 mR : Addr
structure Txt (K : W.Frag) (mg : Str → Option Value) (A : cj) : Prop where
 NK : fV K "is_name" "is_name" jT A.sY A.wM
 jW : Binds K A.wM ["thing"] []
 jX : W.keepIn K (.ref A.sY) = true
 jY : mg "is_name" = some (.ref A.sY)
 Ai : fV K "are_unlike_names" "are_unlike_names" bj A.gM A.jN
 Aj : Binds K A.jN ["words"] []
 Al : W.keepIn K (.ref A.gM) = true
 Am : mg "are_unlike_names" = some (.ref A.gM)
 Lj : fV K "are_figures" "are_figures" dJ A.mF A.rm
 yp : Binds K A.rm ["text"] []
 yq : W.keepIn K (.ref A.mF) = true
 yr : mg "are_figures" = some (.ref A.mF)
 Gj : fV K "figures_worth" "figures_worth" cu A.jt A.nJ
 uI : Binds K A.nJ ["figures"] []
 uJ : W.keepIn K (.ref A.jt) = true
 uK : mg "figures_worth" = some (.ref A.jt)
 Rw : Iw K "number_of" "number_of" gA A.t8 A.qJ A.u6
 O3 : Binds K A.u6 ["text", "most"] A.t8
 O5 : Vals [(.int 60)] A.t8
 Rx : W.keepIn K (.ref A.qJ) = true
 Ry : mg "number_of" = some (.ref A.qJ)
 DN : fV K "number_or_none" "number_or_none" bK A.iZ A.lD
 lU : Binds K A.lD ["text"] []
 lV : W.keepIn K (.ref A.iZ) = true
 lW : mg "number_or_none" = some (.ref A.iZ)
 Lk : fV K "money_shown" "money_shown" dM A.mG A.rn
 yt : Binds K A.rn ["hundredths"] []
 yu : W.keepIn K (.ref A.mG) = true
 yw : mg "money_shown" = some (.ref A.mG)
 Gk : fV K "money_or_none" "money_or_none" cA A.ju A.nM
 Gm : Binds K A.nM ["text"] []
 Gn : W.keepIn K (.ref A.ju) = true
 Gp : mg "money_or_none" = some (.ref A.ju)
 uL : fV K "__init__" "Kind.__init__" cB A.eH A.jw
 ig : Binds K A.jw ["self", "low", "high"] []
 DP : fV K "__init__" "YesNo.__init__" bL A.lE A.lF
 DQ : Binds K A.lF ["self"] []
 Jg : fV K "told" "YesNo.told" cV A.pK A.pL
 Jh : Binds K A.pL ["self"] []
 Gq : fV K "shown" "Whole.shown" cD A.jx A.jy
 Gr : Binds K A.jy ["self", "answer"] []
 DR : fV K "bounds" "Whole.bounds" bM A.d7 A.gj
 sZ : Binds K A.gj ["self"] []
 Ji : fV K "told" "Whole.told" cW A.pM A.pN
 Jj : Binds K A.pN ["self"] []
 Gs : fV K "shown" "Money.shown" cF A.jz A.jA
 Gu : Binds K A.jA ["self", "answer"] []
 Jk : fV K "told" "Money.told" cX A.pO A.pP
 Jl : Binds K A.pP ["self"] []
 Gv : fV K "__init__" "Pick.__init__" cG A.nO A.nP
 Gw : Binds K A.nP ["self", "words"] []
 Ln : fV K "told" "Pick.told" dN A.rA A.rB
 Lp : Binds K A.rB ["self"] []
 DW : Iw K "__init__" "Names.__init__" bN A.BX A.lG A.lH
 DX : Binds K A.lH ["self", "most"] []
 Jm : fV K "told" "Names.told" cY A.pQ A.pR
 Jo : Binds K A.pR ["self"] []
 O6 : fV K "are_bounds" "are_bounds" eO A.oR A.uc
 Ca : Binds K A.uc ["numbers"] []
 Cd : W.keepIn K (.ref A.oR) = true
 Ce : mg "are_bounds" = some (.ref A.oR)
 Gx : fV K "whole_or_none" "whole_or_none" cH A.jB A.nQ
 Gy : Binds K A.nQ ["words"] []
 Gz : W.keepIn K (.ref A.jB) = true
 GC : mg "whole_or_none" = some (.ref A.jB)
 vh : fV K "money_kind_or_none" "money_kind_or_none" aN A.fu A.iK
 vm : Binds K A.iK ["words"] []
 vo : W.keepIn K (.ref A.fu) = true
 vp : mg "money_kind_or_none" = some (.ref A.fu)
 Jp : fV K "pick_or_none" "pick_or_none" cZ A.j5 A.pU
 Jq : Binds K A.pU ["words"] []
 Jr : W.keepIn K (.ref A.j5) = true
 Jt : mg "pick_or_none" = some (.ref A.j5)
 GD : fV K "names_or_none" "names_or_none" cJ A.jC A.nR
 GF : Binds K A.nR ["words"] []
 GJ : W.keepIn K (.ref A.jC) = true
 GK : mg "names_or_none" = some (.ref A.jC)
 Ju : fV K "kind_or_none" "kind_or_none" dg A.j6 A.pX
 Jv : Binds K A.pX ["first", "words"] []
 Jw : W.keepIn K (.ref A.j6) = true
 Jx : mg "kind_or_none" = some (.ref A.j6)
 W5 : fV K "kind_of" "kind_of" jU A.wN A.DK
 W6 : Binds K A.DK ["text"] []
 W7 : W.keepIn K (.ref A.wN) = true
 W8 : mg "kind_of" = some (.ref A.wN)
 Jy : fV K "__init__" "Row.__init__" dh A.pY A.pZ
 Jz : Binds K A.pZ ["self", "name"] []
 JB : Iw K "__init__" "Ask.__init__" di A.Gi A.p6 A.p7
 JC : Binds K A.p7 ["self", "name", "kind", "when"] []
 DY : fV K "__init__" "Sheet.__init__" bO A.lJ A.lK
 Ea : Binds K A.lK ["self", "name", "each", "rows", "ways"] []
 Eb : fV K "__init__" "Paper.__init__" bQ A.lL A.lM
 Ec : Binds K A.lM ["self", "name", "sheets", "totals"] []
 Lq : Iw K "__init__" "Is.__init__" dO A.qb A.rC A.rD
 JD : Binds K A.rD ["self", "name", "word", "place"] A.qb
 JF : Vals [.non] A.qb
 O7 : fV K "shown" "Is.shown" eQ A.j7 A.j8
 O8 : Binds K A.j8 ["self"] []
 O9 : fV K "atoms" "Is.atoms" eU A.j9 A.kh
 Pa : Binds K A.kh ["self"] []
 An : fV K "__init__" "Compare.__init__" bu A.jO A.jP
 Ao : Binds K A.jP ["self", "name", "how", "number"] []
 Cg : fV K "shown" "Compare.shown" bC A.fD A.fG
 Ci : Binds K A.fG ["self"] []
 Cj : fV K "atoms" "Compare.atoms" bD A.fH A.fJ
 Ck : Binds K A.fJ ["self"] []
 JG : fV K "__init__" "Not.__init__" dm A.qd A.qe
 vq : Binds K A.qe ["self", "test"] []
 Lr : fV K "shown" "Not.shown" dR A.jk A.jl
 Ls : Binds K A.jl ["self"] []
 Lw : fV K "atoms" "Not.atoms" dU A.jm A.jn
 Lx : Binds K A.jn ["self"] []
 GP : fV K "__init__" "Pair.__init__" cL A.jD A.nT
 uM : Binds K A.nT ["self", "one", "other"] []
 wZ : fV K "shown_with" "Pair.shown_with" aV A.aM A.aZ
 oA : Binds K A.aZ ["self", "word"] []
 JH : fV K "atoms" "Pair.atoms" dq A.d9 A.gm
 vy : Binds K A.gm ["self"] []
 JK : fV K "shown" "Both.shown" du A.iM A.iQ
 JL : Binds K A.iQ ["self"] []
 Ed : fV K "shown" "Either.shown" bR A.gn A.gq
 Ef : Binds K A.gq ["self"] []
 vz : fV K "__init__" "WordsLeft.__init__" aO A.iR A.iT
 vA : Binds K A.iT ["self", "words"] []
 Aq : fV K "take" "WordsLeft.take" bw A.gO A.gP
 Ar : Binds K A.gP ["self"] []
 oZ : fV K "are_all_taken" "WordsLeft.are_all_taken" aG A.bV A.bW
 o4 : Binds K A.bW ["self"] []
 Rz : fV K "read_atom" "read_atom" gB A.qK A.u9
 Fw : Binds K A.u9 ["name", "how", "what"] []
 Fx : W.keepIn K (.ref A.qK) = true
 Fy : mg "read_atom" = some (.ref A.qK)
 RB : fV K "read_pair" "read_pair" gC A.mY A.qL
 Fz : Binds K A.qL ["left", "deepest"] []
 FJ : W.keepIn K (.ref A.mY) = true
 FN : mg "read_pair" = some (.ref A.mY)
 FP : fV K "read_next" "read_next" gD A.jV A.mZ
 m5 : Binds K A.mZ ["left", "deepest"] []
 m6 : W.keepIn K (.ref A.jV) = true
 m7 : mg "read_next" = some (.ref A.jV)
 Ly : fV K "read_saying" "read_saying" dW A.mH A.rE
 Lz : Binds K A.rE ["text"] []
 LC : W.keepIn K (.ref A.mH) = true
 LK : mg "read_saying" = some (.ref A.mH)
 Pb : fV K "shown_when" "shown_when" eV A.oU A.ud
 Cm : Binds K A.ud ["saying"] []
 Cp : W.keepIn K (.ref A.oU) = true
 Cq : mg "shown_when" = some (.ref A.oU)
 RC : fV K "shown_row" "shown_row" gF A.qM A.vd
 RD : Binds K A.vd ["row"] []
 RG : W.keepIn K (.ref A.qM) = true
 RJ : mg "shown_row" = some (.ref A.qM)
 LQ : fV K "shown_sheet" "shown_sheet" dX A.mJ A.rF
 LR : Binds K A.rF ["sheet"] []
 Ma : W.keepIn K (.ref A.mJ) = true
 Mf : mg "shown_sheet" = some (.ref A.mJ)
 Mg : fV K "shown_paper" "shown_paper" dY A.mK A.rG
 Mh : Binds K A.rG ["paper"] []
 Mi : W.keepIn K (.ref A.mK) = true
 Mj : mg "shown_paper" = some (.ref A.mK)
 Eg : fV K "__init__" "Draft.__init__" bT A.lN A.lO
 Eh : Binds K A.lO ["self"] []
 Ei : fV K "demand" "Draft.demand" bU A.jb A.jc
 Ej : Binds K A.jc ["self", "so"] []
 w5 : fV K "read_test" "Draft.read_test" aW A.fX A.fY
 xf : Binds K A.fY ["self", "text"] []
 xg : fV K "read_when" "Draft.read_when" aX A.fZ A.gb
 xj : Binds K A.gb ["self", "parted"] []
 tu : fV K "sheet_to_fill" "Draft.sheet_to_fill" aK A.dB A.dC
 tD : Binds K A.dC ["self"] []
 Cr : fV K "put_row" "Draft.put_row" bF A.il A.ir
 Cu : Binds K A.ir ["self", "row"] []
 vB : fV K "take_paper" "Draft.take_paper" aP A.fK A.fL
 vC : Binds K A.fL ["self", "rest"] []
 vD : fV K "take_sheet" "Draft.take_sheet" aQ A.fM A.fO
 vG : Binds K A.fO ["self", "rest"] []
 Av : fV K "take_ask" "Draft.take_ask" bx A.gQ A.gR
 Aw : Binds K A.gR ["self", "rest"] []
 Ax : fV K "take_row" "Draft.take_row" bz A.gU A.gW
 Ay : Binds K A.gW ["self", "first", "rest"] []
 xm : fV K "take_line" "Draft.take_line" aY A.gf A.gh
 xn : Binds K A.gh ["self", "line"] []
 Pg : fV K "read_paper" "read_paper" eY A.oV A.ue
 Ph : Binds K A.ue ["text"] []
 Pj : W.keepIn K (.ref A.oV) = true
 Pk : mg "read_paper" = some (.ref A.oV)
 Ml : fV K "_law_cell_at" "_law_cell_at" dZ A.mL A.rH
 yx : Binds K A.rH ["_law_script", "_law_k"] []
 yz : W.keepIn K (.ref A.mL) = true
 za : mg "_law_cell_at" = some (.ref A.mL)
 RK : fV K "_law_mixed" "_law_mixed" gG A.qO A.vf
 cM : Binds K A.vf ["_law_cell", "_law_k"] []
 cN : W.keepIn K (.ref A.qO) = true
 cO : mg "_law_mixed" = some (.ref A.qO)
 JM : fV K "_law_open" "_law_open" iD A.qg A.uf
 Az : Binds K A.uf ["_law_word"] []
 Ba : W.keepIn K (.ref A.qg) = true
 Bb : mg "_law_open" = some (.ref A.qg)
 Uk : fV K "_law_name" "_law_name" iG A.ug A.Ae
 lX : Binds K A.Ae ["_law_cell"] []
 lY : W.keepIn K (.ref A.ug) = true
 lZ : mg "_law_name" = some (.ref A.ug)
 Pn : fV K "_law_number" "_law_number" eZ A.oW A.uh
 Cv : Binds K A.uh ["_law_cell"] []
 Cw : W.keepIn K (.ref A.oW) = true
 Cy : mg "_law_number" = some (.ref A.oW)
 RL : fV K "_law_money" "_law_money" gH A.qP A.vg
 FQ : Binds K A.vg ["_law_number_here"] []
 FT : W.keepIn K (.ref A.qP) = true
 FZ : mg "_law_money" = some (.ref A.qP)
 Pq : fV K "_law_picked" "_law_picked" fc A.oX A.um
 Pr : Binds K A.um ["_law_cell"] []
 Pu : W.keepIn K (.ref A.oX) = true
 Px : mg "_law_picked" = some (.ref A.oX)
 Ul : fV K "_law_kind" "_law_kind" iH A.uo A.Af
 Um : Binds K A.Af ["_law_cell"] []
 Uo : W.keepIn K (.ref A.uo) = true
 Up : mg "_law_kind" = some (.ref A.uo)
 Uq : fV K "_law_atom" "_law_atom" iI A.uq A.Ag
 Ur : Binds K A.Ag ["_law_cell"] []
 Us : W.keepIn K (.ref A.uq) = true
 Ut : mg "_law_atom" = some (.ref A.uq)
 Py : fV K "_law_saying" "_law_saying" fj A.oY A.ur
 uw : Binds K A.ur ["_law_cell", "_law_deep"] []
 ux : W.keepIn K (.ref A.oY) = true
 uy : mg "_law_saying" = some (.ref A.oY)
 Uu : fV K "_law_rows" "_law_rows" iJ A.uv A.Ah
 Uv : Binds K A.Ah ["_law_script"] []
 Uw : W.keepIn K (.ref A.uv) = true
 Ux : mg "_law_rows" = some (.ref A.uv)
 JN : fV K "_law_row_text" "_law_row_text" dw A.kj A.qi
 JQ : Binds K A.qi ["_law_row"] []
 JR : W.keepIn K (.ref A.kj) = true
 JS : mg "_law_row_text" = some (.ref A.kj)
 JV : fV K "_law_row_fits" "_law_row_fits" dz A.km A.qj
 JW : Binds K A.qj ["_law_found", "_law_due"] []
 JX : W.keepIn K (.ref A.km) = true
 JZ : mg "_law_row_fits" = some (.ref A.km)
 acv : fV K "law" "law" Je A.VJ A.VL
 agR : mg "law" = some (.ref A.VJ)
 W9 : mX mg "DEEPEST" (.int 8)
 J0 : mX mg "FEWEST_WORDS" (.int 2)
 NP : mX mg "FIGURES" (.str "0123456789")
 adB : mX mg "HOWS" (.ref A.Zr)
 adC : ∀ H, o8 K H A.Zr [(.str "<"), (.str "="), (.str ">")]
 NQ : mX mg "LETTERS" (.str "abcdefghijklmnopqrstuvwxyz")
 vH : mX mg "LONGEST_NAME" (.int 12)
 vI : mX mg "MOST_ATOMS_reading" (.int 60)
 vJ : mX mg "MOST_ATOMS_sayings" (.int 16)
 J1 : mX mg "MOST_FIGURES" (.int 60)
 Pz : mX mg "MOST_NAMES" (.int 6)
 RM : mX mg "MOST_ROWS" (.int 100)
 Mm : mX mg "MOST_SHEETS" (.int 12)
 PB : mX mg "MOST_WORDS" (.int 6)
 J2 : mX mg "NO_NAMES" (.ref A.Jf)
 J3 : ∀ H, o8 K H A.Jf [(.str "and"), (.str "each"), (.str "end"), (.str "is"), (.str "not"), (.str "or"), (.str "unless"), (.str "when")]
 acw : mg "abs" = none
 VN : mg "all" = none
 b7 : mg "isinstance" = none
 gJ : mg "len" = none
 J4 : mg "list" = none
 abz : mg "range" = none
 agS : mg "set" = none
 m8 : mg "str" = none
 agT : mg "zip" = none
 Zu : W.kitOne K (.type "NoneType") (.type "int") = some false
 adD : W.kitOne K (.type "bool") (.type "int") = some true
 afS : W.kitOne K (.type "int") (.type "int") = some true
 Xa : W.kitOne K (.type "str") (.type "int") = some false
 adE : W.kitOne K (.type "list") (.type "int") = some false
 acx : W.kitOne K (.type "tuple") (.type "int") = some false
 adF : W.kitOne K (.type "dict") (.type "int") = some false
 XF : W.kitOne K (.type "NoneType") (.type "bool") = some false
 acy : W.kitOne K (.type "bool") (.type "bool") = some true
 adG : W.kitOne K (.type "int") (.type "bool") = some false
 Uy : W.kitOne K (.type "str") (.type "bool") = some false
 acz : W.kitOne K (.type "list") (.type "bool") = some false
 abA : W.kitOne K (.type "tuple") (.type "bool") = some false
 acA : W.kitOne K (.type "dict") (.type "bool") = some false
 Zv : W.kitOne K (.type "NoneType") (.type "str") = some false
 adH : W.kitOne K (.type "bool") (.type "str") = some false
 afT : W.kitOne K (.type "int") (.type "str") = some false
 mj : W.kitOne K (.type "str") (.type "str") = some true
 adI : W.kitOne K (.type "list") (.type "str") = some false
 acB : W.kitOne K (.type "tuple") (.type "str") = some false
 adJ : W.kitOne K (.type "dict") (.type "str") = some false
 agU : mg "Ask" = some (.ref A.ou)
 acC : mX mg "Ask" (.ref A.ou)
 adK : mg "Both" = some (.ref A.kE)
 abB : mX mg "Check" (.ref A.VM)
 Xb : mg "Compare" = some (.ref A.b8)
 abC : mg "Draft" = some (.ref A.aR)
 Zw : mg "Either" = some (.ref A.fQ)
 auF : mg "Is" = some (.ref A.wY)
 Uz : mg "Kind" = some (.ref A.Zt)
 abD : mg "Money" = some (.ref A.kI)
 abE : mg "Names" = some (.ref A.mO)
 RN : mg "NoKind" = some (.ref A.BZ)
 Bc : mg "NoNumber" = some (.ref A.lQ)
 mq : mg "NoSaying" = some (.ref A.gY)
 acD : mg "Not" = some (.ref A.ql)
 abF : mg "Paper" = some (.ref A.jE)
 adL : mg "Pick" = some (.ref A.lR)
 agV : mg "Row" = some (.ref A.acu)
 abG : mg "Sheet" = some (.ref A.mQ)
 abH : mg "Whole" = some (.ref A.kJ)
 RP : mg "WordsLeft" = some (.ref A.aA)
 abI : mg "YesNo" = some (.ref A.mR)
 RQ : W.excIn K A.BZ Iu "ValueError.__new__" = true
 J5 : W.excIn K A.lQ Iu "ValueError.__new__" = true
 my : W.excIn K A.gY Iu "ValueError.__new__" = true
 vK : W.exmOne K (.ref A.lQ) (.ref A.lQ) = some true
 GQ : W.kitOne K (.ref A.wY) (.ref A.aA) = some false
 vL : W.kitOne K (.ref A.b8) (.ref A.aA) = some false
 Ek : W.kitOne K (.ref A.ql) (.ref A.aA) = some false
 Cz : W.kitOne K (.ref A.kE) (.ref A.aA) = some false
 xq : W.kitOne K (.ref A.fQ) (.ref A.aA) = some false
 Zx : W.kitOne K (.ref A.wY) (.ref A.wY) = some true
 Bd : W.kitOne K (.ref A.b8) (.ref A.b8) = some true
 UG : W.kitOne K (.ref A.ql) (.ref A.ql) = some true
 PJ : W.kitOne K (.ref A.kE) (.ref A.kE) = some true
 El : W.kitOne K (.ref A.fQ) (.ref A.fQ) = some true
 J6 : W.kitOne K (.ref A.ou) (.ref A.ou) = some true
 PK : W.kitOne K (.ref A.ou) (.ref A.VM) = some false
 J7 : yh K A.wY
 agW : Mk K A.wY A.rC
 RT : Meth K A.wY "shown" A.j7
 RV : Meth K A.wY "atoms" A.j9
 J8 : aC K A.wY "name"
 J9 : aC K A.wY "word"
 RW : aC K A.wY "place"
 iU : yh K A.b8
 UJ : Mk K A.b8 A.jO
 Em : Meth K A.b8 "shown" A.fD
 En : Meth K A.b8 "atoms" A.fH
 uN : aC K A.b8 "name"
 vM : aC K A.b8 "how"
 qQ : aC K A.b8 "number"
 Ka : yh K A.ql
 Zy : Mk K A.ql A.qd
 PL : Meth K A.ql "shown" A.jk
 PN : Meth K A.ql "atoms" A.jm
 vN : aC K A.ql "test"
 wO : yh K A.kE
 abJ : Mk K A.kE A.jD
 Mp : Meth K A.kE "shown" A.iM
 Mq : Meth K A.kE "atoms" A.d9
 Be : Meth K A.kE "shown_with" A.aM
 vO : aC K A.kE "one"
 rJ : aC K A.kE "other"
 ph : yh K A.fQ
 Xc : Mk K A.fQ A.jD
 GR : Meth K A.fQ "shown" A.gn
 GX : Meth K A.fQ "atoms" A.d9
 vP : Meth K A.fQ "shown_with" A.aM
 rK : aC K A.fQ "one"
 nU : aC K A.fQ "other"
 bH : yh K A.aA
 PQ : Mk K A.aA A.iR
 CG : Meth K A.aA "take" A.gO
 qm : Meth K A.aA "are_all_taken" A.bV
 gZ : aC K A.aA "words"
 cQ : aC K A.aA "taken"
 RX : yh K A.mR
 Zz : Mk K A.mR A.lE
 Mr : Meth K A.mR "told" A.pK
 PX : aC K A.mR "low"
 Ms : aC K A.mR "high"
 vQ : yh K A.kJ
 ZC : Mk K A.kJ A.eH
 Kc : Meth K A.kJ "shown" A.jx
 Mt : Meth K A.kJ "told" A.pM
 GZ : Meth K A.kJ "bounds" A.d7
 CJ : aC K A.kJ "low"
 zb : aC K A.kJ "high"
 vR : yh K A.kI
 ZD : Mk K A.kI A.eH
 Kd : Meth K A.kI "shown" A.jz
 Mv : Meth K A.kI "told" A.pO
 G4 : Meth K A.kI "bounds" A.d7
 CK : aC K A.kI "low"
 zc : aC K A.kI "high"
 HB : yh K A.lR
 abK : Mk K A.lR A.nO
 P0 : Meth K A.lR "told" A.rA
 RZ : aC K A.lR "low"
 Qa : aC K A.lR "high"
 zf : aC K A.lR "words"
 Ke : yh K A.mO
 ZF : Mk K A.mO A.lG
 Mw : Meth K A.mO "told" A.pQ
 Qc : aC K A.mO "low"
 zg : aC K A.mO "high"
 nW : yh K A.ou
 UL : ∀ (H : Hp) (a dx : Addr) (fs : List (Str × V)), H a = some (.ins A.ou dx fs) → au K H (.ref a) (.ref A.ou)
 adM : Mk K A.ou A.p6
 qR : aC K A.ou "name"
 vU : aC K A.ou "kind"
 m9 : aC K A.ou "when"
 eE : yh K A.mQ
 ZG : Mk K A.mQ A.lJ
 rM : aC K A.mQ "name"
 rN : aC K A.mQ "each"
 jo : aC K A.mQ "rows"
 mU : aC K A.mQ "ways"
 jq : yh K A.jE
 ZJ : Mk K A.jE A.lL
 rO : aC K A.jE "name"
 jF : aC K A.jE "sheets"
 nY : aC K A.jE "totals"
 aJ : yh K A.aR
 ZK : Mk K A.aR A.lN
 G5 : Meth K A.aR "demand" A.jb
 Bf : Meth K A.aR "read_test" A.fX
 Bg : Meth K A.aR "read_when" A.fZ
 uz : Meth K A.aR "sheet_to_fill" A.dB
 Eo : Meth K A.aR "put_row" A.il
 xr : Meth K A.aR "take_paper" A.fK
 xx : Meth K A.aR "take_sheet" A.fM
 CN : Meth K A.aR "take_ask" A.gQ
 CP : Meth K A.aR "take_row" A.gU
 Bh : Meth K A.aR "take_line" A.gf
 rP : aC K A.aR "name"
 dF : aC K A.aR "sheets"
 jG : aC K A.aR "totals"
 jh : aC K A.aR "atoms_read"
 kO : aC K A.aR "place"
 uA : Y0 K A.Zt "__init__" A.eH
 R3 : Y0 K A.acu "__init__" A.pY
theorem Kf : aq ["thing"] ["thing"] (aa jT) := ⟨rfl, rfl, rfl, by symm, rfl, by symm, by symm⟩
theorem xZ : aq ["words"] ["words"] (aa bj) := ⟨rfl, rfl, rfl, by symm, rfl, by symm, by symm⟩
theorem Kg : aq ["text"] ["text"] (aa dJ) := ⟨rfl, rfl, rfl, by symm, rfl, by symm, by symm⟩
theorem jd : aq ["figures", "worth", "sign"] ["figures"] (aa cu) := ⟨rfl, rfl, rfl, by symm, rfl, by symm, by symm⟩
theorem o5 : aq ["text", "most", "below", "figures", "worth"] ["text", "most"] (aa gA) := ⟨rfl, rfl, rfl, by symm, rfl, by symm, by symm⟩
theorem CQ : aq ["text"] ["text"] (aa bK) := ⟨rfl, rfl, rfl, by symm, rfl, by symm, by symm⟩
theorem qp : aq ["hundredths", "figures", "minus"] ["hundredths"] (aa dM) := ⟨rfl, rfl, rfl, by symm, rfl, by symm, by symm⟩
theorem je : aq ["text", "figures", "worth", "hundredths"] ["text"] (aa cA) := ⟨rfl, rfl, rfl, by symm, rfl, by symm, by symm⟩
theorem tE : aq ["self", "low", "high"] ["self", "low", "high"] (aa cB) := ⟨rfl, rfl, rfl, by symm, rfl, by symm, by symm⟩
theorem CT : aq ["self"] ["self"] (aa bL) := ⟨rfl, rfl, rfl, by symm, rfl, by symm, by symm⟩
theorem G6 : aq ["self"] ["self"] (aa cV) := ⟨rfl, rfl, rfl, by symm, rfl, by symm, by symm⟩
theorem Ep : aq ["self", "answer"] ["self", "answer"] (aa cD) := ⟨rfl, rfl, rfl, by symm, rfl, by symm, by symm⟩
theorem CV : aq ["self"] ["self"] (aa bM) := ⟨rfl, rfl, rfl, by symm, rfl, by symm, by symm⟩
theorem G7 : aq ["self"] ["self"] (aa cW) := ⟨rfl, rfl, rfl, by symm, rfl, by symm, by symm⟩
theorem Er : aq ["self", "answer"] ["self", "answer"] (aa cF) := ⟨rfl, rfl, rfl, by symm, rfl, by symm, by symm⟩
theorem G8 : aq ["self"] ["self"] (aa cX) := ⟨rfl, rfl, rfl, by symm, rfl, by symm, by symm⟩
theorem Es : aq ["self", "words"] ["self", "words"] (aa cG) := ⟨rfl, rfl, rfl, by symm, rfl, by symm, by symm⟩
theorem Kh : aq ["self"] ["self"] (aa dN) := ⟨rfl, rfl, rfl, by symm, rfl, by symm, by symm⟩
theorem CW : aq ["self", "most"] ["self", "most"] (aa bN) := ⟨rfl, rfl, rfl, by symm, rfl, by symm, by symm⟩
theorem G9 : aq ["self"] ["self"] (aa cY) := ⟨rfl, rfl, rfl, by symm, rfl, by symm, by symm⟩
theorem Mx : aq ["numbers"] ["numbers"] (aa eO) := ⟨rfl, rfl, rfl, by symm, rfl, by symm, by symm⟩
theorem tG : aq ["words", "numbers"] ["words"] (aa cH) := ⟨rfl, rfl, rfl, by symm, rfl, by symm, by symm⟩
theorem lA : aq ["words", "numbers"] ["words"] (aa aN) := ⟨rfl, rfl, rfl, by symm, rfl, by symm, by symm⟩
theorem Ha : aq ["words"] ["words"] (aa cZ) := ⟨rfl, rfl, rfl, by symm, rfl, by symm, by symm⟩
theorem tH : aq ["words", "most"] ["words"] (aa cJ) := ⟨rfl, rfl, rfl, by symm, rfl, by symm, by symm⟩
theorem Hb : aq ["first", "words"] ["first", "words"] (aa dg) := ⟨rfl, rfl, rfl, by symm, rfl, by symm, by symm⟩
theorem Bj : aq ["text", "words", "kind"] ["text"] (aa jU) := ⟨rfl, rfl, rfl, by symm, rfl, by symm, by symm⟩
theorem Hc : aq ["self", "name"] ["self", "name"] (aa dh) := ⟨rfl, rfl, rfl, by symm, rfl, by symm, by symm⟩
theorem Hd : aq ["self", "name", "kind", "when"] ["self", "name", "kind", "when"] (aa di) := ⟨rfl, rfl, rfl, by symm, rfl, by symm, by symm⟩
theorem CZ : aq ["self", "name", "each", "rows", "ways"] ["self", "name", "each", "rows", "ways"] (aa bO) := ⟨rfl, rfl, rfl, by symm, rfl, by symm, by symm⟩
theorem Dc : aq ["self", "name", "sheets", "totals"] ["self", "name", "sheets", "totals"] (aa bQ) := ⟨rfl, rfl, rfl, by symm, rfl, by symm, by symm⟩
theorem Kl : aq ["self", "name", "word", "place"] ["self", "name", "word", "place"] (aa dO) := ⟨rfl, rfl, rfl, by symm, rfl, by symm, by symm⟩
theorem My : aq ["self"] ["self"] (aa eQ) := ⟨rfl, rfl, rfl, by symm, rfl, by symm, by symm⟩
theorem Mz : aq ["self"] ["self"] (aa eU) := ⟨rfl, rfl, rfl, by symm, rfl, by symm, by symm⟩
theorem yc : aq ["self", "name", "how", "number"] ["self", "name", "how", "number"] (aa bu) := ⟨rfl, rfl, rfl, by symm, rfl, by symm, by symm⟩
theorem Bk : aq ["self"] ["self"] (aa bC) := ⟨rfl, rfl, rfl, by symm, rfl, by symm, by symm⟩
theorem Bl : aq ["self"] ["self"] (aa bD) := ⟨rfl, rfl, rfl, by symm, rfl, by symm, by symm⟩
theorem Hf : aq ["self", "test"] ["self", "test"] (aa dm) := ⟨rfl, rfl, rfl, by symm, rfl, by symm, by symm⟩
theorem Km : aq ["self"] ["self"] (aa dR) := ⟨rfl, rfl, rfl, by symm, rfl, by symm, by symm⟩
theorem Ko : aq ["self"] ["self"] (aa dU) := ⟨rfl, rfl, rfl, by symm, rfl, by symm, by symm⟩
theorem Et : aq ["self", "one", "other"] ["self", "one", "other"] (aa cL) := ⟨rfl, rfl, rfl, by symm, rfl, by symm, by symm⟩
theorem vV : aq ["self", "word"] ["self", "word"] (aa aV) := ⟨rfl, rfl, rfl, by symm, rfl, by symm, by symm⟩
theorem Hg : aq ["self"] ["self"] (aa dq) := ⟨rfl, rfl, rfl, by symm, rfl, by symm, by symm⟩
theorem Hh : aq ["self"] ["self"] (aa du) := ⟨rfl, rfl, rfl, by symm, rfl, by symm, by symm⟩
theorem Dd : aq ["self"] ["self"] (aa bR) := ⟨rfl, rfl, rfl, by symm, rfl, by symm, by symm⟩
theorem uR : aq ["self", "words"] ["self", "words"] (aa aO) := ⟨rfl, rfl, rfl, by symm, rfl, by symm, by symm⟩
theorem oE : aq ["self", "word"] ["self"] (aa bw) := ⟨rfl, rfl, rfl, by symm, rfl, by symm, by symm⟩
theorem nZ : aq ["self"] ["self"] (aa aG) := ⟨rfl, rfl, rfl, by symm, rfl, by symm, by symm⟩
theorem De : aq ["name", "how", "what", "number"] ["name", "how", "what"] (aa gB) := ⟨rfl, rfl, rfl, by symm, rfl, by symm, by symm⟩
theorem kW : aq ["left", "deepest", "one", "word", "other", "closed"] ["left", "deepest"] (aa gC) := ⟨rfl, rfl, rfl, by symm, rfl, by symm, by symm⟩
theorem o6 : aq ["left", "deepest", "first"] ["left", "deepest"] (aa gD) := ⟨rfl, rfl, rfl, by symm, rfl, by symm, by symm⟩
theorem qt : aq ["text", "left", "saying"] ["text"] (aa dW) := ⟨rfl, rfl, rfl, by symm, rfl, by symm, by symm⟩
theorem MF : aq ["saying"] ["saying"] (aa eV) := ⟨rfl, rfl, rfl, by symm, rfl, by symm, by symm⟩
theorem Qd : aq ["row"] ["row"] (aa gF) := ⟨rfl, rfl, rfl, by symm, rfl, by symm, by symm⟩
theorem kY : aq ["sheet", "each", "rows", "ways"] ["sheet"] (aa dX) := ⟨rfl, rfl, rfl, by symm, rfl, by symm, by symm⟩
theorem qu : aq ["paper", "lines", "sheet"] ["paper"] (aa dY) := ⟨rfl, rfl, rfl, by symm, rfl, by symm, by symm⟩
theorem Df : aq ["self"] ["self"] (aa bT) := ⟨rfl, rfl, rfl, by symm, rfl, by symm, by symm⟩
theorem Dg : aq ["self", "so"] ["self", "so"] (aa bU) := ⟨rfl, rfl, rfl, by symm, rfl, by symm, by symm⟩
theorem nq : aq ["self", "text", "saying"] ["self", "text"] (aa aW) := ⟨rfl, rfl, rfl, by symm, rfl, by symm, by symm⟩
theorem vW : aq ["self", "parted"] ["self", "parted"] (aa aX) := ⟨rfl, rfl, rfl, by symm, rfl, by symm, by symm⟩
theorem rQ : aq ["self"] ["self"] (aa aK) := ⟨rfl, rfl, rfl, by symm, rfl, by symm, by symm⟩
theorem qw : aq ["self", "row", "sheet"] ["self", "row"] (aa bF) := ⟨rfl, rfl, rfl, by symm, rfl, by symm, by symm⟩
theorem uT : aq ["self", "rest"] ["self", "rest"] (aa aP) := ⟨rfl, rfl, rfl, by symm, rfl, by symm, by symm⟩
theorem ik : aq ["self", "rest", "parted", "again"] ["self", "rest"] (aa aQ) := ⟨rfl, rfl, rfl, by symm, rfl, by symm, by symm⟩
theorem ji : aq ["self", "rest", "parted", "named"] ["self", "rest"] (aa bx) := ⟨rfl, rfl, rfl, by symm, rfl, by symm, by symm⟩
theorem yd : aq ["self", "first", "rest"] ["self", "first", "rest"] (aa bz) := ⟨rfl, rfl, rfl, by symm, rfl, by symm, by symm⟩
theorem nu : aq ["self", "line", "parted"] ["self", "line"] (aa aY) := ⟨rfl, rfl, rfl, by symm, rfl, by symm, by symm⟩
theorem rR : aq ["text", "draft", "line"] ["text"] (aa eY) := ⟨rfl, rfl, rfl, by symm, rfl, by symm, by symm⟩
theorem Kp : aq ["_law_script", "_law_k"] ["_law_script", "_law_k"] (aa dZ) := ⟨rfl, rfl, rfl, by symm, rfl, by symm, by symm⟩
theorem Dh : aq ["_law_cell", "_law_k", "_law_number_here"] ["_law_cell", "_law_k"] (aa gG) := ⟨rfl, rfl, rfl, by symm, rfl, by symm, by symm⟩
theorem Ga : aq ["_law_word"] ["_law_word"] (aa iD) := ⟨rfl, rfl, rfl, by symm, rfl, by symm, by symm⟩
theorem jZ : aq ["_law_cell", "_law_number_here", "_law_word", "_law_k"] ["_law_cell"] (aa iG) := ⟨rfl, rfl, rfl, by symm, rfl, by symm, by symm⟩
theorem MJ : aq ["_law_cell"] ["_law_cell"] (aa eZ) := ⟨rfl, rfl, rfl, by symm, rfl, by symm, by symm⟩
theorem Di : aq ["_law_number_here", "_law_figures"] ["_law_number_here"] (aa gH) := ⟨rfl, rfl, rfl, by symm, rfl, by symm, by symm⟩
theorem zj : aq ["_law_cell", "_law_word"] ["_law_cell"] (aa fc) := ⟨rfl, rfl, rfl, by symm, rfl, by symm, by symm⟩
theorem qT : aq ["_law_cell", "_law_low", "_law_high"] ["_law_cell"] (aa iH) := ⟨rfl, rfl, rfl, by symm, rfl, by symm, by symm⟩
theorem vX : aq ["_law_cell", "_law_name_here", "_law_word"] ["_law_cell"] (aa iI) := ⟨rfl, rfl, rfl, by symm, rfl, by symm, by symm⟩
theorem mV : aq ["_law_cell", "_law_deep", "_law_way", "_law_one", "_law_other"] ["_law_cell", "_law_deep"] (aa fj) := ⟨rfl, rfl, rfl, by symm, rfl, by symm, by symm⟩
theorem nA : aq ["_law_script", "_law_rows_here", "_law_cell", "_law_saying_here"] ["_law_script"] (aa iJ) := ⟨rfl, rfl, rfl, by symm, rfl, by symm, by symm⟩
theorem Hi : aq ["_law_row"] ["_law_row"] (aa dw) := ⟨rfl, rfl, rfl, by symm, rfl, by symm, by symm⟩
theorem Hj : aq ["_law_found", "_law_due"] ["_law_found", "_law_due"] (aa dz) := ⟨rfl, rfl, rfl, by symm, rfl, by symm, by symm⟩
theorem rT : aq ["_law_script", "_law_name_here", "_law_other", "_law_rows_here", "_law_text", "_law_paper", "_law_sheet", "_law_found", "_law_due", "_law_told"] ["_law_script"] (aa Je) := ⟨rfl, rfl, rfl, by symm, rfl, by symm, by symm⟩
seal PE PT PW PA PS j0 PG tR PI PO iz iW uH aU iB qZ rZ PC uZ
local macro_rules | `(tactic| walk_at "rd1") => `(tactic| first
 | (refine And.intro rfl ?_)
 | (refine And.intro (by assumption) ?_)
 | (refine And.intro (fun _ e => e) ?_)
 | (refine And.intro (au.str _) ?_) | (refine And.intro (au.int _) ?_) | (refine And.intro (au.bl _) ?_) | (refine And.intro au.non ?_)
 | (refine bJ ?_) | (refine bh ?_)
 | (apply Exists.intro))
local macro_rules | `(tactic| walk_at "rd") => `(tactic| repeat (walk_at "rd1"))
def agX : Sp := fun vs H Q _ => ∃ z, vs = [.str z] ∧ z.length ≤ sizeLine ∧ ∀ H', az H H' → Q (.bl (Gh (cd z))) H'
def abL : Sp := fun vs H Q _ => ∃ z, vs = [.str z] ∧ z.length ≤ 1000 ∧ (cd z).all inF = true ∧ Q (.int (val (cd z))) H
def agY (K : W.Frag) (A : cj) : Sp := fun vs H Q E => ∃ x most, vs = [x, .int most] ∧ 1 ≤ most ∧ ((∃ z, x = .str z ∧ bA 1000 z ∧ (∀ n H', az H H' → gK (cd z) most = some n → Q (.int n) H') ∧ (∀ H', az H H' → gK (cd z) most = none → E (.ref A.lQ) none H')) ∨ (∃ t, XC K H x t ∧ W.kitOne K t (.type "str") = some false ∧ ∀ H', az H H' → E (.ref A.lQ) none H'))
section
variable {P : Program} {w : World} {K : W.Frag} {mg : Str → Option Value} {base : Heap} {A : cj}
theorem vY (T : Txt K mg A) : aB P w K mg base aL 1 A.mF A.rm ["text"] agX := by
 refine T.Lj.ok Kg (fun vs H Q E h => ?_) (fun cdv A0 outer s H vs Q E hr h => ?_)
 · obtain ⟨x, rfl, _⟩ := h
   rfl
 obtain ⟨z, rfl, hz, q⟩ := h
 refine ⟨_, (zD (zM (pD (yI HY (zW xW (by rfl) T.gJ PySem.boot_len (zA (pv 0) zB)) zF (zO _)) (pC (zW (Bx rfl) (by rfl) T.VN Bt.all (zA (pH (yX (x := "sign") (M := ["text"]) rfl (by rfl)) rfl (Dv (pv 0)) (fun _ _ _ _ => (yI Dq (pv 0) (xO rfl T.NP) (by rfl)))) zB)))))), ?_⟩
 walk_at "rd"
 refine dD (fun c => ?_) (fun c => ?_)
 · walk_at "rd"
   refine sy hz (fun i ys H' => H' = H ∧ ys = ((cd z).take i).map fun c => V.bl (inF c)) ⟨rfl, rfl⟩ (fun i c ys H' hc hl hw => ?_) (fun ys H' hl hw p hp => ?_)
   · obtain ⟨rfl, rfl⟩ := hw
     walk_at "rd"
     rw [List.take_succ, hc]
     simp [inF, YQ]
   · obtain ⟨rfl, rfl⟩ := hw
     have e : (cd z).take z.length = cd z := List.take_of_length_le (by rw [yE]; exact Nat.le_refl _)
     rw [e]
     refine ⟨p, (cd z).map inF, rfl, bG.of (by rw [zE, List.map_map]; rfl), ?_⟩
     have e2 : Gh (cd z) = ((cd z).map inF).all id := by
       unfold Gh
       have c' : (0 : Int) < z.length := of_decide_eq_true c
       rw [decide_eq_true (by rw [← yE]; omega), List.all_map]
       rfl
     rw [e2] at q
     exact q _ (zS hp _)
 · have e : Gh (cd z) = false := by
     unfold Gh
     have c' : ¬ (0 : Int) < z.length := of_decide_eq_false (Bool.eq_false_iff.mpr c)
     rw [decide_eq_false (by rw [← yE]; omega)]
     rfl
   rw [e] at q
   exact q _ (az.refl _)
theorem tK (T : Txt K mg A) : aB P w K mg base aL 1 A.jt A.nJ ["figures"] abL := by
 refine T.Gj.ok jd (fun vs H Q E h => ?_) (fun cdv A0 outer s H vs Q E hr h => ?_)
 · obtain ⟨x, rfl, _⟩ := h
   rfl
 obtain ⟨z, rfl, hz, hF, q⟩ := h
 refine ⟨_, (zC (zY (i := 1) jd.nd rfl (by first | exact Or.inl rfl | exact Or.inr rfl) zF)
     (zC (wH PassesOwn.never rfl (Dv (pv 0)) (oJ (i := 2) jd.nd rfl (by first | exact Or.inl rfl | exact Or.inr rfl)) (zD (zY (i := 1) jd.nd rfl (by first | exact Or.inl rfl | exact Or.inr rfl) (zI tU (zI BJ (pv 1) zF) (xJ PySem.F.plainAttrs_str PySem.F.slot_str_find PySem.F.type_str_find abg (xO rfl T.NP) (zA (pv 2) zB))))))
     (zD (zM (pv 1))))), ?_⟩
 walk_at "rd"
 refine YF (fun i σ H' => H' = H ∧ ∃ v, σ = [some (.str z), some (.int (val ((cd z).take i))), v]) ⟨rfl, ⟨_, rfl⟩⟩ (fun i c σ H' hc hp => ?_) (fun σ H' hp => ?_)
 · obtain ⟨rfl, v, rfl⟩ := hp
   have hi : i < (cd z).length := (List.getElem?_eq_some_iff.mp hc).1
   have hcF : inF c = true := List.all_eq_true.mp hF c (List.mem_of_getElem? hc)
   have hb := Dy i ((cd z).take i) (by rw [List.length_take]; omega) (by
     rw [List.all_eq_true]; intro x hx; exact List.all_eq_true.mp hF x (List.mem_of_mem_take hx))
   have hb2 := YT hb.1 hb.2
   rw [← yE] at hi
   refine ⟨_, rfl, _, _, rfl, rfl, ⟨by show ib _ ≤ 60000000; omega, by decide⟩, ?_⟩
   walk_at "rd"
   have e : Txt.find YQ (S [c]) = ((c - 48 : Nat) : Int) := findF hcF
   show some _ :: some (V.int (val ((cd z).take i) * 10 + Txt.find YQ (S [c]))) :: _ = _
   rw [e, YS hc]
   rfl
 · obtain ⟨rfl, v, rfl⟩ := hp
   have e : (cd z).take z.length = cd z := List.take_of_length_le (by rw [yE]; exact Nat.le_refl _)
   rw [e]
   exact ⟨_, rfl, q⟩
theorem Qe (T : Txt K mg A) : aB P w K mg base (wX P w) 2 A.qJ A.u6 ["text", "most"] (agY K A) := by
 have rW := vY (P := P) (w := w) (base := base) T
 have n8 := tK (P := P) (w := w) (base := base) T
 refine T.Rw.okX o5 (fun vs H Q E h => ?_) (fun cdv A0 outer s H vs Q E hr h => ?_)
 · obtain ⟨x, most, rfl, _⟩ := h
   rfl
 obtain ⟨x, most, rfl, hm, h⟩ := h
 refine ⟨_, (zC (yD (lC (yP (zW xI (by rfl) T.b7 Bt.isinstance (zA (pv 0) (zA (qF (v := .ty "str") rfl T.m8 Bt.str rfl) zB))))) (zD (xP T.Bc T.J5 (zA zH zB) rfl)) zV)
     (zC (yD (zP yG (pv 0) zH (zO _)) (zD (zM zF)) zV)
     (zC (zY (i := 2) o5.nd rfl (by first | exact Or.inl rfl | exact Or.inr rfl) (xJ PySem.F.plainAttrs_str PySem.F.slot_str_startswith PySem.F.type_str_startswith ym (pv 0) (zA zH zB)))
     (zC (zY (i := 3) o5.nd rfl (by first | exact Or.inl rfl | exact Or.inr rfl) (yV (yP (pv 2)) (xE q9 (pv 0) (xM zF) xR) (pv 0)))
     (zC (yD (PW.pt (oh (lC (yP (zN rW ‹hr› rfl T.yr T.yq T.yp .nil zL (zA (pv 3) zB)))) (oh (zP yG (yN Yk (pv 3) zF (fun _ _ => rfl)) zH (zO _)) (pB (zP HY (zW xW (by rfl) T.gJ PySem.boot_len (zA (pv 3) zB)) (pv 1) (zO _)))))) (zD (xP T.Bc T.J5 (zA (Iv (pv 0)) zB) rfl)) zV)
     (zC (zY (i := 4) o5.nd rfl (by first | exact Or.inl rfl | exact Or.inr rfl) (zN n8 ‹hr› rfl T.uK T.uJ T.uI .nil zL (zA (pv 3) zB)))
     (zD (zM (yV (yP (pv 2)) (Bs tV (pv 4)) (pv 4)))))))))), ?_⟩
 rcases h with ⟨z, rfl, hz, qs, qn⟩ | ⟨t, ty, kt, q⟩
 · refine ⟨_, rfl, _, _, _, _, rfl, rfl, .old (.str z), T.mj, _, rfl, bh ?_⟩
   refine ⟨_, rfl, rfl, _, rfl, ?_⟩
   refine dD (fun c => ?_) (fun c => ?_) <;> rw [Ue, show cd ‹"0"› = [48] by symm] at c
   · have c' : cd z = [48] := of_decide_eq_true c
     refine qs _ _ (az.refl _) ?_
     rw [c']; exact Wy hm
   have c0 : cd z ≠ [48] := of_decide_eq_false (Bool.eq_false_iff.mpr c)
   have es := Vw z 45
   rw [show S [45] = ‹"-"› by symm] at es
   have hz2 : z.length ≤ sizeLine := hz.size
   cases hb : PySem.Txt.startswith z ‹"-"› <;> rw [hb] at es
   · have c1 : ¬ (cd z).take 1 = [45] := of_decide_eq_false es.symm
     obtain ⟨f, rfl⟩ : ∃ f, z = f := ⟨z, rfl⟩
     have ef : cd z = BL (cd z) := (if_neg c1).symm
     have hf1 : z.length ≤ 1000 := hz.len
     have hf2 := hz2
     walk_at "rd"
     rw [hb]
     walk_at "rd"
     intro H1 s1
     cases hf : Gh (cd z)
     · refine ⟨_, rfl, bJ ⟨_, rfl, z, rfl, Nat.le_trans hz.len (by decide), hz.Oz, fun y => ⟨(by show 1 ≤ sizeLine; decide), qn _ s1 (Q6 (by rw [← ef]; exact hf))⟩⟩⟩
     refine ⟨_, rfl, bh ?_⟩
     obtain ⟨f1, f2⟩ := (sI _).mp hf
     obtain ⟨k, hk, hk1⟩ := Ra (l := cd z) f1
     refine ⟨_, rfl, z, 0, k, rfl, rfl, hf2, hk, rfl, _, rfl, ?_⟩
     refine dD (fun c2 => ?_) (fun c2 => ?_) <;> rw [Ue, show cd ‹"0"› = [48] by symm] at c2
     · have c3 : (BL (cd z)).take 1 = [48] := by rw [← ef, hk1]; exact of_decide_eq_true c2
       exact ⟨_, rfl, z, rfl, Nat.le_trans hz.len (by decide), hz.Oz, fun y => ⟨(by show 1 ≤ sizeLine; decide), qn _ s1 (Q7 c3 c0)⟩⟩
     have c3 : ¬ (BL (cd z)).take 1 = [48] := by rw [← ef, hk1]; exact of_decide_eq_false (Bool.eq_false_iff.mpr c2)
     refine ⟨_, rfl, _, rfl, hf2, _, rfl, _, _, rfl, rfl, _, rfl, ?_⟩
     rw [yE z, ef]
     refine dD (fun c4 => ?_) (fun c4 => ?_)
     · have c5 : most < ((BL (cd z)).length : Nat) := of_decide_eq_true c4
       exact ⟨_, rfl, z, rfl, Nat.le_trans hz.len (by decide), hz.Oz, fun y => ⟨(by show 1 ≤ sizeLine; decide), qn _ s1 (Q8 c5)⟩⟩
     have c5 : ¬ most < ((BL (cd z)).length : Nat) := of_decide_eq_false (Bool.eq_false_iff.mpr c4)
     have yes := Q9 (by rw [← ef]; exact hf) c3 c5
     rw [if_neg c1, ← ef] at yes
     refine ⟨_, rfl, z, rfl, hf1, f2, ?_⟩
     walk_at "rd"
     exact qs _ _ s1 yes
   · have c1 : (cd z).take 1 = [45] := of_decide_eq_true es.symm
     walk_at "rd"
     rw [hb]
     walk_at "rd"
     obtain ⟨f, hfe⟩ : ∃ f, S (pG (cd z) (some 1) none) = f := ⟨_, rfl⟩
     rw [hfe]
     have ef : cd f = BL (cd z) := by rw [← hfe, cU]; exact (abi (cd z) 1).trans (if_pos c1).symm
     have hf1 : f.length ≤ 1000 := by rw [← hfe]; exact (hz.cut _ _).len
     have hf2 : f.length ≤ sizeLine := by rw [← hfe]; exact (hz.cut _ _).size
     refine ⟨hf2, ?_⟩
     intro H1 s1
     cases hf : Gh (cd f)
     · refine ⟨_, rfl, bJ ⟨_, rfl, z, rfl, Nat.le_trans hz.len (by decide), hz.Oz, fun y => ⟨(by show 1 ≤ sizeLine; decide), qn _ s1 (Q6 (by rw [← ef]; exact hf))⟩⟩⟩
     refine ⟨_, rfl, bh ?_⟩
     obtain ⟨f1, f2⟩ := (sI _).mp hf
     obtain ⟨k, hk, hk1⟩ := Ra (l := cd f) f1
     refine ⟨_, rfl, f, 0, k, rfl, rfl, hf2, hk, rfl, _, rfl, ?_⟩
     refine dD (fun c2 => ?_) (fun c2 => ?_) <;> rw [Ue, show cd ‹"0"› = [48] by symm] at c2
     · have c3 : (BL (cd z)).take 1 = [48] := by rw [← ef, hk1]; exact of_decide_eq_true c2
       exact ⟨_, rfl, z, rfl, Nat.le_trans hz.len (by decide), hz.Oz, fun y => ⟨(by show 1 ≤ sizeLine; decide), qn _ s1 (Q7 c3 c0)⟩⟩
     have c3 : ¬ (BL (cd z)).take 1 = [48] := by rw [← ef, hk1]; exact of_decide_eq_false (Bool.eq_false_iff.mpr c2)
     refine ⟨_, rfl, _, rfl, hf2, _, rfl, _, _, rfl, rfl, _, rfl, ?_⟩
     rw [yE f, ef]
     refine dD (fun c4 => ?_) (fun c4 => ?_)
     · have c5 : most < ((BL (cd z)).length : Nat) := of_decide_eq_true c4
       exact ⟨_, rfl, z, rfl, Nat.le_trans hz.len (by decide), hz.Oz, fun y => ⟨(by show 1 ≤ sizeLine; decide), qn _ s1 (Q8 c5)⟩⟩
     have c5 : ¬ most < ((BL (cd z)).length : Nat) := of_decide_eq_false (Bool.eq_false_iff.mpr c4)
     have yes := Q9 (by rw [← ef]; exact hf) c3 c5
     rw [if_pos c1, ← ef] at yes
     refine ⟨_, rfl, f, rfl, hf1, f2, ?_⟩
     walk_at "rd"
     exact qs _ _ s1 yes
 · refine ⟨_, rfl, _, _, _, _, rfl, rfl, ty, kt, _, rfl, bJ ?_⟩
   refine ⟨(by show 1 ≤ sizeLine; decide), q _ (az.refl _)⟩
end
abbrev lr (lo hi : Int) : List (Str × V) := [("low", .int lo), ("high", .int hi)]
def agZ : Sp := fun vs H Q _ => ∃ z, vs = [.str z] ∧ bA 1000 z ∧ ∀ H', az H H' → Q (lq (gK (cd z) 60)) H'
def UT (K : W.Frag) : Sp := fun vs H Q _ => ∃ p C dx lo hi, vs = [.ref p, .int lo, .int hi] ∧ H p = some (.ins C dx []) ∧ yh K C ∧ aC K C "low" ∧ aC K C "high" ∧ Q .non (upd H p (.ins C dx (lr lo hi)))
theorem Xd : (("high" : Str) == ("low" : Str)) = false := by symm
theorem Qf (v : V) : j4 "low" v [] = [(("low" : Str), v)] := rfl
theorem Kq (v w : V) : j4 "high" w [(("low" : Str), v)] = [(("low" : Str), v), (("high" : Str), w)] := by
 unfold j4
 rw [if_neg (by symm)]; rfl
section
variable {P : Program} {w : World} {K : W.Frag} {mg : Str → Option Value} {base : Heap} {A : cj}
theorem xX (T : Txt K mg A) : aB P w K mg base aL 3 A.iZ A.lD ["text"] agZ := by
 have R4 := Qe (P := P) (w := w) (base := base) T
 refine T.DN.ok CQ (fun vs H Q E h => ?_) (fun cdv A0 outer s H vs Q E hr h => ?_)
 · obtain ⟨x, rfl, _⟩ := h
   rfl
 obtain ⟨z, rfl, hz, q⟩ := h
 refine ⟨_, (zD (adq rfl rfl (abf (abe (YL R4 ‹hr› rfl T.Ry T.Rx T.O3 T.O5 (zA (pv 0) zB)))) rfl T.Bc (fun _ => (zD (zM yT))))), ?_⟩
 refine ⟨_, rfl, _, _, rfl, by decide, .inl ⟨z, rfl, hz, fun n H' s1 e => ?_, fun H' s1 e => ?_⟩⟩
 · rw [e] at q; exact q _ s1
 · refine ⟨T.vK, ?_⟩
   rw [e] at q; exact q _ s1
theorem wQ (T : Txt K mg A) : aB P w K mg base aL 1 A.eH A.jw ["self", "low", "high"] (UT K) := by
 refine T.uL.ok tE (fun vs H Q E h => ?_) (fun cdv A0 outer s H vs Q E hr h => ?_)
 · obtain ⟨p, C, dx, lo, hi, rfl, _⟩ := h
   rfl
 obtain ⟨p, C, dx, lo, hi, rfl, hp, cl, n1, n2, q⟩ := h
 refine ⟨_, (zC (yK (pv 0) (pv 1) rfl)
     (zD (yK (pv 0) (pv 2) rfl))), ?_⟩
 refine ⟨_, rfl, _, rfl, p, C, dx, _, rfl, hp, cl, n1, by decide, ?_⟩
 refine ⟨_, rfl, _, rfl, p, C, dx, _, rfl, zE, cl, n2, (by show 1 < 1000; decide), ?_⟩
 rw [yM, Qf, Kq]
 exact q
end
def acE {K : W.Frag} {mg : Str → Option Value} {A : cj} (T : Txt K mg A) (H : Hp) (z : Str) : Thing K H (.str z) := ⟨_, _, _, _, .old (.str z), T.Xa, T.Uy, T.mj, fun h => (by cases h), fun _ => ⟨z, rfl⟩, fun _ h => (by cases h), fun _ _ => rfl, fun h => (by cases h), fun _ h => (by cases h)⟩
def Qg (MK : Int → List Nat) : Sp := fun vs H Q _ => ∃ p n, vs = [.ref p, .int n] ∧ n.natAbs < 10 ^ 60 ∧ ∀ H', az H H' → Q (.str (S (MK n))) H'
section
variable {P : Program} {w : World} {K : W.Frag} {mg : Str → Option Value} {base : Heap} {A : cj}
theorem Xe (T : Txt K mg A) : aB P w K mg base aL 1 A.jx A.jy ["self", "answer"] (Qg bB) := by
 refine T.Gq.ok Ep (fun vs H Q E h => ?_) (fun cdv A0 outer s H vs Q E hr h => ?_)
 · obtain ⟨p, z, rfl, _⟩ := h
   rfl
 obtain ⟨p, n, rfl, hn, q⟩ := h
 refine ⟨_, (zD (zM (yR yW (by rfl) T.m8 Bt.str (zA (pv 1) zB)))), ?_⟩
 refine ⟨_, rfl, n, rfl, VB (Nat.lt_trans hn (by symm)), ?_⟩
 rw [str_is]
 exact q _ (az.refl _)
end
theorem NT (m : Nat) : Txt.zfill (S (dig m)) 3 = S (t7 (dig m)) := by
 unfold Txt.zfill t7
 rw [zU]
 split
 · rename_i h
   rw [show 3 - (dig m).length = 0 by omega]; rfl
 · rename_i h
   have hz : zfilled (S (dig m)) ((3 : Int).toNat - (dig m).length) = Builtin.Str.padded (S (dig m)) ((3 : Int).toNat - (dig m).length) 0 48 := by
     unfold zfilled
     split
     · rename_i e
       have : 43 ∈ dig m := by
         have e' : (dig m)[0]? = some 43 := by simpa [S] using e
         exact List.mem_of_getElem? e'
       have := oM this; omega
     · rename_i e
       have : 45 ∈ dig m := by
         have e' : (dig m)[0]? = some 45 := by simpa [S] using e
         exact List.mem_of_getElem? e'
       have := oM this; omega
     · rfl
   rw [hz]
   unfold Builtin.Str.padded
   refine yL ?_
   rw [cU]
   show (Array.replicate _ 48 ++ (S (dig m)).cps ++ Array.replicate 0 48).toList = _
   rw [Array.toList_append, Array.toList_append]
   simp [S]
theorem UW {f : List Nat} (h : 2 ≤ f.length) : pG f none (some (-2)) = f.take (f.length - 2) := by
 unfold pG
 have e1 : HT.uQ f.length 0 none = 0 := rfl
 have e2 : HT.uQ f.length f.length (some (-2)) = f.length - 2 := by
   show (if (-2 : Int) < 0 then ((-2 : Int) + f.length).toNat else min (-2 : Int).toNat f.length) = _
   rw [if_pos (by decide)]; omega
 rw [e1, e2, List.drop_zero, Nat.sub_zero]
theorem U0 {f : List Nat} (h : 2 ≤ f.length) : pG f (some (-2)) none = f.drop (f.length - 2) := by
 unfold pG
 have e1 : HT.uQ f.length f.length none = f.length := rfl
 have e2 : HT.uQ f.length 0 (some (-2)) = f.length - 2 := by
   show (if (-2 : Int) < 0 then ((-2 : Int) + f.length).toNat else min (-2 : Int).toNat f.length) = _
   rw [if_pos (by decide)]; omega
 rw [e1, e2, List.take_of_length_le (by rw [List.length_drop]; omega)]
theorem ZL (n : Int) : (if n < 0 then -n else n) = ((n.natAbs : Nat) : Int) := by split <;> omega
theorem VP (m : Nat) : ((toString ((m : Nat) : Int) : String) : Str) = S (dig m) := by
 rw [str_is]; unfold bB; rw [if_neg (by omega)]; rfl
def ag0 : Sp := fun vs H Q _ => ∃ n : Int, vs = [.int n] ∧ n.natAbs < 10 ^ 60 ∧ ∀ H', az H H' → Q (.str (S (bZ n))) H'
def adN : Sp := fun vs H Q _ => ∃ z, vs = [.str z] ∧ bA 1000 z ∧ ∀ H', az H H' → Q (lq (oO (cd z))) H'
section
variable {P : Program} {w : World} {K : W.Frag} {mg : Str → Option Value} {base : Heap} {A : cj}
theorem vZ (T : Txt K mg A) : aB P w K mg base aL 1 A.mG A.rn ["hundredths"] ag0 := by
 refine T.Lk.ok qp (fun vs H Q E h => ?_) (fun cdv A0 outer s H vs Q E hr h => ?_)
 · obtain ⟨n, rfl, _⟩ := h
   rfl
 obtain ⟨n, rfl, hn, q⟩ := h
 refine ⟨_, (zC (zY (i := 1) qp.nd rfl (by first | exact Or.inl rfl | exact Or.inr rfl) (xJ PySem.F.plainAttrs_str PySem.F.slot_str_zfill PySem.F.type_str_zfill Q5 (yR yW (by rfl) T.m8 Bt.str (zA (zW QL (by rfl) T.acw Bt.abs (zA (pv 0) zB)) zB)) (zA zF zB)))
     (zC (zY (i := 2) qp.nd rfl (by first | exact Or.inl rfl | exact Or.inr rfl) (yV (zP HX (pv 0) zF (zO _)) zH zH))
     (zD (zM (zI zG (zI zG (zI zG (pv 2) (xE q9 (pv 1) xR (xM (Bs tV zF)))) zH) (xE q9 (pv 1) (xM (Bs tV zF)) xR)))))), ?_⟩
 have hl := sV (dig n.natAbs)
 have hd := wK (k := 60) (by decide) hn
 have q := q _ (az.refl _)
 have ef : (eF n).length = (t7 (dig n.natAbs)).length := rfl
 refine ⟨_, rfl, n, rfl, ?_⟩
 rw [ZL]
 refine ⟨_, rfl, VB (Nat.lt_trans (show (((n.natAbs : Nat) : Int)).natAbs < 10 ^ 60 by omega) (by symm)), ?_⟩
 rw [VP]
 refine ⟨rfl, _, _, rfl, rfl, (by symm), ?_⟩
 rw [NT]
 have sz : (S (eF n)).length ≤ sizeLine := zJ (m := 1000) (by rw [zU]; omega)
 have fin : ∀ sg : List Nat, sg.length ≤ 1 → Q (.str (S (sg ++ ((eF n).take ((eF n).length - 2) ++ 46 :: (eF n).drop ((eF n).length - 2))))) H → ac2 (tOp (fun x y H Q => ∃ i j, x = V.str i ∧ y = V.str j ∧ i.length + j.length ≤ sizeLine ∧ Q (V.str (i ++ j)) H) (tOp (fun x y H Q => ∃ i j, x = V.str i ∧ y = V.str j ∧ i.length + j.length ≤ sizeLine ∧ Q (V.str (i ++ j)) H) (tOp (fun x y H Q => ∃ i j, x = V.str i ∧ y = V.str j ∧ i.length + j.length ≤ sizeLine ∧ Q (V.str (i ++ j)) H) (XX 2) (tSl (fun x lo hi H Q => ∃ z, x = V.str z ∧ z.length ≤ sizeLine ∧ Q (V.str (S (pG (cd z) lo hi))) H) (XX 1) Oo (Yj (tUn (rU fun i => .int (-i)) (tC (V.int 2)))))) (tC (V.str ‹"."›))) (tSl (fun x lo hi H Q => ∃ z, x = V.str z ∧ z.length ≤ sizeLine ∧ Q (V.str (S (pG (cd z) lo hi))) H) (XX 1) (Yj (tUn (rU fun i => .int (-i)) (tC (V.int 2)))) Oo)) { nx := fun _ H' => Q .non H', rt := Q } [some (.int n), some (.str (S (eF n))), some (.str (S sg))] H := fun sg hs qq => by
   refine ⟨_, rfl, _, rfl, _, rfl, _, rfl, _, rfl, sz, ?_⟩
   rw [cU, UW (by omega)]
   refine ⟨_, _, rfl, rfl, zJ (m := 1000) (by rw [zU, zU, List.length_take]; omega), _, _, rfl, rfl, zJ (m := 1000) (by rw [yE, yA, List.length_append, cU, cU, List.length_take]; show _ + 1 ≤ 1000; omega), ?_⟩
   refine ⟨_, rfl, _, rfl, _, rfl, _, rfl, sz, ?_⟩
   rw [cU, U0 (by omega), show ‹"."› = S [46] by symm, xN, xN]
   refine ⟨_, _, rfl, rfl, zJ (m := 1000) (by rw [zU, zU, List.length_append, List.length_append, List.length_take, List.length_drop]; show _ + _ + 1 + _ ≤ 1000; omega), ?_⟩
   rw [xN, List.append_assoc, List.append_assoc]
   exact qq
 unfold bZ sgn at q
 refine ⟨_, rfl, _, _, rfl, rfl, _, rfl, dD (fun c => ?_) (fun c => ?_)⟩
 · rw [if_pos (of_decide_eq_true c)] at q
   have := fin [45] (by decide) q
   rw [show S [45] = ‹"-"› by symm] at this
   exact this
 · rw [if_neg (fun z => c (decide_eq_true z))] at q
   have := fin [] (by decide) q
   rw [show S [] = ‹""› by symm] at this
   exact this
end
theorem abM (z : Str) : cd (Txt.replace (Txt.replace z ‹"-"› ‹""›) ‹"."› ‹""›) = iC (cd z) := by
 rw [show ‹"-"› = S [45] by symm, show ‹"."› = S [46] by symm, show ‹""› = S [] by symm, Ad, Ad]
 rfl
theorem ZM (l : List Nat) : (iC l).length ≤ l.length := Nat.le_trans (List.length_filter_le _ _) (List.length_filter_le _ _)
theorem Xf {l : List Nat} (h : l.all inF = true) (hl : l.length ≤ 60) : 0 ≤ val l ∧ (val l).natAbs < 10 ^ 60 := by
 obtain ⟨a, b⟩ := Dy l.length l rfl h
 have hp : (10 : Int) ^ l.length ≤ 10 ^ 60 := by
   have : (10 : Nat) ^ l.length ≤ 10 ^ 60 := Nat.pow_le_pow_right (by decide) hl
   have e1 : ((10 ^ l.length : Nat) : Int) = (10 : Int) ^ l.length := by simp
   have e2 : ((10 ^ 60 : Nat) : Int) = (10 : Int) ^ 60 := by simp
   omega
 refine ⟨a, ?_⟩
 have e2 : ((10 ^ 60 : Nat) : Int) = (10 : Int) ^ 60 := by simp
 omega
section
variable {P : Program} {w : World} {K : W.Frag} {mg : Str → Option Value} {base : Heap} {A : cj}
theorem Eu (T : Txt K mg A) : sU P w K mg base aL 2 A.ju A.nM ["text"] adN := by
 have rW := vY (P := P) (w := w) (base := base) T
 have n8 := tK (P := P) (w := w) (base := base) T
 have rY := vZ (P := P) (w := w) (base := base) T
 refine T.Gk.okP je (fun vs H Q E h => ?_) (fun cdv A0 outer s H vs Q E hr h => ?_)
 · obtain ⟨n, rfl, _⟩ := h
   rfl
 obtain ⟨z, rfl, hz, q⟩ := h
 refine ⟨_, (Ny (abo (i := 1) je.nd rfl (by first | exact Or.inl rfl | exact Or.inr rfl) (Ft (Ft (PE.made (pv 0)))))
     (zC (yD (PW.pt (oh (lC (yP (zN rW ‹hr› rfl T.yr T.yq T.yp .nil zL (zA (pv 1) zB)))) (pB (zP HY (zW xW (by rfl) T.gJ PySem.boot_len (zA (pv 1) zB)) (xO rfl T.J1) (zO _))))) (zD (zM yT)) zV)
     (zC (zY (i := 2) je.nd rfl (by first | exact Or.inl rfl | exact Or.inr rfl) (zN n8 ‹hr› rfl T.uK T.uJ T.uI .nil zL (zA (pv 1) zB)))
     (zC (zY (i := 3) je.nd rfl (by first | exact Or.inl rfl | exact Or.inr rfl) (yV (yP (xJ PySem.F.plainAttrs_str PySem.F.slot_str_startswith PySem.F.type_str_startswith ym (pv 0) (zA zH zB))) (Bs tV (pv 2)) (pv 2)))
     (zD (zM (yV (zP yG (zN rY ‹hr› rfl T.yw T.yu T.yt .nil zL (zA (pv 3) zB)) (pv 0) (zO _)) (pv 3) yT))))))), ?_⟩
 have hzl := hz.len
 have e0 : ‹""›.length = 0 := by symm
 have l1 : (Txt.replace z ‹"-"› ‹""›).length ≤ z.length := by
   rw [yE, show ‹"-"› = S [45] by symm, show ‹""› = S [] by symm, Ad, yE]
   exact List.length_filter_le _ _
 refine ⟨_, rfl, z, rfl, (by rw [e0]; omega), _, rfl, (by rw [e0]; omega), ?_⟩
 have ef := abM z
 generalize hF : Txt.replace (Txt.replace z ‹"-"› ‹""›) ‹"."› ‹""› = F at ef
 have hFl : F.length ≤ 1000 := by rw [yE, ef]; have := ZM (cd z); rw [← yE] at this; omega
 refine ⟨_, rfl, F, rfl, zJ (m := 1000) hFl, fun H1 s1 => ⟨_, rfl, ?_⟩⟩
 rw [ef]
 have q := fun H' (s' : az H1 H') => q H' (s1.trans s')
 cases hb : Gh (iC (cd z)) with
 | false =>
   have e : oO (cd z) = none := by
     unfold oO
     rw [if_pos]
     by_cases h0 : (iC (cd z)).length = 0
     · exact .inl h0
     · refine .inr (.inl ?_)
       cases ha : (iC (cd z)).all inF with
       | false => rfl
       | true => rw [(sI _).mpr ⟨by omega, ha⟩] at hb; cases hb
   rw [e] at q
   exact bJ (bJ (q _ (az.refl _)))
 | true =>
   obtain ⟨hp, ha⟩ := (sI _).mp hb
   refine bh ⟨_, rfl, F, rfl, zJ (m := 1000) hFl, _, _, rfl, rfl, _, rfl, ?_⟩
   rw [yE, ef]
   refine dD (fun c => ?_) (fun c => ?_)
   · have c' : (60 : Int) < (iC (cd z)).length := of_decide_eq_true c
     have e : oO (cd z) = none := by unfold oO; rw [if_pos (.inr (.inr (by omega)))]
     rw [e] at q
     exact q _ (az.refl _)
   · have c' : ¬ (60 : Int) < (iC (cd z)).length := fun h => c (decide_eq_true h)
     have e : oO (cd z) = (if bZ (if (cd z).take 1 = [45] then -val (iC (cd z)) else val (iC (cd z))) = cd z then some (if (cd z).take 1 = [45] then -val (iC (cd z)) else val (iC (cd z))) else none) := by
       unfold oO
       rw [if_neg]
       rintro (h | h | h)
       · omega
       · rw [ha] at h; cases h
       · omega
     rw [e] at q
     obtain ⟨v0, v1⟩ := Xf ha (by omega)
     refine ⟨_, rfl, F, rfl, hFl, (by rw [ef]; exact ha), ?_⟩
     rw [ef]
     have fin : ∀ g : Int, g.natAbs < 10 ^ 60 → (∀ H', az H1 H' → Q (lq (if bZ g = cd z then some g else none)) H') → ∃ n : Int, [V.int g] = [V.int n] ∧ n.natAbs < 10 ^ 60 ∧ ∀ H', az H1 H' → ((tOp rEq (tC (.str (S (bZ n)))) (tC (.str z))) [] H' fun v Il => ∃ b, v = .bl b ∧ if b = true then Q (.int g) Il else Q .non Il) := fun g hg qq => by
       refine ⟨g, rfl, hg, fun H2 s2 => ⟨rfl, _, rfl, ?_⟩⟩
       have := qq H2 s2
       refine dD (fun d => ?_) (fun d => ?_)
       · have d' : bZ g = cd z := by have := V.str.inj (of_decide_eq_true d); rw [← this]; rfl
         rw [if_pos d'] at this
         exact this
       · have d' : ¬ bZ g = cd z := fun h => d (decide_eq_true (by rw [h, d8]))
         rw [if_neg d'] at this
         exact this
     refine ⟨_, rfl, rfl, z, _, rfl, rfl, _, rfl, ?_⟩
     rw [show ‹"-"› = S [45] by symm, Vw]
     refine dD (fun d => ?_) (fun d => ?_)
     · have d' : (cd z).take 1 = [45] := of_decide_eq_true d
       rw [if_pos d'] at q
       obtain ⟨n, e1, e2, e3⟩ := fin _ (by omega) q
       cases e1
       refine ⟨_, rfl, _, rfl, _, rfl, _, rfl, e2, fun H2 s2 => ?_⟩
       obtain ⟨k1, b, k2, k3⟩ := e3 H2 s2
       refine ⟨_, rfl, k1, _, k2, ?_⟩
       cases b with
       | true => exact bJ ⟨_, rfl, k3⟩
       | false => exact bh k3
     · have d' : ¬ (cd z).take 1 = [45] := fun h => d (decide_eq_true h)
       rw [if_neg d'] at q
       obtain ⟨n, e1, e2, e3⟩ := fin _ (by omega) q
       cases e1
       refine ⟨_, rfl, _, rfl, _, rfl, e2, fun H2 s2 => ?_⟩
       obtain ⟨k1, b, k2, k3⟩ := e3 H2 s2
       refine ⟨_, rfl, k1, _, k2, ?_⟩
       cases b with
       | true => exact bJ ⟨_, rfl, k3⟩
       | false => exact bh k3
end
section
variable {P : Program} {w : World} {K : W.Frag} {mg : Str → Option Value} {base : Heap} {A : cj}
theorem Xg (T : Txt K mg A) : aB P w K mg base aL 2 A.jz A.jA ["self", "answer"] (Qg bZ) := by
 have rY := vZ (P := P) (w := w) (base := base) T
 refine T.Gs.ok Er (fun vs H Q E h => ?_) (fun cdv A0 outer s H vs Q E hr h => ?_)
 · obtain ⟨p, z, rfl, _⟩ := h
   rfl
 obtain ⟨p, n, rfl, hn, q⟩ := h
 refine ⟨_, (zD (zM (zN rY ‹hr› rfl T.yw T.yu T.yt .nil zL (zA (pv 1) zB)))), ?_⟩
 exact ⟨_, rfl, n, rfl, hn, q⟩
end
end dI
set_option maxHeartbeats 4000000
namespace dI.N
open PySem L2
seal PE PT PW PA PS j0 PG tR PI PO iz iW uH aU iB qZ rZ PC uZ
local macro_rules | `(tactic| walk_at "rd1") => `(tactic| first
 | (refine And.intro rfl ?_)
 | (refine And.intro (by assumption) ?_)
 | (refine And.intro (fun _ e => e) ?_)
 | (refine And.intro (au.str _) ?_) | (refine And.intro (au.int _) ?_) | (refine And.intro (au.bl _) ?_) | (refine And.intro au.non ?_)
 | (refine bJ ?_) | (refine bh ?_)
 | (apply Exists.intro))
local macro_rules | `(tactic| walk_at "rd") => `(tactic| repeat (walk_at "rd1"))
def kws : List V := [.str "and", .str "each", .str "end", .str "is", .str "not", .str "or", .str "unless", .str "when"]
def QB (c : Nat) : Bool := !(Builtin.Str.occurrences "abcdefghijklmnopqrstuvwxyz" (S [c]) 0 ("abcdefghijklmnopqrstuvwxyz" : Str).length 1).isEmpty
def nameB (z : Str) : Bool := !(inV (.str z) kws) && decide ((1 : Int) ≤ z.length) && decide ((z.length : Int) ≤ 12) && (cd z).all QB
def nameV : V → Bool
 | .str z => nameB z
 | _ => false
def Ok (K : W.Frag) (H : Hp) (x : V) : Prop := (∃ _ : Thing K H x, True) ∧ ∀ z, x = .str z → bA 900 z
theorem Ok.same {K : W.Frag} {H H' : Hp} {x : V} (h : Ok K H x) (e : az H H') : Ok K H' x := ⟨let ⟨⟨t, _⟩, _⟩ := h; ⟨t.same e, trivial⟩, h.2⟩
def strsOf (xs : List V) : List Str := xs.filterMap fun x => match x with | .str z => some z | _ => none
def jH (xs : List V) : Bool := xs.all nameV && decide ((iY (strsOf xs)).length = xs.length)
theorem tX : ∀ {xs : List V}, xs.all nameV = true → xs = (strsOf xs).map V.str
 | [], _ => rfl
 | x :: r, h => by
   rw [List.all_cons, Bool.and_eq_true] at h
   cases x with
   | str z => show V.str z :: r = V.str z :: (strsOf r).map V.str; rw [← tX h.2]
   | _ => cases h.1
theorem Kr (ws : List Str) : strsOf (ws.map V.str) = ws := by
 induction ws with
 | nil => rfl
 | cons a r ih => show a :: strsOf (r.map V.str) = _; rw [ih]
theorem Gb (ws : List Str) : jH (ws.map V.str) = (ws.all nameB && decide ws.Nodup) := by
 unfold jH
 rw [Kr, List.length_map, List.all_map]
 congr 1
 rw [Bool.eq_iff_iff, decide_eq_true_iff, decide_eq_true_iff]
 exact Uj ws
def Ks (K : W.Frag) : Sp := fun vs H Q _ => ∃ x, vs = [x] ∧ Ok K H x ∧ ∀ H', az H H' → Q (.bl (nameV x)) H'
section
variable {P : Program} {w : World} {K : W.Frag} {mg : Str → Option Value} {base : Heap} {A : cj}
theorem mz (T : Txt K mg A) : aB P w K mg base aL 1 A.sY A.wM ["thing"] (Ks K) := by
 refine T.NK.ok Kf (fun vs H Q E h => ?_) (fun cdv A0 outer s H vs Q E hr h => ?_)
 · obtain ⟨x, rfl, _⟩ := h
   rfl
 obtain ⟨x, rfl, ⟨⟨th, _⟩, hx⟩, q⟩ := h
 refine ⟨_, (zC (yD (PW.pt (oh (lC (yP (zW xI (by rfl) T.b7 Bt.isinstance (zA (pv 0) (zA (qF (v := .ty "str") rfl T.m8 Bt.str rfl) zB))))) (pB (zP su (pv 0) (xO rfl T.J2) (by rfl))))) (zD (zM HN)) zV)
     (zD (zM (pD (QJ yg yg zF (zW xW (by rfl) T.gJ PySem.boot_len (zA (pv 0) zB)) (xO rfl T.vH)) (pC (zW (Bx rfl) (by rfl) T.VN Bt.all (zA (pH (yX (x := "sign") (M := ["thing"]) rfl (by rfl)) rfl (Dv (pv 0)) (fun _ _ _ _ => (yI Dq (pv 0) (xO rfl T.NQ) (by rfl)))) zB))))))), ?_⟩
 refine ⟨_, rfl, _, _, _, _, rfl, rfl, th.ty, th.ks, _, rfl, ?_⟩
 cases hb : th.bs with
 | false =>
   refine bJ ?_
   have e : nameV x = false := by cases x <;> first | rfl | (rw [th.ns _ rfl] at hb; cases hb)
   rw [e] at q
   exact q _ (az.refl _)
 | true =>
   obtain ⟨z, rfl⟩ := th.hs hb
   have hz := (hx z rfl).size
   have q : ∀ H', az H H' → Q (.bl (nameB z)) H' := q
   have qN := T.J3 H
   refine bh ⟨_, rfl, _, _, rfl, .inr qN, rfl, rfl, _, rfl, ?_⟩
   refine dD (fun c => ?_) (fun c => ?_)
   · have e : nameB z = false := by
       unfold nameB
       rw [show inV (.str z) kws = true from c]
       rfl
     rw [e] at q
     exact q _ (az.refl _)
   have c0 : inV (.str z) kws = false := by
     cases e : inV (.str z) kws with
     | false => rfl
     | true => exact absurd e c
   walk_at "rd"
   refine dD (fun c1 => ?_) (fun c1 => ?_)
   · walk_at "rd"
     refine dD (fun c2 => ?_) (fun c2 => ?_)
     · walk_at "rd"
       refine sy hz (fun i ys H' => H = H' ∧ ys = ((cd z).take i).map fun c => V.bl (QB c)) ⟨rfl, rfl⟩ (fun i c ys H' hc hl hw => ?_) (fun ys H' hl hw p hp => ?_)
       · obtain ⟨rfl, rfl⟩ := hw
         walk_at "rd"
         rw [List.take_succ, hc]
         simp [QB]
       · obtain ⟨rfl, rfl⟩ := hw
         have e : (cd z).take z.length = cd z := List.take_of_length_le (by rw [yE]; exact Nat.le_refl _)
         rw [e]
         refine ⟨p, (cd z).map QB, rfl, bG.of (by rw [zE, List.map_map]; rfl), ?_⟩
         have e2 : nameB z = ((cd z).map QB).all id := by
           unfold nameB
           rw [c0, c1, c2, List.all_map]
           rfl
         rw [e2] at q
         exact q _ (zS hp _)
     · have e : nameB z = false := by
         unfold nameB
         rw [show decide ((z.length : Int) ≤ 12) = false from Bool.eq_false_iff.mpr c2]
         simp
       rw [e] at q
       exact q _ (az.refl _)
   · have e : nameB z = false := by
       unfold nameB
       rw [show decide ((1 : Int) ≤ z.length) = false from Bool.eq_false_iff.mpr c1]
       simp
     rw [e] at q
     refine ⟨_, rfl, bh ?_⟩
     exact q _ (az.refl _)
end
abbrev lr (m : Int) : List (Str × V) := [("low", .int 0), ("high", .int m)]
def Qh (l : List Nat) : List (List Nat) := if l = [45] then [] else aH l
abbrev vs (ps : List (List Nat)) : List V := ps.map fun l => V.str (S l)
theorem NZ {sep : List Nat} {c : Nat} : ∀ {ps : List (List Nat)} {p : List Nat}, p ∈ ps → c ∈ p → c ∈ aF sep ps
 | [x], p, h, k => by rw [List.mem_singleton.mp h] at k; exact k
 | x :: y :: r, p, h, k => by
   show c ∈ x ++ sep ++ aF sep (y :: r)
   rcases List.mem_cons.mp h with e | e
   · subst e; simp [k]
   · have := NZ (sep := sep) e k; simp [this]
theorem N5 {sep : List Nat} : ∀ {ps : List (List Nat)} {p : List Nat}, p ∈ ps → p.length ≤ (aF sep ps).length
 | [x], p, h => by rw [List.mem_singleton.mp h]; exact Nat.le_refl _
 | x :: y :: r, p, h => by
   show p.length ≤ (x ++ sep ++ aF sep (y :: r)).length
   rw [List.length_append, List.length_append]
   rcases List.mem_cons.mp h with e | e
   · subst e; omega
   · have := N5 (sep := sep) e; omega
def UT (K : W.Frag) : Sp := fun vs H Q _ => ∃ p C dx lo hi, vs = [.ref p, .int lo, .int hi] ∧ H p = some (.ins C dx []) ∧ yh K C ∧ aC K C "low" ∧ aC K C "high" ∧ Q .non (upd H p (.ins C dx [("low", .int lo), ("high", .int hi)]))
def abN (A : cj) : Sp := fun vs H Q _ => ∃ p dx m, vs = [.ref p, .int m] ∧ H p = some (.ins A.mO dx []) ∧ Q .non (upd H p (.ins A.mO dx (lr m)))
def Fit (K : W.Frag) (H : Hp) (m : Int) (x : V) (b : Bool) : Prop := (∃ p xs, x = .ref p ∧ o8 K H p xs ∧ xs.length ≤ 1000 ∧ (∀ y ∈ xs, Ok K H y) ∧ b = (decide ((xs.length : Int) ≤ m) && jH xs)) ∨ (∃ t, XC K H x t ∧ W.kitOne K t (.type "tuple") = some false ∧ b = false)
theorem Fit.same {K : W.Frag} {H H' : Hp} {m : Int} {x : V} {b : Bool} (h : Fit K H m x b) (e : az H H') : Fit K H' m x b := by
 rcases h with ⟨p, xs, h1, h2, h3, h4, h5⟩ | ⟨t, h1, h2, h3⟩
 · exact .inl ⟨p, xs, h1, e.adw h2, h3, fun y hy => (h4 y hy).same e, h5⟩
 · exact .inr ⟨t, e.agM h1, h2, h3⟩
def Qg (K : W.Frag) : Sp := fun vs H Q _ => ∃ (p t : Addr) (ws : List Str), vs = [.ref p, .ref t] ∧ o8 K H t (ws.map V.str) ∧ (ws.map (·.length)).sum + ws.length * 1 ≤ 1000 ∧ Q (.str (if ws.length > 0 then Fp " " ws else "-")) H
theorem Xd : (("high" : Str) == ("low" : Str)) = false := by symm
theorem Qf (v : V) : j4 "low" v [] = [(("low" : Str), v)] := rfl
theorem Kq (v w : V) : j4 "high" w [(("low" : Str), v)] = [(("low" : Str), v), (("high" : Str), w)] := by
 unfold j4
 rw [if_neg (by symm)]; rfl
section
variable {P : Program} {w : World} {K : W.Frag} {mg : Str → Option Value} {base : Heap} {A : cj}
theorem wQ (T : Txt K mg A) : aB P w K mg base aL 1 A.eH A.jw ["self", "low", "high"] (UT K) := by
 refine T.uL.ok tE (fun vs H Q E h => ?_) (fun cdv A0 outer s H vs Q E hr h => ?_)
 · obtain ⟨p, C, dx, lo, hi, rfl, _⟩ := h
   rfl
 obtain ⟨p, C, dx, lo, hi, rfl, hp, cl, n1, n2, q⟩ := h
 refine ⟨_, (zC (yK (pv 0) (pv 1) rfl)
     (zD (yK (pv 0) (pv 2) rfl))), ?_⟩
 refine ⟨_, rfl, _, rfl, p, C, dx, _, rfl, hp, cl, n1, by decide, ?_⟩
 refine ⟨_, rfl, _, rfl, p, C, dx, _, rfl, zE, cl, n2, (by show 1 < 1000; decide), ?_⟩
 rw [yM, Qf, Kq]
 exact q
theorem ZP (T : Txt K mg A) : aB P w K mg base aL 3 A.lG A.lH ["self", "most"] (abN A) := by
 have bI := wQ (P := P) (w := w) (base := base) T
 refine T.DW.ok CW (fun vs H Q E h => ?_) (fun cdv A0 outer s H vs Q E hr h => ?_)
 · obtain ⟨p, dx, m, rfl, _⟩ := h
   rfl
 obtain ⟨p, dx, m, rfl, hp, q⟩ := h
 refine ⟨_, (zD (yF (BP T.uA bI ‹hr› rfl T.Uz T.ig zL (zA (pv 0) (zA zF (zA (pv 1) zB)))))), ?_⟩
 exact ⟨_, rfl, _, rfl, p, A.mO, dx, 0, m, rfl, hp, T.Ke, T.Qc, T.zg, q⟩
end
end dI.N
set_option maxHeartbeats 4000000
namespace dI
open PySem L2
seal PE PT PW PA PS j0 PG tR PI PO iz iW uH aU iB qZ rZ PC uZ
local macro_rules | `(tactic| walk_at "rd1") => `(tactic| first
 | (refine And.intro rfl ?_)
 | (refine And.intro (by assumption) ?_)
 | (refine And.intro (fun _ e => e) ?_)
 | (refine And.intro (au.str _) ?_) | (refine And.intro (au.int _) ?_) | (refine And.intro (au.bl _) ?_) | (refine And.intro au.non ?_)
 | (refine bJ ?_) | (refine bh ?_)
 | (apply Exists.intro))
local macro_rules | `(tactic| walk_at "rd") => `(tactic| repeat (walk_at "rd1"))
inductive KU where
 | yn
 | wh (lo hi : Int)
 | mo (lo hi : Int)
 | pk (ws : List Str)
 | nm (m : Nat)
inductive AV where
 | b (x : Bool)
 | i (n : Int)
 | s (z : Str)
 | t (ws : List Str)
 deriving DecidableEq
abbrev YN : List (Str × Bool) := [("yes", true), ("no", false)]
structure GoodW (ws : List Str) : Prop where
 nd : ws.Nodup
 wd : ∀ z ∈ ws, z.length ≤ 12 ∧ 1 ≤ z.length ∧ ∀ c ∈ cd z, 97 ≤ c ∧ c ≤ 122
def KU.Good : KU → Prop
 | .yn => True
 | .wh lo hi => lo ≤ hi ∧ lo.natAbs < 10 ^ 60 ∧ hi.natAbs < 10 ^ 60
 | .mo lo hi => lo ≤ hi ∧ lo.natAbs < 10 ^ 60 ∧ hi.natAbs < 10 ^ 60
 | .pk ws => GoodW ws ∧ 1 ≤ ws.length ∧ ws.length ≤ 6
 | .nm m => m ≤ 6
def KU.low : KU → Int
 | .yn => 0
 | .wh lo _ => lo
 | .mo lo _ => lo
 | .pk _ => 0
 | .nm _ => 0
def KU.high : KU → Int
 | .yn => 1
 | .wh _ hi => hi
 | .mo _ hi => hi
 | .pk ws => (ws.length : Int) - 1
 | .nm m => m
def fit : KU → AV → Bool
 | .yn, .b _ => true
 | .wh lo hi, .i n => decide (lo ≤ n) && decide (n ≤ hi)
 | .mo lo hi, .i n => decide (lo ≤ n) && decide (n ≤ hi)
 | .pk ws, .s z => decide (z ∈ ws)
 | .nm m, .t ws => decide ((ws.length : Int) ≤ m) && N.jH (ws.map V.str)
 | _, _ => false
def ans : KU → List Nat → Option AV
 | .yn, l => (YN.lookup (S l)).map AV.b
 | .wh _ _, l => (gK l 60).map AV.i
 | .mo _ _, l => (oO l).map AV.i
 | .pk _, l => some (.s (S l))
 | .nm _, l => some (.t ((N.Qh l).map S))
def MK : KU → AV → List Nat
 | .yn, .b x => if x = true then cd "yes" else cd "no"
 | .wh _ _, .i n => bB n
 | .mo _ _, .i n => bZ n
 | .pk _, .s z => cd z
 | .nm _, .t ws => if ws = [] then [45] else aF [32] (ws.map cd)
 | _, _ => []
theorem Qi {c : Nat} (h : N.QB c = true) : 97 ≤ c ∧ c ≤ 122 := by
 have e0 : N.QB c = decide (c ∈ ("abcdefghijklmnopqrstuvwxyz" : Str).cps.toList) := StrLaws.found_one "abcdefghijklmnopqrstuvwxyz" c
 have e : ("abcdefghijklmnopqrstuvwxyz" : Str).cps.toList = (List.range 26).map (97 + ·) := by symm
 rw [e0, e, decide_eq_true_iff] at h
 obtain ⟨k, hk, rfl⟩ := List.mem_map.mp h
 have := List.mem_range.mp hk
 omega
theorem bf {z : Str} (h : N.nameB z = true) : z.length ≤ 12 ∧ 1 ≤ z.length ∧ ∀ c ∈ cd z, 97 ≤ c ∧ c ≤ 122 := by
 unfold N.nameB at h
 simp only [Bool.and_eq_true, decide_eq_true_iff] at h
 obtain ⟨⟨⟨_, h1⟩, h2⟩, h3⟩ := h
 exact ⟨by omega, by omega, fun c hc => Qi (List.all_eq_true.mp h3 c hc)⟩
theorem ag1 {m : Nat} {ws : List Str} (h : fit (.nm m) (.t ws) = true) : (ws.length : Int) ≤ m ∧ ws.Nodup ∧ ∀ z ∈ ws, N.nameB z = true := by
 have h : (decide ((ws.length : Int) ≤ m) && N.jH (ws.map V.str)) = true := h
 rw [N.Gb] at h
 simp only [Bool.and_eq_true, decide_eq_true_iff] at h
 exact ⟨h.1, h.2.2, List.all_eq_true.mp h.2.1⟩
theorem ZQ {z : Str} (h : z.length ≤ 12 ∧ 1 ≤ z.length ∧ ∀ c ∈ cd z, 97 ≤ c ∧ c ≤ 122) : 32 ∉ cd z ∧ cd z ≠ [] ∧ cd z ≠ [45] := by
 refine ⟨fun e => by have := h.2.2 32 e; omega, fun e => ?_, fun e => ?_⟩
 · have := h.2.1; rw [yE, e] at this; exact absurd this (by decide)
 · have := h.2.2 45 (by rw [e]; simp); omega
theorem Xh : ∀ {ps : List (List Nat)}, (∀ p ∈ ps, 32 ∉ p ∧ p ≠ []) → ∀ c, (aF [32] ps).head? = some c → c ≠ 32
 | [x], h, c, k => fun e => (h x (by simp)).1 (by rw [← e]; exact List.mem_of_mem_head? k)
 | x :: y :: r, h, c, k => fun e => by
   have hx := h x (by simp)
   have k' : (x ++ [32] ++ aF [32] (y :: r)).head? = some c := k
   cases x with
   | nil => exact absurd rfl hx.2
   | cons a x =>
     have e2 : a = c := by simpa using k'
     exact hx.1 (by rw [← e, e2]; simp)
theorem VR : ∀ {ps : List (List Nat)}, ps ≠ [] → (∀ p ∈ ps, 32 ∉ p ∧ p ≠ []) → aF [32] ps ≠ []
 | [], h, _ => absurd rfl h
 | [x], _, h => (h x (by simp)).2
 | x :: y :: r, _, h => fun e => by
   have e' : x ++ [32] ++ aF [32] (y :: r) = [] := e
   simp at e'
theorem N6 : ∀ {ps : List (List Nat)}, (∀ p ∈ ps, 32 ∉ p ∧ p ≠ []) → ∀ c, (aF [32] ps).getLast? = some c → c ≠ 32
 | [x], h, c, k => fun e => (h x (by simp)).1 (by rw [← e]; exact List.mem_of_getLast? k)
 | x :: y :: r, h, c, k => by
   have k' : (x ++ [32] ++ aF [32] (y :: r)).getLast? = some c := k
   have hr : ∀ p ∈ y :: r, 32 ∉ p ∧ p ≠ [] := fun p hp => h p (List.mem_cons_of_mem _ hp)
   rw [List.getLast?_append] at k'
   refine N6 hr c ?_
   cases e : (aF [32] (y :: r)).getLast? with
   | none => exact absurd (List.getLast?_eq_none_iff.mp e) (VR (by simp) hr)
   | some d => rw [e] at k'; simpa using k'
theorem pA (sep : List Nat) : ∀ ys : List (List Nat), (aF sep ys).length ≤ (ys.map List.length).sum + ys.length * sep.length
 | [] => Nat.zero_le _
 | [x] => by show x.length ≤ x.length + 0 + 1 * sep.length; omega
 | x :: y :: r => by
   have := pA sep (y :: r)
   show (x ++ sep ++ aF sep (y :: r)).length ≤ x.length + ((y :: r).map List.length).sum + ((y :: r).length + 1) * sep.length
   rw [List.length_append, List.length_append, Nat.add_mul]
   omega
theorem Ku {n : Nat} : ∀ {l : List Str}, (∀ z ∈ l, z.length ≤ n) → (l.map (·.length)).sum ≤ l.length * n
 | [], _ => Nat.zero_le _
 | a :: r, h => by
   have h1 := h a (by simp)
   have h2 := Ku (l := r) fun z hz => h z (by simp [hz])
   show a.length + (r.map (·.length)).sum ≤ (r.length + 1) * n
   rw [Nat.add_mul]; omega
theorem mem_join {c : Nat} : ∀ {ps : List (List Nat)}, c ∈ aF [32] ps → c = 32 ∨ ∃ p ∈ ps, c ∈ p
 | [x], h => .inr ⟨x, by simp, h⟩
 | x :: y :: r, h => by
   have h' : c ∈ x ++ [32] ++ aF [32] (y :: r) := h
   rcases List.mem_append.mp h' with k | k
   · rcases List.mem_append.mp k with k | k
     · exact .inr ⟨x, by simp, k⟩
     · exact .inl (by simpa using k)
   · rcases mem_join k with e | ⟨p, hp, e⟩
     · exact .inl e
     · exact .inr ⟨p, List.mem_cons_of_mem _ hp, e⟩
theorem R5 {m : Nat} {ws : List Str} (g : m ≤ 6) (h : fit (.nm m) (.t ws) = true) : tZ (MK (.nm m) (.t ws)) = MK (.nm m) (.t ws) ∧ MK (.nm m) (.t ws) ≠ [] ∧ bA 200 (S (MK (.nm m) (.t ws))) ∧ N.Qh (MK (.nm m) (.t ws)) = ws.map cd ∧ (ws.map (·.length)).sum + ws.length * 1 ≤ 1000 := by
 obtain ⟨hl, hnd, hw⟩ := ag1 h
 have hw' := fun z hz => bf (hw z hz)
 have hsum := Ku (n := 12) fun z hz => (hw' z hz).1
 have hp : ∀ p ∈ ws.map cd, 32 ∉ p ∧ p ≠ [] := fun p hp => by
   obtain ⟨z, hz, rfl⟩ := List.mem_map.mp hp
   have := ZQ (hw' z hz)
   exact ⟨this.1, this.2.1⟩
 have es : MK (.nm m) (.t ws) = if ws = [] then [45] else aF [32] (ws.map cd) := rfl
 rw [es]
 by_cases e : ws = []
 · subst e
   rw [if_pos rfl]
   exact ⟨by decide, by decide, ⟨by decide, by rw [cU]; decide⟩, rfl, by decide⟩
 · rw [if_neg e]
   have hs : aH (aF [32] (ws.map cd)) = ws.map cd := o9 (fun e' => e (List.map_eq_nil_iff.mp e')) fun p hp' => (hp p hp').1
   refine ⟨u5 (Xh hp) (N6 hp), VR (fun e' => e (List.map_eq_nil_iff.mp e')) hp, ⟨?_, fun c hc => ?_⟩, ?_, by omega⟩
   · rw [zU]
     have h1 := pA [32] (ws.map cd)
     have h2 : ((ws.map cd).map List.length).sum = (ws.map (·.length)).sum := by rw [List.map_map]; rfl
     rw [h2, List.length_map, show ([32] : List Nat).length = 1 from rfl] at h1
     omega
   · rw [cU] at hc
     rcases mem_join hc with e' | ⟨p, hp', e'⟩
     · omega
     · obtain ⟨z, hz, rfl⟩ := List.mem_map.mp hp'
       have := (hw' z hz).2.2 c e'; omega
   · unfold N.Qh
     rw [if_neg, hs]
     intro e'
     rw [e', z8 (by decide)] at hs
     have : [45] ∈ ws.map cd := by rw [← hs]; simp
     obtain ⟨z, hz, e2⟩ := List.mem_map.mp this
     exact (ZQ (hw' z hz)).2.2 e2
theorem acF (ws : List Str) : (ws.map cd).map S = ws := by
 rw [List.map_map]
 conv => rhs; rw [← List.map_id ws]
 exact List.map_congr_left fun z _ => d8 z
theorem bnd {lo hi n : Int} (g : lo ≤ hi ∧ lo.natAbs < 10 ^ 60 ∧ hi.natAbs < 10 ^ 60) (h : (decide (lo ≤ n) && decide (n ≤ hi)) = true) : n.natAbs < 10 ^ 60 := by
 simp only [Bool.and_eq_true, decide_eq_true_iff] at h
 omega
theorem V0 {ku : KU} {a : AV} (g : ku.Good) (h : fit ku a = true) : ans ku (MK ku a) = some a := by
 cases ku <;> cases a <;> first | (cases h; done) | skip
 case yn.b x =>
   cases x
   · show (YN.lookup (S (cd "no"))).map AV.b = some (.b false)
     rw [d8]; decide +kernel
   · show (YN.lookup (S (cd "yes"))).map AV.b = some (.b true)
     rw [d8]; decide +kernel
 case wh.i lo hi n => show (gK (bB n) 60).map AV.i = _; rw [Rg (bnd g h)]; rfl
 case mo.i lo hi n => show (oO (bZ n)).map AV.i = _; rw [Zq (bnd g h)]; rfl
 case pk.s ws z => show some (AV.s (S (cd z))) = _; rw [d8]
 case nm.t m ws =>
   have := (R5 g h).2.2.2.1
   show some (AV.t ((N.Qh (MK (.nm m) (.t ws))).map S)) = _
   rw [this, acF]
theorem tL {ku : KU} {a : AV} (g : ku.Good) (h : fit ku a = true) : tZ (MK ku a) = MK ku a ∧ MK ku a ≠ [] ∧ bA 200 (S (MK ku a)) := by
 cases ku <;> cases a <;> first | (cases h; done) | skip
 case yn.b x =>
   cases x
   · show tZ (cd "no") = cd "no" ∧ cd "no" ≠ [] ∧ bA 200 (S (cd "no"))
     rw [d8]
     exact ⟨by symm, by symm, ⟨by symm, by symm⟩⟩
   · show tZ (cd "yes") = cd "yes" ∧ cd "yes" ≠ [] ∧ bA 200 (S (cd "yes"))
     rw [d8]
     exact ⟨by symm, by symm, ⟨by symm, by symm⟩⟩
 case wh.i lo hi n => exact ⟨Ui n, abj n, (abk (bnd g h)).mono (by decide)⟩
 case mo.i lo hi n =>
   refine ⟨u5 NB.1 NB.2, fun e => ?_, (Jd (bnd g h)).mono (by decide)⟩
   have := aby n
   have e' : bZ n = [] := e
   rw [e'] at this; exact absurd this (by decide)
 case pk.s ws z =>
   have hz : z ∈ ws := of_decide_eq_true h
   have hw := g.1.wd z hz
   have := ZQ hw
   refine ⟨Nu fun c hc e => this.1 (by rw [← e]; exact hc), this.2.1, ?_⟩
   show bA 200 (S (cd z))
   rw [d8]
   exact ⟨by have := hw.1; omega, fun c hc => by have := hw.2.2 c hc; omega⟩
 case nm.t m ws =>
   have := R5 g h
   exact ⟨this.1, this.2.1, this.2.2.1⟩
abbrev fP (n : Nat) (pw : Addr) : List (Str × V) := [("low", .int 0), ("high", .int ((n : Int) - 1)), ("words", .ref pw)]
def cls (A : cj) : KU → Addr
 | .yn => A.mR
 | .wh _ _ => A.kJ
 | .mo _ _ => A.kI
 | .pk _ => A.lR
 | .nm _ => A.mO
def fl (H : Hp) (fs : List (Str × V)) : KU → Prop
 | .pk ws => ∃ pw, fs = fP ws.length pw ∧ H pw = some (.lst (ws.map V.str))
 | .yn => fs = lr 0 1
 | .wh lo hi => fs = lr lo hi
 | .mo lo hi => fs = lr lo hi
 | .nm m => fs = lr 0 (m : Nat)
def st (A : cj) (ku : KU) (H : Hp) (p : Addr) : Prop := ∃ dx fs, H p = some (.ins (cls A ku) dx fs) ∧ fl H fs ku
theorem fl.same {H H' : Hp} {fs : List (Str × V)} {ku : KU} (e : az H H') (h : fl H fs ku) : fl H' fs ku := by
 cases ku with
 | pk ws => obtain ⟨pw, h1, h2⟩ := h; exact ⟨pw, h1, e _ _ h2⟩
 | yn => exact h
 | wh lo hi => exact h
 | mo lo hi => exact h
 | nm m => exact h
theorem st.same {A : cj} {ku : KU} {H H' : Hp} {p : Addr} (e : az H H') (h : st A ku H p) : st A ku H' p := by
 obtain ⟨dx, fs, h1, h2⟩ := h
 exact ⟨dx, fs, e _ _ h1, h2.same e⟩
def ms : List Str := ["fits", "answer_of", "read", "shown", "rank", "sample"]
theorem auI {f a b c : Str} {v w u : V} (h1 : (f == a) = false) (h2 : (f == b) = false) (h3 : (f == c) = false) : ([(a, v), (b, w), (c, u)] : List (Str × V)).lookup f = none := by
 rw [List.lookup_cons, h1, List.lookup_cons, h2, List.lookup_cons, h3]; rfl
theorem V1 {f : Str} {lo hi : Int} (h1 : (f == ("low" : Str)) = false) (h2 : (f == ("high" : Str)) = false) : (lr lo hi).lookup f = none := lk0 h1 h2
theorem lkp {f : Str} {n : Nat} {pw : Addr} (h1 : (f == ("low" : Str)) = false) (h2 : (f == ("high" : Str)) = false) (h3 : (f == ("words" : Str)) = false) : (fP n pw).lookup f = none := auI h1 h2 h3
theorem HD {lo hi : Int} {m : Str} (hm : m ∈ ms) : (lr lo hi).lookup m = none := by
 simp only [ms, List.mem_cons, List.not_mem_nil, or_false] at hm
 rcases hm with e | e | e | e | e | e
 · subst e; exact V1 (by symm) (by symm)
 · subst e; exact V1 (by symm) (by symm)
 · subst e; exact V1 (by symm) (by symm)
 · subst e; exact V1 (by symm) (by symm)
 · subst e; exact V1 (by symm) (by symm)
 · subst e; exact V1 (by symm) (by symm)
theorem fl.no {H : Hp} {fs : List (Str × V)} {ku : KU} {m : Str} (h : fl H fs ku) (hm : m ∈ ms) : fs.lookup m = none := by
 cases ku with
 | pk ws =>
   obtain ⟨pw, rfl, _⟩ := h
   simp only [ms, List.mem_cons, List.not_mem_nil, or_false] at hm
   rcases hm with e | e | e | e | e | e
   · subst e; exact lkp (by symm) (by symm) (by symm)
   · subst e; exact lkp (by symm) (by symm) (by symm)
   · subst e; exact lkp (by symm) (by symm) (by symm)
   · subst e; exact lkp (by symm) (by symm) (by symm)
   · subst e; exact lkp (by symm) (by symm) (by symm)
   · subst e; exact lkp (by symm) (by symm) (by symm)
 | yn => have h : fs = lr 0 1 := h; rw [h]; exact HD hm
 | wh lo hi => have h : fs = lr lo hi := h; rw [h]; exact HD hm
 | mo lo hi => have h : fs = lr lo hi := h; rw [h]; exact HD hm
 | nm m => have h : fs = lr 0 (m : Nat) := h; rw [h]; exact HD hm
theorem fl.low {H : Hp} {fs : List (Str × V)} {ku : KU} (h : fl H fs ku) : fs.lookup ("low" : Str) = some (.int ku.low) := by
 cases ku with
 | pk ws => obtain ⟨pw, rfl, _⟩ := h; exact lk1
 | yn => have h : fs = lr 0 1 := h; rw [h]; exact lk1
 | wh lo hi => have h : fs = lr lo hi := h; rw [h]; exact lk1
 | mo lo hi => have h : fs = lr lo hi := h; rw [h]; exact lk1
 | nm m => have h : fs = lr 0 (m : Nat) := h; rw [h]; exact lk1
theorem fl.high {H : Hp} {fs : List (Str × V)} {ku : KU} (h : fl H fs ku) : fs.lookup ("high" : Str) = some (.int ku.high) := by
 cases ku with
 | pk ws => obtain ⟨pw, rfl, _⟩ := h; exact lk2 Xd
 | yn => have h : fs = lr 0 1 := h; rw [h]; exact lk2 Xd
 | wh lo hi => have h : fs = lr lo hi := h; rw [h]; exact lk2 Xd
 | mo lo hi => have h : fs = lr lo hi := h; rw [h]; exact lk2 Xd
 | nm m => have h : fs = lr 0 (m : Nat) := h; rw [h]; exact lk2 Xd
def AR (K : W.Frag) (H : Hp) : AV → V → Prop
 | .b x, v => v = .bl x
 | .i n, v => v = .int n
 | .s z, v => v = .str z
 | .t ws, v => ∃ p, v = .ref p ∧ o8 K H p (ws.map V.str)
theorem AR.same {K : W.Frag} {H H' : Hp} {a : AV} {v : V} (e : az H H') (h : AR K H a v) : AR K H' a v := by
 cases a with
 | b x => exact h
 | i x => exact h
 | s x => exact h
 | t ws => obtain ⟨p, h1, h2⟩ := h; exact ⟨p, h1, e.adw h2⟩
def U3 (K : W.Frag) (A : cj) (ku : KU) : Sp := fun vs H Q _ => ∃ p x a, vs = [.ref p, x] ∧ st A ku H p ∧ AR K H a x ∧ fit ku a = true ∧ ∀ H', az H H' → Q (.str (S (MK ku a))) H'
theorem aB.imp {P : Program} {w : World} {K : W.Frag} {mg : Str → Option Value} {base : Heap} {CX : Hx} {k : Nat} {f : Addr} {fd : FuncData} {ps : List Str} {sp sp' : Sp} (F : aB P w K mg base CX k f fd ps sp) (h : ∀ vs H Q E, sp' vs H Q E → sp vs H Q E) : aB P w K mg base CX k f fd ps sp' :=
 ⟨fun vs H Q E q => F.len vs H Q E (h _ _ _ _ q), fun A outer s H args us vs Q E hr he hb hv hs => F.run A outer s H args us vs Q E hr he hb hv (h _ _ _ _ hs)⟩
theorem sU.imp {P : Program} {w : World} {K : W.Frag} {mg : Str → Option Value} {base : Heap} {CX : Hx} {k : Nat} {f : Addr} {fd : FuncData} {ps : List Str} {sp sp' : Sp} (F : sU P w K mg base CX k f fd ps sp) (h : ∀ vs H Q E, sp' vs H Q E → sp vs H Q E) : sU P w K mg base CX k f fd ps sp' :=
 ⟨fun vs H Q E q => F.len vs H Q E (h _ _ _ _ q), fun A outer s H args us vs Q E hr he hn hb hv hs => F.run A outer s H args us vs Q E hr he hn hb hv (h _ _ _ _ hs)⟩
theorem v5 (z : Str) (ws : List Str) : inV (.str z) (ws.map V.str) = decide (z ∈ ws) := by
 unfold inV
 rw [List.any_map, Bool.eq_iff_iff, List.any_eq_true, decide_eq_true_iff]
 constructor
 · rintro ⟨y, hy, e⟩
   have : y = z := eq_of_beq e
   rw [← this]; exact hy
 · intro h; exact ⟨z, h, by show (z == z) = true; exact beq_self_eq_true z⟩
theorem Xi (v w u : V) : j4 "words" u [(("low" : Str), v), (("high" : Str), w)] = [(("low" : Str), v), (("high" : Str), w), (("words" : Str), u)] := by
 unfold j4
 rw [if_neg (by symm)]
 unfold j4
 rw [if_neg (by symm)]
 rfl
section
variable {P : Program} {w : World} {K : W.Frag} {mg : Str → Option Value} {base : Heap} {A : cj}
end
structure SM (P : Program) (w : World) (K : W.Frag) (mg : Str → Option Value) (base : Heap) (A : cj) (ku : KU) where
 cl : yh K (cls A ku)
 n1 : aC K (cls A ku) "low"
 n2 : aC K (cls A ku) "high"
 Js : jQ P w K mg base aL 4 (cls A ku) "shown"
 es : Js.sp = U3 K A ku
 ds : Js.oK = []
theorem acH {a : AV} {lo hi : Int} (h : fit (.wh lo hi) a = true) : ∃ n, a = .i n := by
 cases a <;> first | exact ⟨_, rfl⟩ | (cases h; done)
section
variable {P : Program} {w : World} {K : W.Frag} {mg : Str → Option Value} {base : Heap} {A : cj}
theorem Xj (T : Txt K mg A) (lo hi : Int) (g : (KU.wh lo hi).Good) : aB P w K mg base aL 1 A.jx A.jy ["self", "answer"] (U3 K A (.wh lo hi)) := by
 refine (Xe T).imp fun vs H Q E h => ?_
 obtain ⟨p, x, a, rfl, hp, ha, hf, q⟩ := h
 obtain ⟨n, rfl⟩ := acH hf
 cases ha
 exact ⟨p, n, rfl, bnd g hf, q⟩
theorem Xk (T : Txt K mg A) (lo hi : Int) (g : (KU.mo lo hi).Good) : aB P w K mg base aL 2 A.jz A.jA ["self", "answer"] (U3 K A (.mo lo hi)) := by
 refine (Xg T).imp fun vs H Q E h => ?_
 obtain ⟨p, x, a, rfl, hp, ha, hf, q⟩ := h
 obtain ⟨n, rfl⟩ := acH (lo := lo) (hi := hi) (show fit (.wh lo hi) a = true by cases a <;> exact hf)
 cases ha
 exact ⟨p, n, rfl, bnd g hf, q⟩
def smW (T : Txt K mg A) (lo hi : Int) (g : (KU.wh lo hi).Good) : SM P w K mg base A (.wh lo hi) := ⟨T.vQ, T.CJ, T.zb, ⟨_, _, _, _, [], [], T.vQ, T.Kc, (Xj T lo hi g).mono (by decide), T.Gr, .nil⟩, rfl, rfl⟩
def smM (T : Txt K mg A) (lo hi : Int) (g : (KU.mo lo hi).Good) : SM P w K mg base A (.mo lo hi) := ⟨T.vR, T.CK, T.zc, ⟨_, _, _, _, [], [], T.vR, T.Kd, (Xk T lo hi g).mono (by decide), T.Gu, .nil⟩, rfl, rfl⟩
end
def oF : KU → List Nat
 | .yn => cd ‹"yesno"›
 | .wh lo hi => cd ‹"whole "› ++ (bB lo ++ [32] ++ bB hi)
 | .mo lo hi => cd ‹"money "› ++ (bZ lo ++ [32] ++ bZ hi)
 | .pk ws => cd ‹"pick "› ++ aF [32] (ws.map cd)
 | .nm m => cd ‹"names "› ++ bB m
theorem fl.noT {H : Hp} {fs : List (Str × V)} {ku : KU} (h : fl H fs ku) : fs.lookup ‹"told"› = none ∧ fs.lookup ‹"bounds"› = none := by
 cases ku with
 | pk ws => obtain ⟨pw, rfl, _⟩ := h; exact ⟨lkp (by symm) (by symm) (by symm), lkp (by symm) (by symm) (by symm)⟩
 | yn => have h : fs = lr 0 1 := h; rw [h]; exact ⟨V1 (by symm) (by symm), V1 (by symm) (by symm)⟩
 | wh lo hi => have h : fs = lr lo hi := h; rw [h]; exact ⟨V1 (by symm) (by symm), V1 (by symm) (by symm)⟩
 | mo lo hi => have h : fs = lr lo hi := h; rw [h]; exact ⟨V1 (by symm) (by symm), V1 (by symm) (by symm)⟩
 | nm m => have h : fs = lr 0 (m : Nat) := h; rw [h]; exact ⟨V1 (by symm) (by symm), V1 (by symm) (by symm)⟩
def tM (A : cj) (ku : KU) : Sp := fun vs H Q _ => ∃ p, vs = [.ref p] ∧ st A ku H p ∧ ∀ H', az H H' → Q (.str (S (oF ku))) H'
def bnL (ku : KU) : List Nat := MK ku (.i ku.low) ++ [32] ++ MK ku (.i ku.high)
def adO (A : cj) (ku : KU) : Sp := fun vs H Q _ => ∃ p, vs = [.ref p] ∧ st A ku H p ∧ ∀ H', az H H' → Q (.str (S (bnL ku))) H'
theorem fsz {n m : Nat} {x y : Str} (h : bA n x) (k : bA m y) (l : n + m ≤ 1000 := by decide) : x.length + y.length ≤ sizeLine := zJ (m := 1000) (by have := h.len; have := k.len; omega)
section
variable {P : Program} {w : World} {K : W.Frag} {mg : Str → Option Value} {base : Heap} {A : cj}
theorem ZR (T : Txt K mg A) {ku : KU} (g : ku.Good) (hw : (∃ lo hi, ku = .wh lo hi) ∨ ∃ lo hi, ku = .mo lo hi) (M : SM P w K mg base A ku) : aB P w K mg base aL 5 A.d7 A.gj ["self"] (adO A ku) := by
 refine T.DR.ok CV (fun vs H Q E h => ?_) (fun cdv A0 outer s H vs Q E hr h => ?_)
 · obtain ⟨p, rfl, _⟩ := h
   rfl
 obtain ⟨p, rfl, hp, q⟩ := h
 refine ⟨_, (zD (zM (zI zG (zI zG (yH (CX := aL) (k := 4) ‹hr› zL (pv 0) (zA (zX (pv 0) rfl) zB)) zH) (yH (CX := aL) (k := 4) ‹hr› zL (pv 0) (zA (zX (pv 0) rfl) zB))))), ?_⟩
 have fl' : fit ku (.i ku.low) = true ∧ fit ku (.i ku.high) = true := by
   rcases hw with ⟨lo, hi, rfl⟩ | ⟨lo, hi, rfl⟩
   · have g : lo ≤ hi ∧ _ := g
     exact ⟨by show (decide (lo ≤ lo) && decide (lo ≤ hi)) = true; simp [g.1], by show (decide (lo ≤ hi) && decide (hi ≤ hi)) = true; simp [g.1]⟩
   · have g : lo ≤ hi ∧ _ := g
     exact ⟨by show (decide (lo ≤ lo) && decide (lo ≤ hi)) = true; simp [g.1], by show (decide (lo ≤ hi) && decide (hi ≤ hi)) = true; simp [g.1]⟩
 obtain ⟨dx, fs, hi, hf⟩ := id hp
 have f1 := (tL g fl'.1).2.2
 have f2 := (tL g fl'.2).2.2
 have f32 : bA 1 ‹" "› := ⟨by symm, by symm⟩
 refine ⟨_, rfl, p, cls A ku, dx, fs, M.Js, rfl, hi, hf.no (by symm), _, rfl, p, cls A ku, dx, fs, _, rfl, hi, M.cl, M.n1, hf.low, ?_⟩
 rw [M.es, M.ds]
 refine ⟨p, _, .i ku.low, rfl, hp, rfl, fl'.1, fun H1 s1 => ?_⟩
 refine ⟨_, _, rfl, rfl, fsz f1 f32, ?_⟩
 refine ⟨_, rfl, p, cls A ku, dx, fs, M.Js, rfl, s1 _ _ hi, hf.no (by symm), _, rfl, p, cls A ku, dx, fs, _, rfl, s1 _ _ hi, M.cl, M.n2, hf.high, ?_⟩
 rw [M.es, M.ds]
 refine ⟨p, _, .i ku.high, rfl, hp.same s1, rfl, fl'.2, fun H2 s2 => ?_⟩
 refine ⟨_, _, rfl, rfl, fsz (f1.app f32) f2, ?_⟩
 have e : S (MK ku (.i ku.low)) ++ ‹" "› ++ S (MK ku (.i ku.high)) = S (bnL ku) := by
   rw [show ‹" "› = S [32] by symm, xN, xN]; rfl
 rw [e]
 exact q _ (s1.trans s2)
theorem HF {ku : KU} (g : ku.Good) (hw : (∃ lo hi, ku = .wh lo hi) ∨ ∃ lo hi, ku = .mo lo hi) : bA 401 (S (bnL ku)) := by
 have fl' : fit ku (.i ku.low) = true ∧ fit ku (.i ku.high) = true := by
   rcases hw with ⟨lo, hi, rfl⟩ | ⟨lo, hi, rfl⟩
   · have g : lo ≤ hi ∧ _ := g
     exact ⟨by show (decide (lo ≤ lo) && decide (lo ≤ hi)) = true; simp [g.1], by show (decide (lo ≤ hi) && decide (hi ≤ hi)) = true; simp [g.1]⟩
   · have g : lo ≤ hi ∧ _ := g
     exact ⟨by show (decide (lo ≤ lo) && decide (lo ≤ hi)) = true; simp [g.1], by show (decide (lo ≤ hi) && decide (hi ≤ hi)) = true; simp [g.1]⟩
 have f1 := (tL g fl'.1).2.2
 have f2 := (tL g fl'.2).2.2
 have f32 : bA 1 ‹" "› := ⟨by symm, by symm⟩
 have e : S (MK ku (.i ku.low)) ++ ‹" "› ++ S (MK ku (.i ku.high)) = S (bnL ku) := by
   rw [show ‹" "› = S [32] by symm, xN, xN]; rfl
 rw [← e]
 exact (f1.app f32).app f2
theorem ZS (T : Txt K mg A) : aB P w K mg base aL 1 A.pK A.pL ["self"] (tM A .yn) := by
 refine T.Jg.ok G6 (fun vs H Q E h => ?_) (fun cdv A0 outer s H vs Q E hr h => ?_)
 · obtain ⟨p, rfl, _⟩ := h
   rfl
 obtain ⟨p, rfl, hp, q⟩ := h
 refine ⟨_, (zD (zM zH)), ?_⟩
 have q := q _ (az.refl _)
 rw [show oF .yn = cd ‹"yesno"› from rfl, d8] at q
 exact q
theorem ZV (T : Txt K mg A) {lo hi : Int} (g : (KU.wh lo hi).Good) : aB P w K mg base aL 6 A.pM A.pN ["self"] (tM A (.wh lo hi)) := by
 refine T.Ji.ok G7 (fun vs H Q E h => ?_) (fun cdv A0 outer s H vs Q E hr h => ?_)
 · obtain ⟨p, rfl, _⟩ := h
   rfl
 obtain ⟨p, rfl, hp, q⟩ := h
 obtain ⟨kbd, hk⟩ : ∃ k : Nat, k = 5 := ⟨_, rfl⟩
 refine ⟨_, (zD (zM (zI zG zH (yC (CX := aL) (k := kbd) ‹hr› zL (pv 0))))), ?_⟩
 subst hk
 obtain ⟨dx, fs, hi', hf⟩ := id hp
 refine ⟨_, rfl, p, A.kJ, dx, fs, ⟨A.d7, A.gj, ["self"], adO A (.wh lo hi), [], [], T.vQ, T.GZ, ZR T g (.inl ⟨lo, hi, rfl⟩) (smW T lo hi g), T.sZ, .nil⟩, rfl, hi', hf.noT.2, p, rfl, hp, fun H1 s1 => ?_⟩
 have f0 : bA 6 ‹"whole "› := ⟨by symm, by symm⟩
 refine ⟨_, _, rfl, rfl, fsz f0 (HF g (.inl ⟨lo, hi, rfl⟩)), ?_⟩
 have e : ‹"whole "› ++ S (bnL (.wh lo hi)) = S (oF (.wh lo hi)) := by
   rw [show ‹"whole "› = S (cd ‹"whole "›) from (d8 _).symm, xN]; rfl
 rw [e]
 exact q _ s1
theorem ZW (T : Txt K mg A) {lo hi : Int} (g : (KU.mo lo hi).Good) : aB P w K mg base aL 6 A.pO A.pP ["self"] (tM A (.mo lo hi)) := by
 refine T.Jk.ok G8 (fun vs H Q E h => ?_) (fun cdv A0 outer s H vs Q E hr h => ?_)
 · obtain ⟨p, rfl, _⟩ := h
   rfl
 obtain ⟨p, rfl, hp, q⟩ := h
 obtain ⟨kbd, hk⟩ : ∃ k : Nat, k = 5 := ⟨_, rfl⟩
 refine ⟨_, (zD (zM (zI zG zH (yC (CX := aL) (k := kbd) ‹hr› zL (pv 0))))), ?_⟩
 subst hk
 obtain ⟨dx, fs, hi', hf⟩ := id hp
 refine ⟨_, rfl, p, A.kI, dx, fs, ⟨A.d7, A.gj, ["self"], adO A (.mo lo hi), [], [], T.vR, T.G4, ZR T g (.inr ⟨lo, hi, rfl⟩) (smM T lo hi g), T.sZ, .nil⟩, rfl, hi', hf.noT.2, p, rfl, hp, fun H1 s1 => ?_⟩
 have f0 : bA 6 ‹"money "› := ⟨by symm, by symm⟩
 refine ⟨_, _, rfl, rfl, fsz f0 (HF g (.inr ⟨lo, hi, rfl⟩)), ?_⟩
 have e : ‹"money "› ++ S (bnL (.mo lo hi)) = S (oF (.mo lo hi)) := by
   rw [show ‹"money "› = S (cd ‹"money "›) from (d8 _).symm, xN]; rfl
 rw [e]
 exact q _ s1
theorem ZX (T : Txt K mg A) {ws : List Str} (g : (KU.pk ws).Good) : aB P w K mg base aL 1 A.rA A.rB ["self"] (tM A (.pk ws)) := by
 refine T.Ln.ok Kh (fun vs H Q E h => ?_) (fun cdv A0 outer s H vs Q E hr h => ?_)
 · obtain ⟨p, rfl, _⟩ := h
   rfl
 obtain ⟨p, rfl, hp, q⟩ := h
 refine ⟨_, (zD (zM (zI zG zH (xJ PySem.F.plainAttrs_str PySem.F.slot_str_join PySem.F.type_str_join By zH (zA (zX (pv 0) rfl) zB))))), ?_⟩
 obtain ⟨dx, fs, hi', pw, rfl, Qj⟩ := hp
 have g6 : ws.length ≤ 6 := g.2.2
 have hs := Ku (n := 12) (l := ws) fun z hz => (g.1.wd z hz).1
 have hsz : (ws.map (·.length)).sum + ws.length * ‹" "›.length ≤ 16777216 := by
   rw [show ‹" "›.length = 1 by symm]; omega
 refine ⟨rfl, _, rfl, p, _, dx, _, _, rfl, hi', T.HB, T.zf, rfl, _, pw, ws, rfl, rfl, .inl (bG.of Qj), hsz, ?_⟩
 rw [xV, show cd ‹" "› = [32] by symm]
 have hj := pA [32] (ws.map cd)
 have hj2 : (aF [32] (ws.map cd)).length ≤ 100 := by
   have e1 : ((ws.map cd).map List.length).sum = (ws.map (·.length)).sum := by
     rw [List.map_map]; exact congrArg List.sum (List.map_congr_left fun z _ => (yE z).symm)
   rw [e1, List.length_map] at hj
   have : [32].length = 1 := rfl
   rw [this] at hj
   omega
 refine ⟨_, _, rfl, rfl, zJ (m := 1000) (by rw [zU, show ‹"pick "›.length = 5 by symm]; omega), ?_⟩
 have e : ‹"pick "› ++ S (aF [32] (ws.map cd)) = S (oF (.pk ws)) := by
   rw [show ‹"pick "› = S (cd ‹"pick "›) from (d8 _).symm, xN]; rfl
 rw [e]
 exact q _ (az.refl _)
theorem ZZ (T : Txt K mg A) {m : Nat} (g : (KU.nm m).Good) : aB P w K mg base aL 1 A.pQ A.pR ["self"] (tM A (.nm m)) := by
 refine T.Jm.ok G9 (fun vs H Q E h => ?_) (fun cdv A0 outer s H vs Q E hr h => ?_)
 · obtain ⟨p, rfl, _⟩ := h
   rfl
 obtain ⟨p, rfl, hp, q⟩ := h
 refine ⟨_, (zD (zM (zI zG zH (yR yW (by rfl) T.m8 Bt.str (zA (zX (pv 0) rfl) zB))))), ?_⟩
 obtain ⟨dx, fs, hi', hf⟩ := hp
 have g6 : m ≤ 6 := g
 have p60 : (7 : Nat) < 10 ^ 60 := by symm
 refine ⟨_, rfl, p, _, dx, fs, _, rfl, hi', T.Ke, T.zg, fl.high (ku := .nm m) hf, (m : Int), rfl, VB (Nat.lt_trans (show ((m : Nat) : Int).natAbs < 10 ^ 60 by omega) (by symm)), ?_⟩
 rw [str_is]
 have hl := tL (ku := .wh 0 6) (a := .i m) ⟨by decide, by symm, by symm⟩ (by show (decide ((0 : Int) ≤ m) && decide ((m : Int) ≤ 6)) = true; simp; omega)
 have f0 : bA 6 ‹"names "› := ⟨by symm, by symm⟩
 have fn : bA 200 (S (bB (m : Int))) := hl.2.2
 refine ⟨_, _, rfl, rfl, fsz f0 fn, ?_⟩
 have e : ‹"names "› ++ S (bB (m : Int)) = S (oF (.nm m)) := by
   rw [show ‹"names "› = S (cd ‹"names "›) from (d8 _).symm, xN]; rfl
 rw [e]
 exact q _ (az.refl _)
def JT (T : Txt K mg A) : (ku : KU) → ku.Good → jQ P w K mg base aL 6 (cls A ku) "told"
 | .yn, _ => ⟨_, _, _, tM A .yn, [], [], T.RX, T.Mr, (ZS T).mono (by decide), T.Jh, .nil⟩
 | .wh lo hi, g => ⟨_, _, _, tM A (.wh lo hi), [], [], T.vQ, T.Mt, ZV T g, T.Jj, .nil⟩
 | .mo lo hi, g => ⟨_, _, _, tM A (.mo lo hi), [], [], T.vR, T.Mv, ZW T g, T.Jl, .nil⟩
 | .pk ws, g => ⟨_, _, _, tM A (.pk ws), [], [], T.HB, T.P0, (ZX T g).mono (by decide), T.Lp, .nil⟩
 | .nm m, g => ⟨_, _, _, tM A (.nm m), [], [], T.Ke, T.Mw, (ZZ T g).mono (by decide), T.Jo, .nil⟩
theorem acJ (T : Txt K mg A) (ku : KU) (g : ku.Good) : (JT (P := P) (w := w) (base := base) T ku g).sp = tM A ku ∧ (JT (P := P) (w := w) (base := base) T ku g).oK = [] := by
 cases ku <;> exact ⟨rfl, rfl⟩
end
end dI
set_option maxHeartbeats 4000000
namespace dI.N
open PySem L2
seal PE PT PW PA PS j0 PG tR PI PO iz iW uH aU iB qZ rZ PC uZ
local macro_rules | `(tactic| walk_at "rd1") => `(tactic| first
 | (refine And.intro rfl ?_)
 | (refine And.intro (by assumption) ?_)
 | (refine And.intro (fun _ e => e) ?_)
 | (refine And.intro (au.str _) ?_) | (refine And.intro (au.int _) ?_) | (refine And.intro (au.bl _) ?_) | (refine And.intro au.non ?_)
 | (refine bJ ?_) | (refine bh ?_)
 | (apply Exists.intro))
local macro_rules | `(tactic| walk_at "rd") => `(tactic| repeat (walk_at "rd1"))
def Xl (K : W.Frag) : Sp := fun vs H Q _ => ∃ (p : Addr) (xs : List V), vs = [.ref p] ∧ bG K H p xs ∧ xs.length ≤ 1000 ∧ (∀ x ∈ xs, Ok K H x) ∧ ∀ H', az H H' → Q (.bl (jH xs)) H'
section
variable {P : Program} {w : World} {K : W.Frag} {mg : Str → Option Value} {base : Heap} {A : cj}
theorem U4 (T : Txt K mg A) : aB P w K mg base aL 2 A.gM A.jN ["words"] (Xl K) := by
 have eN := mz (P := P) (w := w) (base := base) T
 refine T.Ai.ok xZ (fun vs H Q E h => ?_) (fun cdv A0 outer s H vs Q E hr h => ?_)
 · obtain ⟨x, xs, rfl, _⟩ := h
   rfl
 obtain ⟨p, xs, rfl, hq, hl, hx, q⟩ := h
 refine ⟨_, (zD (zM (pD (zW (Bx rfl) (by rfl) T.VN Bt.all (zA (pH (yX (x := "word") (M := ["words"]) rfl (by rfl)) rfl (xY (pv 0)) (fun _ _ _ _ => (zN eN ‹hr› rfl T.jY T.jX T.jW .nil zL (zA (pv 0) zB)))) zB)) (pC (yI yG (zW Li (by rfl) T.gJ PySem.boot_len (zA (yR (O2 rfl) (by rfl) T.agS Bt.set (zA (pv 0) zB)) zB)) (zW zZ (by rfl) T.gJ PySem.boot_len (zA (pv 0) zB)) (zO _)))))), ?_⟩
 refine ⟨_, rfl, p, rfl, ⟨_, hq⟩, ?_⟩
 refine pI (xs := xs) (zJ (m := 1000) hl) (fun i ys H' => az H H' ∧ ys = (xs.take i).map fun x => V.bl (nameV x)) ⟨az.refl _, rfl⟩ (fun i ys H' hw => hw.1.seq hq) (fun i x ys H' hi hl' hw => ?_) (fun ys H' hl' hw p2 hp2 => ?_)
 · obtain ⟨sH, rfl⟩ := hw
   refine ⟨_, rfl, _, rfl, (hx x (List.mem_of_getElem? hi)).same sH, fun H2 s2 => ⟨sH.trans s2, ?_⟩⟩
   rw [List.take_succ, hi, List.map_append]; rfl
 obtain ⟨sH, rfl⟩ := hw
 rw [List.take_length]
 have sB := sH.trans (zS hp2 (.lst (xs.map fun x => V.bl (nameV x))))
 refine ⟨p2, xs.map nameV, rfl, bG.of (by rw [zE, List.map_map]; rfl), _, rfl, ?_⟩
 rw [List.all_map]
 cases ha : xs.all nameV with
 | false =>
   refine Y5 (show xs.all (id ∘ nameV) = false from ha) ?_
   have e : jH xs = false := by unfold jH; rw [ha]; rfl
   rw [e] at q
   exact q _ sB
 | true =>
   refine adv (show xs.all (id ∘ nameV) = true from ha) ?_
   have exs := tX ha
   have hlw : (strsOf xs).length = xs.length := by have := congrArg List.length exs; rw [List.length_map] at this; exact this.symm
   refine ⟨_, rfl, p, strsOf xs, rfl, (by rw [← exs]; exact sB.seq hq), by omega, fun p3 hp3 => ?_⟩
   refine ⟨p3, _, _, rfl, zE, ?_⟩
   have sC := sB.trans (zS hp3 (SetT P w p3 (fun k => decide (k ∈ iY (strsOf xs))) (iY (strsOf xs)).length))
   refine ⟨_, rfl, p, xs, rfl, .inl (sC.seq hq), rfl, ?_⟩
   have e : jH xs = decide (V.int ((iY (strsOf xs)).length : Nat) = V.int (xs.length : Nat)) := by
     unfold jH
     rw [ha, Bool.true_and, Bool.eq_iff_iff, decide_eq_true_iff, decide_eq_true_iff]
     constructor
     · intro z; rw [z]
     · intro z; have : ((iY (strsOf xs)).length : Int) = xs.length := V.int.inj z; omega
   have q := q _ sC
   rw [e] at q
   exact q
end
end dI.N
namespace dI
open PySem L2
seal PE PT PW PA PS j0 PG tR PI PO iz iW uH aU iB qZ rZ PC uZ
local macro_rules | `(tactic| walk_at "rd1") => `(tactic| first
 | (refine And.intro rfl ?_)
 | (refine And.intro (by assumption) ?_)
 | (refine And.intro (fun _ e => e) ?_)
 | (refine And.intro (au.str _) ?_) | (refine And.intro (au.int _) ?_) | (refine And.intro (au.bl _) ?_) | (refine And.intro au.non ?_)
 | (refine bJ ?_) | (refine bh ?_)
 | (apply Exists.intro))
local macro_rules | `(tactic| walk_at "rd") => `(tactic| repeat (walk_at "rd1"))
def abO (A : cj) : Sp := fun vs H Q _ => ∃ p dx, vs = [.ref p] ∧ H p = some (.ins A.mR dx []) ∧ Q .non (upd H p (.ins A.mR dx (lr 0 1)))
def abP (A : cj) : Sp := fun vs H Q _ => ∃ (p dx pl : Addr) (ws : List Str), vs = [.ref p, .ref pl] ∧ H p = some (.ins A.lR dx []) ∧ H pl = some (.lst (ws.map V.str)) ∧ ∀ pw H', (∀ b o, b ≠ p → H b = some o → H' b = some o) → H' p = some (.ins A.lR dx (fP ws.length pw)) → H' pw = some (.lst (ws.map V.str)) → Q .non H'
section
variable {P : Program} {w : World} {K : W.Frag} {mg : Str → Option Value} {base : Heap} {A : cj}
theorem Z0 (T : Txt K mg A) : aB P w K mg base aL 3 A.lE A.lF ["self"] (abO A) := by
 have bI := wQ (P := P) (w := w) (base := base) T
 refine T.DP.ok CT (fun vs H Q E h => ?_) (fun cdv A0 outer s H vs Q E hr h => ?_)
 · obtain ⟨p, dx, rfl, _⟩ := h
   rfl
 obtain ⟨p, dx, rfl, hp, q⟩ := h
 refine ⟨_, (zD (yF (BP T.uA bI ‹hr› rfl T.Uz T.ig zL (zA (pv 0) (zA zF (zA zF zB)))))), ?_⟩
 exact ⟨_, rfl, p, A.mR, dx, 0, 1, rfl, hp, T.RX, T.PX, T.Ms, q⟩
theorem Z1 (T : Txt K mg A) : aB P w K mg base aL 3 A.nO A.nP ["self", "words"] (abP A) := by
 have bI := wQ (P := P) (w := w) (base := base) T
 refine T.Gv.ok Es (fun vs H Q E h => ?_) (fun cdv A0 outer s H vs Q E hr h => ?_)
 · obtain ⟨p, dx, pl, ws, rfl, _⟩ := h
   rfl
 obtain ⟨p, dx, pl, ws, rfl, hp, hl, q⟩ := h
 refine ⟨_, (zC (yF (BP T.uA bI ‹hr› rfl T.Uz T.ig zL (zA (pv 0) (zA zF (zA (zI pF (zW zZ (by rfl) T.gJ PySem.boot_len (zA (pv 1) zB)) zF) zB)))))
     (zD (yK (pv 0) (yR xU (by rfl) T.J4 Bt.list (zA (pv 1) zB)) rfl))), ?_⟩
 have hne : pl ≠ p := yf hl hp (by intro z; cases z)
 refine ⟨_, rfl, _, rfl, pl, _, rfl, .inl (bG.of hl), _, _, rfl, rfl, ?_⟩
 rw [List.length_map]
 refine ⟨p, A.lR, dx, 0, (ws.length : Int) - 1, rfl, hp, T.HB, T.RZ, T.Qa, ?_⟩
 refine ⟨_, rfl, pl, _, rfl, .inl (bG.of (by rw [zK hne]; exact hl)), fun pw hw => ?_⟩
 have hwp : pw ≠ p := fun z => by subst z; rw [zE] at hw; cases hw
 refine ⟨_, rfl, p, A.lR, dx, _, rfl, (by rw [zK (Ne.symm hwp)]; exact zE), T.HB, T.zf, (by show 2 < 1000; decide), ?_⟩
 rw [Xi]
 rw [zK hwp] at hw
 refine q pw _ (fun b o hb e => ?_) zE ?_
 · rw [zK hb]
   by_cases z : b = pw
   · subst z; rw [hw] at e; cases e
   · rw [zK z, zK hb]; exact e
 · rw [zK hwp]; exact zE
end
abbrev wv (ws : List (List Nat)) : List V := ws.map fun l => V.str (S l)
def bd2 : Option Int → Option Int → Bool
 | some a, some b => decide (a ≤ b)
 | _, _ => false
def bdB : List (Option Int) → Bool
 | [a, b] => bd2 a b
 | _ => false
def bk2 (mk : Int → Int → KU) : Option Int → Option Int → Option KU
 | some a, some b => if a ≤ b then some (mk a b) else none
 | _, _ => none
def bdK (mk : Int → Int → KU) : List (Option Int) → Option KU
 | [a, b] => bk2 mk a b
 | _ => none
theorem V2 {os : List (Option Int)} (h : bdB os = true) : ∃ a b, os = [some a, some b] ∧ a ≤ b := by
 match os, h with
 | [some a, some b], h => exact ⟨a, b, rfl, of_decide_eq_true h⟩
 | [none, _], h => cases h
 | [some _, none], h => cases h
theorem R6 {mk : Int → Int → KU} {os : List (Option Int)} (h : bdB os = false) : bdK mk os = none := by
 match os, h with
 | [], _ => rfl
 | [_], _ => rfl
 | [none, _], _ => rfl
 | [some _, none], _ => rfl
 | [some a, some b], h => exact if_neg (of_decide_eq_false h)
 | _ :: _ :: _ :: _, _ => rfl
def Kv (ws : List (List Nat)) : Option KU := bdK .wh (ws.map fun l => gK l 60)
def Kw (ws : List (List Nat)) : Option KU := bdK .mo (ws.map oO)
def N7 (ws : List (List Nat)) : Option KU := if 2 ≤ ws.length ∧ ws.length ≤ 6 ∧ N.jH (wv ws) = true then some (.pk (ws.map S)) else none
def Ew : List (List Nat) → Option KU
 | [l] => match gK l 60 with
   | some m => if 1 ≤ m ∧ m ≤ 6 then some (.nm m.toNat) else none
   | none => none
 | _ => none
def qU (l : List Nat) (ws : List (List Nat)) : Option KU :=
 if l = cd ‹"yesno"› then (if ws.length = 0 then some .yn else none) else if l = cd ‹"whole"› then Kv ws else if l = cd ‹"money"› then Kw ws
 else if l = cd ‹"pick"› then N7 ws else if l = cd ‹"names"› then Ew ws else none
def R7 (ws : List (List Nat)) : Option KU := qU (ws.headD []) ws.tail
def KR (A : cj) (H : Hp) (x : V) : Option KU → Prop
 | none => x = .non
 | some ku => ∃ p, x = .ref p ∧ st A ku H p
def auL (K : W.Frag) : Sp := fun vs H Q _ => ∃ (p : Addr) (os : List (Option Int)), vs = [.ref p] ∧ bG K H p (os.map lq) ∧ Q (.bl (bdB os)) H
def abR (A : cj) (K : W.Frag) (f : List (List Nat) → Option KU) : Sp := fun vs H Q _ => ∃ (p : Addr) (ws : List (List Nat)), vs = [.ref p] ∧ H p = some (.lst (wv ws)) ∧ ws.length ≤ 900 ∧ (∀ l ∈ ws, bA 900 (S l)) ∧ ∀ x H', az H H' → KR A H' x (f ws) → Q x H'
def ag4 (A : cj) (K : W.Frag) : Sp := fun vs H Q _ => ∃ (l : List Nat) (p : Addr) (ws : List (List Nat)), vs = [.str (S l), .ref p] ∧ H p = some (.lst (wv ws)) ∧ ws.length ≤ 900 ∧ (∀ l ∈ ws, bA 900 (S l)) ∧ ∀ x H', az H H' → KR A H' x (qU l ws) → Q x H'
def ag5 (A : cj) (K : W.Frag) : Sp := fun vs H Q E => ∃ x, vs = [x] ∧ ((∃ z, x = .str z ∧ bA 890 z ∧ (∀ ku, R7 (aH (cd z)) = some ku → ∀ p H', az H H' → st A ku H' p → Q (.ref p) H') ∧ (R7 (aH (cd z)) = none → ∀ H', az H H' → E (.ref A.BZ) none H')) ∨
 (∃ t, XC K H x t ∧ W.kitOne K t (.type "str") = some false ∧ ∀ H', az H H' → E (.ref A.BZ) none H'))
theorem Xm (os : List (Option Int)) : (os.map lq).all Bu = true := by
 rw [List.all_map, List.all_eq_true]
 intro o _
 cases o <;> rfl
theorem yQ {H : Hp} {x dx : Addr} (nx : H x = none) (nd : H dx = none) (o : HO) : az H (upd (upd H dx (.own x)) x o) := fun b u e => by
 rw [zK (zR e nx), zK (zR e nd)]; exact e
theorem R8 {l : List Nat} {z : Str} : decide (V.str (S l) = V.str z) = decide (l = cd z) := by
 rw [Bool.eq_iff_iff, decide_eq_true_iff, decide_eq_true_iff]
 constructor
 · intro e; rw [← V.str.inj e, cU]
 · intro e; rw [e, d8]
theorem ag6 (x : V) (r : List V) : Oq (x :: r) (some 1) none = r := by
 unfold Oq
 have e1 : HT.uQ (x :: r).length 0 (some 1) = 1 := by
   show (if (1 : Int) < 0 then ((1 : Int) + ((x :: r).length : Nat)).toNat else min (1 : Int).toNat (x :: r).length) = _
   rw [if_neg (by decide), List.length_cons]; show min 1 _ = 1; omega
 have e2 : HT.uQ (x :: r).length (x :: r).length none = (x :: r).length := rfl
 rw [e1, e2]
 show r.take (r.length + 1 - 1) = r
 rw [Nat.add_sub_cancel, List.take_length]
theorem adQ {os : List (Option Int)} (h : os.length ≠ 2) : bdB os = false := by
 match os with
 | [] => rfl
 | [_] => rfl
 | [_, _] => exact absurd rfl h
 | _ :: _ :: _ :: _ => rfl
section
variable {P : Program} {w : World} {K : W.Frag} {mg : Str → Option Value} {base : Heap} {A : cj}
theorem zm (T : Txt K mg A) : aB P w K mg base aL 1 A.oR A.uc ["numbers"] (auL K) := by
 refine T.O6.ok Mx (fun vs H Q E h => ?_) (fun cdv A0 outer s H vs Q E hr h => ?_)
 · obtain ⟨p, os, rfl, _⟩ := h
   rfl
 obtain ⟨p, os, rfl, hq, q⟩ := h
 refine ⟨_, (zD (zM (pD (yI yG (zW zZ (by rfl) T.gJ PySem.boot_len (zA (pv 0) zB)) zF (zO _)) (pD (yI Ov yT (pv 0) (by rfl)) (pC (yI yg (yN xD (pv 0) zF (fun _ _ => rfl)) (yN xD (pv 0) zF (fun _ _ => rfl)) (zO _))))))), ?_⟩
 refine ⟨_, rfl, p, _, rfl, .inl hq, rfl, _, rfl, dD (fun c => ?_) (fun c => ?_)⟩
 · have c1 : (((os.map lq).length : Nat) : Int) = 2 := V.int.inj (of_decide_eq_true c)
   rw [List.length_map] at c1
   obtain ⟨a, b, rfl⟩ : ∃ a b, os = [a, b] := by
     match os, c1 with
     | [a, b], _ => exact ⟨a, b, rfl⟩
     | [], h => exact absurd h (by decide)
     | [_], h => exact absurd h (by show ¬ ((1 : Nat) : Int) = 2; decide)
     | _ :: _ :: _ :: r, h => exact absurd h (by rw [List.length_cons, List.length_cons, List.length_cons]; omega)
   refine ⟨_, rfl, p, _, rfl, .inl hq, rfl, Xm _, _, rfl, ?_⟩
   cases a with
   | none => exact Y5 rfl q
   | some a =>
     cases b with
     | none => exact Y5 rfl q
     | some b =>
       have h0 : qG [lq (some a), lq (some b)] ((0 : Nat) : Int) = some (.int a) := yB rfl
       have h1 : qG [lq (some a), lq (some b)] ((1 : Nat) : Int) = some (.int b) := yB rfl
       exact adv rfl ⟨_, rfl, p, _, _, _, rfl, rfl, hq, h0, _, rfl, p, _, _, _, rfl, rfl, hq, h1, _, _, rfl, rfl, q⟩
 · have c1 : os.length ≠ 2 := fun e => c (decide_eq_true (by rw [List.length_map, e]; rfl))
   rw [adQ c1] at q
   exact q
theorem Ex (T : Txt K mg A) : aB P w K mg base aL 4 A.jB A.nQ ["words"] (abR A K Kv) := by
 have gr := xX (P := P) (w := w) (base := base) T
 have uB := zm (P := P) (w := w) (base := base) T
 have bI := wQ (P := P) (w := w) (base := base) T
 refine T.Gx.ok tG (fun vs H Q E h => ?_) (fun cdv A0 outer s H vs Q E hr h => ?_)
 · obtain ⟨p, ws, rfl, _⟩ := h
   rfl
 obtain ⟨p, ws, rfl, hp, h9, hf, q⟩ := h
 refine ⟨_, (zC (Q4 (i := 1) tG.nd rfl (by first | exact Or.inl rfl | exact Or.inr rfl) (yX (x := "word") (M := ["words", "numbers"]) rfl (by rfl)) rfl (xY (pv 0)) (fun _ _ _ _ => (zN gr ‹hr› rfl T.lW T.lV T.lU .nil zL (zA (pv 0) zB))))
     (zD (zM (yV (yP (zN uB ‹hr› rfl T.Ce T.Cd T.Ca .nil zL (zA (pv 1) zB))) (xG T.ZC bI ‹hr› rfl T.abH T.ig .nil zL (zA (yN xD (pv 1) zF (fun _ _ => rfl)) (zA (yN xD (pv 1) zF (fun _ _ => rfl)) zB))) yT)))), ?_⟩
 refine ⟨_, rfl, p, rfl, ⟨_, bG.of hp⟩, ?_⟩
 refine pI (xs := wv ws) (zJ (m := 900) (by rw [List.length_map]; exact h9)) (fun i ys H' => az H H' ∧ ys = (ws.take i).map fun l => lq (gK l 60)) ⟨az.refl _, rfl⟩ (fun i ys H' hw => bG.of (hw.1 _ _ hp)) (fun i x ys H' hx _ hw => ?_) (fun ys H' _ hw p2 hp2 => ?_)
 · obtain ⟨sH, rfl⟩ := hw
   obtain ⟨l, hli, rfl⟩ := wI hx
   refine ⟨_, rfl, S l, rfl, (hf l (List.mem_of_getElem? hli)).mono (by decide), fun H2 s2 => ⟨sH.trans s2, ?_⟩⟩
   rw [List.take_succ, hli, List.map_append, cU]; rfl
 obtain ⟨sH, rfl⟩ := hw
 rw [List.length_map, List.take_length]
 have s2 := zS hp2 (.lst (ws.map fun l => lq (gK l 60)))
 have s12 := sH.trans s2
 have hp2' : upd H' p2 (.lst (ws.map fun l => lq (gK l 60))) p2 = some (.lst ((ws.map fun l => gK l 60).map lq)) := by rw [zE, List.map_map]; rfl
 generalize upd H' p2 (.lst (ws.map fun l => lq (gK l 60))) = H2 at s12 hp2'
 generalize ho : (ws.map fun l => gK l 60) = os at hp2'
 refine ⟨_, rfl, p2, os, rfl, bG.of hp2', _, rfl, ?_⟩
 have ek : Kv ws = bdK .wh os := by unfold Kv; rw [ho]
 cases hb : bdB os with
 | false =>
   refine bh (q _ _ s12 ?_)
   rw [ek]
   have : bdK .wh os = none := R6 hb
   rw [this]; rfl
 | true =>
   obtain ⟨a, b, rfl, hab⟩ : ∃ a b, os = [some a, some b] ∧ a ≤ b := V2 hb
   have h0 : qG [lq (some a), lq (some b)] ((0 : Nat) : Int) = some (.int a) := yB rfl
   have h1 : qG [lq (some a), lq (some b)] ((1 : Nat) : Int) = some (.int b) := yB rfl
   refine bJ ⟨_, rfl, p2, _, _, _, rfl, rfl, bG.of hp2', h0, _, rfl, p2, _, _, _, rfl, rfl, bG.of hp2', h1, ?_⟩
   intro x dx nx nd ne
   refine ⟨x, A.kJ, dx, a, b, rfl, zE, T.vQ, T.CJ, T.zb, rfl, ?_⟩
   rw [yM]
   refine q _ _ (s12.trans (yQ nx nd _)) ?_
   rw [ek, show bdK .wh [some a, some b] = some (.wh a b) from if_pos hab]
   exact ⟨x, rfl, dx, _, zE, rfl⟩
theorem MN (T : Txt K mg A) : sU P w K mg base aL 4 A.fu A.iK ["words"] (abR A K Kw) := by
 have Hk := Eu (P := P) (w := w) (base := base) T
 have uB := zm (P := P) (w := w) (base := base) T
 have bI := wQ (P := P) (w := w) (base := base) T
 refine T.vh.okP lA (fun vs H Q E h => ?_) (fun cdv A0 outer s H vs Q E hr h => ?_)
 · obtain ⟨p, ws, rfl, _⟩ := h
   rfl
 obtain ⟨p, ws, rfl, hp, h9, hf, q⟩ := h
 refine ⟨_, (Ny (WX (i := 1) lA.nd rfl (by first | exact Or.inl rfl | exact Or.inr rfl) (yX (x := "word") (M := ["words", "numbers"]) rfl (by rfl)) rfl (xY (pv 0)) (fun _ _ _ _ => (Rk Hk ‹hr› rfl T.Gp T.Gn T.Gm .nil zL (zA (pv 0) zB))))
     (zD (zM (yV (yP (zN uB ‹hr› rfl T.Ce T.Cd T.Ca .nil zL (zA (pv 1) zB))) (xG T.ZD bI ‹hr› rfl T.abD T.ig .nil zL (zA (yN xD (pv 1) zF (fun _ _ => rfl)) (zA (yN xD (pv 1) zF (fun _ _ => rfl)) zB))) yT)))), ?_⟩
 refine ⟨_, rfl, p, rfl, ⟨_, bG.of hp⟩, ?_⟩
 refine pI (xs := wv ws) (zJ (m := 900) (by rw [List.length_map]; exact h9)) (fun i ys H' => az H H' ∧ ys = (ws.take i).map fun l => lq (oO l)) ⟨az.refl _, rfl⟩ (fun i ys H' hw => bG.of (hw.1 _ _ hp)) (fun i x ys H' hx _ hw => ?_) (fun ys H' _ hw p2 hp2 => ?_)
 · obtain ⟨sH, rfl⟩ := hw
   obtain ⟨l, hli, rfl⟩ := wI hx
   refine ⟨_, rfl, S l, rfl, (hf l (List.mem_of_getElem? hli)).mono (by decide), fun H2 s2 => ⟨sH.trans s2, ?_⟩⟩
   rw [List.take_succ, hli, List.map_append, cU]; rfl
 obtain ⟨sH, rfl⟩ := hw
 rw [List.length_map, List.take_length]
 have s2 := zS hp2 (.lst (ws.map fun l => lq (oO l)))
 have s12 := sH.trans s2
 have hp2' : upd H' p2 (.lst (ws.map fun l => lq (oO l))) p2 = some (.lst ((ws.map oO).map lq)) := by rw [zE, List.map_map]; rfl
 generalize upd H' p2 (.lst (ws.map fun l => lq (oO l))) = H2 at s12 hp2'
 generalize ho : (ws.map oO) = os at hp2'
 refine ⟨_, rfl, p2, os, rfl, bG.of hp2', _, rfl, ?_⟩
 have ek : Kw ws = bdK .mo os := by unfold Kw; rw [ho]
 cases hb : bdB os with
 | false =>
   refine bh (q _ _ s12 ?_)
   rw [ek]
   have : bdK .mo os = none := R6 hb
   rw [this]; rfl
 | true =>
   obtain ⟨a, b, rfl, hab⟩ : ∃ a b, os = [some a, some b] ∧ a ≤ b := V2 hb
   have h0 : qG [lq (some a), lq (some b)] ((0 : Nat) : Int) = some (.int a) := yB rfl
   have h1 : qG [lq (some a), lq (some b)] ((1 : Nat) : Int) = some (.int b) := yB rfl
   refine bJ ⟨_, rfl, p2, _, _, _, rfl, rfl, bG.of hp2', h0, _, rfl, p2, _, _, _, rfl, rfl, bG.of hp2', h1, ?_⟩
   intro x dx nx nd ne
   refine ⟨x, A.kI, dx, a, b, rfl, zE, T.vR, T.CK, T.zc, rfl, ?_⟩
   rw [yM]
   refine q _ _ (s12.trans (yQ nx nd _)) ?_
   rw [ek, show bdK .mo [some a, some b] = some (.mo a b) from if_pos hab]
   exact ⟨x, rfl, dx, _, zE, rfl⟩
theorem Hl (T : Txt K mg A) : aB P w K mg base aL 5 A.j5 A.pU ["words"] (abR A K N7) := by
 have Bm := N.U4 (P := P) (w := w) (base := base) T
 have Hm := Z1 (P := P) (w := w) (base := base) T
 refine T.Jp.ok Ha (fun vs H Q E h => ?_) (fun cdv A0 outer s H vs Q E hr h => ?_)
 · obtain ⟨p, ws, rfl, _⟩ := h
   rfl
 obtain ⟨p, ws, rfl, hp, h9, hf, q⟩ := h
 refine ⟨_, (zC (yD (PW.pt (uW (QK yg yg (xO rfl T.J0) (zW zZ (by rfl) T.gJ PySem.boot_len (zA (pv 0) zB)) (xO rfl T.PB)) (wD (yP (zN Bm ‹hr› rfl T.Am T.Al T.Aj .nil zL (zA (pv 0) zB)))))) (zD (zM (xG T.abK Hm ‹hr› rfl T.adL T.Gw .nil zL (zA (pv 0) zB)))) zV)
     (zD (zM yT))), ?_⟩
 have non : ¬ (2 ≤ ws.length ∧ ws.length ≤ 6 ∧ N.jH (wv ws) = true) → ∀ H', az H H' → Q .non H' := fun c H' s' => q _ _ s' (by unfold N7; rw [if_neg c]; rfl)
 refine ⟨_, rfl, p, _, rfl, .inl (bG.of hp), _, _, rfl, rfl, _, rfl, ?_⟩
 rw [List.length_map]
 refine dD (fun c => ⟨_, _, rfl, rfl, _, rfl, dD (fun c2 => ?_) (fun c2 => ?_)⟩) (fun c => ⟨_, rfl, ?_⟩)
 · refine ⟨_, rfl, p, _, rfl, bG.of hp, by rw [List.length_map]; omega, fun x hx => ?_, fun H1 s1 => ⟨_, rfl, dD (fun c3 => ?_) (fun c3 => ?_)⟩⟩
   · obtain ⟨l, hl, rfl⟩ := List.mem_map.mp hx
     exact ⟨⟨acE T _ _, trivial⟩, fun z e => by cases e; exact hf l hl⟩
   · refine ⟨_, rfl, ?_⟩
     intro x dx nx nd ne
     have s2 := yQ nx nd (.ins A.lR dx [])
     have ew : wv ws = (ws.map S).map V.str := by rw [List.map_map]; rfl
     refine ⟨x, dx, p, ws.map S, rfl, zE, (by rw [← ew]; exact (s1.trans s2) _ _ hp), fun pw H' F hx' hw' => ⟨rfl, ?_⟩⟩
     refine q _ _ (fun b o hb => ?_) ?_
     · have h1 := s1 _ _ hb
       exact F b o (zR h1 nx) (s2 _ _ h1)
     · unfold N7
       have d1 : (2 : Int) ≤ ws.length := of_decide_eq_true c
       have d2 : (ws.length : Int) ≤ 6 := of_decide_eq_true c2
       rw [if_pos ⟨by omega, by omega, c3⟩]
       exact ⟨x, rfl, dx, _, hx', pw, rfl, hw'⟩
   · exact non (fun z => c3 z.2.2) _ s1
 · exact non (fun z => c2 (decide_eq_true (by show (ws.length : Int) ≤ 6; omega))) _ (az.refl _)
 · exact non (fun z => c (decide_eq_true (by show (2 : Int) ≤ ws.length; omega))) _ (az.refl _)
theorem Ey (T : Txt K mg A) : aB P w K mg base aL 5 A.jC A.nR ["words"] (abR A K Ew) := by
 have gr := xX (P := P) (w := w) (base := base) T
 have Ez := N.ZP (P := P) (w := w) (base := base) T
 refine T.GD.ok tH (fun vs H Q E h => ?_) (fun cdv A0 outer s H vs Q E hr h => ?_)
 · obtain ⟨p, ws, rfl, _⟩ := h
   rfl
 obtain ⟨p, ws, rfl, hp, h9, hf, q⟩ := h
 refine ⟨_, (zC (zY (i := 1) tH.nd rfl (by first | exact Or.inl rfl | exact Or.inr rfl) (yV (zP yG (zW zZ (by rfl) T.gJ PySem.boot_len (zA (pv 0) zB)) zF (zO _)) (zN gr ‹hr› rfl T.lW T.lV T.lU .nil zL (zA (yN xD (pv 0) zF (fun _ _ => rfl)) zB)) yT))
     (zD (zM (yV (PW.pt (uW (zP Hu (pv 1) yT (zO _)) (wD (QK yg yg zF (pv 1) (xO rfl T.Pz))))) (xG T.ZF Ez ‹hr› rfl T.abE T.DX .nil zL (zA (pv 1) zB)) yT)))), ?_⟩
 refine ⟨_, rfl, p, _, rfl, .inl (bG.of hp), rfl, _, rfl, dD (fun c => ?_) (fun c => ?_)⟩
 · have c1 : (((wv ws).length : Nat) : Int) = 1 := V.int.inj (of_decide_eq_true c)
   rw [List.length_map] at c1
   obtain ⟨l, rfl⟩ : ∃ l, ws = [l] := by
     match ws, c1 with
     | [l], _ => exact ⟨l, rfl⟩
     | [], h => exact absurd h (by decide)
     | _ :: _ :: r, h => exact absurd h (by rw [List.length_cons, List.length_cons]; omega)
   have h0 : qG (wv [l]) ((0 : Nat) : Int) = some (.str (S l)) := yB rfl
   refine ⟨_, rfl, p, _, _, _, rfl, rfl, bG.of hp, h0, S l, rfl, (hf l (by simp)).mono (by decide), fun H1 s1 => ?_⟩
   rw [cU]
   cases hn : gK l 60 with
   | none =>
     refine ⟨_, rfl, rfl, _, rfl, Y5 rfl (bh (q _ _ s1 ?_))⟩
     show KR A H1 .non (match gK l 60 with | some m => if 1 ≤ m ∧ m ≤ 6 then some (.nm m.toNat) else none | none => none)
     rw [hn]; rfl
   | some m =>
     refine ⟨_, rfl, rfl, _, rfl, adv rfl ?_⟩
     have en : Ew [l] = if 1 ≤ m ∧ m ≤ 6 then some (.nm m.toNat) else none := by
       show (match gK l 60 with | some m => if 1 ≤ m ∧ m ≤ 6 then some (KU.nm m.toNat) else none | none => none) = _
       rw [hn]
     refine ⟨_, rfl, _, _, rfl, rfl, _, rfl, dD (fun c2 => ⟨_, _, rfl, rfl, _, rfl, dD (fun c3 => ?_) (fun c3 => ?_)⟩) (fun c2 => ⟨_, rfl, ?_⟩)⟩
     · have d1 : (1 : Int) ≤ m := of_decide_eq_true c2
       have d2 : m ≤ 6 := of_decide_eq_true c3
       refine ⟨_, rfl, ?_⟩
       intro x dx nx nd ne
       refine ⟨x, dx, m, rfl, zE, rfl, ?_⟩
       rw [yM]
       refine q _ _ (s1.trans (yQ nx nd _)) ?_
       rw [en, if_pos ⟨d1, d2⟩]
       refine ⟨x, rfl, dx, _, zE, ?_⟩
       show N.lr m = lr 0 (m.toNat : Nat)
       rw [show ((m.toNat : Nat) : Int) = m by omega]
     · refine q _ _ s1 ?_
       rw [en, if_neg (fun z => c3 (decide_eq_true z.2))]; rfl
     · refine bh (q _ _ s1 ?_)
       rw [en, if_neg (fun z => c2 (decide_eq_true z.1))]; rfl
 · refine ⟨_, rfl, rfl, _, rfl, Y5 rfl (bh (q _ _ (az.refl _) ?_))⟩
   have : Ew ws = none := by
     match ws, c with
     | [], _ => rfl
     | [l], h => exact absurd (decide_eq_true rfl) h
     | _ :: _ :: _, _ => rfl
   rw [this]; rfl
theorem adR (T : Txt K mg A) : aB P w K mg base aL 6 A.j6 A.pX ["first", "words"] (ag4 A K) := by
 have EY := Z0 (P := P) (w := w) (base := base) T
 have Hn := Ex (P := P) (w := w) (base := base) T
 have v9 := MN (P := P) (w := w) (base := base) T
 have Ky := Hl (P := P) (w := w) (base := base) T
 have Ho := Ey (P := P) (w := w) (base := base) T
 refine T.Ju.ok Hb (fun vs H Q E h => ?_) (fun cdv A0 outer s H vs Q E hr h => ?_)
 · obtain ⟨l, p, ws, rfl, _⟩ := h
   rfl
 obtain ⟨l, p, ws, rfl, hp, h9, hf, q⟩ := h
 refine ⟨_, (abu (Zi yG (pv 0) abt (zO _)) (j0.made (zD (zM (yV (zP yG (zW zZ (by rfl) T.gJ PySem.boot_len (zA (pv 1) zB)) zF (zO _)) (QQ T.Zz EY ‹hr› rfl T.abI T.DQ .nil zL) yT)))) (j0.made zV)
     (Jb (PS.made (yD (zP yG (pv 0) zH (zO _)) (zD (zM (zN Hn ‹hr› rfl T.GC T.Gz T.Gy .nil zL (zA (pv 1) zB)))) zV))
     (Jb (adz (zP yG (pv 0) zH (zO _)) (Y6 (abn (Rk v9 ‹hr› rfl T.vp T.vo T.vm .nil zL (zA (pv 1) zB)))) (j0.made zV))
     (j0.made (zC (yD (zP yG (pv 0) zH (zO _)) (zD (zM (zN Ky ‹hr› rfl T.Jt T.Jr T.Jq .nil zL (zA (pv 1) zB)))) zV)
           (zC (yD (zP yG (pv 0) zH (zO _)) (zD (zM (zN Ho ‹hr› rfl T.GK T.GJ T.GF .nil zL (zA (pv 1) zB)))) zV)
           (zD (zM yT)))))))), ?_⟩
 refine ⟨_, rfl, rfl, _, rfl, ?_⟩
 rw [R8]
 refine dD (fun c => ?_) (fun c => ?_)
 · have c' := of_decide_eq_true c
   have ek : qU l ws = if ws.length = 0 then some .yn else none := if_pos c'
   rw [ek] at q
   refine ⟨_, rfl, p, _, rfl, .inl (bG.of hp), rfl, _, rfl, dD (fun d => ?_) (fun d => ?_)⟩
   · have d' : (((wv ws).length : Nat) : Int) = 0 := V.int.inj (of_decide_eq_true d)
     rw [List.length_map] at d'
     intro x dx nx nd ne
     refine ⟨x, dx, rfl, zE, rfl, ?_⟩
     rw [yM]
     refine q _ _ (yQ nx nd _) ?_
     rw [if_pos (by omega)]
     exact ⟨x, rfl, dx, _, zE, rfl⟩
   · refine q _ _ (az.refl _) ?_
     rw [if_neg (fun z => d (decide_eq_true (by rw [List.length_map, z]; rfl)))]; rfl
 have e1 : qU l ws = _ := if_neg (fun z => c (decide_eq_true z))
 refine ⟨_, rfl, rfl, _, rfl, ?_⟩
 rw [R8]
 refine dD (fun c2 => ?_) (fun c2 => ?_)
 · rw [e1, if_pos (of_decide_eq_true c2)] at q
   exact ⟨_, rfl, p, ws, rfl, hp, h9, hf, q⟩
 rw [if_neg (fun z => c2 (decide_eq_true z))] at e1
 refine ⟨_, rfl, rfl, _, rfl, ?_⟩
 rw [R8]
 refine dD (fun c3 => ?_) (fun c3 => ?_)
 · rw [e1, if_pos (of_decide_eq_true c3)] at q
   exact ⟨_, rfl, p, ws, rfl, hp, h9, hf, q⟩
 rw [if_neg (fun z => c3 (decide_eq_true z))] at e1
 refine ⟨_, rfl, rfl, _, rfl, ?_⟩
 rw [R8]
 refine dD (fun c4 => ?_) (fun c4 => ?_)
 · rw [e1, if_pos (of_decide_eq_true c4)] at q
   exact ⟨_, rfl, p, ws, rfl, hp, h9, hf, q⟩
 rw [if_neg (fun z => c4 (decide_eq_true z))] at e1
 refine ⟨_, rfl, rfl, _, rfl, ?_⟩
 rw [R8]
 refine dD (fun c5 => ?_) (fun c5 => ?_)
 · rw [e1, if_pos (of_decide_eq_true c5)] at q
   exact ⟨_, rfl, p, ws, rfl, hp, h9, hf, q⟩
 rw [if_neg (fun z => c5 (decide_eq_true z))] at e1
 rw [e1] at q
 exact q _ _ (az.refl _) rfl
end
abbrev hYn : List Nat := cd ‹"yesno"›
abbrev hWh : List Nat := cd ‹"whole"›
abbrev hMo : List Nat := cd ‹"money"›
abbrev hPk : List Nat := cd ‹"pick"›
abbrev hNm : List Nat := cd ‹"names"›
theorem aha (r : List (List Nat)) : qU hWh r = Kv r := (if_neg (by symm)).trans (if_pos rfl)
theorem ahb (r : List (List Nat)) : qU hMo r = Kw r := (if_neg (by symm)).trans ((if_neg (by symm)).trans (if_pos rfl))
theorem ahc (r : List (List Nat)) : qU hPk r = N7 r := (if_neg (by symm)).trans ((if_neg (by symm)).trans ((if_neg (by symm)).trans (if_pos rfl)))
theorem ahd (r : List (List Nat)) : qU hNm r = Ew r := (if_neg (by symm)).trans ((if_neg (by symm)).trans ((if_neg (by symm)).trans ((if_neg (by symm)).trans (if_pos rfl))))
def uO : KU → Prop
 | .yn => True
 | .wh lo hi => (KU.wh lo hi).Good
 | .mo lo hi => (KU.mo lo hi).Good
 | .pk ws => 2 ≤ ws.length ∧ ws.length ≤ 6 ∧ ws.Nodup ∧ ∀ z ∈ ws, N.nameB z = true
 | .nm m => 1 ≤ m ∧ m ≤ 6
theorem uO.good {ku : KU} (h : uO ku) : ku.Good := by
 cases ku with
 | yn => trivial
 | wh lo hi => exact h
 | mo lo hi => exact h
 | pk ws => exact ⟨⟨h.2.2.1, fun z hz => bf (h.2.2.2 z hz)⟩, by have := h.1; omega, h.2.1⟩
 | nm m => exact h.2
def wds : KU → List (List Nat)
 | .yn => [hYn]
 | .wh lo hi => [hWh, bB lo, bB hi]
 | .mo lo hi => [hMo, bZ lo, bZ hi]
 | .pk ws => hPk :: ws.map cd
 | .nm m => [hNm, bB m]
theorem R9 {ku : KU} (h : uO ku) : oF ku = aF [32] (wds ku) := by
 cases ku with
 | yn => rfl
 | wh lo hi =>
   show cd ‹"whole "› ++ (bB lo ++ [32] ++ bB hi) = hWh ++ [32] ++ (bB lo ++ [32] ++ bB hi)
   rw [show cd ‹"whole "› = hWh ++ [32] by symm]
 | mo lo hi =>
   show cd ‹"money "› ++ (bZ lo ++ [32] ++ bZ hi) = hMo ++ [32] ++ (bZ lo ++ [32] ++ bZ hi)
   rw [show cd ‹"money "› = hMo ++ [32] by symm]
 | pk ws =>
   have h2 : 2 ≤ ws.length := h.1
   obtain ⟨a, r, e⟩ : ∃ a r, ws.map cd = a :: r := by
     cases hw : ws.map cd with
     | nil => have := congrArg List.length hw; rw [List.length_map] at this; simp at this; rw [this] at h2; simp at h2
     | cons a r => exact ⟨a, r, rfl⟩
   show cd ‹"pick "› ++ aF [32] (ws.map cd) = aF [32] (hPk :: ws.map cd)
   rw [e]
   show _ = hPk ++ [32] ++ aF [32] (a :: r)
   rw [show cd ‹"pick "› = hPk ++ [32] by symm]
 | nm m =>
   show cd ‹"names "› ++ bB m = hNm ++ [32] ++ bB m
   rw [show cd ‹"names "› = hNm ++ [32] by symm]
theorem Kz {n : Int} (h : n.natAbs < 10 ^ 60) : gK (bB n) 60 = some n := by
 have g : (KU.wh n n).Good := ⟨Int.le_refl _, h, h⟩
 have := V0 (ku := .wh n n) (a := .i n) g (by show (decide (n ≤ n) && decide (n ≤ n)) = true; simp)
 have this : (gK (bB n) 60).map AV.i = some (.i n) := this
 cases e : gK (bB n) 60 with
 | none => rw [e] at this; cases this
 | some m => rw [e] at this; have : some (AV.i m) = some (.i n) := this; cases this; rfl
theorem KC {n : Int} (h : n.natAbs < 10 ^ 60) : oO (bZ n) = some n := by
 have g : (KU.mo n n).Good := ⟨Int.le_refl _, h, h⟩
 have := V0 (ku := .mo n n) (a := .i n) g (by show (decide (n ≤ n) && decide (n ≤ n)) = true; simp)
 have this : (oO (bZ n)).map AV.i = some (.i n) := this
 cases e : oO (bZ n) with
 | none => rw [e] at this; cases this
 | some m => rw [e] at this; have : some (AV.i m) = some (.i n) := this; cases this; rfl
theorem KD (n : Int) : 32 ∉ bB n := by
 intro h
 unfold bB at h
 split at h
 · rcases List.mem_cons.mp h with e | e
   · cases e
   · have := oM e; omega
 · have := oM h; omega
theorem Sd {n : Int} (h : n.natAbs < 10 ^ 60) : 32 ∉ bZ n := by
 intro e
 have hb := KC h
 unfold oO at hb
 by_cases c : (iC (bZ n)).length = 0 ∨ (iC (bZ n)).all inF = false ∨ 60 < (iC (bZ n)).length
 · rw [if_pos c] at hb; cases hb
 · have hm : 32 ∈ iC (bZ n) := by
     unfold iC
     rw [List.mem_filter, List.mem_filter]
     exact ⟨⟨e, by decide⟩, by decide⟩
   have ha : (iC (bZ n)).all inF = true := by
     cases z : (iC (bZ n)).all inF with
     | true => rfl
     | false => exact absurd (.inr (.inl z)) c
   have := (tY 32).mp (List.all_eq_true.mp ha 32 hm)
   omega
theorem Xn {z : Str} (h : N.nameB z = true) : 32 ∉ cd z := fun e => by have := (bf h).2.2 _ e; omega
theorem Sg {ku : KU} (h : uO ku) : ∀ l ∈ wds ku, 32 ∉ l := by
 intro l hl
 cases ku with
 | yn => rw [List.mem_singleton.mp hl]; decide +kernel
 | wh lo hi =>
   rcases List.mem_cons.mp hl with e | hl
   · rw [e]; decide +kernel
   · rcases List.mem_cons.mp hl with e | hl
     · rw [e]; exact KD _
     · rw [List.mem_singleton.mp hl]; exact KD _
 | mo lo hi =>
   rcases List.mem_cons.mp hl with e | hl
   · rw [e]; decide +kernel
   · rcases List.mem_cons.mp hl with e | hl
     · rw [e]; exact Sd h.2.1
     · rw [List.mem_singleton.mp hl]; exact Sd h.2.2
 | pk ws =>
   rcases List.mem_cons.mp hl with e | hl
   · rw [e]; decide +kernel
   · obtain ⟨z, hz, rfl⟩ := List.mem_map.mp hl
     exact Xn (h.2.2.2 z hz)
 | nm m =>
   rcases List.mem_cons.mp hl with e | hl
   · rw [e]; decide +kernel
   · rw [List.mem_singleton.mp hl]; exact KD _
theorem Z2 (ku : KU) : wds ku ≠ [] := by cases ku <;> (intro e; cases e)
theorem ahe (ws : List Str) : wv (ws.map cd) = ws.map V.str := by
 show List.map (fun l => V.str (S l)) (ws.map cd) = _
 rw [List.map_map]; exact List.map_congr_left fun z _ => by show V.str (S (cd z)) = V.str z; rw [d8]
theorem Z3 {ku : KU} (h : uO ku) : R7 (wds ku) = some ku := by
 cases ku with
 | yn => rfl
 | wh lo hi =>
   show qU hWh [bB lo, bB hi] = _
   rw [aha]
   show bk2 .wh (gK (bB lo) 60) (gK (bB hi) 60) = _
   rw [Kz h.2.1, Kz h.2.2]
   exact if_pos h.1
 | mo lo hi =>
   show qU hMo [bZ lo, bZ hi] = _
   rw [ahb]
   show bk2 .mo (oO (bZ lo)) (oO (bZ hi)) = _
   rw [KC h.2.1, KC h.2.2]
   exact if_pos h.1
 | pk ws =>
   show qU hPk (ws.map cd) = _
   rw [ahc]
   unfold N7
   rw [ahe, N.Gb, List.length_map, if_pos ⟨h.1, h.2.1, by rw [List.all_eq_true.mpr h.2.2.2, decide_eq_true h.2.2.1]; rfl⟩, acF]
 | nm m =>
   show qU hNm [bB m] = _
   rw [ahd]
   have h1 : 1 ≤ m := h.1
   have h6 : m ≤ 6 := h.2
   have p60 : (7 : Nat) < 10 ^ 60 := by symm
   have e : Ew [bB (m : Int)] = (match gK (bB (m : Int)) 60 with | some m => if 1 ≤ m ∧ m ≤ 6 then some (KU.nm m.toNat) else none | none => none) := rfl
   rw [e, Kz (by omega)]
   show (if 1 ≤ (m : Int) ∧ (m : Int) ≤ 6 then some (KU.nm (m : Int).toNat) else none) = _
   rw [if_pos ⟨by omega, by omega⟩]; rfl
theorem Xo {ku : KU} (h : uO ku) : R7 (aH (oF ku)) = some ku := by
 rw [R9 h, o9 (Z2 ku) (Sg h), Z3 h]
section
variable {P : Program} {w : World} {K : W.Frag} {mg : Str → Option Value} {base : Heap} {A : cj}
theorem adS (T : Txt K mg A) : aB P w K mg base (wX P w) 7 A.wN A.DK ["text"] (ag5 A K) := by
 have KH := adR (P := P) (w := w) (base := base) T
 refine T.W5.okX Bj (fun vs H Q E h => ?_) (fun cdv A0 outer s H vs' Q E hr h => ?_)
 · obtain ⟨x, rfl, _⟩ := h
   rfl
 obtain ⟨x, rfl, h⟩ := h
 refine ⟨_, (zC (yD (lC (yP (zW xI (by rfl) T.b7 Bt.isinstance (zA (pv 0) (zA (qF (v := .ty "str") rfl T.m8 Bt.str rfl) zB))))) (zD (xP T.RN T.RQ (zA zH zB) rfl)) zV)
     (zC (zY (i := 1) Bj.nd rfl (by first | exact Or.inl rfl | exact Or.inr rfl) (xJ PySem.F.plainAttrs_str PySem.F.slot_str_split PySem.F.type_str_split IW (pv 0) (zA zH zB)))
     (zC (zY (i := 2) Bj.nd rfl (by first | exact Or.inl rfl | exact Or.inr rfl) (zN KH ‹hr› rfl T.Jx T.Jw T.Jv .nil zL (zA (yN xD (pv 1) zF (fun _ _ => rfl)) (zA (xE Vr (pv 1) (xM zF) xR) zB))))
     (zC (yD (zP Dr (pv 2) yT (zO _)) (zD (xP T.RN T.RQ (zA (Iv (pv 0)) zB) rfl)) zV)
     (zD (zM (pv 2))))))), ?_⟩
 rcases h with ⟨z, rfl, hz, qs, qn⟩ | ⟨t, ty, kt, q⟩
 · refine ⟨_, rfl, _, _, _, _, rfl, rfl, .old (.str z), T.mj, _, rfl, bh ?_⟩
   refine ⟨_, rfl, rfl, z, _, rfl, rfl, (by symm), Nat.le_trans hz.len (by decide), fun l hl => ?_⟩
   have sl := zS hl (.lst ((Txt.split z ‹" "›).map V.str))
   have ew : (Txt.split z ‹" "›).map V.str = wv (aH (cd z)) := by
     rw [show ‹" "› = S [32] by symm, Rj, List.map_map]; rfl
   rw [ew] at sl ⊢
   have hlw : upd H l (.lst (wv (aH (cd z)))) l = some (.lst (wv (aH (cd z)))) := zE
   generalize upd H l (.lst (wv (aH (cd z)))) = H1 at sl hlw
   have hlen : (aH (cd z)).length ≤ 893 := by
     unfold aH
     rw [List.length_map]
     have h1 := PyProof.Rows.split_le (S (cd z)) (S [32])
     rw [d8] at h1
     have := hz.len
     rw [d8]
     omega
   have hfw : ∀ w' ∈ aH (cd z), bA 900 (S w') := fun w' hw' => by
     have e := xQ (cd z)
     refine ⟨?_, fun c hc => ?_⟩
     · have h1 := N.N5 (sep := [32]) hw'
       rw [e] at h1
       have := hz.len
       rw [zU]; rw [yE] at this; omega
     · rw [cU] at hc
       have h1 := N.NZ (sep := [32]) hw' hc
       rw [e] at h1
       exact hz.Oz c h1
   cases hs : aH (cd z) with
   | nil => exact absurd hs (sO _)
   | cons w0 r =>
     rw [hs] at hlw hlen hfw qs qn
     have hat : qG (wv (w0 :: r)) ((0 : Nat) : Int) = some (.str (S w0)) := yB rfl
     refine ⟨_, rfl, l, _, _, _, rfl, rfl, bG.of hlw, hat, _, rfl, _, rfl, l, _, rfl, bG.of hlw, fun pc hpc => ?_⟩
     have ec : Oq (wv (w0 :: r)) (some 1) none = wv r := ag6 _ _
     rw [ec]
     have s2 := zS hpc (.lst (wv r))
     refine ⟨w0, pc, r, rfl, zE, (by rw [List.length_cons] at hlen; omega), fun l' hl' => hfw l' (List.mem_cons_of_mem _ hl'), fun x H3 s3 hk => ?_⟩
     have sA := sl.trans (s2.trans s3)
     have ek : R7 (w0 :: r) = qU w0 r := rfl
     cases ho : qU w0 r with
     | none =>
       rw [ho] at hk
       have hk : x = .non := hk
       subst hk
       refine ⟨_, rfl, rfl, _, rfl, bJ ⟨_, rfl, z, rfl, Nat.le_trans hz.len (by decide), hz.Oz, fun y => ⟨(by show 1 ≤ sizeLine; decide), qn (ek.trans ho) _ sA⟩⟩⟩
     | some ku =>
       rw [ho] at hk
       obtain ⟨p, rfl, hp⟩ := hk
       exact ⟨_, rfl, rfl, _, rfl, bh ⟨_, rfl, qs ku (ek.trans ho) p _ sA hp⟩⟩
 · refine ⟨_, rfl, _, _, _, _, rfl, rfl, ty, kt, _, rfl, bJ ?_⟩
   exact ⟨(by show 1 ≤ sizeLine; decide), q _ (az.refl _)⟩
end
end dI
set_option maxHeartbeats 4000000
namespace dI.Y
open PySem L2
seal PE PT PW PA PS j0 PG tR PI PO iz iW uH aU iB qZ rZ PC uZ
local macro_rules | `(tactic| walk_at "rd1") => `(tactic| first
 | (refine And.intro rfl ?_)
 | (refine And.intro (by assumption) ?_)
 | (refine And.intro (fun _ e => e) ?_)
 | (refine And.intro (au.str _) ?_) | (refine And.intro (au.int _) ?_) | (refine And.intro (au.bl _) ?_) | (refine And.intro au.non ?_)
 | (refine bJ ?_) | (refine bh ?_)
 | (apply Exists.intro))
local macro_rules | `(tactic| walk_at "rd") => `(tactic| repeat (walk_at "rd1"))
section
variable {P : Program} {w : World} {K : W.Frag} {mg : Str → Option Value} {base : Heap} {A : cj}
end
def kws : List V := [.str "and", .str "each", .str "end", .str "is", .str "not", .str "or", .str "unless", .str "when"]
def QB (c : Nat) : Bool := !(Builtin.Str.occurrences "abcdefghijklmnopqrstuvwxyz" (S [c]) 0 ("abcdefghijklmnopqrstuvwxyz" : Str).length 1).isEmpty
def nameB (z : Str) : Bool := !(inV (.str z) kws) && decide ((1 : Int) ≤ z.length) && decide ((z.length : Int) ≤ 12) && (cd z).all QB
def nameV : V → Bool
 | .str z => nameB z
 | _ => false
def Ok (K : W.Frag) (H : Hp) (x : V) : Prop := (∃ _ : Thing K H x, True) ∧ ∀ z, x = .str z → bA 1000 z
theorem Ok.same {K : W.Frag} {H H' : Hp} {x : V} (h : Ok K H x) (e : az H H') : Ok K H' x := ⟨let ⟨⟨t, _⟩, _⟩ := h; ⟨t.same e, trivial⟩, h.2⟩
def strsOf (xs : List V) : List Str := xs.filterMap fun x => match x with | .str z => some z | _ => none
theorem tX : ∀ {xs : List V}, xs.all nameV = true → xs = (strsOf xs).map V.str
 | [], _ => rfl
 | x :: r, h => by
   rw [List.all_cons, Bool.and_eq_true] at h
   cases x with
   | str z => show V.str z :: r = V.str z :: (strsOf r).map V.str; rw [← tX h.2]
   | _ => cases h.1
theorem Kr (ws : List Str) : strsOf (ws.map V.str) = ws := by
 induction ws with
 | nil => rfl
 | cons a r ih => show a :: strsOf (r.map V.str) = _; rw [ih]
def Ks (K : W.Frag) : Sp := fun vs H Q _ => ∃ x, vs = [x] ∧ Ok K H x ∧ ∀ H', az H H' → Q (.bl (nameV x)) H'
section
variable {P : Program} {w : World} {K : W.Frag} {mg : Str → Option Value} {base : Heap} {A : cj}
theorem mz (T : Txt K mg A) : aB P w K mg base aL 1 A.sY A.wM ["thing"] (Ks K) := by
 refine T.NK.ok Kf (fun vs H Q E h => ?_) (fun cdv A0 outer s H vs Q E hr h => ?_)
 · obtain ⟨x, rfl, _⟩ := h
   rfl
 obtain ⟨x, rfl, ⟨⟨th, _⟩, hx⟩, q⟩ := h
 refine ⟨_, (zC (yD (PW.pt (oh (lC (yP (zW xI (by rfl) T.b7 Bt.isinstance (zA (pv 0) (zA (qF (v := .ty "str") rfl T.m8 Bt.str rfl) zB))))) (pB (zP su (pv 0) (xO rfl T.J2) (by rfl))))) (zD (zM HN)) zV)
     (zD (zM (pD (QJ yg yg zF (zW xW (by rfl) T.gJ PySem.boot_len (zA (pv 0) zB)) (xO rfl T.vH)) (pC (zW (Bx rfl) (by rfl) T.VN Bt.all (zA (pH (yX (x := "sign") (M := ["thing"]) rfl (by rfl)) rfl (Dv (pv 0)) (fun _ _ _ _ => (yI Dq (pv 0) (xO rfl T.NQ) (by rfl)))) zB))))))), ?_⟩
 refine ⟨_, rfl, _, _, _, _, rfl, rfl, th.ty, th.ks, _, rfl, ?_⟩
 cases hb : th.bs with
 | false =>
   refine bJ ?_
   have e : nameV x = false := by cases x <;> first | rfl | (rw [th.ns _ rfl] at hb; cases hb)
   rw [e] at q
   exact q _ (az.refl _)
 | true =>
   obtain ⟨z, rfl⟩ := th.hs hb
   have hz := (hx z rfl).size
   have q : ∀ H', az H H' → Q (.bl (nameB z)) H' := q
   have qN := T.J3 H
   refine bh ⟨_, rfl, _, _, rfl, .inr qN, rfl, rfl, _, rfl, ?_⟩
   refine dD (fun c => ?_) (fun c => ?_)
   · have e : nameB z = false := by
       unfold nameB
       rw [show inV (.str z) kws = true from c]
       rfl
     rw [e] at q
     exact q _ (az.refl _)
   have c0 : inV (.str z) kws = false := by
     cases e : inV (.str z) kws with
     | false => rfl
     | true => exact absurd e c
   walk_at "rd"
   refine dD (fun c1 => ?_) (fun c1 => ?_)
   · walk_at "rd"
     refine dD (fun c2 => ?_) (fun c2 => ?_)
     · walk_at "rd"
       refine sy hz (fun i ys H' => H = H' ∧ ys = ((cd z).take i).map fun c => V.bl (QB c)) ⟨rfl, rfl⟩ (fun i c ys H' hc hl hw => ?_) (fun ys H' hl hw p hp => ?_)
       · obtain ⟨rfl, rfl⟩ := hw
         walk_at "rd"
         rw [List.take_succ, hc]
         simp [QB]
       · obtain ⟨rfl, rfl⟩ := hw
         have e : (cd z).take z.length = cd z := List.take_of_length_le (by rw [yE]; exact Nat.le_refl _)
         rw [e]
         refine ⟨p, (cd z).map QB, rfl, bG.of (by rw [zE, List.map_map]; rfl), ?_⟩
         have e2 : nameB z = ((cd z).map QB).all id := by
           unfold nameB
           rw [c0, c1, c2, List.all_map]
           rfl
         rw [e2] at q
         exact q _ (zS hp _)
     · have e : nameB z = false := by
         unfold nameB
         rw [show decide ((z.length : Int) ≤ 12) = false from Bool.eq_false_iff.mpr c2]
         simp
       rw [e] at q
       exact q _ (az.refl _)
   · have e : nameB z = false := by
       unfold nameB
       rw [show decide ((1 : Int) ≤ z.length) = false from Bool.eq_false_iff.mpr c1]
       simp
     rw [e] at q
     refine ⟨_, rfl, bh ?_⟩
     exact q _ (az.refl _)
end
theorem Qi {c : Nat} (h : QB c = true) : 97 ≤ c ∧ c ≤ 122 := by
 have e0 : QB c = decide (c ∈ ("abcdefghijklmnopqrstuvwxyz" : Str).cps.toList) := StrLaws.found_one "abcdefghijklmnopqrstuvwxyz" c
 have e : ("abcdefghijklmnopqrstuvwxyz" : Str).cps.toList = (List.range 26).map (97 + ·) := by symm
 rw [e0, e, decide_eq_true_iff] at h
 obtain ⟨k, hk, rfl⟩ := List.mem_map.mp h
 have := List.mem_range.mp hk
 omega
theorem adT {c : Nat} (h : 97 ≤ c ∧ c ≤ 122) : QB c = true := by
 have e0 : QB c = decide (c ∈ ("abcdefghijklmnopqrstuvwxyz" : Str).cps.toList) := StrLaws.found_one "abcdefghijklmnopqrstuvwxyz" c
 have e : ("abcdefghijklmnopqrstuvwxyz" : Str).cps.toList = (List.range 26).map (97 + ·) := by symm
 rw [e0, e]
 refine decide_eq_true (List.mem_map.mpr ⟨c - 97, List.mem_range.mpr (by omega), by omega⟩)
theorem bf {z : Str} (h : nameB z = true) : z.length ≤ 12 ∧ 1 ≤ z.length ∧ ∀ c ∈ cd z, 97 ≤ c ∧ c ≤ 122 := by
 unfold nameB at h
 simp only [Bool.and_eq_true, decide_eq_true_iff] at h
 obtain ⟨⟨⟨_, h1⟩, h2⟩, h3⟩ := h
 exact ⟨by omega, by omega, fun c hc => Qi (List.all_eq_true.mp h3 c hc)⟩
theorem yU {z : Str} (h : nameB z = true) : bA 12 z := ⟨(bf h).1, fun c hc => by have := (bf h).2.2 c hc; omega⟩
theorem Bo {α β : Type} {R : α → β → Prop} {as as' : List α} {bs bs' : List β} (h : Paired R as bs) (k : Paired R as' bs') : Paired R (as ++ as') (bs ++ bs') := by
 induction h with
 | nil => exact k
 | cons r _ ih => exact .cons r ih
theorem qW {t u : TS} {D : Ends} {σ : St} {H : Hp} (R : St → Hp → Prop) (hk : ∀ σ' H', R σ' H' → u D σ' H') (hm : (∀ σ' H', R σ' H' → u D σ' H') → t { D with nx := u D } σ H) : X3 t u D σ H := hm hk
abbrev KW : List Str := ["and", "each", "end", "is", "not", "or", "unless", "when"]
theorem v5 (z : Str) (ws : List Str) : inV (.str z) (ws.map V.str) = decide (z ∈ ws) := by
 unfold inV
 rw [List.any_map, Bool.eq_iff_iff, List.any_eq_true, decide_eq_true_iff]
 constructor
 · rintro ⟨y, hy, e⟩
   have : y = z := eq_of_beq e
   rw [← this]; exact hy
 · intro h; exact ⟨z, h, by show (z == z) = true; exact beq_self_eq_true z⟩
theorem V3 {l : List Nat} (h : l.length ≤ 12 ∧ 1 ≤ l.length ∧ ∀ c ∈ l, 97 ≤ c ∧ c ≤ 122) (k : S l ∉ KW) : nameB (S l) = true := by
 unfold nameB
 have e1 : inV (.str (S l)) kws = false := by
   show inV (.str (S l)) (KW.map V.str) = false
   rw [v5]; exact decide_eq_false k
 have e2 : l.all QB = true := List.all_eq_true.mpr fun c hc => adT (h.2.2 c hc)
 rw [e1, zU, cU, e2, decide_eq_true (by omega), decide_eq_true (by omega)]
 rfl
theorem ahf : ∀ z ∈ KW, nameB (z ++ ‹"x"›) = true := by symm
theorem Z4 : ∀ z ∈ KW, z.length ≤ 6 := by symm
theorem adU (i : Int) (h0 : 0 ≤ i) (h1 : i < 26) : ∃ c, qG ("abcdefghijklmnopqrstuvwxyz" : Str).cps.toList i = some c ∧ 97 ≤ c ∧ c ≤ 122 := by
 have key : ∀ k : Nat, k < 26 → ("abcdefghijklmnopqrstuvwxyz" : Str).cps.toList[k]? = some (97 + k) := by symm
 refine ⟨97 + i.toNat, ?_, by omega, by omega⟩
 have := yB (key i.toNat (by omega))
 rw [show ((i.toNat : Nat) : Int) = i by omega] at this
 exact this
theorem ibc {x : Int} (h : x.natAbs < 2 ^ 256) : ib x ≤ 60000000 := Nat.le_trans (YB (m := 256) h) (by decide)
def abS : Sp := fun vs H Q _ => ∃ c k : Int, vs = [.int c, .int k] ∧ 0 ≤ k ∧ k < 100 ∧ ∀ r : Int, 0 ≤ r → r < 2147483587 → Q (.int r) H
def adV : Sp := fun vs H Q _ => ∃ l : List Nat, vs = [.str (S l)] ∧ l.length ≤ 12 ∧ 1 ≤ l.length ∧ (∀ c ∈ l, 97 ≤ c ∧ c ≤ 122) ∧ ∀ z H', nameB z = true → az H H' → Q (.str z) H'
def adW : Sp := fun vs H Q _ => ∃ c : Int, vs = [.int c] ∧ ∀ z H', nameB z = true → az H H' → Q (.str z) H'
def Z5 : Sp := fun vs H Q _ => ∃ n : Int, vs = [.int n] ∧ n.natAbs < 2 ^ 64 ∧ ∀ m : Int, -(10 ^ 59) ≤ m → m < 10 ^ 59 → Q (.int m) H
def adX (K : W.Frag) : Sp := fun vs H Q _ => ∃ (a : Addr) (ns : List Int) (k : Int), vs = [.ref a, .int k] ∧ bG K H a (ns.map V.int) ∧ 0 ≤ k ∧ (∀ n ∈ ns, ib n ≤ 1048576) ∧ ∀ n : Int, ib n ≤ 1048576 → Q (.int n) H
section
variable {P : Program} {w : World} {K : W.Frag} {mg : Str → Option Value} {base : Heap} {A : cj}
theorem KJ (T : Txt K mg A) : aB P w K mg base aL 1 A.mL A.rH ["_law_script", "_law_k"] (adX K) := by
 refine T.Ml.ok Kp (fun vs H Q E h => ?_) (fun cdv A0 outer s H vs Q E hr h => ?_)
 · obtain ⟨a, ns, k, rfl, _⟩ := h
   rfl
 obtain ⟨a, ns, k, rfl, hS, hk, hb, q⟩ := h
 refine ⟨_, (zC (yD (zP HX (pv 1) (zW zZ (by rfl) T.gJ PySem.boot_len (zA (pv 0) zB)) (zO _)) (zD (zM (yN xD (pv 0) (pv 1) (fun _ _ => rfl)))) zV)
     (zD (zM zF))), ?_⟩
 refine ⟨_, rfl, _, rfl, a, _, rfl, .inl hS, _, _, rfl, rfl, _, rfl, ?_⟩
 refine dD (fun c => ?_) (fun c => ?_)
 · have c' : k < ((ns.map V.int).length : Nat) := of_decide_eq_true c
   obtain ⟨v, hv, hv2⟩ := aa8 (l := ns.map V.int) hk c'
   obtain ⟨n, hn, rfl⟩ := wI hv2
   exact ⟨_, rfl, _, rfl, a, _, _, _, rfl, rfl, hS, hv, q _ (hb n (List.mem_of_getElem? hn))⟩
 · exact q _ (by decide)
theorem Xp {x : Int} (h0 : 0 ≤ x) (h : x < 2 ^ 63) : ib x ≤ 60000000 := Nat.le_trans (Yz (by omega) (by omega)) (by decide)
theorem xS (T : Txt K mg A) : aB P w K mg base aL 1 A.qO A.vf ["_law_cell", "_law_k"] abS := by
 refine T.RK.ok Dh (fun vs H Q E h => ?_) (fun cdv A0 outer s H vs Q E hr h => ?_)
 · obtain ⟨c, k, rfl, _⟩ := h
   rfl
 obtain ⟨c, k, rfl, k0, k1, q⟩ := h
 refine ⟨_, (zC (zY (i := 2) Dh.nd rfl (by first | exact Or.inl rfl | exact Or.inr rfl) (zI yS (zI BJ (zI tU (zI yS (pv 0) zF) zF) (zI tU zF (zI BJ zF (pv 1)))) zF))
     (zD (zM (zI yS (zI BJ (pv 2) (pv 2)) zF)))), ?_⟩
 have a0 := Int.emod_nonneg c (b := 2147483647) (by decide)
 have a1 := Int.emod_lt_of_pos c (b := 2147483647) (by decide)
 refine ⟨_, rfl, _, _, rfl, rfl, (by show (0 : Int) < 2147483647; decide), _, _, rfl, rfl, _, rfl, _, _, rfl, rfl, ⟨Xp (by decide) (by decide), Xp k0 (by omega)⟩, _, _, rfl, rfl, _, _, rfl, rfl, ⟨Xp (by show (0 : Int) ≤ c % 2147483647 + 7; omega) (by show c % 2147483647 + 7 < 2 ^ 63; omega), Xp (by show (0 : Int) ≤ 48271 + 2 * k; omega) (by show 48271 + 2 * k < 2 ^ 63; omega)⟩, _, _, rfl, rfl, (by show (0 : Int) < 2147483629; decide), ?_⟩
 have b0 := Int.emod_nonneg ((c % 2147483647 + 7) * (48271 + 2 * k)) (b := 2147483629) (by decide)
 have b1 := Int.emod_lt_of_pos ((c % 2147483647 + 7) * (48271 + 2 * k)) (b := 2147483629) (by decide)
 refine ⟨_, rfl, _, rfl, _, _, rfl, rfl, ⟨Xp b0 (by omega), Xp b0 (by omega)⟩, _, _, rfl, rfl, (by show (0 : Int) < 2147483587; decide), q _ (Int.emod_nonneg _ (by decide)) (Int.emod_lt_of_pos _ (by decide))⟩
theorem Sh (T : Txt K mg A) : aB P w K mg base aL 1 A.qg A.uf ["_law_word"] adV := by
 refine T.JM.ok Ga (fun vs H Q E h => ?_) (fun cdv A0 outer s H vs Q E hr h => ?_)
 · obtain ⟨l, rfl, _⟩ := h
   rfl
 obtain ⟨L, rfl, h1, h2, h3, q⟩ := h
 refine ⟨_, (zC (yD (zP su (pv 0) (xF (zA zH (zA zH (zA zH (zA zH (zA zH (zA zH (zA zH (zA zH zB))))))))) (by rfl)) (zD (zM (zI zG (pv 0) zH))) zV)
     (zD (zM (pv 0)))), ?_⟩
 refine ⟨_, rfl, (by show 8 ≤ sizeLine; decide), fun p2 hp2 => ⟨p2, _, rfl, .inl (bG.of zE), rfl, rfl, _, rfl, ?_⟩⟩
 have sp2 := zS hp2 (.lst (KW.map V.str))
 show if (inV (.str (S L)) (KW.map V.str)) = true then _ else _
 rw [v5]
 refine dD (fun c => ?_) (fun c => ?_)
 · have c' : S L ∈ KW := of_decide_eq_true c
   exact ⟨_, rfl, _, _, rfl, rfl, zJ (m := 100) (by have := Z4 _ c'; rw [show ‹"x"›.length = 1 by symm]; omega), q _ _ (ahf _ c') sp2⟩
 · exact ⟨_, rfl, q _ _ (V3 ⟨h1, h2, h3⟩ fun z => c (decide_eq_true z)) sp2⟩
theorem qX (T : Txt K mg A) : aB P w K mg base aL 2 A.ug A.Ae ["_law_cell"] adW := by
 have uC := Sh (P := P) (w := w) (base := base) T
 refine T.Uk.ok jZ (fun vs H Q E h => ?_) (fun cdv A0 outer s H vs Q E hr h => ?_)
 · obtain ⟨c, rfl, _⟩ := h
   rfl
 obtain ⟨c, rfl, q⟩ := h
 refine ⟨_, (zC (zY (i := 1) jZ.nd rfl (by first | exact Or.inl rfl | exact Or.inr rfl) (zI yS (zI mD (pv 0) zF) (zI Dp zF zF)))
     (zC (zY (i := 2) jZ.nd rfl (by first | exact Or.inl rfl | exact Or.inr rfl) zH)
     (zC (wH PassesOwn.never rfl (Wn rfl T.abz (zA (zI tU zF (zI yS (pv 0) zF)) zB)) (oJ (i := 3) jZ.nd rfl (by first | exact Or.inl rfl | exact Or.inr rfl)) (zC (zY (i := 2) jZ.nd rfl (by first | exact Or.inl rfl | exact Or.inr rfl) (zI zG (pv 2) (yN Yk zH (zI yS (pv 1) zF) (fun _ _ => rfl))))
     (zD (zY (i := 1) jZ.nd rfl (by first | exact Or.inl rfl | exact Or.inr rfl) (zI mD (pv 1) zF)))))
     (zD (zM (zN uC ‹hr› rfl T.Bb T.Ba T.Az .nil zL (zA (pv 2) zB))))))), ?_⟩
 refine ⟨_, rfl, _, _, rfl, rfl, ⟨by decide, by decide⟩, _, _, rfl, rfl, ⟨by decide, by decide, by decide⟩, _, _, rfl, rfl, (by show (0 : Int) < 26 ^ (12 : Int).toNat; decide +kernel), ?_⟩
 have m0 : 0 ≤ c % 12 := Int.emod_nonneg _ (by decide)
 have m1 : c % 12 < 12 := Int.emod_lt_of_pos _ (by decide)
 have e0 : 0 ≤ c / 12 % 26 ^ (12 : Int).toNat := Int.emod_nonneg _ (by symm)
 refine ⟨_, rfl, _, _, rfl, rfl, (by show (0 : Int) < 12; decide), _, _, rfl, rfl, _, rfl, (by show (-2 ^ 62 : Int) ≤ 1 + c % 12; omega), (by show 1 + c % 12 < _; omega), ?_⟩
 obtain ⟨n, hn⟩ : ∃ n : Nat, (1 + c % 12).toNat = n := ⟨_, rfl⟩
 dsimp only
 rw [hn]
 refine Ua (n := n) (fun i σ H' => H = H' ∧ ∃ (u : Int) (l : List Nat) (x : Option V), σ = [some (.int c), some (.int u), some (.str (S l)), x] ∧ 0 ≤ u ∧ l.length = i ∧ ∀ d ∈ l, 97 ≤ d ∧ d ≤ 122) ⟨rfl, c / 12 % 26 ^ (12 : Int).toNat, [], none, rfl, e0, rfl, fun d hd => by cases hd⟩ (fun i σ H' hi hh => ?_) (fun σ H' hh => ?_)
 · obtain ⟨rfl, u, l, x, rfl, hu, hl, hc⟩ := hh
   obtain ⟨d, hd1, hd2⟩ := adU (u % 26) (Int.emod_nonneg _ (by decide)) (Int.emod_lt_of_pos _ (by decide))
   refine ⟨_, rfl, _, rfl, _, _, rfl, rfl, (by show (0 : Int) < 26; decide), _, _, d, rfl, rfl, (by symm), hd1, _, _, rfl, rfl, zJ (m := 100) (by rw [zU]; show l.length + 1 ≤ 100; omega), ?_⟩
   refine ⟨_, rfl, _, _, rfl, rfl, ⟨by decide, by decide⟩, rfl, u / 26, l ++ [d], some (.int (0 + (i : Nat))), ?_, Int.ediv_nonneg hu (by decide), (by rw [List.length_append, hl]; rfl), fun e he => ?_⟩
   · rw [← xN]; rfl
   · rcases List.mem_append.mp he with z | z
     · exact hc e z
     · rw [List.mem_singleton.mp z]; exact hd2
 · obtain ⟨rfl, u, l, x, rfl, hu, hl, hc⟩ := hh
   exact ⟨_, rfl, l, rfl, by omega, by omega, hc, q⟩
theorem zp (T : Txt K mg A) : aB P w K mg base aL 1 A.oW A.uh ["_law_cell"] Z5 := by
 refine T.Pn.ok MJ (fun vs H Q E h => ?_) (fun cdv A0 outer s H vs Q E hr h => ?_)
 · obtain ⟨n, rfl, _⟩ := h
   rfl
 obtain ⟨n, rfl, hb, q⟩ := h
 refine ⟨_, (zC (yD (zP yG (zI yS (pv 0) zF) zF (zO _)) (zD (zM (zI pF (zI yS (zI mD (pv 0) zF) zF) zF))) zV)
     (zD (zM (zI pF (zI yS (zI Dp (pv 0) zF) (zI pF (zI BJ zF (zI Dp zF zF)) zF)) (zI Dp zF zF))))), ?_⟩
 refine ⟨_, rfl, _, _, rfl, rfl, (by show (0 : Int) < 3; decide), rfl, _, rfl, dD (fun _ => ?_) (fun _ => ?_)⟩
 · have r0 : 0 ≤ n / 3 % 41 := Int.emod_nonneg _ (by decide)
   have r1 : n / 3 % 41 < 41 := Int.emod_lt_of_pos _ (by decide)
   have p60 : (1000 : Int) < 10 ^ 59 := by symm
   exact ⟨_, rfl, _, _, rfl, rfl, ⟨by decide, by decide⟩, _, _, rfl, rfl, (by show (0 : Int) < 41; decide), _, _, rfl, rfl, q _ (by show -(10 ^ 59) ≤ n / 3 % 41 - 20; omega) (by show n / 3 % 41 - 20 < 10 ^ 59; omega)⟩
 · refine ⟨_, rfl, _, _, rfl, rfl, ⟨by decide, by decide, hb⟩, _, _, rfl, rfl, ⟨by decide, by decide, by decide⟩, _, _, rfl, rfl, ⟨by decide, ibc (by symm)⟩, _, _, rfl, rfl, _, _, rfl, rfl, (by show (0 : Int) < 2 * 10 ^ (59 : Int).toNat - 1; decide +kernel), ?_⟩
   have r0 := Int.emod_nonneg (n ^ (7 : Int).toNat) (b := 2 * 10 ^ (59 : Int).toNat - 1) (by symm)
   have r1 := Int.emod_lt_of_pos (n ^ (7 : Int).toNat) (b := 2 * 10 ^ (59 : Int).toNat - 1) (by symm)
   have e : (10 : Int) ^ (59 : Int).toNat = 10 ^ 59 := rfl
   refine ⟨_, _, rfl, rfl, ⟨by decide, by decide, by decide⟩, _, _, rfl, rfl, q _ ?_ ?_⟩
   · show -(10 ^ 59) ≤ n ^ (7 : Int).toNat % (2 * 10 ^ (59 : Int).toNat - 1) - 10 ^ (59 : Int).toNat
     generalize n ^ (7 : Int).toNat % (2 * 10 ^ (59 : Int).toNat - 1) = r at r0 r1
     rw [e] at *
     generalize (10 : Int) ^ 59 = y at *
     omega
   · show n ^ (7 : Int).toNat % (2 * 10 ^ (59 : Int).toNat - 1) - 10 ^ (59 : Int).toNat < 10 ^ 59
     generalize n ^ (7 : Int).toNat % (2 * 10 ^ (59 : Int).toNat - 1) = r at r0 r1
     rw [e] at *
     generalize (10 : Int) ^ 59 = y at *
     omega
theorem n60 {m : Int} (h : -(10 ^ 59) ≤ m) (k : m ≤ 10 ^ 59) : m.natAbs < 10 ^ 60 := by
 have hb : (10 : Int) ^ 59 < ((10 ^ 60 : Nat) : Int) := by symm
 generalize (10 : Int) ^ 59 = y at *
 generalize (10 : Nat) ^ 60 = z at *
 omega
end
def pIs (zs : List Str) (n : Str) (v : V) : Prop := nameB n = true ∧ ∃ w : Str, v = .str w ∧ nameB w = true
def auO (zs : List Str) (n h : Str) (m : Int) : Prop := nameB n = true ∧ (h = "<" ∨ h = "=" ∨ h = ">") ∧ m.natAbs < 10 ^ 60
inductive Tr where
 | is (n : Str) (v : V)
 | cmp (n h : Str) (m : Int)
 | neg (t : Tr)
 | two (o : Bool) (s t : Tr)
def hw (o : Bool) : Str := if o = true then "or" else "and"
def Tr.depth : Tr → Nat
 | .is _ _ => 1
 | .cmp _ _ _ => 1
 | .neg t => t.depth + 1
 | .two _ s t => 1 + max s.depth t.depth
def Tr.size : Tr → Nat
 | .is _ _ => 1
 | .cmp _ _ _ => 1
 | .neg t => t.size
 | .two _ s t => s.size + t.size
def Tr.Ok (zs : List Str) : Tr → Prop
 | .is n v => pIs zs n v
 | .cmp n h m => auO zs n h m
 | .neg t => t.Ok zs
 | .two _ s t => s.Ok zs ∧ t.Ok zs
theorem Tr.size_pos : ∀ t : Tr, 1 ≤ t.size
 | .is _ _ => Nat.le_refl _
 | .cmp _ _ _ => Nat.le_refl _
 | .neg t => Tr.size_pos t
 | .two _ s t => Nat.le_trans (Tr.size_pos s) (Nat.le_add_right _ _)
theorem eqS {a b : Str} {A B : Prop} (h : a = b) (k : A) : if decide (V.str a = V.str b) = true then A else B := by rw [if_pos (decide_eq_true (by rw [h]))]; exact k
theorem neS {a b : Str} {A B : Prop} (h : a ≠ b) (k : B) : if decide (V.str a = V.str b) = true then A else B := by
 rw [if_neg (fun e => h (V.str.inj (of_decide_eq_true e)))]; exact k
def cT (A : cj) (o : Bool) : Addr := if o = true then A.fQ else A.kE
def nD (A : cj) (H : Hp) : Tr → V → Prop
 | .is n v, x => ∃ a dx, x = .ref a ∧ H a = some (.ins A.wY dx [("name", .str n), ("word", v), ("place", .non)])
 | .cmp n h m, x => ∃ a dx, x = .ref a ∧ H a = some (.ins A.b8 dx [("name", .str n), ("how", .str h), ("number", .int m)])
 | .neg t, x => ∃ a dx y, x = .ref a ∧ H a = some (.ins A.ql dx [("test", y)]) ∧ nD A H t y
 | .two o s t, x => ∃ a dx y z, x = .ref a ∧ H a = some (.ins (cT A o) dx [("one", y), ("other", z)]) ∧ nD A H s y ∧ nD A H t z
theorem nD.kt {A : cj} {H H' : Hp} (s : ∀ b C dx fs, H b = some (.ins C dx fs) → C ≠ A.aA → H' b = some (.ins C dx fs)) (T : A.wY ≠ A.aA ∧ A.b8 ≠ A.aA ∧ A.ql ≠ A.aA ∧ A.kE ≠ A.aA ∧ A.fQ ≠ A.aA) : ∀ {t : Tr} {x : V}, nD A H t x → nD A H' t x
 | .is _ _, _, ⟨a, dx, e, h⟩ => ⟨a, dx, e, s _ _ _ _ h T.1⟩
 | .cmp _ _ _, _, ⟨a, dx, e, h⟩ => ⟨a, dx, e, s _ _ _ _ h T.2.1⟩
 | .neg _, _, ⟨a, dx, y, e, h, k⟩ => ⟨a, dx, y, e, s _ _ _ _ h T.2.2.1, nD.kt s T k⟩
 | .two o _ _, _, ⟨a, dx, y, z, e, h, k, l⟩ => ⟨a, dx, y, z, e, s _ _ _ _ h (by cases o; exact T.2.2.2.1; exact T.2.2.2.2), nD.kt s T k, nD.kt s T l⟩
theorem nD.same {A : cj} {H H' : Hp} (s : az H H') : ∀ {t : Tr} {x : V}, nD A H t x → nD A H' t x
 | .is _ _, _, ⟨a, dx, e, h⟩ => ⟨a, dx, e, s _ _ h⟩
 | .cmp _ _ _, _, ⟨a, dx, e, h⟩ => ⟨a, dx, e, s _ _ h⟩
 | .neg _, _, ⟨a, dx, y, e, h, k⟩ => ⟨a, dx, y, e, s _ _ h, nD.same s k⟩
 | .two o _ _, _, ⟨a, dx, y, z, e, h, k, l⟩ => ⟨a, dx, y, z, e, s _ _ h, nD.same s k, nD.same s l⟩
theorem nD.lst {A : cj} {H : Hp} {p : Addr} {xs : List V} {o : HO} (hp : H p = some (.lst xs)) : ∀ {t : Tr} {x : V}, nD A H t x → nD A (upd H p o) t x := by
 have k : ∀ {b C dx fs}, H b = some (.ins C dx fs) → upd H p o b = some (.ins C dx fs) := fun {b C dx fs} e => by
   rw [zK (by rintro rfl; rw [hp] at e; cases e)]; exact e
 intro t
 induction t with
 | is n v => rintro x ⟨a, dx, e, h⟩; exact ⟨a, dx, e, k h⟩
 | cmp n h m => rintro x ⟨a, dx, e, h⟩; exact ⟨a, dx, e, k h⟩
 | neg t ih => rintro x ⟨a, dx, y, e, h, j⟩; exact ⟨a, dx, y, e, k h, ih j⟩
 | two o s t ih1 ih2 => rintro x ⟨a, dx, y, z, e, h, j, l⟩; exact ⟨a, dx, y, z, e, k h, ih1 j, ih2 l⟩
def NW (A : cj) : Prop := A.wY ≠ A.aA ∧ A.b8 ≠ A.aA ∧ A.ql ≠ A.aA ∧ A.kE ≠ A.aA ∧ A.fQ ≠ A.aA
theorem nw {K : W.Frag} {mg : Str → Option Value} {A : cj} (T : Txt K mg A) : NW A := by
 have key : ∀ {a b : Addr}, W.kitOne K (.ref a) (.ref a) = some true → W.kitOne K (.ref a) (.ref b) = some false → a ≠ b := fun {a b} h1 h2 e => by
   rw [← e, h1] at h2; cases h2
 exact ⟨key T.Zx T.GQ, key T.Bd T.vL, key T.UG T.Ek, key T.PJ T.Cz, key T.El T.xq⟩
theorem nD.sb {A : cj} {H H' : Hp} {lw dx : Addr} {fs : List (Str × V)} (n : NW A) (sb : jR lw H H') (hl : H lw = some (.ins A.aA dx fs)) {t : Tr} {x : V} (h : nD A H t x) : nD A H' t x :=
 nD.kt (fun b C dx fs e m => sb _ _ (by rintro rfl; rw [hl] at e; cases e; exact m rfl) e) n h
def ahg (A : cj) : Sp := fun vs H Q _ => ∃ p dx u1 u2 u3, vs = [.ref p, u1, u2, u3] ∧ H p = some (.ins A.wY dx []) ∧ Q .non (upd H p (.ins A.wY dx [("name", u1), ("word", u2), ("place", u3)]))
def ahh (A : cj) : Sp := fun vs H Q _ => ∃ p dx u1 u2 u3, vs = [.ref p, u1, u2, u3] ∧ H p = some (.ins A.b8 dx []) ∧ Q .non (upd H p (.ins A.b8 dx [("name", u1), ("how", u2), ("number", u3)]))
def ahi (A : cj) : Sp := fun vs H Q _ => ∃ p dx u1, vs = [.ref p, u1] ∧ H p = some (.ins A.ql dx []) ∧ Q .non (upd H p (.ins A.ql dx [("test", u1)]))
def ahj (A : cj) : Sp := fun vs H Q _ => ∃ p dx u1 u2 o, vs = [.ref p, u1, u2] ∧ H p = some (.ins (cT A o) dx []) ∧ Q .non (upd H p (.ins (cT A o) dx [("one", u1), ("other", u2)]))
section
variable {P : Program} {w : World} {K : W.Frag} {mg : Str → Option Value} {base : Heap} {A : cj}
theorem U5 (T : Txt K mg A) : aB P w K mg base aL 1 A.rC A.rD ["self", "name", "word", "place"] (ahg A) := by
 refine T.Lq.ok Kl (fun vs H Q E h => ?_) (fun cdv A0 outer s H vs Q E hr h => ?_)
 · obtain ⟨p, dx, u1, u2, u3, rfl, _⟩ := h
   rfl
 obtain ⟨p, dx, u1, u2, u3, rfl, hp, q⟩ := h
 refine ⟨_, (zC (yK (pv 0) (pv 1) rfl)
     (zC (yK (pv 0) (pv 2) rfl)
     (zD (yK (pv 0) (pv 3) rfl)))), ?_⟩
 refine ⟨_, rfl, _, rfl, p, _, dx, _, rfl, hp, T.J7, T.J8, by decide, ?_⟩
 refine ⟨_, rfl, _, rfl, p, _, dx, _, rfl, zE, T.J7, T.J9, (by show 1 < 1000; decide), ?_⟩
 refine ⟨_, rfl, _, rfl, p, _, dx, _, rfl, zE, T.J7, T.RW, (by show 2 < 1000; decide), ?_⟩
 rw [yM, yM]
 exact q
theorem U6 (T : Txt K mg A) : aB P w K mg base aL 1 A.jO A.jP ["self", "name", "how", "number"] (ahh A) := by
 refine T.An.ok yc (fun vs H Q E h => ?_) (fun cdv A0 outer s H vs Q E hr h => ?_)
 · obtain ⟨p, dx, u1, u2, u3, rfl, _⟩ := h
   rfl
 obtain ⟨p, dx, u1, u2, u3, rfl, hp, q⟩ := h
 refine ⟨_, (zC (yK (pv 0) (pv 1) rfl)
     (zC (yK (pv 0) (pv 2) rfl)
     (zD (yK (pv 0) (pv 3) rfl)))), ?_⟩
 refine ⟨_, rfl, _, rfl, p, _, dx, _, rfl, hp, T.iU, T.uN, by decide, ?_⟩
 refine ⟨_, rfl, _, rfl, p, _, dx, _, rfl, zE, T.iU, T.vM, (by show 1 < 1000; decide), ?_⟩
 refine ⟨_, rfl, _, rfl, p, _, dx, _, rfl, zE, T.iU, T.qQ, (by show 2 < 1000; decide), ?_⟩
 rw [yM, yM]
 exact q
theorem KN (T : Txt K mg A) : aB P w K mg base aL 1 A.qd A.qe ["self", "test"] (ahi A) := by
 refine T.JG.ok Hf (fun vs H Q E h => ?_) (fun cdv A0 outer s H vs Q E hr h => ?_)
 · obtain ⟨p, dx, u1, rfl, _⟩ := h
   rfl
 obtain ⟨p, dx, u1, rfl, hp, q⟩ := h
 refine ⟨_, (zD (yK (pv 0) (pv 1) rfl)), ?_⟩
 exact ⟨_, rfl, _, rfl, p, _, dx, _, rfl, hp, T.Ka, T.vN, by decide, q⟩
theorem U7 (T : Txt K mg A) : aB P w K mg base aL 1 A.jD A.nT ["self", "one", "other"] (ahj A) := by
 refine T.GP.ok Et (fun vs H Q E h => ?_) (fun cdv A0 outer s H vs Q E hr h => ?_)
 · obtain ⟨p, dx, u1, u2, o, rfl, _⟩ := h
   rfl
 obtain ⟨p, dx, u1, u2, o, rfl, hp, q⟩ := h
 refine ⟨_, (zC (yK (pv 0) (pv 1) rfl)
     (zD (yK (pv 0) (pv 2) rfl))), ?_⟩
 have cl : yh K (cT A o) ∧ aC K (cT A o) "one" ∧ aC K (cT A o) "other" := by
   cases o
   · exact ⟨T.wO, T.vO, T.rJ⟩
   · exact ⟨T.ph, T.rK, T.nU⟩
 refine ⟨_, rfl, _, rfl, p, _, dx, _, rfl, hp, cl.1, cl.2.1, by decide, ?_⟩
 refine ⟨_, rfl, _, rfl, p, _, dx, _, rfl, zE, cl.1, cl.2.2, (by show 1 < 1000; decide), ?_⟩
 rw [yM]
 exact q
theorem yQ {H : Hp} {x dx : Addr} (nx : H x = none) (nd : H dx = none) (o : HO) : az H (upd (upd H dx (.own x)) x o) := fun b u e => by
 rw [zK (zR e nx), zK (zR e nd)]; exact e
end
def sv : V → Str
 | .str z => z
 | _ => ""
def wL : Tr → List (List Nat)
 | .is n v => [cd n, cd ‹"is"›, cd (sv v)]
 | .cmp n h m => [cd n, cd h, bB m]
 | .neg t => cd ‹"not"› :: wL t
 | .two o s t => cd ‹"("› :: (wL s ++ (cd (hw o) :: (wL t ++ [cd ‹")"›])))
def qx (t : Tr) : List Nat := aF [32] (wL t)
theorem V4 : ∀ t : Tr, wL t ≠ []
 | .is _ _ => by intro e; cases e
 | .cmp _ _ _ => by intro e; cases e
 | .neg _ => by intro e; cases e
 | .two _ _ _ => by intro e; cases e
theorem xK {s a : List Nat} {r : List (List Nat)} (h : r ≠ []) : aF s (a :: r) = a ++ s ++ aF s r := by
 cases r with
 | nil => exact absurd rfl h
 | cons b r => rfl
theorem tO {s : List Nat} : ∀ {a b : List (List Nat)}, a ≠ [] → b ≠ [] → aF s (a ++ b) = aF s a ++ s ++ aF s b
 | [], _, h, _ => absurd rfl h
 | [x], b, _, hb => by rw [List.singleton_append, xK hb]; rfl
 | x :: y :: r, b, _, hb => by
   rw [List.cons_append, xK (by simp), tO (a := y :: r) (by simp) hb, xK (a := x) (by simp)]
   simp [List.append_assoc]
theorem Qk (t : Tr) : qx (.neg t) = cd ‹"not "› ++ qx t := by
 unfold qx
 rw [show wL (.neg t) = cd ‹"not"› :: wL t from rfl, xK (V4 t)]
 rfl
theorem Dj (o : Bool) (s t : Tr) : qx (.two o s t) = ((((cd ‹"( "› ++ qx s) ++ cd ‹" "›) ++ cd (hw o)) ++ cd ‹" "›) ++ qx t ++ cd ‹" )"› := by
 unfold qx
 rw [show wL (.two o s t) = cd ‹"("› :: (wL s ++ (cd (hw o) :: (wL t ++ [cd ‹")"›]))) from rfl, xK (by simp), tO (V4 s) (by simp), xK (by simp), tO (V4 t) (by simp)]
 have e1 : cd ‹"( "› = cd ‹"("› ++ [32] := by symm
 have e2 : cd ‹" "› = [32] := by symm
 have e3 : cd ‹" )"› = [32] ++ cd ‹")"› := by symm
 rw [e1, e2, e3]
 show _ ++ [32] ++ (_ ++ [32] ++ (_ ++ [32] ++ (_ ++ [32] ++ cd ‹")"›))) = _
 simp [List.append_assoc]
theorem U8 (n : Str) (v : V) : qx (.is n v) = cd n ++ cd ‹" is "› ++ cd (sv v) := by
 show cd n ++ [32] ++ (cd ‹"is"› ++ [32] ++ cd (sv v)) = _
 rw [show cd ‹" is "› = [32] ++ cd ‹"is"› ++ [32] by symm]
 simp [List.append_assoc]
theorem HH (n h : Str) (m : Int) : qx (.cmp n h m) = cd n ++ cd ‹" "› ++ cd h ++ cd ‹" "› ++ bB m := by
 show cd n ++ [32] ++ (cd h ++ [32] ++ bB m) = _
 rw [show cd ‹" "› = [32] by symm]
 simp [List.append_assoc]
theorem U9 {h : Str} (hh : h = "<" ∨ h = "=" ∨ h = ">") : (cd h).length = 1 ∧ 32 ∉ cd h := by
 rcases hh with rfl | rfl | rfl <;> exact ⟨by symm, by symm⟩
theorem acK (o : Bool) : (cd (hw o)).length ≤ 3 ∧ 32 ∉ cd (hw o) := by cases o <;> exact ⟨by symm, by symm⟩
theorem nC {m : Int} (h : m.natAbs < 10 ^ 60) : (bB m).length ≤ 61 := by
 have := wK (k := 60) (by decide) h
 unfold bB
 split
 · rw [List.length_cons]; omega
 · omega
theorem uD {zs : List Str} : ∀ {t : Tr}, t.Ok zs → (qx t).length ≤ 100 * (t.size * t.depth)
 | .is n v, h => by
   obtain ⟨h1, w, rfl, h2⟩ := h
   have a := (bf h1).1
   have b := (bf h2).1
   rw [yE] at a b
   rw [U8, List.length_append, List.length_append]
   show (cd n).length + 4 + (cd w).length ≤ 100
   omega
 | .cmp n x m, h => by
   obtain ⟨h1, h2, h3⟩ := h
   have a := (bf h1).1
   rw [yE] at a
   have b := (U9 h2).1
   have c := nC h3
   rw [HH, List.length_append, List.length_append, List.length_append, List.length_append]
   show (cd n).length + 1 + (cd x).length + 1 + (bB m).length ≤ 100
   omega
 | .neg t, h => by
   have ih := uD (t := t) h
   rw [Qk, List.length_append]
   show 4 + (qx t).length ≤ 100 * (t.size * (t.depth + 1))
   have := t.size_pos
   rw [Nat.mul_add]; omega
 | .two o s t, h => by
   have i1 := uD h.1
   have i2 := uD h.2
   rw [Dj, List.length_append, List.length_append, List.length_append, List.length_append, List.length_append, List.length_append]
   have e := (acK o).1
   show 2 + (qx s).length + 1 + (cd (hw o)).length + 1 + (qx t).length + 2 ≤ 100 * ((s.size + t.size) * (1 + max s.depth t.depth))
   have p1 := s.size_pos
   have p2 : s.size * s.depth ≤ s.size * max s.depth t.depth := Nat.mul_le_mul_left _ (Nat.le_max_left _ _)
   have p3 : t.size * t.depth ≤ t.size * max s.depth t.depth := Nat.mul_le_mul_left _ (Nat.le_max_right _ _)
   rw [Nat.mul_add, Nat.mul_one, Nat.add_mul]
   omega
theorem pA : ∀ {ws : List (List Nat)}, ws ≠ [] → ws.length ≤ (aF [32] ws).length + 1
 | [], h => absurd rfl h
 | [x], _ => by show 1 ≤ _; omega
 | x :: y :: r, _ => by
   have ih := pA (ws := y :: r) (by simp)
   rw [xK (by simp), List.length_append, List.length_append, List.length_cons]
   show _ ≤ x.length + 1 + _ + 1
   omega
theorem Xq {o : Bool} {s t : Tr} (h : (Tr.two o s t).size * (Tr.two o s t).depth ≤ 1000) : s.size * s.depth ≤ 1000 ∧ t.size * t.depth ≤ 1000 := by
 have h' : (s.size + t.size) * (1 + max s.depth t.depth) ≤ 1000 := h
 have a : s.size * s.depth ≤ (s.size + t.size) * (1 + max s.depth t.depth) := Nat.mul_le_mul (Nat.le_add_right _ _) (by omega)
 have b : t.size * t.depth ≤ (s.size + t.size) * (1 + max s.depth t.depth) := Nat.mul_le_mul (Nat.le_add_left _ _) (by omega)
 omega
theorem Xr {t : Tr} (h : (Tr.neg t).size * (Tr.neg t).depth ≤ 1000) : t.size * t.depth ≤ 1000 := by
 have h' : t.size * (t.depth + 1) ≤ 1000 := h
 have : t.size * t.depth ≤ t.size * (t.depth + 1) := Nat.mul_le_mul_left _ (by omega)
 omega
theorem zQ (x y : Str) : (x ++ y).length = x.length + y.length := by rw [yE, yA, List.length_append, ← yE, ← yE]
theorem xL {n : Nat} (h : n ≤ 200000) : n ≤ sizeLine := Nat.le_trans h (by decide)
theorem KQ {m : Int} (h : m.natAbs < 10 ^ 60) : m.natAbs.log2 < 1920 := by
 by_cases z : m.natAbs = 0
 · rw [z]; decide
 · exact (Nat.log2_lt z).mpr (Nat.lt_of_lt_of_le h (by symm))
def kd : Tr → Nat
 | .is _ _ => 0
 | .cmp _ _ _ => 1
 | .neg _ => 2
 | .two false _ _ => 3
 | .two true _ _ => 4
section
variable {P : Program} {w : World} {K : W.Frag} {mg : Str → Option Value} {base : Heap} {A : cj}
theorem Z6 (n w : Str) : (n ++ ‹" is "›) ++ w = S (qx (.is n (.str w))) := yL (by rw [yA, yA, cU, U8]; rfl)
theorem abV (n h : Str) (m : Int) : (((n ++ ‹" "›) ++ h) ++ ‹" "›) ++ ((toString m : String) : Str) = S (qx (.cmp n h m)) := yL (by rw [yA, yA, yA, yA, cU, HH, str_is, cU])
theorem V5 (t : Tr) : ‹"not "› ++ S (qx t) = S (qx (.neg t)) := yL (by rw [yA, cU, cU, Qk])
theorem abW (o : Bool) (s t : Tr) : (((((Str.ofString "( " ++ S (qx s)) ++ ‹" "›) ++ hw o) ++ ‹" "›) ++ S (qx t)) ++ ‹" )"› = S (qx (.two o s t)) := yL (by rw [yA, yA, yA, yA, yA, yA, cU, cU, cU, Dj])
end
def wg (A : cj) (j n : Nat) : Sp := fun vs H Q _ => ∃ (x : V) (t : Tr) (zs : List Str), vs = [x] ∧ nD A H t x ∧ t.depth < n ∧ kd t = j ∧ t.Ok zs ∧ t.size * t.depth ≤ 1000 ∧ Q (.str (S (qx t))) H
def Va (A : cj) (n : Nat) : Sp := fun vs H Q _ => ∃ (x : V) (o : Bool) (s t : Tr) (zs : List Str), vs = [x, .str (hw o)] ∧ nD A H (.two o s t) x ∧ s.depth < n ∧ t.depth < n ∧ (Tr.two o s t).Ok zs ∧ (Tr.two o s t).size * (Tr.two o s t).depth ≤ 1000 ∧ Q (.str (S (qx (.two o s t)))) H
structure abX (P : Program) (w : World) (K : W.Frag) (mg : Str → Option Value) (base : Heap) (A : cj) (n k : Nat) : Prop where
 a : aB P w K mg base aL k A.j7 A.j8 ["self"] (wg A 0 n)
 b : aB P w K mg base aL k A.fD A.fG ["self"] (wg A 1 n)
 c : aB P w K mg base aL k A.jk A.jl ["self"] (wg A 2 n)
 d : aB P w K mg base aL k A.iM A.iQ ["self"] (wg A 3 n)
 e : aB P w K mg base aL k A.gn A.gq ["self"] (wg A 4 n)
section
variable {P : Program} {w : World} {K : W.Frag} {mg : Str → Option Value} {base : Heap} {A : cj}
theorem wj (T : Txt K mg A) {n k : Nat} (ih : abX P w K mg base A n k) {t : Tr} {x : V} {H : Hp} (hs : nD A H t x) :
   ∃ (a C dx : Addr) (fs : List (Str × V)) (M : jQ P w K mg base aL k C "shown"), x = .ref a ∧ H a = some (.ins C dx fs) ∧ fs.lookup ‹"shown"› = none ∧ M.oK = [] ∧ M.sp = wg A (kd t) n := by
 cases t with
 | is nm v =>
   obtain ⟨a, dx, rfl, h⟩ := hs
   exact ⟨a, _, dx, _, ⟨A.j7, A.j8, ["self"], wg A 0 n, [], [], T.J7, T.RT, ih.a, T.O8, .nil⟩, rfl, h, rfl, rfl, rfl⟩
 | cmp nm h m =>
   obtain ⟨a, dx, rfl, h⟩ := hs
   exact ⟨a, _, dx, _, ⟨A.fD, A.fG, ["self"], wg A 1 n, [], [], T.iU, T.Em, ih.b, T.Ci, .nil⟩, rfl, h, rfl, rfl, rfl⟩
 | neg t =>
   obtain ⟨a, dx, y, rfl, h, _⟩ := hs
   exact ⟨a, _, dx, _, ⟨A.jk, A.jl, ["self"], wg A 2 n, [], [], T.Ka, T.PL, ih.c, T.Ls, .nil⟩, rfl, h, rfl, rfl, rfl⟩
 | two o s t =>
   obtain ⟨a, dx, y, z, rfl, h, _⟩ := hs
   cases o with
   | false => exact ⟨a, _, dx, _, ⟨A.iM, A.iQ, ["self"], wg A 3 n, [], [], T.wO, T.Mp, ih.d, T.JL, .nil⟩, rfl, h, rfl, rfl, rfl⟩
   | true => exact ⟨a, _, dx, _, ⟨A.gn, A.gq, ["self"], wg A 4 n, [], [], T.ph, T.GR, ih.e, T.Ef, .nil⟩, rfl, h, rfl, rfl, rfl⟩
theorem Sq (T : Txt K mg A) {n k : Nat} (ih : aB P w K mg base aL k A.aM A.aZ ["self", "word"] (Va A n)) {o : Bool} {s t : Tr} {x : V} {H : Hp} (hs : nD A H (.two o s t) x) :
   ∃ (a C dx : Addr) (fs : List (Str × V)) (M : jQ P w K mg base aL k C "shown_with"), x = .ref a ∧ H a = some (.ins C dx fs) ∧ fs.lookup ‹"shown_with"› = none ∧ M.oK = [] ∧ M.sp = Va A n := by
 obtain ⟨a, dx, y, z, rfl, h, _⟩ := hs
 cases o with
 | false => exact ⟨a, _, dx, _, ⟨A.aM, A.aZ, ["self", "word"], Va A n, [], [], T.wO, T.Be, ih, T.oA, .nil⟩, rfl, h, rfl, rfl, rfl⟩
 | true => exact ⟨a, _, dx, _, ⟨A.aM, A.aZ, ["self", "word"], Va A n, [], [], T.ph, T.vP, ih, T.oA, .nil⟩, rfl, h, rfl, rfl, rfl⟩
theorem Ss (T : Txt K mg A) {n k : Nat} : aB P w K mg base aL (k + 1) A.j7 A.j8 ["self"] (wg A 0 n) := by
 refine T.O7.ok My (fun vs H Q E h => ?_) (fun cdv A0 outer s H vs Q E hr h => ?_)
 · obtain ⟨x, t, zs, rfl, _⟩ := h
   rfl
 obtain ⟨x, t, zs, rfl, hs, hd, hk, hok, hb, q⟩ := h
 refine ⟨_, (zD (zM (zI zG (zI zG (zX (pv 0) rfl) zH) (zX (pv 0) rfl)))), ?_⟩
 cases t with
 | is nm v =>
   obtain ⟨a, dx, rfl, h⟩ := hs
   obtain ⟨hn, wd, rfl, hwn⟩ := hok
   have l1 := (bf hn).1
   have l2 := (bf hwn).1
   refine ⟨_, rfl, a, _, dx, _, _, rfl, h, T.J7, T.J8, rfl, _, _, rfl, rfl, xL (by show nm.length + 4 ≤ _; omega), ?_⟩
   refine ⟨_, rfl, a, _, dx, _, _, rfl, h, T.J7, T.J9, rfl, _, _, rfl, rfl, xL (by rw [zQ]; show nm.length + 4 + _ ≤ _; omega), ?_⟩
   rw [Z6]; exact q
 | cmp _ _ _ => cases hk
 | neg _ => cases hk
 | two o _ _ => cases o <;> cases hk
theorem Su (T : Txt K mg A) {n k : Nat} : aB P w K mg base aL (k + 1) A.fD A.fG ["self"] (wg A 1 n) := by
 refine T.Cg.ok Bk (fun vs H Q E h => ?_) (fun cdv A0 outer s H vs Q E hr h => ?_)
 · obtain ⟨x, t, zs, rfl, _⟩ := h
   rfl
 obtain ⟨x, t, zs, rfl, hs, hd, hk, hok, hb, q⟩ := h
 refine ⟨_, (zD (zM (zI zG (zI zG (zI zG (zI zG (zX (pv 0) rfl) zH) (zX (pv 0) rfl)) zH) (yR yW (by rfl) T.m8 Bt.str (zA (zX (pv 0) rfl) zB))))), ?_⟩
 cases t with
 | cmp nm h m =>
   obtain ⟨a, dx, rfl, ho⟩ := hs
   obtain ⟨hn, hh, hm⟩ := hok
   have l1 := (bf hn).1
   have l2 := (U9 hh).1
   rw [← yE] at l2
   have l3 := nC hm
   refine ⟨_, rfl, a, _, dx, _, _, rfl, ho, T.iU, T.uN, rfl, _, _, rfl, rfl, xL (by show nm.length + 1 ≤ _; omega), ?_⟩
   refine ⟨_, rfl, a, _, dx, _, _, rfl, ho, T.iU, T.vM, rfl, _, _, rfl, rfl, xL (by rw [zQ]; show nm.length + 1 + _ ≤ _; omega), ?_⟩
   refine ⟨_, _, rfl, rfl, xL (by rw [zQ, zQ]; show nm.length + 1 + h.length + 1 ≤ _; omega), ?_⟩
   refine ⟨_, rfl, a, _, dx, _, _, rfl, ho, T.iU, T.qQ, rfl, _, rfl, KQ hm, _, _, rfl, rfl, xL (by rw [zQ, zQ, zQ, str_is, zU]; show nm.length + 1 + h.length + 1 + _ ≤ _; omega), ?_⟩
   rw [abV]; exact q
 | is _ _ => cases hk
 | neg _ => cases hk
 | two o _ _ => cases o <;> cases hk
theorem Sv (T : Txt K mg A) {n kr k : Nat} (hle : kr ≤ k) (ih : abX P w K mg base A n kr) : aB P w K mg base aL (k + 1) A.jk A.jl ["self"] (wg A 2 (n + 1)) := by
 refine T.Lr.ok Km (fun vs H Q E h => ?_) (fun cdv A0 outer s H vs Q E hr h => ?_)
 · obtain ⟨x, t, zs, rfl, _⟩ := h
   rfl
 obtain ⟨x, t, zs, rfl, hs, hd, hk, hok, hb, q⟩ := h
 refine ⟨_, (zD (zM (zI zG zH (yC (CX := aL) (k := kr) ‹hr› zL (zX (pv 0) rfl))))), ?_⟩
 cases t with
 | neg t =>
   obtain ⟨a, dx, y, rfl, h, hs1⟩ := hs
   have hd' : t.depth + 1 < n + 1 := hd
   have l1 := uD (t := t) hok
   have l2 := Xr hb
   obtain ⟨a1, C1, MP, MT, M, ey, h1, hl, hdv, hsp⟩ := wj T ih hs1
   refine ⟨_, rfl, a, _, dx, _, _, rfl, h, T.Ka, T.vN, rfl, a1, C1, MP, MT, M, ey, h1, hl, ?_⟩
   dsimp only [tW]
   rw [hdv, hsp]
   refine ⟨y, t, zs, rfl, hs1, by omega, rfl, hok, l2, _, _, rfl, rfl, xL (by rw [zU]; show 4 + _ ≤ _; omega), ?_⟩
   rw [V5]; exact q
 | is _ _ => cases hk
 | cmp _ _ _ => cases hk
 | two o _ _ => cases o <;> cases hk
theorem Sw (T : Txt K mg A) {n kr : Nat} (ih : abX P w K mg base A n kr) : aB P w K mg base aL (kr + 1) A.aM A.aZ ["self", "word"] (Va A n) := by
 refine T.wZ.ok vV (fun vs H Q E h => ?_) (fun cdv A0 outer s H vs Q E hr h => ?_)
 · obtain ⟨x, o, s, t, zs, rfl, _⟩ := h
   rfl
 obtain ⟨x, o, t1, t2, zs, rfl, hs, hd1, hd2, hok, hb, q⟩ := h
 refine ⟨_, (zD (zM (zI zG (zI zG (zI zG (zI zG (zI zG (zI zG zH (yC (CX := aL) (k := kr) ‹hr› zL (zX (pv 0) rfl))) zH) (pv 1)) zH) (yC (CX := aL) (k := kr) ‹hr› zL (zX (pv 0) rfl))) zH))), ?_⟩
 have hlen := uD hok
 obtain ⟨p1, p2⟩ := Xq hb
 rw [Dj, List.length_append, List.length_append, List.length_append, List.length_append, List.length_append, List.length_append] at hlen
 have hlen : 2 + (qx t1).length + 1 + (cd (hw o)).length + 1 + (qx t2).length + 2 ≤ 100000 := Nat.le_trans hlen (by omega)
 obtain ⟨a, dx, y, z, rfl, h, hs1, hs2⟩ := hs
 have cl : yh K (cT A o) ∧ aC K (cT A o) "one" ∧ aC K (cT A o) "other" := by
   cases o
   · exact ⟨T.wO, T.vO, T.rJ⟩
   · exact ⟨T.ph, T.rK, T.nU⟩
 obtain ⟨a1, C1, MP, MT, M, ey, h1, hl, hdv, hsp⟩ := wj T ih hs1
 refine ⟨_, rfl, a, _, dx, _, _, rfl, h, cl.1, cl.2.1, rfl, a1, C1, MP, MT, M, ey, h1, hl, ?_⟩
 dsimp only [tW]
 rw [hdv, hsp]
 refine ⟨y, t1, zs, rfl, hs1, hd1, rfl, hok.1, p1, _, _, rfl, rfl, xL (by rw [zU]; show 2 + _ ≤ _; omega), ?_⟩
 refine ⟨_, _, rfl, rfl, xL (by rw [zQ, zU]; show 2 + _ + 1 ≤ _; omega), ?_⟩
 refine ⟨_, rfl, _, _, rfl, rfl, xL (by rw [zQ, zQ, zU, yE (hw o)]; show 2 + _ + 1 + _ ≤ _; omega), ?_⟩
 refine ⟨_, _, rfl, rfl, xL (by rw [zQ, zQ, zQ, zU, yE (hw o)]; show 2 + _ + 1 + _ + 1 ≤ _; omega), ?_⟩
 obtain ⟨a2, C2, V6, Z7, M2, ez, h2, hl2, KY, KZ⟩ := wj T ih hs2
 refine ⟨_, rfl, a, _, dx, _, _, rfl, h, cl.1, cl.2.2, rfl, a2, C2, V6, Z7, M2, ez, h2, hl2, ?_⟩
 dsimp only [tW]
 rw [KY, KZ]
 refine ⟨z, t2, zs, rfl, hs2, hd2, rfl, hok.2, p2, _, _, rfl, rfl, xL (by rw [zQ, zQ, zQ, zQ, zU, zU, yE (hw o)]; show 2 + _ + 1 + _ + 1 + _ ≤ _; omega), ?_⟩
 refine ⟨_, _, rfl, rfl, xL (by rw [zQ, zQ, zQ, zQ, zQ, zU, zU, yE (hw o)]; show 2 + _ + 1 + _ + 1 + _ + 2 ≤ _; omega), ?_⟩
 rw [abW]; exact q
theorem Sx (T : Txt K mg A) {n kb : Nat} (ih : aB P w K mg base aL kb A.aM A.aZ ["self", "word"] (Va A n)) : aB P w K mg base aL (kb + 1) A.iM A.iQ ["self"] (wg A 3 (n + 1)) := by
 refine T.JK.ok Hh (fun vs H Q E h => ?_) (fun cdv A0 outer s H vs Q E hr h => ?_)
 · obtain ⟨x, t, zs, rfl, _⟩ := h
   rfl
 obtain ⟨x, t, zs, rfl, hs, hd, hk, hok, hb, q⟩ := h
 refine ⟨_, (zD (zM (yH (CX := aL) (k := kb) ‹hr› zL (pv 0) (zA zH zB)))), ?_⟩
 cases t with
 | two o t1 t2 =>
   cases o with
   | true => cases hk
   | false =>
     have hd' : 1 + max t1.depth t2.depth < n + 1 := hd
     obtain ⟨a1, C1, MP, MT, M, ey, h1, hl, hdv, hsp⟩ := Sq T ih hs
     refine ⟨_, rfl, a1, C1, MP, MT, M, ey, h1, hl, ?_⟩
     rw [hdv, hsp]
     exact ⟨x, false, t1, t2, zs, rfl, hs, by omega, by omega, hok, hb, q⟩
 | is _ _ => cases hk
 | cmp _ _ _ => cases hk
 | neg _ => cases hk
theorem Sy (T : Txt K mg A) {n kb : Nat} (ih : aB P w K mg base aL kb A.aM A.aZ ["self", "word"] (Va A n)) : aB P w K mg base aL (kb + 1) A.gn A.gq ["self"] (wg A 4 (n + 1)) := by
 refine T.Ed.ok Dd (fun vs H Q E h => ?_) (fun cdv A0 outer s H vs Q E hr h => ?_)
 · obtain ⟨x, t, zs, rfl, _⟩ := h
   rfl
 obtain ⟨x, t, zs, rfl, hs, hd, hk, hok, hb, q⟩ := h
 refine ⟨_, (zD (zM (yH (CX := aL) (k := kb) ‹hr› zL (pv 0) (zA zH zB)))), ?_⟩
 cases t with
 | two o t1 t2 =>
   cases o with
   | false => cases hk
   | true =>
     have hd' : 1 + max t1.depth t2.depth < n + 1 := hd
     obtain ⟨a1, C1, MP, MT, M, ey, h1, hl, hdv, hsp⟩ := Sq T ih hs
     refine ⟨_, rfl, a1, C1, MP, MT, M, ey, h1, hl, ?_⟩
     rw [hdv, hsp]
     exact ⟨x, true, t1, t2, zs, rfl, hs, by omega, by omega, hok, hb, q⟩
 | is _ _ => cases hk
 | cmp _ _ _ => cases hk
 | neg _ => cases hk
theorem K1 (T : Txt K mg A) : ∀ n : Nat, abX P w K mg base A n (2 * n + 1)
 | 0 => by
   have len : ∀ (j : Nat) (vs : List V) (H : Hp) (Q : VK) (E : XK), wg A j 0 vs H Q E → False := fun j vs H Q E h => by
     obtain ⟨x, t, zs, rfl, _, hd, _⟩ := h
     exact absurd hd (by omega)
   exact ⟨⟨fun vs H Q E h => (len _ _ _ _ _ h).elim, fun _ _ _ _ _ _ _ _ _ _ _ _ _ h => (len _ _ _ _ _ h).elim⟩, ⟨fun vs H Q E h => (len _ _ _ _ _ h).elim, fun _ _ _ _ _ _ _ _ _ _ _ _ _ h => (len _ _ _ _ _ h).elim⟩, ⟨fun vs H Q E h => (len _ _ _ _ _ h).elim, fun _ _ _ _ _ _ _ _ _ _ _ _ _ h => (len _ _ _ _ _ h).elim⟩, ⟨fun vs H Q E h => (len _ _ _ _ _ h).elim, fun _ _ _ _ _ _ _ _ _ _ _ _ _ h => (len _ _ _ _ _ h).elim⟩, ⟨fun vs H Q E h => (len _ _ _ _ _ h).elim, fun _ _ _ _ _ _ _ _ _ _ _ _ _ h => (len _ _ _ _ _ h).elim⟩⟩
 | n + 1 =>
   have ih := K1 T n
   have bs := Sw T ih
   ⟨Ss T, Su T, Sv (k := 2 * n + 2) T (by omega) ih, Sx T bs, Sy T bs⟩
end
def atT : Tr → List Tr
 | .is n v => [.is n v]
 | .cmp n h m => [.cmp n h m]
 | .neg t => atT t
 | .two _ s t => atT s ++ atT t
theorem uE : ∀ t : Tr, (atT t).length = t.size
 | .is _ _ => rfl
 | .cmp _ _ _ => rfl
 | .neg t => uE t
 | .two _ s t => by show (atT s ++ atT t).length = s.size + t.size; rw [List.length_append, uE s, uE t]
theorem yO {α β : Type} {R R' : α → β → Prop} (h : ∀ a b, R a b → R' a b) {as : List α} {bs : List β} (k : Paired R as bs) : Paired R' as bs := by
 induction k with
 | nil => exact .nil
 | cons r _ ih => exact .cons (h _ _ r) ih
theorem wR {α β : Type} {R : α → β → Prop} {as : List α} {bs : List β} (h : Paired R as bs) : ∀ {i : Nat} {x : α}, as[i]? = some x → ∃ b, bs[i]? = some b ∧ R x b := by
 induction h with
 | nil => intro i x e; simp at e
 | cons a _ ih =>
   intro i x e
   cases i with
   | zero => cases e; exact ⟨_, rfl, a⟩
   | succ j => exact ih e
theorem xA {α β : Type} {R : α → β → Prop} {as : List α} {bs : List β} (h : Paired R as bs) : as.length = bs.length := by
 induction h with
 | nil => rfl
 | cons _ _ ih => rw [List.length_cons, List.length_cons, ih]
def spA (A : cj) (j n : Nat) : Sp := fun vs H Q _ => ∃ (x : V) (t : Tr), vs = [x] ∧ nD A H t x ∧ t.depth < n ∧ t.size ≤ 1000 ∧ kd t = j ∧ ∀ a ys H', az H H' → H' a = some (.lst ys) → Paired (fun y u => nD A H' u y) ys (atT t) → Q (.ref a) H'
def Xu (A : cj) (n : Nat) : Sp := fun vs H Q _ => ∃ (x : V) (o : Bool) (s t : Tr), vs = [x] ∧ nD A H (.two o s t) x ∧ 1 + max s.depth t.depth < n ∧ s.size + t.size ≤ 1000 ∧ ∀ a ys H', az H H' → H' a = some (.lst ys) → Paired (fun y u => nD A H' u y) ys (atT s ++ atT t) → Q (.ref a) H'
structure AOk (P : Program) (w : World) (K : W.Frag) (mg : Str → Option Value) (base : Heap) (A : cj) (n k : Nat) : Prop where
 a : aB P w K mg base aL k A.j9 A.kh ["self"] (spA A 0 n)
 b : aB P w K mg base aL k A.fH A.fJ ["self"] (spA A 1 n)
 c : aB P w K mg base aL k A.jm A.jn ["self"] (spA A 2 n)
 d : aB P w K mg base aL k A.d9 A.gm ["self"] (Xu A n)
section
variable {P : Program} {w : World} {K : W.Frag} {mg : Str → Option Value} {base : Heap} {A : cj}
theorem wk (T : Txt K mg A) {n k : Nat} (ih : AOk P w K mg base A n k) {t : Tr} {x : V} {H : Hp} (hs : nD A H t x) :
   ∃ (a C dx : Addr) (fs : List (Str × V)) (M : jQ P w K mg base aL k C "atoms"), x = .ref a ∧ H a = some (.ins C dx fs) ∧ fs.lookup ‹"atoms"› = none ∧ M.oK = [] ∧
     ∀ Q E, (t.depth < n ∧ t.size ≤ 1000 ∧ ∀ a ys H', az H H' → H' a = some (.lst ys) → Paired (fun y u => nD A H' u y) ys (atT t) → Q (.ref a) H') → M.sp [x] H Q E := by
 cases t with
 | is nm v =>
   obtain ⟨a, dx, rfl, h⟩ := id hs
   exact ⟨a, _, dx, _, ⟨A.j9, A.kh, ["self"], spA A 0 n, [], [], T.J7, T.RV, ih.a, T.Pa, .nil⟩, rfl, h, rfl, rfl, fun Q E ⟨h1, h2, h3⟩ => ⟨_, _, rfl, hs, h1, h2, rfl, h3⟩⟩
 | cmp nm h m =>
   obtain ⟨a, dx, rfl, h⟩ := id hs
   exact ⟨a, _, dx, _, ⟨A.fH, A.fJ, ["self"], spA A 1 n, [], [], T.iU, T.En, ih.b, T.Ck, .nil⟩, rfl, h, rfl, rfl, fun Q E ⟨h1, h2, h3⟩ => ⟨_, _, rfl, hs, h1, h2, rfl, h3⟩⟩
 | neg t =>
   obtain ⟨a, dx, y, rfl, h, _⟩ := id hs
   exact ⟨a, _, dx, _, ⟨A.jm, A.jn, ["self"], spA A 2 n, [], [], T.Ka, T.PN, ih.c, T.Lx, .nil⟩, rfl, h, rfl, rfl, fun Q E ⟨h1, h2, h3⟩ => ⟨_, _, rfl, hs, h1, h2, rfl, h3⟩⟩
 | two o s t =>
   obtain ⟨a, dx, y, z, rfl, h, _⟩ := id hs
   have key : ∀ Q E, ((Tr.two o s t).depth < n ∧ (Tr.two o s t).size ≤ 1000 ∧ ∀ a ys H', az H H' → H' a = some (.lst ys) → Paired (fun y u => nD A H' u y) ys (atT (.two o s t)) → Q (.ref a) H') → Xu A n [.ref a] H Q E := fun Q E ⟨h1, h2, h3⟩ => by
     exact ⟨_, o, s, t, rfl, hs, h1, h2, h3⟩
   cases o with
   | false => exact ⟨a, _, dx, _, ⟨A.d9, A.gm, ["self"], Xu A n, [], [], T.wO, T.Mq, ih.d, T.vy, .nil⟩, rfl, h, rfl, rfl, key⟩
   | true => exact ⟨a, _, dx, _, ⟨A.d9, A.gm, ["self"], Xu A n, [], [], T.ph, T.GX, ih.d, T.vy, .nil⟩, rfl, h, rfl, rfl, key⟩
theorem SJ (T : Txt K mg A) {n k : Nat} : aB P w K mg base aL (k + 1) A.j9 A.kh ["self"] (spA A 0 n) := by
 refine T.O9.ok Mz (fun vs H Q E h => ?_) (fun cdv A0 outer s H vs Q E hr h => ?_)
 · obtain ⟨x, t, rfl, _⟩ := h
   rfl
 obtain ⟨x, t, rfl, hs, _, _, hk, q⟩ := h
 refine ⟨_, (zD (zM (xF (zA (pv 0) zB)))), ?_⟩
 cases t with
 | is nm v =>
   refine ⟨_, rfl, (by show 1 ≤ sizeLine; decide), fun p hp => ?_⟩
   have sp := zS hp (.lst [x])
   exact q p [x] _ sp zE (.cons (hs.same sp) .nil)
 | cmp _ _ _ => cases hk
 | neg _ => cases hk
 | two o _ _ => cases o <;> cases hk
theorem SN (T : Txt K mg A) {n k : Nat} : aB P w K mg base aL (k + 1) A.fH A.fJ ["self"] (spA A 1 n) := by
 refine T.Cj.ok Bl (fun vs H Q E h => ?_) (fun cdv A0 outer s H vs Q E hr h => ?_)
 · obtain ⟨x, t, rfl, _⟩ := h
   rfl
 obtain ⟨x, t, rfl, hs, _, _, hk, q⟩ := h
 refine ⟨_, (zD (zM (xF (zA (pv 0) zB)))), ?_⟩
 cases t with
 | cmp nm h m =>
   refine ⟨_, rfl, (by show 1 ≤ sizeLine; decide), fun p hp => ?_⟩
   have sp := zS hp (.lst [x])
   exact q p [x] _ sp zE (.cons (hs.same sp) .nil)
 | is _ _ => cases hk
 | neg _ => cases hk
 | two o _ _ => cases o <;> cases hk
theorem SQ (T : Txt K mg A) {n ka : Nat} (ih : AOk P w K mg base A n ka) : aB P w K mg base aL (ka + 1) A.jm A.jn ["self"] (spA A 2 (n + 1)) := by
 refine T.Lw.ok Ko (fun vs H Q E h => ?_) (fun cdv A0 outer s H vs Q E hr h => ?_)
 · obtain ⟨x, t, rfl, _⟩ := h
   rfl
 obtain ⟨x, t, rfl, hs, hd, hz, hk, q⟩ := h
 refine ⟨_, (zD (zM (yC (CX := aL) (k := ka) ‹hr› zL (zX (pv 0) rfl)))), ?_⟩
 cases t with
 | neg t =>
   obtain ⟨a, dx, y, rfl, h, hs1⟩ := hs
   have hd' : t.depth + 1 < n + 1 := hd
   obtain ⟨a1, C1, MP, MT, M, ey, h1, hl, hdv, hsp⟩ := wk T ih hs1
   refine ⟨_, rfl, a, _, dx, _, _, rfl, h, T.Ka, T.vN, rfl, a1, C1, MP, MT, M, ey, h1, hl, ?_⟩
   dsimp only [tW]
   rw [hdv]
   exact hsp _ _ ⟨by omega, hz, q⟩
 | is _ _ => cases hk
 | cmp _ _ _ => cases hk
 | two o _ _ => cases o <;> cases hk
theorem SX (T : Txt K mg A) {n ka : Nat} (ih : AOk P w K mg base A n ka) : aB P w K mg base aL (ka + 1) A.d9 A.gm ["self"] (Xu A (n + 1)) := by
 refine T.JH.ok Hg (fun vs H Q E h => ?_) (fun cdv A0 outer s H vs Q E hr h => ?_)
 · obtain ⟨x, o, s, t, rfl, _⟩ := h
   rfl
 obtain ⟨x, o, t1, t2, rfl, hs, hd, hz, q⟩ := h
 refine ⟨_, (zD (zM (zI Ow (yC (CX := aL) (k := ka) ‹hr› zL (zX (pv 0) rfl)) (yC (CX := aL) (k := ka) ‹hr› zL (zX (pv 0) rfl))))), ?_⟩
 obtain ⟨a, dx, y, z, rfl, h, hs1, hs2⟩ := hs
 have cl : yh K (cT A o) ∧ aC K (cT A o) "one" ∧ aC K (cT A o) "other" := by
   cases o
   · exact ⟨T.wO, T.vO, T.rJ⟩
   · exact ⟨T.ph, T.rK, T.nU⟩
 obtain ⟨a1, C1, MP, MT, M, ey, h1, hl, hdv, hsp⟩ := wk T ih hs1
 refine ⟨_, rfl, a, _, dx, _, _, rfl, h, cl.1, cl.2.1, rfl, a1, C1, MP, MT, M, ey, h1, hl, ?_⟩
 dsimp only [tW]
 rw [hdv]
 refine hsp _ _ ⟨by omega, by omega, fun l1 ys1 H1 s1 e1 p1 => ?_⟩
 have auP := hs2.same s1
 obtain ⟨a2, C2, V6, Z7, M2, ez, h2, hl2, KY, KZ⟩ := wk T ih auP
 refine ⟨_, rfl, a, _, dx, _, _, rfl, s1 _ _ h, cl.1, cl.2.2, rfl, a2, C2, V6, Z7, M2, ez, h2, hl2, ?_⟩
 dsimp only [tW]
 rw [KY]
 refine KZ _ _ ⟨by omega, by omega, fun l2 ys2 H2 s2 e2 p2 => ?_⟩
 refine ⟨l1, l2, ys1, ys2, rfl, rfl, s2 _ _ e1, e2, ?_, fun p hp => ?_⟩
 · rw [xA p1, xA p2, uE, uE]; exact Nat.le_trans hz (by decide)
 have s3 := zS hp (.lst (ys1 ++ ys2))
 exact q p _ _ (s1.trans (s2.trans s3)) zE (Bo (yO (fun y u r => nD.same (s2.trans s3) r) p1) (yO (fun y u r => nD.same s3 r) p2))
theorem K3 (T : Txt K mg A) : ∀ n : Nat, AOk P w K mg base A n (n + 1)
 | 0 => by
   have len : ∀ (j : Nat) (vs : List V) (H : Hp) (Q : VK) (E : XK), spA A j 0 vs H Q E → False := fun j vs H Q E h => by
     obtain ⟨x, t, rfl, _, hd, _⟩ := h
     exact absurd hd (by omega)
   have ahk : ∀ (vs : List V) (H : Hp) (Q : VK) (E : XK), Xu A 0 vs H Q E → False := fun vs H Q E h => by
     obtain ⟨x, o, s, t, rfl, _, hd, _⟩ := h
     exact absurd hd (by omega)
   exact ⟨⟨fun vs H Q E h => (len _ _ _ _ _ h).elim, fun _ _ _ _ _ _ _ _ _ _ _ _ _ h => (len _ _ _ _ _ h).elim⟩, ⟨fun vs H Q E h => (len _ _ _ _ _ h).elim, fun _ _ _ _ _ _ _ _ _ _ _ _ _ h => (len _ _ _ _ _ h).elim⟩, ⟨fun vs H Q E h => (len _ _ _ _ _ h).elim, fun _ _ _ _ _ _ _ _ _ _ _ _ _ h => (len _ _ _ _ _ h).elim⟩, ⟨fun vs H Q E h => (ahk _ _ _ _ h).elim, fun _ _ _ _ _ _ _ _ _ _ _ _ _ h => (ahk _ _ _ _ h).elim⟩⟩
 | n + 1 =>
   have ih := K3 T n
   ⟨SJ T, SN T, SQ T ih, SX T ih⟩
end
abbrev Wd := List Nat
abbrev S5 : Wd := cd ‹"not"›
abbrev cLp : Wd := cd ‹"("›
abbrev cRp : Wd := cd ‹")"›
abbrev Z8 : Wd := cd ‹"and"›
abbrev cOr : Wd := cd ‹"or"›
abbrev cIs : Wd := cd ‹"is"›
def tk : Option (List Wd) → Wd × Option (List Wd)
 | some (w :: r) => (w, some r)
 | some [] => ([], none)
 | none => ([], none)
def XH (x y z : Wd) : Option Tr :=
 if nameB (S x) = true ∧ y = cIs ∧ nameB (S z) = true then some (.is (S x) (.str (S z)))
 else match gK z 60 with
   | some n => if nameB (S x) = true ∧ (S y = "<" ∨ S y = "=" ∨ S y = ">") then some (.cmp (S x) (S y) n) else none
   | none => none
def V7 (p : Tr × Option (List Wd)) (q : Tr × Option (List Wd)) : Option (Tr × Option (List Wd)) :=
 if (tk q.2).1 = cRp ∧ (tk p.2).1 = Z8 then some (.two false p.1 q.1, (tk q.2).2) else if (tk q.2).1 = cRp ∧ (tk p.2).1 = cOr then some (.two true p.1 q.1, (tk q.2).2) else none
def wU : Nat → Option (List Wd) → Option (Tr × Option (List Wd))
 | 0, _ => none
 | d + 1, s =>
   if (tk s).1 = S5 then (wU d (tk s).2).map fun p => (.neg p.1, p.2)
   else if (tk s).1 = cLp then (wU d (tk s).2).bind fun p => (wU d (tk p.2).2).bind fun q => V7 p q
   else (XH (tk s).1 (tk (tk s).2).1 (tk (tk (tk s).2).2).1).map fun t => (t, (tk (tk (tk s).2).2).2)
theorem V8 : ∀ {d : Nat} {s s' : Option (List Wd)} {t : Tr}, wU d s = some (t, s') → t.depth ≤ d ∧ t.size ≤ 2 ^ d
 | 0, _, _, _, h => by cases h
 | d + 1, s, s', t, h => by
   have h2 : 0 < 2 ^ d := Nat.two_pow_pos d
   unfold wU at h
   split at h
   · obtain ⟨⟨u, s1⟩, h1, e⟩ := Option.map_eq_some_iff.mp h
     cases e
     obtain ⟨a, b⟩ := V8 h1
     exact ⟨by show u.depth + 1 ≤ d + 1; omega, by show u.size ≤ 2 ^ (d + 1); rw [Nat.pow_succ]; omega⟩
   · split at h
     · obtain ⟨p, h1, h⟩ := Option.bind_eq_some_iff.mp h
       obtain ⟨q, h2', h⟩ := Option.bind_eq_some_iff.mp h
       obtain ⟨u, s1⟩ := p
       obtain ⟨v, s2⟩ := q
       obtain ⟨a, b⟩ := V8 h1
       obtain ⟨a', b'⟩ := V8 h2'
       have key : ∀ o, (Tr.two o u v).depth ≤ d + 1 ∧ (Tr.two o u v).size ≤ 2 ^ (d + 1) := fun o =>
         ⟨by show 1 + max u.depth v.depth ≤ d + 1; omega, by show u.size + v.size ≤ 2 ^ (d + 1); rw [Nat.pow_succ]; omega⟩
       unfold V7 at h
       split at h
       · cases h; exact key false
       · split at h
         · cases h; exact key true
         · cases h
     · obtain ⟨u, h1, e⟩ := Option.map_eq_some_iff.mp h
       cases e
       have key : t.depth = 1 ∧ t.size = 1 := by
         unfold XH at h1
         split at h1
         · cases h1; exact ⟨rfl, rfl⟩
         · split at h1
           · split at h1
             · cases h1; exact ⟨rfl, rfl⟩
             · cases h1
           · cases h1
       exact ⟨by rw [key.1]; omega, by rw [key.2, Nat.pow_succ]; omega⟩
def XJ (ws : List Wd) (k : Nat) (st : Option (List Wd)) : Prop := (st = some (ws.drop k) ∧ k ≤ ws.length) ∨ (st = none ∧ ws.length < k)
theorem XJ.tk {ws : List Wd} {k : Nat} {st : Option (List Wd)} (h : XJ ws k st) : (tk st).1 = ws.getD k [] ∧ XJ ws (k + 1) (dI.Y.tk st).2 := by
 rcases h with ⟨rfl, h⟩ | ⟨rfl, h⟩
 · by_cases e : k < ws.length
   · have hd : ws.drop k = ws[k] :: ws.drop (k + 1) := (List.getElem_cons_drop ..).symm
     rw [hd]
     exact ⟨by simp [dI.Y.tk, List.getD, e], .inl ⟨rfl, e⟩⟩
   · have hd : ws.drop k = [] := List.drop_eq_nil_of_le (by omega)
     rw [hd]
     exact ⟨by simp [dI.Y.tk, List.getD, Nat.not_lt.mp e], .inr ⟨rfl, by omega⟩⟩
 · exact ⟨by simp [dI.Y.tk, List.getD, Nat.le_of_lt h], .inr ⟨rfl, by omega⟩⟩
theorem XJ.fine {ws : List Wd} (hf : ∀ l ∈ ws, bA 1000 (S l)) (k : Nat) : bA 1000 (S (ws.getD k [])) := by
 by_cases e : k < ws.length
 · have : ws.getD k [] = ws[k] := by simp [List.getD, e]
   rw [this]; exact hf _ (List.getElem_mem e)
 · have : ws.getD k [] = [] := by simp [List.getD, Nat.not_lt.mp e]
   rw [this]; exact ⟨by rw [zU]; decide, fun c hc => by rw [cU] at hc; cases hc⟩
abbrev wv (ws : List (List Nat)) : List V := ws.map fun l => V.str (S l)
def wu (A : cj) (H : Hp) (lw dx qy : Addr) (k : Nat) : Prop := H lw = some (.ins A.aA dx [("words", .ref qy), ("taken", .int (k : Nat))])
def auQ (A : cj) : Sp := fun vs H Q _ => ∃ p dx u1, vs = [.ref p, u1] ∧ H p = some (.ins A.aA dx []) ∧ Q .non (upd H p (.ins A.aA dx [("words", u1), ("taken", .int 0)]))
def adZ (A : cj) : Sp := fun vs H Q _ => ∃ (lw dx qy : Addr) (k : Nat) (ws : List (List Nat)), vs = [.ref lw] ∧ wu A H lw dx qy k ∧ H qy = some (.lst (wv ws)) ∧ ∀ H', jR lw H H' → wu A H' lw dx qy (k + 1) → Q (.str (S (ws.getD k []))) H'
def Z9 (A : cj) : Sp := fun vs H Q _ => ∃ (lw dx qy : Addr) (k : Nat) (ws : List (List Nat)), vs = [.ref lw] ∧ wu A H lw dx qy k ∧ H qy = some (.lst (wv ws)) ∧ Q (.bl (decide (k = ws.length))) H
def auR (A : cj) (K : W.Frag) : Sp := fun vs H Q E => ∃ x y z : Wd, vs = [.str (S x), .str (S y), .str (S z)] ∧ bA 1000 (S x) ∧ bA 1000 (S y) ∧ bA 1000 (S z) ∧ (∀ t, XH x y z = some t → ∀ u H', az H H' → nD A H' t u → Q u H') ∧ (XH x y z = none → ∀ H', az H H' → E (.ref A.gY) none H')
def ahl (A : cj) (K : W.Frag) (n : Nat) : Sp := fun vs H Q E => ∃ (lw dx qy : Addr) (k : Nat) (ws : List Wd) (st : Option (List Wd)), vs = [.ref lw, .int (n : Nat)] ∧ wu A H lw dx qy k ∧ H qy = some (.lst (wv ws)) ∧ (∀ l ∈ ws, bA 1000 (S l)) ∧ XJ ws k st ∧
 (∀ t st', wU n st = some (t, st') → ∀ u H' k', jR lw H H' → wu A H' lw dx qy k' → XJ ws k' st' → nD A H' t u → Q u H') ∧ (wU n st = none → ∀ H', jR lw H H' → E (.ref A.gY) none H')
def auS (A : cj) (K : W.Frag) (n : Nat) : Sp := fun vs H Q E => ∃ (lw dx qy : Addr) (k : Nat) (ws : List Wd) (st : Option (List Wd)), vs = [.ref lw, .int (n : Nat)] ∧ wu A H lw dx qy k ∧ H qy = some (.lst (wv ws)) ∧ (∀ l ∈ ws, bA 1000 (S l)) ∧ XJ ws k st ∧
 (∀ t st', ((wU n st).bind fun p => (wU n (tk p.2).2).bind fun q => V7 p q) = some (t, st') → ∀ u H' k', jR lw H H' → wu A H' lw dx qy k' → XJ ws k' st' → nD A H' t u → Q u H') ∧ (((wU n st).bind fun p => (wU n (tk p.2).2).bind fun q => V7 p q) = none → ∀ H', jR lw H H' → E (.ref A.gY) none H')
theorem S6 {lw : Addr} {H H1 H2 : Hp} (a : jR lw H H1) (b : jR lw H1 H2) : jR lw H H2 := fun c o n e => b c o n (a c o n e)
theorem sbO {lw : Addr} {H H' : Hp} (s : az H H') : jR lw H H' := fun c o _ e => s c o e
theorem sbR {lw : Addr} {H : Hp} : jR lw H H := fun c o _ e => e
theorem sbL {lw dx qy : Addr} {k : Nat} {xs : List V} {A : cj} {H H' : Hp} (s : jR lw H H') (w : wu A H lw dx qy k) (h : H qy = some (.lst xs)) : H' qy = some (.lst xs) := s _ _ (by rintro rfl; rw [show H qy = _ from w] at h; cases h) h
section
variable {P : Program} {w : World} {K : W.Frag} {mg : Str → Option Value} {base : Heap} {A : cj}
theorem Vb (T : Txt K mg A) : aB P w K mg base aL 1 A.iR A.iT ["self", "words"] (auQ A) := by
 refine T.vz.ok uR (fun vs H Q E h => ?_) (fun cdv A0 outer s H vs Q E hr h => ?_)
 · obtain ⟨p, dx, u1, rfl, _⟩ := h
   rfl
 obtain ⟨p, dx, u1, rfl, hp, q⟩ := h
 refine ⟨_, (zC (yK (pv 0) (pv 1) rfl)
     (zD (yK (pv 0) zF rfl))), ?_⟩
 refine ⟨_, rfl, _, rfl, p, _, dx, _, rfl, hp, T.bH, T.gZ, by decide, ?_⟩
 refine ⟨_, rfl, p, _, dx, _, rfl, zE, T.bH, T.cQ, (by show 1 < 1000; decide), ?_⟩
 rw [yM]
 exact q
theorem abZ (T : Txt K mg A) : aB P w K mg base aL 1 A.gO A.gP ["self"] (adZ A) := by
 refine T.Aq.ok oE (fun vs H Q E h => ?_) (fun cdv A0 outer s H vs Q E hr h => ?_)
 · obtain ⟨lw, dx, qy, k, ws, rfl, _⟩ := h
   rfl
 obtain ⟨lw, dx, qy, k, ws, rfl, hw', hl, q⟩ := h
 refine ⟨_, (zC (zY (i := 1) oE.nd rfl (by first | exact Or.inl rfl | exact Or.inr rfl) (yV (zP HX (zX (pv 0) rfl) (zW zZ (by rfl) T.gJ PySem.boot_len (zA (zX (pv 0) rfl) zB)) (zO _)) (yN xD (zX (pv 0) rfl) (zX (pv 0) rfl) (fun _ _ => rfl)) zH))
     (zC (Dt (pv 0) zF TY)
     (zD (zM (pv 1))))), ?_⟩
 refine ⟨_, rfl, lw, _, dx, _, _, rfl, hw', T.bH, T.cQ, rfl, _, rfl, lw, _, dx, _, _, rfl, hw', T.bH, T.gZ, rfl, qy, _, rfl, .inl (bG.of hl), _, _, rfl, rfl, _, rfl, ?_⟩
 by_cases hlt : k < ws.length
 · have hat : qG (wv ws) ((k : Nat) : Int) = some (.str (S (ws.getD k []))) := yB (by rw [List.getElem?_map, List.getElem?_eq_getElem hlt]; simp [List.getD, hlt])
   rw [show decide (((k : Nat) : Int) < (((wv ws).length : Nat) : Int)) = true from decide_eq_true (by rw [List.length_map]; omega)]
   refine bJ ⟨_, rfl, lw, _, dx, _, _, rfl, hw', T.bH, T.gZ, rfl, _, rfl, lw, _, dx, _, _, rfl, hw', T.bH, T.cQ, rfl, qy, _, _, _, rfl, rfl, bG.of hl, hat, ?_⟩
   refine ⟨_, rfl, lw, _, dx, _, _, rfl, hw', T.bH, T.cQ, rfl, _, _, rfl, rfl, dx, _, hw', (by show 2 < 1000; decide), ?_⟩
   exact ⟨_, rfl, q _ (fun b o n e => by rw [zK n]; exact e) (by show upd _ _ _ _ = _; rw [zE]; rfl)⟩
 · rw [show decide (((k : Nat) : Int) < (((wv ws).length : Nat) : Int)) = false from decide_eq_false (by rw [List.length_map]; omega)]
   have e0 : S (ws.getD k []) = ‹""› := by
     rw [show ws.getD k [] = [] by simp [List.getD, Nat.not_lt.mp hlt]]; decide +kernel
   rw [e0] at q
   refine bh ?_
   refine ⟨_, rfl, lw, _, dx, _, _, rfl, hw', T.bH, T.cQ, rfl, _, _, rfl, rfl, dx, _, hw', (by show 2 < 1000; decide), ?_⟩
   exact ⟨_, rfl, q _ (fun b o n e => by rw [zK n]; exact e) (by show upd _ _ _ _ = _; rw [zE]; rfl)⟩
theorem Ql (T : Txt K mg A) : aB P w K mg base aL 1 A.bV A.bW ["self"] (Z9 A) := by
 refine T.oZ.ok nZ (fun vs H Q E h => ?_) (fun cdv A0 outer s H vs Q E hr h => ?_)
 · obtain ⟨lw, dx, qy, k, ws, rfl, _⟩ := h
   rfl
 obtain ⟨lw, dx, qy, k, ws, rfl, hw', hl, q⟩ := h
 refine ⟨_, (zD (zM (yI yG (zX (pv 0) rfl) (zW zZ (by rfl) T.gJ PySem.boot_len (zA (zX (pv 0) rfl) zB)) (zO _)))), ?_⟩
 refine ⟨_, rfl, lw, _, dx, _, _, rfl, hw', T.bH, T.cQ, rfl, _, rfl, lw, _, dx, _, _, rfl, hw', T.bH, T.gZ, rfl, qy, _, rfl, .inl (bG.of hl), rfl, ?_⟩
 rw [show decide (V.int ((k : Nat) : Int) = V.int (((wv ws).length : Nat) : Int)) = decide (k = ws.length) from decide_eq_decide.mpr (by rw [List.length_map]; constructor; (intro e; exact Int.ofNat.inj (V.int.inj e)); (intro e; rw [e]))]
 exact q
theorem Dk (T : Txt K mg A) {H : Hp} {lw dx qy : Addr} {k : Nat} (h : wu A H lw dx qy k) :
   ∃ (a C dx : Addr) (fs : List (Str × V)) (M : jQ P w K mg base aL 1 C "take"), V.ref lw = .ref a ∧ H a = some (.ins C dx fs) ∧ fs.lookup ‹"take"› = none ∧ M.oK = [] ∧ M.sp = adZ A :=
 ⟨lw, _, dx, _, ⟨A.gO, A.gP, ["self"], adZ A, [], [], T.bH, T.CG, abZ T, T.Ar, .nil⟩, rfl, h, rfl, rfl, rfl⟩
theorem ab0 (T : Txt K mg A) {H : Hp} {lw dx qy : Addr} {k : Nat} (h : wu A H lw dx qy k) :
   ∃ (a C dx : Addr) (fs : List (Str × V)) (M : jQ P w K mg base aL 1 C "are_all_taken"), V.ref lw = .ref a ∧ H a = some (.ins C dx fs) ∧ fs.lookup ‹"are_all_taken"› = none ∧ M.oK = [] ∧ M.sp = Z9 A :=
 ⟨lw, _, dx, _, ⟨A.bV, A.bW, ["self"], Z9 A, [], [], T.bH, T.qm, Ql T, T.o4, .nil⟩, rfl, h, rfl, rfl, rfl⟩
theorem Bp (T : Txt K mg A) {H : Hp} {z : Str} (h : bA 1000 z) : Ok K H (.str z) := ⟨⟨acE T H z, trivial⟩, fun y e => by cases e; exact h⟩
end
theorem ad0 (y : Wd) : inV (.str (S y)) [.str ‹"<"›, .str ‹"="›, .str ‹">"›] = decide (S y = "<" ∨ S y = "=" ∨ S y = ">") := by
 show inV (.str (S y)) ((["<", "=", ">"] : List Str).map V.str) = _
 rw [v5]
 exact decide_eq_decide.mpr (by simp)
section
variable {P : Program} {w : World} {K : W.Frag} {mg : Str → Option Value} {base : Heap} {A : cj}
theorem Dl (T : Txt K mg A) : aB P w K mg base (wX P w) 4 A.qK A.u9 ["name", "how", "what"] (auR A K) := by
 have eN := mz (P := P) (w := w) (base := base) T
 have gr := xX (P := P) (w := w) (base := base) T
 have M4 := U5 (P := P) (w := w) (base := base) T
 have Bq := U6 (P := P) (w := w) (base := base) T
 refine T.Rz.okX De (fun vs H Q E h => ?_) (fun cdv A0 outer s H vs Q E hr h => ?_)
 · obtain ⟨x, y, z, rfl, _⟩ := h
   rfl
 obtain ⟨x, y, z, rfl, fx, fy, fz, qs, qn⟩ := h
 refine ⟨_, (zC (yD (PW.pt (uW (yP (zN eN ‹hr› rfl T.jY T.jX T.jW .nil zL (zA (pv 0) zB))) (uW (zP yG (pv 1) zH (zO _)) (wD (yP (zN eN ‹hr› rfl T.jY T.jX T.jW .nil zL (zA (pv 2) zB))))))) (zD (zM (xG T.agW M4 ‹hr› rfl T.auF T.JD T.JF zL (zA (pv 0) (zA (pv 2) zB))))) zV)
     (zC (zY (i := 3) De.nd rfl (by first | exact Or.inl rfl | exact Or.inr rfl) (zN gr ‹hr› rfl T.lW T.lV T.lU .nil zL (zA (pv 2) zB)))
     (zC (yD (PW.pt (uW (yP (zN eN ‹hr› rfl T.jY T.jX T.jW .nil zL (zA (pv 0) zB))) (uW (zP su (pv 1) (xO rfl T.adB) (by rfl)) (wD (zP Hu (pv 3) yT (zO _)))))) (zD (zM (xG T.UJ Bq ‹hr› rfl T.Xb T.Ao .nil zL (zA (pv 0) (zA (pv 1) (zA (pv 3) zB)))))) zV)
     (zD (xP T.mq T.my (zA (Rp (Ze (abq (pv 0) (Ze (abq (pv 1) (Ze (abq (pv 2) Zc))))))) zB) rfl))))), ?_⟩
 have lx : (S x).length ≤ 100000 := Nat.le_trans fx.len (by decide)
 have ly : (S y).length ≤ 100000 := Nat.le_trans fy.len (by decide)
 have lz : (S z).length ≤ 100000 := Nat.le_trans fz.len (by decide)
 have cx : ∀ k ∈ cd (S x), k < 1000 := fun k hk => Nat.lt_of_lt_of_le (fx.Oz k hk) (Nat.le_refl _)
 have cy : ∀ k ∈ cd (S y), k < 1000 := fun k hk => Nat.lt_of_lt_of_le (fy.Oz k hk) (Nat.le_refl _)
 have cz : ∀ k ∈ cd (S z), k < 1000 := fun k hk => Nat.lt_of_lt_of_le (fz.Oz k hk) (Nat.le_refl _)
 refine qW (fun σ' H' => az H H' ∧ σ' = [some (.str (S x)), some (.str (S y)), some (.str (S z)), none] ∧ ¬ (nameB (S x) = true ∧ y = cIs ∧ nameB (S z) = true)) ?kk ?mm
 case mm =>
   intro key
   refine ⟨_, rfl, .str (S x), rfl, Bp T fx, fun H1 s1 => ⟨_, rfl, ?_⟩⟩
   show if nameB (S x) = true then _ else _
   refine dD (fun c1 => ?_) (fun c1 => bh (key _ _ ⟨s1, rfl, fun e => c1 e.1⟩))
   by_cases e2 : y = cIs
   · subst e2
     refine ⟨_, rfl, rfl, _, rfl, eqS (d8 _) ⟨_, rfl, .str (S z), rfl, Bp T fz, fun H2 s2 => ⟨_, rfl, ?_⟩⟩⟩
     show if nameB (S z) = true then _ else _
     refine dD (fun c3 => ?_) (fun c3 => key _ _ ⟨s1.trans s2, rfl, fun e => c3 e.2.2⟩)
     refine ⟨_, rfl, _, rfl, fun o dx nx nd ne => ⟨o, dx, _, _, _, rfl, zE, rfl, ?_⟩⟩
     rw [yM]
     exact qs _ (if_pos ⟨c1, rfl, c3⟩) _ _ (s1.trans (s2.trans (yQ nx nd _))) ⟨o, dx, rfl, zE⟩
   · refine ⟨_, rfl, rfl, _, rfl, neS (fun e => e2 ?_) (bh (key _ _ ⟨s1, rfl, fun e => e2 e.2.1⟩))⟩
     have := congrArg cd e
     rwa [cU] at this
 case kk =>
 rintro σ' H' ⟨s0, rfl, hnot⟩
 refine ⟨_, rfl, _, rfl, fz, fun H2 s2 => ?_⟩
 rw [cU]
 have s02 := s0.trans s2
 dsimp only [jg]
 refine qW (fun σ' H' => az H H' ∧ (∃ v, σ' = [some (.str (S x)), some (.str (S y)), some (.str (S z)), v]) ∧ XH x y z = none) ?k2 ?m2
 case k2 =>
   rintro σ' H' ⟨s3, ⟨v, rfl⟩, hn⟩
   refine ⟨_, rfl, _, rfl, lx, cx, _, rfl, _, rfl, ly, cy, _, rfl, _, rfl, lz, cz, fun m => ?_⟩
   exact ⟨(by show 1 ≤ sizeLine; decide), qn hn _ s3⟩
 case m2 =>
   intro key
   have eA : XH x y z = (match gK z 60 with
     | some n => if nameB (S x) = true ∧ (S y = "<" ∨ S y = "=" ∨ S y = ">") then some (.cmp (S x) (S y) n) else none
     | none => none) := if_neg hnot
   refine ⟨_, rfl, .str (S x), rfl, Bp T fx, fun H3 s3 => ⟨_, rfl, ?_⟩⟩
   have s03 := s02.trans s3
   show if nameB (S x) = true then _ else _
   refine dD (fun c1 => ?_) (fun c1 => bh (key _ _ ⟨s03, ⟨_, rfl⟩, ?_⟩))
   · refine ⟨_, rfl, _, _, rfl, .inr (T.adC _), rfl, rfl, _, rfl, ?_⟩
     rw [show (if false = true then !inV (.str (S y)) [.str ‹"<"›, .str ‹"="›, .str ‹">"›] else inV (.str (S y)) [.str ‹"<"›, .str ‹"="›, .str ‹">"›]) = decide (S y = "<" ∨ S y = "=" ∨ S y = ">") from ad0 y]
     refine dD (fun c2 => ?_) (fun c2 => bh (key _ _ ⟨s03, ⟨_, rfl⟩, ?_⟩))
     · have c2' := of_decide_eq_true c2
       cases en : gK z 60 with
       | none =>
         rw [en] at eA
         exact ⟨_, rfl, rfl, _, rfl, bh (key _ _ ⟨s03, ⟨_, rfl⟩, eA⟩)⟩
       | some n =>
         rw [en] at eA
         refine ⟨_, rfl, rfl, _, rfl, bJ ?_⟩
         refine ⟨_, rfl, _, rfl, _, rfl, fun o dx nx nd ne => ⟨o, dx, _, _, _, rfl, zE, rfl, ?_⟩⟩
         rw [yM]
         exact qs _ (eA.trans (if_pos ⟨c1, c2'⟩)) _ _ (s03.trans (yQ nx nd _)) ⟨o, dx, rfl, zE⟩
     · rw [eA]
       cases gK z 60 with
       | none => rfl
       | some n => exact if_neg fun e => c2 (decide_eq_true e.2)
   · rw [eA]
     cases gK z 60 with
     | none => rfl
     | some n => exact if_neg fun e => c1 e.1
theorem Qm (T : Txt K mg A) {n k : Nat} (hk : 2 ≤ k) (ih : aB P w K mg base (wX P w) k A.jV A.mZ ["left", "deepest"] (ahl A K n)) : aB P w K mg base (wX P w) (k + 1) A.mY A.qL ["left", "deepest"] (auS A K n) := by
 have fU := ih
 have uP := U7 (P := P) (w := w) (base := base) T
 refine T.RB.okX kW (fun vs H Q E h => ?_) (fun cdv A0 outer s H vs Q E hr h => ?_)
 · obtain ⟨lw, dx, qy, k, ws, st, rfl, _⟩ := h
   rfl
 obtain ⟨lw, dx, qy, k0, ws, st, rfl, hW, hl, hf, hst, qs, qn⟩ := h
 obtain ⟨kt, hkt⟩ : ∃ kt : Nat, kt = 1 := ⟨1, rfl⟩
 refine ⟨_, (zC (zY (i := 2) kW.nd rfl (by first | exact Or.inl rfl | exact Or.inr rfl) (zN fU ‹hr› rfl T.m7 T.m6 T.m5 .nil BK (zA (pv 0) (zA (pv 1) zB))))
     (zC (zY (i := 3) kW.nd rfl (by first | exact Or.inl rfl | exact Or.inr rfl) (yC (CX := aL) (k := kt) ‹hr› zL (pv 0)))
     (zC (zY (i := 4) kW.nd rfl (by first | exact Or.inl rfl | exact Or.inr rfl) (zN fU ‹hr› rfl T.m7 T.m6 T.m5 .nil BK (zA (pv 0) (zA (pv 1) zB))))
     (zC (zY (i := 5) kW.nd rfl (by first | exact Or.inl rfl | exact Or.inr rfl) (yI yG (yC (CX := aL) (k := kt) ‹hr› zL (pv 0)) zH (zO _)))
     (zC (yD (PW.pt (uW (yP (pv 5)) (wD (zP yG (pv 3) zH (zO _))))) (zD (zM (xG T.abJ uP ‹hr› rfl T.adK T.uM .nil zL (zA (pv 2) (zA (pv 4) zB))))) zV)
     (zC (yD (PW.pt (uW (yP (pv 5)) (wD (zP yG (pv 3) zH (zO _))))) (zD (zM (xG T.Xc uP ‹hr› rfl T.Zw T.uM .nil zL (zA (pv 2) (zA (pv 4) zB))))) zV)
     (zD (xP T.mq T.my (zA (Rp (Ze (abq (pv 3) (Ze Zc)))) zB) rfl)))))))), ?_⟩
 subst hkt
 refine ⟨_, rfl, _, rfl, lw, dx, qy, k0, ws, st, rfl, hW, hl, hf, hst, fun t1 st1 e1 u1 H1 k1 s1 W1 r1 y1 => ?_, fun e1 H1 s1 => qn (by rw [e1]; rfl) H1 s1⟩
 have l1 := sbL s1 hW hl
 obtain ⟨a1, C1, MP, MT, M, ey, h1, hl1, hdv, hsp⟩ := Dk (P := P) (w := w) (base := base) T W1
 refine ⟨_, rfl, a1, C1, MP, MT, M, ey, h1, hl1, ?_⟩
 dsimp only [tW]
 rw [hdv, hsp]
 obtain ⟨g1, g2⟩ := r1.tk
 refine ⟨lw, dx, qy, k1, ws, rfl, W1, l1, fun H2 s2 W2 => ?_⟩
 rw [← g1]
 have l2 := sbL s2 W1 l1
 refine ⟨_, rfl, _, rfl, lw, dx, qy, _, ws, (tk st1).2, rfl, W2, l2, hf, g2, fun t2 st2 e2 u2 H3 k3 s3 W3 r3 y3 => ?_, fun e2 H3 s3 => qn (by rw [e1]; show (wU n (tk st1).2).bind _ = none; rw [e2]; rfl) H3 (S6 s1 (S6 s2 s3))⟩
 have l3 := sbL s3 W2 l2
 obtain ⟨a2, C2, V6, Z7, M2, ey2, h2, hl2, KY, KZ⟩ := Dk (P := P) (w := w) (base := base) T W3
 refine ⟨_, rfl, a2, C2, V6, Z7, M2, ey2, h2, hl2, ?_⟩
 dsimp only [tW]
 rw [KY, KZ]
 obtain ⟨g3, g4⟩ := r3.tk
 refine ⟨lw, dx, qy, k3, ws, rfl, W3, l3, fun H4 s4 W4 => ⟨rfl, ?_⟩⟩
 rw [← g3]
 have eR : ((wU n st).bind fun p => (wU n (tk p.2).2).bind fun q => V7 p q) = V7 (t1, st1) (t2, st2) := by
   rw [e1]; show (wU n (tk st1).2).bind _ = _; rw [e2]; rfl
 have nwT := nw T
 have ra : nD A H4 t1 u1 := (((y1.sb nwT s2 W1).sb nwT s3 W2)).sb nwT s4 W3
 have rb : nD A H4 t2 u2 := y3.sb nwT s4 W3
 have ahm : jR lw H H4 := S6 (S6 (S6 s1 s2) s3) s4
 have sS : ∀ {a : Wd} {b : Str}, S a = b ↔ a = cd b := fun {a b} => ⟨fun e => by rw [← e, cU], fun e => by rw [e, d8]⟩
 have lg : (S (tk st1).1).length ≤ 100000 ∧ ∀ k ∈ cd (S (tk st1).1), k < 1000 := by
   have f := XJ.fine hf k1
   rw [← g1] at f
   exact ⟨Nat.le_trans f.len (by decide), fun k hk => Nat.lt_of_lt_of_le (f.Oz k hk) (Nat.le_refl _)⟩
 have raise : V7 (t1, st1) (t2, st2) = none → E (.ref A.gY) none H4 := fun e => qn (eR.trans e) H4 ahm
 generalize hcl : decide (V.str (S (tk st2).1) = V.str ‹")"›) = cl
 have hcl' : cl = true ↔ (tk st2).1 = cRp := by
   rw [← hcl, decide_eq_true_iff]
   exact ⟨fun e => sS.mp (V.str.inj e), fun e => by rw [sS.mpr e]⟩
 have made : ∀ o, cl = true → (tk st1).1 = cd (hw o) → ∀ (x Hw : Addr), H4 x = none → H4 Hw = none → Q (.ref x) (upd (upd H4 Hw (.own x)) x (.ins (cT A o) Hw [("one", u1), ("other", u2)])) := fun o c1 c2 x Hw nx nd => by
   have sm := yQ nx nd (.ins (cT A o) Hw [("one", u1), ("other", u2)])
   refine qs (.two o t1 t2) (tk st2).2 ?_ _ _ _ (S6 ahm (sbO sm)) (sm _ _ W4) g4 ⟨x, Hw, u1, u2, rfl, zE, ra.same sm, rb.same sm⟩
   rw [eR]
   unfold V7
   cases o with
   | false => exact if_pos ⟨hcl'.mp c1, c2⟩
   | true =>
     rw [if_neg (fun e => by have := e.2.symm.trans c2; exact absurd this (by symm))]
     exact if_pos ⟨hcl'.mp c1, c2⟩
 have fail : (¬ (cl = true ∧ (tk st1).1 = Z8)) → (¬ (cl = true ∧ (tk st1).1 = cOr)) → V7 (t1, st1) (t2, st2) = none := fun c1 c2 => by
   unfold V7
   rw [if_neg (fun e => c1 ⟨hcl'.mpr e.1, e.2⟩), if_neg (fun e => c2 ⟨hcl'.mpr e.1, e.2⟩)]
 refine qW (fun σ' H' => H4 = H' ∧ (∃ a b, σ' = [some (.ref lw), some (.int (n : Nat)), a, some (.str (S (tk st1).1)), b, some (.bl cl)]) ∧ σ' = [some (.ref lw), some (.int (n : Nat)), some u1, some (.str (S (tk st1).1)), some u2, some (.bl cl)] ∧ ¬ (cl = true ∧ (tk st1).1 = Z8)) ?kk ?mm
 case mm =>
   intro key
   refine ⟨_, rfl, _, rfl, dD (fun c1 => ?_) (fun c1 => bh (key _ _ ⟨rfl, ⟨_, _, rfl⟩, rfl, fun e => c1 e.1⟩))⟩
   by_cases e : (tk st1).1 = Z8
   · refine ⟨_, rfl, rfl, _, rfl, eqS (sS.mpr e) ?_⟩
     refine ⟨_, rfl, _, rfl, fun x dx nx nd ne => ⟨x, dx, _, _, false, rfl, zE, rfl, ?_⟩⟩
     rw [yM]
     exact made false c1 e x dx nx nd
   · exact ⟨_, rfl, rfl, _, rfl, neS (fun z => e (sS.mp z)) (key _ _ ⟨rfl, ⟨_, _, rfl⟩, rfl, fun z => e z.2⟩)⟩
 case kk =>
 rintro σ' H' ⟨rfl, _, rfl, hna⟩
 refine qW (fun σ' H' => H4 = H' ∧ σ' = [some (.ref lw), some (.int (n : Nat)), some u1, some (.str (S (tk st1).1)), some u2, some (.bl cl)] ∧ ¬ (cl = true ∧ (tk st1).1 = cOr)) ?k2 ?m2
 case m2 =>
   intro key
   refine ⟨_, rfl, _, rfl, dD (fun c1 => ?_) (fun c1 => bh (key _ _ ⟨rfl, rfl, fun e => c1 e.1⟩))⟩
   by_cases e : (tk st1).1 = cOr
   · refine ⟨_, rfl, rfl, _, rfl, eqS (sS.mpr e) ?_⟩
     refine ⟨_, rfl, _, rfl, fun x dx nx nd ne => ⟨x, dx, _, _, true, rfl, zE, rfl, ?_⟩⟩
     rw [yM]
     exact made true c1 e x dx nx nd
   · exact ⟨_, rfl, rfl, _, rfl, neS (fun z => e (sS.mp z)) (key _ _ ⟨rfl, rfl, fun z => e z.2⟩)⟩
 case k2 =>
 rintro σ' H' ⟨rfl, rfl, hno⟩
 refine ⟨_, rfl, _, rfl, lg.1, lg.2, fun m => ?_⟩
 exact ⟨(by show 1 ≤ sizeLine; decide), raise (fail hna hno)⟩
end
def rdS (ws : List Wd) : Option Tr := match wU 8 (some ws) with
 | some (t, some []) => if t.size ≤ 16 then some t else none
 | _ => none
def auT (A : cj) (K : W.Frag) : Sp := fun vs H Q E => ∃ x, vs = [x] ∧ ((∃ z, x = .str z ∧ bA 100000 z ∧ (∀ l ∈ aH (cd z), bA 1000 (S l)) ∧ (∀ t, rdS (aH (cd z)) = some t → ∀ u H', az H H' → nD A H' t u → Q u H') ∧ (rdS (aH (cd z)) = none → ∀ H', az H H' → E (.ref A.gY) none H')) ∨
 (∃ t, XC K H x t ∧ W.kitOne K t (.type "str") = some false ∧ ∀ H', az H H' → E (.ref A.gY) none H'))
theorem neN {a b : Nat} {X Y : Prop} (h : a ≠ b) (k : Y) : if decide (V.int ((a : Nat) : Int) = V.int ((b : Nat) : Int)) = true then X else Y := by
 rw [if_neg (fun e => h (by have := V.int.inj (of_decide_eq_true e); omega))]; exact k
section
variable {P : Program} {w : World} {K : W.Frag} {mg : Str → Option Value} {base : Heap} {A : cj}
theorem Dm (T : Txt K mg A) : ∀ n : Nat, aB P w K mg base (wX P w) (2 * n + 5) A.jV A.mZ ["left", "deepest"] (ahl A K n)
 | 0 => by
   have fU : aB P w K mg base (wX P w) 0 A.jV A.mZ ["left", "deepest"] (fun _ _ _ _ => False) := ⟨fun vs H Q E h => h.elim, fun _ _ _ _ _ _ _ _ _ _ _ _ _ h => h.elim⟩
   have wy : aB P w K mg base (wX P w) 0 A.mY A.qL ["left", "deepest"] (fun _ _ _ _ => False) := ⟨fun vs H Q E h => h.elim, fun _ _ _ _ _ _ _ _ _ _ _ _ _ h => h.elim⟩
   have wz := Dl (P := P) (w := w) (base := base) T
   have qz := KN (P := P) (w := w) (base := base) T
   refine T.FP.okX o6 (fun vs H Q E h => ?_) (fun cdv A0 outer s H vs Q E hr h => ?_)
   · obtain ⟨lw, dx, qy, k, ws, st, rfl, _⟩ := h
     rfl
   obtain ⟨lw, dx, qy, k0, ws, st, rfl, hW, hl, hf, hst, qs, qn⟩ := h
   obtain ⟨kt, hkt⟩ : ∃ kt : Nat, kt = 1 := ⟨1, rfl⟩
   refine ⟨_, (zC (yD (zP yG (pv 1) zF (zO _)) (zD (xP T.mq T.my (zA zH zB) rfl)) zV)
     (zC (zY (i := 2) o6.nd rfl (by first | exact Or.inl rfl | exact Or.inr rfl) (yC (CX := aL) (k := kt) ‹hr› zL (pv 0)))
     (zC (yD (zP yG (pv 2) zH (zO _)) (zD (zM (xG T.Zy qz ‹hr› rfl T.acD T.vq .nil zL (zA (zN fU ‹hr› rfl T.m7 T.m6 T.m5 .nil BK (zA (pv 0) (zA (zI pF (pv 1) zF) zB))) zB)))) zV)
     (zC (yD (zP yG (pv 2) zH (zO _)) (zD (zM (zN wy ‹hr› rfl T.FN T.FJ T.Fz .nil BK (zA (pv 0) (zA (zI pF (pv 1) zF) zB))))) zV)
     (zD (zM (zN wz ‹hr› rfl T.Fy T.Fx T.Fw .nil BK (zA (pv 2) (zA (yC (CX := aL) (k := kt) ‹hr› zL (pv 0)) (zA (yC (CX := aL) (k := kt) ‹hr› zL (pv 0)) zB)))))))))), ?_⟩
   refine ⟨_, rfl, rfl, _, rfl, bJ ?_⟩
   exact ⟨(by show 1 ≤ sizeLine; decide), qn rfl _ sbR⟩
 | n + 1 => by
   have fU := Dm T n
   have wy := Qm T (by omega) fU
   have wz := Dl (P := P) (w := w) (base := base) T
   have qz := KN (P := P) (w := w) (base := base) T
   refine T.FP.okX (k := 2 * n + 6) o6 (fun vs H Q E h => ?_) (fun cdv A0 outer s H vs Q E hr h => ?_)
   · obtain ⟨lw, dx, qy, k, ws, st, rfl, _⟩ := h
     rfl
   obtain ⟨lw, dx, qy, k0, ws, st, rfl, hW, hl, hf, hst, qs, qn⟩ := h
   obtain ⟨kt, hkt⟩ : ∃ kt : Nat, kt = 1 := ⟨1, rfl⟩
   refine ⟨_, (zC (yD (zP yG (pv 1) zF (zO _)) (zD (xP T.mq T.my (zA zH zB) rfl)) zV)
     (zC (zY (i := 2) o6.nd rfl (by first | exact Or.inl rfl | exact Or.inr rfl) (yC (CX := aL) (k := kt) ‹hr› zL (pv 0)))
     (zC (yD (zP yG (pv 2) zH (zO _)) (zD (zM (xG T.Zy qz ‹hr› rfl T.acD T.vq .nil zL (zA (zN fU ‹hr› rfl T.m7 T.m6 T.m5 .nil BK (zA (pv 0) (zA (zI pF (pv 1) zF) zB))) zB)))) zV)
     (zC (yD (zP yG (pv 2) zH (zO _)) (zD (zM (zN wy ‹hr› rfl T.FN T.FJ T.Fz .nil BK (zA (pv 0) (zA (zI pF (pv 1) zF) zB))))) zV)
     (zD (zM (zN wz ‹hr› rfl T.Fy T.Fx T.Fw .nil BK (zA (pv 2) (zA (yC (CX := aL) (k := kt) ‹hr› zL (pv 0)) (zA (yC (CX := aL) (k := kt) ‹hr› zL (pv 0)) zB)))))))))), ?_⟩
   subst hkt
   have em : ((n + 1 : Nat) : Int) - 1 = (n : Nat) := by omega
   refine ⟨_, rfl, rfl, _, rfl, neN (b := 0) (by omega) ?_⟩
   obtain ⟨a1, C1, MP, MT, M, ey, h1, hl1, hdv, hsp⟩ := Dk (P := P) (w := w) (base := base) T hW
   refine ⟨_, rfl, a1, C1, MP, MT, M, ey, h1, hl1, ?_⟩
   dsimp only [tW]
   rw [hdv, hsp]
   obtain ⟨g1, g2⟩ := hst.tk
   refine ⟨lw, dx, qy, k0, ws, rfl, hW, hl, fun H1 s1 W1 => ?_⟩
   rw [← g1]
   have l1 := sbL s1 hW hl
   have sS : ∀ {a : Wd} {b : Str}, S a = b ↔ a = cd b := fun {a b} => ⟨fun e => by rw [← e, cU], fun e => by rw [e, d8]⟩
   by_cases c1 : (tk st).1 = S5
   · have eR : wU (n + 1) st = (wU n (tk st).2).map fun p => (.neg p.1, p.2) := if_pos c1
     refine ⟨_, rfl, rfl, _, rfl, eqS (sS.mpr c1) ?_⟩
     refine ⟨_, rfl, _, rfl, _, _, rfl, rfl, lw, dx, qy, k0 + 1, ws, (tk st).2, (by show [V.ref lw, V.int (((n + 1 : Nat) : Int) - 1)] = _; rw [em]), W1, l1, hf, g2, fun t1 st1 e1 u1 H2 k2 s2 W2 r2 y2 => ?_, fun e1 H2 s2 => qn (by rw [eR, e1]; rfl) H2 (S6 s1 s2)⟩
     intro x Hw nx nd ne
     refine ⟨x, Hw, _, rfl, zE, rfl, ?_⟩
     rw [yM]
     have sm := yQ nx nd (.ins A.ql Hw [("test", u1)])
     exact qs (.neg t1) st1 (by rw [eR, e1]; rfl) _ _ _ (S6 (S6 s1 s2) (sbO sm)) (sm _ _ W2) r2 ⟨x, Hw, u1, rfl, zE, y2.same sm⟩
   refine ⟨_, rfl, rfl, _, rfl, neS (fun e => c1 (sS.mp e)) ?_⟩
   by_cases c2 : (tk st).1 = cLp
   · have eR : wU (n + 1) st = (wU n (tk st).2).bind fun p => (wU n (tk p.2).2).bind fun q => V7 p q := (if_neg c1).trans (if_pos c2)
     refine ⟨_, rfl, rfl, _, rfl, eqS (sS.mpr c2) ?_⟩
     exact ⟨_, rfl, _, rfl, _, _, rfl, rfl, lw, dx, qy, k0 + 1, ws, (tk st).2, (by show [V.ref lw, V.int (((n + 1 : Nat) : Int) - 1)] = _; rw [em]), W1, l1, hf, g2, fun t1 st1 e1 u1 H2 k2 s2 W2 r2 y2 => qs t1 st1 (eR.trans e1) u1 H2 k2 (S6 s1 s2) W2 r2 y2, fun e1 H2 s2 => qn (eR.trans e1) H2 (S6 s1 s2)⟩
   refine ⟨_, rfl, rfl, _, rfl, neS (fun e => c2 (sS.mp e)) ?_⟩
   have eR : wU (n + 1) st = (XH (tk st).1 (tk (tk st).2).1 (tk (tk (tk st).2).2).1).map fun t => (t, (tk (tk (tk st).2).2).2) := (if_neg c1).trans (if_neg c2)
   obtain ⟨a2, C2, V6, Z7, M2, ey2, h2, hl2, KY, KZ⟩ := Dk (P := P) (w := w) (base := base) T W1
   refine ⟨_, rfl, _, rfl, a2, C2, V6, Z7, M2, ey2, h2, hl2, ?_⟩
   dsimp only [tW]
   rw [KY, KZ]
   obtain ⟨g3, g4⟩ := g2.tk
   refine ⟨lw, dx, qy, _, ws, rfl, W1, l1, fun H2 s2 W2 => ?_⟩
   rw [← g3]
   have l2 := sbL s2 W1 l1
   obtain ⟨a3, C3, dx3, fs3, M3, ey3, h3, hl3, auU, auV⟩ := Dk (P := P) (w := w) (base := base) T W2
   refine ⟨_, rfl, a3, C3, dx3, fs3, M3, ey3, h3, hl3, ?_⟩
   dsimp only [tW]
   rw [auU, auV]
   obtain ⟨g5, g6⟩ := g4.tk
   refine ⟨lw, dx, qy, _, ws, rfl, W2, l2, fun H3 s3 W3 => ?_⟩
   rw [← g5]
   have f1 := XJ.fine hf k0
   have f2 := XJ.fine hf (k0 + 1)
   have f3 := XJ.fine hf (k0 + 1 + 1)
   rw [← g1] at f1
   rw [← g3] at f2
   rw [← g5] at f3
   exact ⟨_, _, _, rfl, f1, f2, f3, fun t e u H4 s4 y4 => qs t _ (by rw [eR, e]; rfl) u H4 _ (S6 (S6 (S6 s1 s2) s3) (sbO s4)) (s4 _ _ W3) g6 y4, fun e H4 s4 => qn (by rw [eR, e]; rfl) H4 (S6 (S6 (S6 s1 s2) s3) (sbO s4))⟩
theorem K4 (T : Txt K mg A) : aB P w K mg base (wX P w) 25 A.mH A.rE ["text"] (auT A K) := by
 have fU := Dm (P := P) (w := w) (base := base) T 8
 have wA := Vb (P := P) (w := w) (base := base) T
 have G_A := K3 (P := P) (w := w) (base := base) T 9
 refine T.Ly.okX qt (fun vs H Q E h => ?_) (fun cdv A0 outer s H vs Q E hr h => ?_)
 · obtain ⟨x, rfl, _⟩ := h
   rfl
 obtain ⟨x, rfl, hx⟩ := h
 obtain ⟨kt, hkt⟩ : ∃ kt : Nat, kt = 1 := ⟨1, rfl⟩
 obtain ⟨ka, hka⟩ : ∃ ka : Nat, ka = 10 := ⟨10, rfl⟩
 refine ⟨_, (zC (yD (lC (yP (zW xI (by rfl) T.b7 Bt.isinstance (zA (pv 0) (zA (qF (v := .ty "str") rfl T.m8 Bt.str rfl) zB))))) (zD (xP T.mq T.my (zA zH zB) rfl)) zV)
     (zC (zY (i := 1) qt.nd rfl (by first | exact Or.inl rfl | exact Or.inr rfl) (xG T.PQ wA ‹hr› rfl T.RP T.vA .nil zL (zA (xJ PySem.F.plainAttrs_str PySem.F.slot_str_split PySem.F.type_str_split IW (pv 0) (zA zH zB)) zB)))
     (zC (zY (i := 2) qt.nd rfl (by first | exact Or.inl rfl | exact Or.inr rfl) (zN fU ‹hr› rfl T.m7 T.m6 T.m5 .nil BK (zA (pv 1) (zA (xO rfl T.W9) zB))))
     (zC (yD (PW.pt (oh (lC (yP (yC (CX := aL) (k := kt) ‹hr› zL (pv 1)))) (pB (zP HY (zW zZ (by rfl) T.gJ PySem.boot_len (zA (yC (CX := aL) (k := ka) ‹hr› zL (pv 2)) zB)) (xO rfl T.vJ) (zO _))))) (zD (xP T.mq T.my (zA (Iv (pv 0)) zB) rfl)) zV)
     (zD (zM (pv 2))))))), ?_⟩
 subst hkt
 subst hka
 rcases hx with ⟨z, rfl, hz, hf, qs, qn⟩ | ⟨t, ty, kt, q⟩
 · refine ⟨_, rfl, _, _, _, _, rfl, rfl, .old (.str _), T.mj, _, rfl, bh ?_⟩
   refine ⟨_, rfl, rfl, z, _, rfl, rfl, (by symm), hz.len, fun l hl => ?_⟩
   have ew : (Txt.split z ‹" "›).map V.str = wv (aH (cd z)) := by
     rw [show ‹" "› = S [32] by symm, Rj, List.map_map]; rfl
   rw [ew] at *
   generalize hws : aH (cd z) = ws at *
   have sl := zS hl (.lst (wv ws))
   intro x dx nx nd ne
   refine ⟨x, dx, _, rfl, zE, rfl, ?_⟩
   rw [yM]
   have sm := yQ nx nd (.ins A.aA dx [("words", .ref l), ("taken", .int 0)])
   have W0 : wu A (upd (upd (upd H l (.lst (wv ws))) dx (.own x)) x (.ins A.aA dx [("words", .ref l), ("taken", .int 0)])) x dx l 0 := zE
   have l0 := sm _ _ (zE (H := H) (a := l) (o := .lst (wv ws)))
   have xH : H x = none := by
     cases e : H x with
     | none => rfl
     | some o => rw [sl x o e] at nx; cases nx
   have back : ∀ {H'}, jR x (upd (upd (upd H l (.lst (wv ws))) dx (.own x)) x (.ins A.aA dx [("words", .ref l), ("taken", .int 0)])) H' → az H H' := fun {H'} s2 b o hb => s2 _ _ (zR hb xH) (sm _ _ (sl _ _ hb))
   refine ⟨_, rfl, x, dx, l, 0, ws, some ws, rfl, W0, l0, hf, .inl ⟨rfl, Nat.zero_le _⟩, fun t st' e u H2 k' s2 W2 r2 y2 => ?_, fun e H2 s2 => qn (by unfold rdS; rw [e]) H2 (back s2)⟩
   have l2 := sbL s2 W0 l0
   have hdp := V8 e
   dsimp only [jg]
   refine qW (fun σ' H' => az H H' ∧ (∃ v, σ' = [some (.str z), v, some u]) ∧ rdS ws = some t ∧ nD A H' t u) ?kk ?mm
   case kk =>
     rintro σ' H' ⟨s3, ⟨v, rfl⟩, e3, y3⟩
     exact ⟨_, rfl, qs t e3 u H' s3 y3⟩
   case mm =>
     intro key
     obtain ⟨a1, C1, MP, MT, M, ey, h1, hl1, hdv, hsp⟩ := ab0 (P := P) (w := w) (base := base) T W2
     refine ⟨_, rfl, a1, C1, MP, MT, M, ey, h1, hl1, ?_⟩
     dsimp only [tW]
     rw [hdv, hsp]
     refine ⟨x, dx, l, k', ws, rfl, W2, l2, _, rfl, ?_⟩
     have fin : rdS ws = none → ∀ H', az H H' → E (.ref A.gY) none H' := qn
     by_cases hk : k' = ws.length
     · have es : st' = some [] := by
         rcases r2 with ⟨e1, _⟩ | ⟨_, e1⟩
         · rw [e1, hk, List.drop_length]
         · omega
       subst es
       rw [decide_eq_true hk]
       refine bh ?_
       obtain ⟨a2, C2, V6, Z7, M2, ey2, h2, hl2, KY, KZ⟩ := wk T G_A y2
       refine ⟨_, rfl, a2, C2, V6, Z7, M2, ey2, h2, hl2, ?_⟩
       dsimp only [tW]
       rw [KY]
       have aEX : t.size ≤ 256 := hdp.2
       refine KZ _ _ ⟨by omega, by omega, fun la ys H3 s3 e3 p3 => ?_⟩
       have eys : ys.length = t.size := by rw [xA p3, uE]
       refine ⟨la, _, rfl, .inl (bG.of e3), _, _, rfl, rfl, _, rfl, ?_⟩
       have sB : az H H3 := (back s2).trans s3
       by_cases h16 : t.size ≤ 16
       · rw [show decide ((16 : Int) < ((ys.length : Nat) : Int)) = false from decide_eq_false (by omega)]
         exact bh (key _ _ ⟨sB, ⟨_, rfl⟩, by unfold rdS; rw [e]; exact if_pos h16, y2.same s3⟩)
       · rw [show decide ((16 : Int) < ((ys.length : Nat) : Int)) = true from decide_eq_true (by omega)]
         refine bJ ⟨_, rfl, z, rfl, hz.len, hz.Oz, fun m => ?_⟩
         exact ⟨(by show 1 ≤ sizeLine; decide), fin (by unfold rdS; rw [e]; exact if_neg h16) _ sB⟩
     · rw [decide_eq_false hk]
       refine bJ (bJ ⟨_, rfl, z, rfl, hz.len, hz.Oz, fun m => ?_⟩)
       refine ⟨(by show 1 ≤ sizeLine; decide), fin ?_ _ (back s2)⟩
       unfold rdS
       rw [e]
       rcases r2 with ⟨e1, e2⟩ | ⟨e1, _⟩
       · rw [e1]
         have : ws.drop k' ≠ [] := fun z => by
           have := congrArg List.length z
           rw [List.length_drop] at this
           have h0 : ([] : List Wd).length = 0 := rfl
           omega
         cases hd : ws.drop k' with
         | nil => exact absurd hd this
         | cons a r => rfl
       · rw [e1]
 · refine ⟨_, rfl, _, _, _, _, rfl, rfl, ty, kt, _, rfl, bJ ?_⟩
   exact ⟨(by show 1 ≤ sizeLine; decide), q _ (az.refl _)⟩
end
theorem aaa {z : Str} (h : nameB z = true) : z ≠ "not" ∧ z ≠ "(" := by
 refine ⟨fun e => ?_, fun e => ?_⟩
 · rw [e] at h; exact absurd h (by symm)
 · rw [e] at h; exact absurd h (by symm)
theorem V9 {n : Str} (h : nameB n = true) : cd n ≠ S5 ∧ cd n ≠ cLp := ⟨fun e => (aaa h).1 (yL e), fun e => (aaa h).2 (yL e)⟩
theorem Wa {d : Nat} {x y z : Wd} {post : List Wd} (h1 : x ≠ S5) (h2 : x ≠ cLp) : wU (d + 1) (some (x :: y :: z :: post)) = (XH x y z).map fun t => (t, some post) := (if_neg h1).trans (if_neg h2)
theorem ad3 {n w : Str} (h : nameB n = true) (k : nameB w = true) : XH (cd n) cIs (cd w) = some (.is n (.str w)) := by
 unfold XH
 rw [if_pos ⟨by rw [d8]; exact h, rfl, by rw [d8]; exact k⟩, d8, d8]
theorem ad4 {h : Str} (hh : h = "<" ∨ h = "=" ∨ h = ">") : cd h ≠ cIs := by rcases hh with rfl | rfl | rfl <;> decide +kernel
theorem ab1 {n h : Str} {m : Int} (hn : nameB n = true) (hh : h = "<" ∨ h = "=" ∨ h = ">") (hm : m.natAbs < 10 ^ 60) : XH (cd n) (cd h) (bB m) = some (.cmp n h m) := by
 unfold XH
 rw [if_neg (fun e => ad4 hh e.2.1), Rg hm]
 show (if _ then _ else _) = _
 rw [if_pos ⟨by rw [d8]; exact hn, by rw [d8]; exact hh⟩, d8, d8]
theorem ahn {d : Nat} {ws : List Wd} : wU (d + 1) (some (cLp :: ws)) = (wU d (some ws)).bind fun p => (wU d (tk p.2).2).bind fun q => V7 p q := (if_neg (show cLp ≠ S5 by symm)).trans (if_pos rfl)
theorem ad5 {d : Nat} {ws : List Wd} : wU (d + 1) (some (S5 :: ws)) = (wU d (some ws)).map fun p => (.neg p.1, p.2) := if_pos rfl
theorem aho (o : Bool) (a b : List Wd) (post : List Wd) : (cLp :: (a ++ (cd (hw o) :: (b ++ [cRp])))) ++ post = cLp :: (a ++ (cd (hw o) :: (b ++ (cRp :: post)))) := by simp [List.append_assoc]
theorem ad6 (o : Bool) (s t : Tr) (r post : List Wd) : V7 (s, some (cd (hw o) :: r)) (t, some (cRp :: post)) = some (.two o s t, some post) := by
 unfold V7
 cases o with
 | false => exact if_pos ⟨rfl, rfl⟩
 | true => rw [if_neg (fun e => absurd (show cd (hw true) = Z8 from e.2) (by symm))]; exact if_pos ⟨rfl, rfl⟩
theorem HJ {zs : List Str} : ∀ {t : Tr} {d : Nat} {post : List Wd}, t.Ok zs → t.depth ≤ d → wU d (some (wL t ++ post)) = some (t, some post)
 | .is n v, d, post, h, hd => by
   obtain ⟨h1, w, rfl, h2⟩ := h
   obtain ⟨d, rfl⟩ : ∃ e, d = e + 1 := ⟨d - 1, by have : (1 : Nat) ≤ d := hd; omega⟩
   show wU (d + 1) (some (cd n :: cIs :: cd w :: post)) = _
   rw [Wa (V9 h1).1 (V9 h1).2, ad3 h1 h2]; rfl
 | .cmp n x m, d, post, h, hd => by
   obtain ⟨h1, h2, h3⟩ := h
   obtain ⟨d, rfl⟩ : ∃ e, d = e + 1 := ⟨d - 1, by have : (1 : Nat) ≤ d := hd; omega⟩
   show wU (d + 1) (some (cd n :: cd x :: bB m :: post)) = _
   rw [Wa (V9 h1).1 (V9 h1).2, ab1 h1 h2 h3]; rfl
 | .neg t, d, post, h, hd => by
   have hd' : t.depth + 1 ≤ d := hd
   obtain ⟨d, rfl⟩ : ∃ e, d = e + 1 := ⟨d - 1, by omega⟩
   show wU (d + 1) (some (S5 :: (wL t ++ post))) = _
   rw [ad5, HJ (t := t) h (by omega)]; rfl
 | .two o s t, d, post, h, hd => by
   have hd' : 1 + max s.depth t.depth ≤ d := hd
   obtain ⟨d, rfl⟩ : ∃ e, d = e + 1 := ⟨d - 1, by omega⟩
   show wU (d + 1) (some ((cLp :: (wL s ++ (cd (hw o) :: (wL t ++ [cRp])))) ++ post)) = _
   rw [aho, ahn, HJ h.1 (by omega)]
   show (wU d (some (wL t ++ (cRp :: post)))).bind _ = _
   rw [HJ h.2 (by omega)]
   exact ad6 o s t _ post
structure BW (w : Wd) : Prop where
 n1 : w ≠ S5
 n2 : w ≠ cLp
 n3 : w ≠ cRp
 n4 : w ≠ cIs
 n5 : nameB (S w) = false
 n6 : gK w 60 = none
 n7 : ¬ (S w = "<" ∨ S w = "=" ∨ S w = ">")
abbrev w' (z : String) : Wd := cd (Str.ofString z)
def FW (ws : List Wd) : Prop := ∀ l ∈ ws, bA 1000 (S l) ∧ 32 ∉ l
def FL (n : Nat) (l : List Nat) : Prop := l.length ≤ n ∧ ∀ c ∈ l, c < 1000
theorem FL.fine {n : Nat} {l : List Nat} (h : FL n l) : bA n (S l) := ⟨by rw [zU]; exact h.1, fun c hc => by rw [cU] at hc; exact h.2 c hc⟩
theorem N8 : ∀ {ws : List Wd}, (∀ l ∈ ws, ∀ c ∈ l, c < 1000) → ∀ c ∈ aF [32] ws, c < 1000
 | [], _, c, hc => by cases hc
 | [x], h, c, hc => h x (List.mem_singleton.mpr rfl) c hc
 | x :: y :: r, h, c, hc => by
   rw [xK (by simp)] at hc
   rcases List.mem_append.mp hc with e | e
   · rcases List.mem_append.mp e with e | e
     · exact h x List.mem_cons_self c e
     · rw [List.mem_singleton.mp e]; decide
   · exact N8 (ws := y :: r) (fun l hl => h l (List.mem_cons_of_mem _ hl)) c e
theorem FW.fine {ws : List Wd} (h : FW ws) {n : Nat} (hl : (aF [32] ws).length ≤ n) : bA n (S (aF [32] ws)) := by
 refine FL.fine ⟨hl, N8 fun l hl' c hc => ?_⟩
 have := (h l hl').1.Oz c (by rw [cU]; exact hc)
 exact this
theorem FW.split {ws : List Wd} (h : FW ws) (hn : ws ≠ []) : aH (cd (S (aF [32] ws))) = ws := by
 rw [cU]; exact o9 hn fun p hp => (h p hp).2
theorem FW.app {a b : List Wd} (h : FW a) (k : FW b) : FW (a ++ b) := fun l hl => by
 rcases List.mem_append.mp hl with e | e
 · exact h l e
 · exact k l e
theorem FW.cons {a : Wd} {b : List Wd} (h : bA 1000 (S a) ∧ 32 ∉ a) (k : FW b) : FW (a :: b) := fun l hl => by
 rcases List.mem_cons.mp hl with e | e
 · rw [e]; exact h
 · exact k l e
theorem FW.nil : FW [] := fun l hl => by cases hl
theorem Wb {z : Str} (h1 : z.length ≤ 1000) (h2 : ∀ c ∈ cd z, c < 1000 ∧ c ≠ 32) : bA 1000 (S (cd z)) ∧ 32 ∉ cd z := ⟨by rw [d8]; exact ⟨h1, fun c hc => (h2 c hc).1⟩, fun e => (h2 32 e).2 rfl⟩
theorem Qn {z : Str} (h : nameB z = true) : bA 1000 (S (cd z)) ∧ 32 ∉ cd z := Wb (Nat.le_trans (yU h).1 (by decide)) fun c hc => by have := (bf h).2.2 c hc; omega
theorem aab {m : Int} (h : m.natAbs < 10 ^ 60) : bA 1000 (S (bB m)) ∧ 32 ∉ bB m := ⟨⟨by rw [zU]; have := nC h; omega, fun c hc => by rw [cU] at hc; rcases pJ hc with z | z <;> omega⟩, fun e => by rcases pJ e with z | z <;> omega⟩
theorem ad7 {h : Str} (hh : h = "<" ∨ h = "=" ∨ h = ">") : bA 1000 (S (cd h)) ∧ 32 ∉ cd h := by
 rcases hh with rfl | rfl | rfl <;> exact Wb (by symm) (by symm)
theorem ahp (o : Bool) : bA 1000 (S (cd (hw o))) ∧ 32 ∉ cd (hw o) := by cases o <;> exact Wb (by symm) (by symm)
theorem ab2 (z : String) (h : (Str.ofString z).length ≤ 1000 ∧ ∀ c ∈ cd (Str.ofString z), c < 1000 ∧ c ≠ 32 := by symm) : bA 1000 (S (w' z)) ∧ 32 ∉ w' z := Wb h.1 h.2
theorem Wc {zs : List Str} : ∀ {t : Tr}, t.Ok zs → FW (wL t)
 | .is n v, h => by
   obtain ⟨h1, u, rfl, h2⟩ := h
   exact FW.cons (Qn h1) (FW.cons (ab2 "is") (FW.cons (Qn h2) FW.nil))
 | .cmp n x m, h => FW.cons (Qn h.1) (FW.cons (ad7 h.2.1) (FW.cons (aab h.2.2) FW.nil))
 | .neg t, h => FW.cons (ab2 "not") (Wc (t := t) h)
 | .two o s t, h => FW.cons (ab2 "(") ((Wc h.1).app (FW.cons (ahp o) ((Wc h.2).app (FW.cons (ab2 ")") FW.nil))))
theorem bnd {t : Tr} (h1 : t.depth ≤ 8) (h2 : t.size ≤ 16) : t.size * t.depth ≤ 1000 := Nat.le_trans (Nat.mul_le_mul h2 h1) (by decide)
theorem aac {zs : List Str} {t : Tr} (h : t.Ok zs) (h1 : t.depth ≤ 8) (h2 : t.size ≤ 16) : rdS (wL t) = some t := by
 have := HJ (post := []) h h1
 rw [List.append_nil] at this
 unfold rdS
 rw [this]
 exact if_pos h2
def auX : Sp := fun vs H Q _ => ∃ n : Int, vs = [.int n] ∧ n.natAbs < 10 ^ 60 ∧ Q (.str (S (bZ n))) H
def QC (l : List Nat) : Str := if S l ∈ KW then S l ++ ‹"x"› else S l
def Lt (n : Nat) (l : List Nat) : Prop := l.length ≤ n ∧ 1 ≤ l.length ∧ ∀ c ∈ l, 97 ≤ c ∧ c ≤ 122
def ahq : Sp := fun vs H Q _ => ∃ l : List Nat, vs = [.str (S l)] ∧ Lt 12 l ∧ ∀ H', az H H' → Q (.str (QC l)) H'
def auY : Sp := fun vs H Q _ => ∃ c : Int, vs = [.int c] ∧ ∀ (ws : List Str) H', 2 ≤ ws.length → ws.length ≤ 6 → ws.Nodup → (∀ z ∈ ws, nameB z = true) → az H H' → Q (.str (S (aF [32] (ws.map cd)))) H'
def auZ : Sp := fun vs H Q _ => ∃ c : Int, vs = [.int c] ∧ ∀ ku H', uO ku → az H H' → Q (.str (S (oF ku))) H'
theorem S7 {l : List Nat} (h : Lt 12 l) : nameB (QC l) = true := by
 unfold QC
 by_cases c : S l ∈ KW
 · rw [if_pos c]; exact ahf _ c
 · rw [if_neg c]; exact V3 h c
theorem ab3 {l m : List Nat} (h : l.length = m.length) (e : QC l = QC m) : l = m := by
 unfold QC at e
 by_cases c : S l ∈ KW <;> by_cases d : S m ∈ KW
 · rw [if_pos c, if_pos d] at e
   have := congrArg cd e
   rw [yA, yA] at this
   exact List.append_cancel_right this
 · rw [if_pos c, if_neg d] at e
   have := congrArg Str.length e
   rw [zQ, zU, zU, show ‹"x"›.length = 1 by symm] at this
   omega
 · rw [if_neg c, if_pos d] at e
   have := congrArg Str.length e
   rw [zQ, zU, zU, show ‹"x"›.length = 1 by symm] at this
   omega
 · rw [if_neg c, if_neg d] at e
   exact Yt e
theorem aad {L : List Nat} {f : Nat → List Nat} (h : L.Nodup) (hf : ∀ a b, (f a).length = (f b).length) (hi : ∀ a b, f a = f b → a = b) : (L.map fun c => QC (f c)).Nodup :=
 List.pairwise_map.mpr (h.imp fun n e => n (hi _ _ (ab3 (hf _ _) e)))
def LL (L : List Nat) : Prop := L.Nodup ∧ 2 ≤ L.length ∧ L.length ≤ 6 ∧ ∀ c ∈ L, 97 ≤ c ∧ c ≤ 122
theorem au0 (k : Int) (h0 : 0 ≤ k) (h1 : k < 5) : LL (pG (cd ‹"fedcba"›) (some k) none) := by
 unfold LL
 rcases (by omega : k = 0 ∨ k = 1 ∨ k = 2 ∨ k = 3 ∨ k = 4) with rfl | rfl | rfl | rfl | rfl <;> decide +kernel
theorem au1 (k : Int) (h0 : 0 ≤ k) (h1 : k < 5) : LL (pG (cd ‹"abcdef"›) none (some (2 + k))) := by
 unfold LL
 rcases (by omega : k = 0 ∨ k = 1 ∨ k = 2 ∨ k = 3 ∨ k = 4) with rfl | rfl | rfl | rfl | rfl <;> decide +kernel
theorem ahr {l : List Nat} (h : Lt 12 l) : Lt 11 (pG l none (some 11)) := by
 have e : pG l none (some 11) = l.take (min 11 l.length) := by
   unfold pG
   have e1 : HT.uQ l.length 0 none = 0 := rfl
   have e2 : HT.uQ l.length l.length (some 11) = min 11 l.length := by
     show (if (11 : Int) < 0 then ((11 : Int) + l.length).toNat else min (11 : Int).toNat l.length) = _
     rw [if_neg (by decide)]; rfl
   rw [e1, e2, List.drop_zero, Nat.sub_zero]
 have h1 := h.2.1
 rw [e]
 exact ⟨by rw [List.length_take]; omega, by rw [List.length_take]; omega, fun c hc => h.2.2 c (List.mem_of_mem_take hc)⟩
theorem S8 {ws : List Str} (h : ∀ z ∈ ws, nameB z = true) (h6 : ws.length ≤ 6) : (ws.map (·.length)).sum + ws.length * ‹" "›.length ≤ 16777216 := by
 have hs := Ku (n := 12) (l := ws) fun z hz => (yU (h z hz)).1
 rw [show ‹" "›.length = 1 by symm]; omega
theorem Oa {ws : List Str} (h : ∀ z ∈ ws, nameB z = true) (h6 : ws.length ≤ 6) : (aF [32] (ws.map cd)).length ≤ 100 := by
 have hs := Ku (n := 12) (l := ws) fun z hz => (yU (h z hz)).1
 have hj := dI.pA [32] (ws.map cd)
 have e1 : ((ws.map cd).map List.length).sum = (ws.map (·.length)).sum := by
   rw [List.map_map]; exact congrArg List.sum (List.map_congr_left fun z _ => (yE z).symm)
 rw [e1, List.length_map, show [32].length = 1 from rfl] at hj
 omega
theorem Ob {L : List Nat} {f : Nat → Str} {i c : Nat} (h : L[i]? = some c) : ((L.take i).map f).map V.str ++ [V.str (f c)] = ((L.take (i + 1)).map f).map V.str := by
 rw [List.take_succ, h, List.map_append, List.map_append]; rfl
section
variable {P : Program} {w : World} {K : W.Frag} {mg : Str → Option Value} {base : Heap} {A : cj}
theorem Qo (T : Txt K mg A) : aB P w K mg base aL 1 A.qP A.vg ["_law_number_here"] auX := by
 refine T.RL.ok Di (fun vs H Q E h => ?_) (fun cdv A0 outer s H vs Q E hr h => ?_)
 · obtain ⟨n, rfl, _⟩ := h
   rfl
 obtain ⟨n, rfl, hn, q⟩ := h
 refine ⟨_, (zC (zY (i := 1) Di.nd rfl (by first | exact Or.inl rfl | exact Or.inr rfl) (xJ PySem.F.plainAttrs_str PySem.F.slot_str_zfill PySem.F.type_str_zfill Q5 (yR yW (by rfl) T.m8 Bt.str (zA (zW QL (by rfl) T.acw Bt.abs (zA (pv 0) zB)) zB)) (zA zF zB)))
     (zC (yD (zP HX (pv 0) zF (zO _)) (zD (zM (zI zG (zI zG (zI zG zH (xE q9 (pv 1) xR (xM (Bs tV zF)))) zH) (xE q9 (pv 1) (xM (Bs tV zF)) xR)))) zV)
     (zD (zM (zI zG (zI zG (xE q9 (pv 1) xR (xM (Bs tV zF))) zH) (xE q9 (pv 1) (xM (Bs tV zF)) xR)))))), ?_⟩
 have hl := sV (dig n.natAbs)
 have hd := wK (k := 60) (by decide) hn
 have ef : (eF n).length = (t7 (dig n.natAbs)).length := rfl
 refine ⟨_, rfl, n, rfl, ?_⟩
 rw [ZL]
 refine ⟨_, rfl, VB (Nat.lt_trans (show (((n.natAbs : Nat) : Int)).natAbs < 10 ^ 60 by omega) (by symm)), ?_⟩
 rw [VP]
 refine ⟨rfl, _, _, rfl, rfl, (by symm), ?_⟩
 rw [NT]
 have sz : (S (eF n)).length ≤ sizeLine := zJ (m := 1000) (by rw [zU]; omega)
 unfold bZ sgn at q
 refine ⟨_, rfl, _, _, rfl, rfl, _, rfl, dD (fun c => ?_) (fun c => ?_)⟩
 · rw [if_pos (of_decide_eq_true c)] at q
   refine ⟨_, rfl, _, rfl, _, rfl, _, rfl, sz, ?_⟩
   rw [cU, UW (f := t7 (dig n.natAbs)) (by omega)]
   refine ⟨_, _, rfl, rfl, zJ (m := 1000) (by rw [zU, List.length_take]; show 1 + _ ≤ 1000; omega), _, _, rfl, rfl, zJ (m := 1000) (by rw [zQ, zU, List.length_take]; show 1 + _ + 1 ≤ 1000; omega), ?_⟩
   refine ⟨_, rfl, _, rfl, _, rfl, _, rfl, sz, ?_⟩
   rw [cU, U0 (f := t7 (dig n.natAbs)) (by omega), show ‹"."› = S [46] by symm, show ‹"-"› = S [45] by symm, xN, xN]
   refine ⟨_, _, rfl, rfl, zJ (m := 1000) (by rw [zU, zU, List.length_append, List.length_append, List.length_take, List.length_drop]; show 1 + _ + 1 + _ ≤ 1000; omega), ?_⟩
   rw [xN, List.append_assoc, List.append_assoc]
   exact q
 · rw [if_neg (fun z => c (decide_eq_true z))] at q
   refine ⟨_, rfl, _, rfl, _, rfl, _, rfl, sz, ?_⟩
   rw [cU, UW (f := t7 (dig n.natAbs)) (by omega)]
   refine ⟨_, _, rfl, rfl, zJ (m := 1000) (by rw [zU, List.length_take]; show _ + 1 ≤ 1000; omega), ?_⟩
   refine ⟨_, rfl, _, rfl, _, rfl, _, rfl, sz, ?_⟩
   rw [cU, U0 (f := t7 (dig n.natAbs)) (by omega), show ‹"."› = S [46] by symm, xN]
   refine ⟨_, _, rfl, rfl, zJ (m := 1000) (by rw [zU, zU, List.length_append, List.length_take, List.length_drop]; show _ + 1 + _ ≤ 1000; omega), ?_⟩
   rw [xN, List.append_assoc]
   exact q
theorem Vc (T : Txt K mg A) : aB P w K mg base aL 1 A.qg A.uf ["_law_word"] ahq := by
 refine T.JM.ok Ga (fun vs H Q E h => ?_) (fun cdv A0 outer s H vs Q E hr h => ?_)
 · obtain ⟨l, rfl, _⟩ := h
   rfl
 obtain ⟨L, rfl, h1, q⟩ := h
 refine ⟨_, (zC (yD (zP su (pv 0) (xF (zA zH (zA zH (zA zH (zA zH (zA zH (zA zH (zA zH (zA zH zB))))))))) (by rfl)) (zD (zM (zI zG (pv 0) zH))) zV)
     (zD (zM (pv 0)))), ?_⟩
 refine ⟨_, rfl, (by show 8 ≤ sizeLine; decide), fun p2 hp2 => ⟨p2, _, rfl, .inl (bG.of zE), rfl, rfl, _, rfl, ?_⟩⟩
 have q := q _ (zS hp2 (.lst (KW.map V.str)))
 show if (inV (.str (S L)) (KW.map V.str)) = true then _ else _
 rw [v5]
 unfold QC at q
 refine dD (fun c => ?_) (fun c => ?_)
 · have c' : S L ∈ KW := of_decide_eq_true c
   rw [if_pos c'] at q
   exact ⟨_, rfl, _, _, rfl, rfl, zJ (m := 100) (by have := Z4 _ c'; rw [show ‹"x"›.length = 1 by symm]; omega), q⟩
 · rw [if_neg (fun z => c (decide_eq_true z))] at q
   exact ⟨_, rfl, q⟩
theorem M5 (T : Txt K mg A) : aB P w K mg base aL 3 A.oX A.um ["_law_cell"] auY := by
 have ie := qX (P := P) (w := w) (base := base) T
 have bc := xS (P := P) (w := w) (base := base) T
 have uC := Vc (P := P) (w := w) (base := base) T
 refine T.Pq.ok zj (fun vs H Q E h => ?_) (fun cdv A0 outer s H vs Q E hr h => ?_)
 · obtain ⟨c, rfl, _⟩ := h
   rfl
 obtain ⟨c, rfl, q⟩ := h
 refine ⟨_, (zC (zY (i := 1) zj.nd rfl (by first | exact Or.inl rfl | exact Or.inr rfl) (xE q9 (zN ie ‹hr› rfl T.lZ T.lY T.lX .nil zL (zA (zN bc ‹hr› rfl T.cO T.cN T.cM .nil zL (zA (pv 0) (zA zF zB))) zB)) xR (xM zF)))
     (zC (yD (zP yG (zI yS (zI mD (pv 0) zF) zF) zF (zO _)) (zD (zM (xJ PySem.F.plainAttrs_str PySem.F.slot_str_join PySem.F.type_str_join By zH (zA (pH (yX (x := "_law_sign") (M := ["_law_cell", "_law_word"]) rfl (by rfl)) rfl (Dv (xE q9 zH (xM (zI yS (zI mD (pv 0) zF) zF)) xR)) (fun _ _ _ _ => (zN uC ‹hr› rfl T.Bb T.Ba T.Az .nil zL (zA (zI zG (pv 0) (pv 2)) zB)))) zB)))) zV)
     (zD (zM (xJ PySem.F.plainAttrs_str PySem.F.slot_str_join PySem.F.type_str_join By zH (zA (pH (yX (x := "_law_sign") (M := ["_law_cell", "_law_word"]) rfl (by rfl)) rfl (Dv (xE q9 zH xR (xM (zI tU zF (zI yS (zI mD (pv 0) zF) zF))))) (fun _ _ _ _ => (zN uC ‹hr› rfl T.Bb T.Ba T.Az .nil zL (zA (zI zG (pv 2) (pv 0)) zB)))) zB)))))), ?_⟩
 refine ⟨_, rfl, c, 3, rfl, by decide, by decide, fun r _ _ => ⟨r, rfl, fun z H1 hz s1 => ?_⟩⟩
 have lz := bf hz
 have lz' : Lt 12 (cd z) := ⟨by rw [← yE]; exact lz.1, by rw [← yE]; exact lz.2.1, lz.2.2⟩
 refine ⟨_, rfl, _, rfl, zJ (m := 100) (by have := lz.1; omega), ?_⟩
 have hW := ahr lz'
 generalize pG (cd z) none (some 11) = W at hW
 have m0 : 0 ≤ c / 5 % 5 := Int.emod_nonneg _ (by decide)
 have m1 : c / 5 % 5 < 5 := Int.emod_lt_of_pos _ (by decide)
 have hW1 : W.length ≤ 11 := hW.1
 have ahs : ∀ d : Nat, (S [d]).length = 1 := fun d => by rw [zU]; rfl
 refine ⟨_, rfl, _, _, rfl, rfl, ⟨by decide, by decide⟩, _, _, rfl, rfl, (by show (0 : Int) < 2; decide), rfl, _, rfl, dD (fun _ => ?_) (fun _ => ?_)⟩
 · refine ⟨rfl, _, rfl, _, _, rfl, rfl, ⟨by decide, by decide⟩, _, _, rfl, rfl, (by show (0 : Int) < 5; decide), _, rfl, _, rfl, (by symm), _, rfl, ?_⟩
   have hL := au0 _ m0 m1
   dsimp only
   generalize pG (cd ‹"fedcba"›) (some (c / 5 % 5)) none = L at hL
   have hn : ∀ d ∈ L, Lt 12 (d :: W) := fun d hd => ⟨by rw [List.length_cons]; omega, by rw [List.length_cons]; omega, fun x hx => by
     rcases List.mem_cons.mp hx with e | e
     · rw [e]; exact hL.2.2.2 d hd
     · exact hW.2.2 x e⟩
   refine sy (x := S L) (zJ (m := 6) (by rw [zU]; exact hL.2.2.1)) (fun i ys H' => az H1 H' ∧ ys = ((L.take i).map fun d => QC (d :: W)).map V.str) ⟨az.refl _, rfl⟩ (fun i d ys H' hd _ hw => ?_) (fun ys H' _ hw p hp => ?_)
   · obtain ⟨sH, rfl⟩ := hw
     have hd : L[i]? = some d := hd
     refine ⟨_, rfl, _, rfl, _, _, rfl, rfl, zJ (m := 100) (by rw [ahs, zU]; omega), ?_⟩
     rw [xN]
     exact ⟨d :: W, rfl, hn d (List.mem_of_getElem? hd), fun H2 s2 => ⟨sH.trans s2, Ob (f := fun d => QC (d :: W)) hd⟩⟩
   · obtain ⟨sH, rfl⟩ := hw
     rw [zU, List.take_length]
     have hw : ∀ z ∈ L.map (fun d => QC (d :: W)), nameB z = true := fun z hz => by
       obtain ⟨d, hd, rfl⟩ := List.mem_map.mp hz; exact S7 (hn d hd)
     have h6 : (L.map fun d => QC (d :: W)).length ≤ 6 := by rw [List.length_map]; exact hL.2.2.1
     refine ⟨_, p, L.map fun d => QC (d :: W), rfl, rfl, .inl (bG.of zE), S8 hw h6, ?_⟩
     rw [xV, show cd ‹" "› = [32] by symm]
     exact q _ _ (by rw [List.length_map]; exact hL.2.1) h6 (aad hL.1 (fun a b => rfl) (fun a b e => (List.cons.inj e).1)) hw (s1.trans (sH.trans (zS hp _)))
 · refine ⟨rfl, _, rfl, _, _, rfl, rfl, ⟨by decide, by decide⟩, _, _, rfl, rfl, (by show (0 : Int) < 5; decide), _, _, rfl, rfl, _, rfl, _, rfl, (by symm), _, rfl, ?_⟩
   have hL := au1 _ m0 m1
   dsimp only
   generalize pG (cd ‹"abcdef"›) none (some (2 + c / 5 % 5)) = L at hL
   have hn : ∀ d ∈ L, Lt 12 (W ++ [d]) := fun d hd => ⟨by rw [List.length_append]; show _ + 1 ≤ 12; omega, by rw [List.length_append]; show 1 ≤ _ + 1; omega, fun x hx => by
     rcases List.mem_append.mp hx with e | e
     · exact hW.2.2 x e
     · rw [List.mem_singleton.mp e]; exact hL.2.2.2 d hd⟩
   refine sy (x := S L) (zJ (m := 6) (by rw [zU]; exact hL.2.2.1)) (fun i ys H' => az H1 H' ∧ ys = ((L.take i).map fun d => QC (W ++ [d])).map V.str) ⟨az.refl _, rfl⟩ (fun i d ys H' hd _ hw => ?_) (fun ys H' _ hw p hp => ?_)
   · obtain ⟨sH, rfl⟩ := hw
     have hd : L[i]? = some d := hd
     refine ⟨_, rfl, _, rfl, _, _, rfl, rfl, zJ (m := 100) (by rw [ahs, zU]; omega), ?_⟩
     rw [xN]
     exact ⟨W ++ [d], rfl, hn d (List.mem_of_getElem? hd), fun H2 s2 => ⟨sH.trans s2, Ob (f := fun d => QC (W ++ [d])) hd⟩⟩
   · obtain ⟨sH, rfl⟩ := hw
     rw [zU, List.take_length]
     have hw : ∀ z ∈ L.map (fun d => QC (W ++ [d])), nameB z = true := fun z hz => by
       obtain ⟨d, hd, rfl⟩ := List.mem_map.mp hz; exact S7 (hn d hd)
     have h6 : (L.map fun d => QC (W ++ [d])).length ≤ 6 := by rw [List.length_map]; exact hL.2.2.1
     refine ⟨_, p, L.map fun d => QC (W ++ [d]), rfl, rfl, .inl (bG.of zE), S8 hw h6, ?_⟩
     rw [xV, show cd ‹" "› = [32] by symm]
     exact q _ _ (by rw [List.length_map]; exact hL.2.1) h6 (aad hL.1 (fun a b => by rw [List.length_append, List.length_append]; rfl) (fun a b e => (List.cons.inj (List.append_cancel_left e)).1)) hw (s1.trans (sH.trans (zS hp _)))
theorem S9 (T : Txt K mg A) : aB P w K mg base aL 4 A.uo A.Af ["_law_cell"] auZ := by
 have uF := zp (P := P) (w := w) (base := base) T
 have bc := xS (P := P) (w := w) (base := base) T
 have Gd := Qo (P := P) (w := w) (base := base) T
 have Qp := M5 (P := P) (w := w) (base := base) T
 refine T.Ul.ok qT (fun vs H Q E h => ?_) (fun cdv A0 outer s H vs Q E hr h => ?_)
 · obtain ⟨c, rfl, _⟩ := h
   rfl
 obtain ⟨c, rfl, q⟩ := h
 refine ⟨_, (zC (zY (i := 1) qT.nd rfl (by first | exact Or.inl rfl | exact Or.inr rfl) (zN uF ‹hr› rfl T.Cy T.Cw T.Cv .nil zL (zA (zN bc ‹hr› rfl T.cO T.cN T.cM .nil zL (zA (pv 0) (zA zF zB))) zB)))
     (zC (zY (i := 2) qT.nd rfl (by first | exact Or.inl rfl | exact Or.inr rfl) (zI tU (pv 1) (zI yS (zI Dp (zN bc ‹hr› rfl T.cO T.cN T.cM .nil zL (zA (pv 0) (zA zF zB))) zF) (zI tU (zI pF (zI Dp zF zF) (pv 1)) zF))))
     (zC (yD (zP yG (zI yS (zI mD (pv 0) zF) zF) zF (zO _)) (zD (zY (i := 2) qT.nd rfl (by first | exact Or.inl rfl | exact Or.inr rfl) (zI tU (pv 1) (zI yS (zI mD (pv 0) zF) zF)))) zV)
     (zC (yD (zP yG (zI yS (pv 0) zF) zF (zO _)) (zD (zM zH)) zV)
     (zC (yD (zP yG (zI yS (pv 0) zF) zF (zO _)) (zD (zM (zI zG (zI zG (zI zG zH (yR yW (by rfl) T.m8 Bt.str (zA (pv 1) zB))) zH) (yR yW (by rfl) T.m8 Bt.str (zA (pv 2) zB))))) zV)
     (zC (yD (zP yG (zI yS (pv 0) zF) zF (zO _)) (zD (zM (zI zG (zI zG (zI zG zH (zN Gd ‹hr› rfl T.FZ T.FT T.FQ .nil zL (zA (pv 1) zB))) zH) (zN Gd ‹hr› rfl T.FZ T.FT T.FQ .nil zL (zA (pv 2) zB))))) zV)
     (zC (yD (zP yG (zI yS (pv 0) zF) zF (zO _)) (zD (zM (zI zG zH (zN Qp ‹hr› rfl T.Px T.Pu T.Pr .nil zL (zA (pv 0) zB))))) zV)
     (zD (zM (zI zG zH (yR yW (by rfl) T.m8 Bt.str (zA (zI tU zF (zI yS (zI mD (pv 0) zF) zF)) zB)))))))))))), ?_⟩
 refine ⟨_, rfl, c, 1, rfl, by decide, by decide, fun r1 a0 a1 => ⟨_, rfl, by omega, fun lo l0 l1 => ?_⟩⟩
 have e59 : (10 : Int) ^ (59 : Int).toNat = 10 ^ 59 := rfl
 have b59 : (1000 : Int) < 10 ^ 59 := by symm
 refine ⟨_, rfl, _, rfl, c, 2, rfl, by decide, by decide, fun r2 b0 b1 => ?_⟩
 have hp : (0 : Int) < 10 ^ (59 : Int).toNat - lo + 1 := by rw [e59]; generalize (10 : Int) ^ 59 = y at *; omega
 refine ⟨_, _, rfl, rfl, ⟨by decide, by decide, by omega⟩, _, _, rfl, rfl, ⟨by decide, by decide, by decide⟩, _, rfl, _, _, rfl, rfl, _, _, rfl, rfl, _, _, rfl, rfl, hp, _, _, rfl, rfl, ?_⟩
 have h0 := Int.emod_nonneg (r2 ^ (7 : Int).toNat) (b := 10 ^ (59 : Int).toNat - lo + 1) (by omega)
 have h1 := Int.emod_lt_of_pos (r2 ^ (7 : Int).toNat) hp
 dsimp only [jg]
 refine qW (fun σ' H2 => H = H2 ∧ ∃ hi : Int, lo ≤ hi ∧ hi ≤ 10 ^ 59 ∧ σ' = [some (.int c), some (.int lo), some (.int hi)]) ?k1 ?e1
 case e1 =>
   intro key
   refine ⟨_, rfl, _, _, rfl, rfl, ⟨by decide, by decide⟩, _, _, rfl, rfl, (by show (0 : Int) < 3; decide), rfl, _, rfl, dD (fun _ => ?_) (fun _ => ?_)⟩
   · have x0 : 0 ≤ c / 15 % 2 := Int.emod_nonneg _ (by decide)
     have x1 : c / 15 % 2 < 2 := Int.emod_lt_of_pos _ (by decide)
     exact ⟨_, rfl, _, rfl, _, _, rfl, rfl, ⟨by decide, by decide⟩, _, _, rfl, rfl, (by show (0 : Int) < 2; decide), _, _, rfl, rfl, key _ _ ⟨rfl, _, by show lo ≤ lo + c / 15 % 2; omega, by show lo + c / 15 % 2 ≤ 10 ^ 59; omega, rfl⟩⟩
   · refine key _ _ ⟨rfl, _, ?_, ?_, rfl⟩
     · omega
     · rw [e59] at h0 h1 ⊢
       generalize r2 ^ (7 : Int).toNat % (10 ^ 59 - lo + 1) = x at *
       generalize (10 : Int) ^ 59 = y at *
       omega
 case k1 =>
 rintro σ' H2 ⟨rfl, hi, c1, c2, rfl⟩
 have Xd : lo.natAbs < 10 ^ 60 := n60 l0 (by omega)
 have nhi : hi.natAbs < 10 ^ 60 := n60 (by omega) c2
 have k6 : ‹"whole "›.length = 6 := by symm
 have k6' : ‹"money "›.length = 6 := by symm
 have k1' : ‹" "›.length = 1 := by symm
 refine ⟨_, rfl, _, _, rfl, rfl, (by show (0 : Int) < 5; decide), rfl, _, rfl, dD (fun _ => ?_) (fun _ => ?_)⟩
 · have q := q .yn _ trivial (az.refl _)
   rw [show oF .yn = cd ‹"yesno"› from rfl, d8] at q
   exact q
 refine ⟨_, rfl, _, _, rfl, rfl, (by show (0 : Int) < 5; decide), rfl, _, rfl, dD (fun _ => ?_) (fun _ => ?_)⟩
 · have q := q (.wh lo hi) _ ⟨c1, Xd, nhi⟩ (az.refl _)
   have ll := nC Xd
   have lh := nC nhi
   refine ⟨_, rfl, _, rfl, KQ Xd, ?_⟩
   rw [str_is]
   refine ⟨_, _, rfl, rfl, zJ (m := 1000) (by rw [zU]; omega), _, _, rfl, rfl, zJ (m := 1000) (by rw [zQ, zU]; omega), _, rfl, _, rfl, KQ nhi, ?_⟩
   rw [str_is]
   refine ⟨_, _, rfl, rfl, zJ (m := 1000) (by rw [zQ, zQ, zU, zU]; omega), ?_⟩
   have e : ‹"whole "› ++ S (bB lo) ++ ‹" "› ++ S (bB hi) = S (oF (.wh lo hi)) := yL (by
     rw [yA, yA, yA, show cd ‹" "› = [32] by symm]
     show cd ‹"whole "› ++ bB lo ++ [32] ++ bB hi = cd ‹"whole "› ++ (bB lo ++ [32] ++ bB hi)
     simp only [List.append_assoc])
   rw [e]; exact q
 refine ⟨_, rfl, _, _, rfl, rfl, (by show (0 : Int) < 5; decide), rfl, _, rfl, dD (fun _ => ?_) (fun _ => ?_)⟩
 · have q := q (.mo lo hi) _ ⟨c1, Xd, nhi⟩ (az.refl _)
   have ll : (bZ lo).length ≤ 65 := by have := (Jd Xd).len; rwa [zU] at this
   have lh : (bZ hi).length ≤ 65 := by have := (Jd nhi).len; rwa [zU] at this
   refine ⟨_, rfl, lo, rfl, Xd, ?_⟩
   refine ⟨_, _, rfl, rfl, zJ (m := 1000) (by rw [zU]; omega), _, _, rfl, rfl, zJ (m := 1000) (by rw [zQ, zU]; omega), _, rfl, hi, rfl, nhi, ?_⟩
   refine ⟨_, _, rfl, rfl, zJ (m := 1000) (by rw [zQ, zQ, zU, zU]; omega), ?_⟩
   have e : ‹"money "› ++ S (bZ lo) ++ ‹" "› ++ S (bZ hi) = S (oF (.mo lo hi)) := yL (by
     rw [yA, yA, yA, show cd ‹" "› = [32] by symm]
     show cd ‹"money "› ++ bZ lo ++ [32] ++ bZ hi = cd ‹"money "› ++ (bZ lo ++ [32] ++ bZ hi)
     simp only [List.append_assoc])
   rw [e]; exact q
 refine ⟨_, rfl, _, _, rfl, rfl, (by show (0 : Int) < 5; decide), rfl, _, rfl, dD (fun _ => ?_) (fun _ => ?_)⟩
 · refine ⟨_, rfl, c, rfl, fun ws H2 w2 w6 wn wv s2 => ?_⟩
   have lw := Oa wv w6
   refine ⟨_, _, rfl, rfl, zJ (m := 1000) (by rw [zU, show ‹"pick "›.length = 5 by symm]; omega), ?_⟩
   have e : ‹"pick "› ++ S (aF [32] (ws.map cd)) = S (oF (.pk ws)) := yL (by rw [yA]; rfl)
   rw [e]
   exact q (.pk ws) _ ⟨w2, w6, wn, wv⟩ s2
 · have x0 : 0 ≤ c / 5 % 6 := Int.emod_nonneg _ (by decide)
   have x1 : c / 5 % 6 < 6 := Int.emod_lt_of_pos _ (by decide)
   obtain ⟨m, hm⟩ : ∃ m : Nat, 1 + c / 5 % 6 = (m : Int) := ⟨(1 + c / 5 % 6).toNat, by omega⟩
   have p60 : (100 : Nat) < 10 ^ 60 := by symm
   have nm : ((m : Nat) : Int).natAbs < 10 ^ 60 := by omega
   have lm := nC nm
   refine ⟨_, rfl, _, _, rfl, rfl, ⟨by decide, by decide⟩, _, _, rfl, rfl, (by show (0 : Int) < 6; decide), _, _, rfl, rfl, _, rfl, KQ (by show (1 + c / 5 % 6).natAbs < 10 ^ 60; omega), ?_⟩
   dsimp only
   rw [hm, str_is]
   refine ⟨_, _, rfl, rfl, zJ (m := 1000) (by rw [zU, show ‹"names "›.length = 6 by symm]; omega), ?_⟩
   have e : ‹"names "› ++ S (bB (m : Int)) = S (oF (.nm m)) := yL (by rw [yA]; rfl)
   rw [e]
   exact q (.nm m) _ ⟨by omega, by omega⟩ (az.refl _)
end
def GT (t : Tr) : Prop := t.Ok [] ∧ t.depth ≤ 4 ∧ t.size ≤ 8
theorem GT.b {t : Tr} (h : GT t) : t.depth ≤ 8 ∧ t.size ≤ 16 ∧ t.size * t.depth ≤ 32 := by
 have h2 : t.size * t.depth ≤ 8 * 4 := Nat.mul_le_mul h.2.2 h.2.1
 have h3 := h.2.1
 have h4 := h.2.2
 exact ⟨by omega, by omega, by omega⟩
theorem Tc {ku : KU} (h : uO ku) : bA 890 (S (oF ku)) := by
 cases ku with
 | yn => rw [show oF .yn = cd ‹"yesno"› from rfl, d8]; exact ⟨by symm, by symm⟩
 | wh lo hi =>
   have f0 : bA 6 ‹"whole "› := ⟨by symm, by symm⟩
   have e : ‹"whole "› ++ S (bnL (.wh lo hi)) = S (oF (.wh lo hi)) := yL (by rw [yA]; rfl)
   rw [← e]; exact (f0.app (HF h.good (.inl ⟨lo, hi, rfl⟩))).mono (by decide)
 | mo lo hi =>
   have f0 : bA 6 ‹"money "› := ⟨by symm, by symm⟩
   have e : ‹"money "› ++ S (bnL (.mo lo hi)) = S (oF (.mo lo hi)) := yL (by rw [yA]; rfl)
   rw [← e]; exact (f0.app (HF h.good (.inr ⟨lo, hi, rfl⟩))).mono (by decide)
 | pk ws =>
   have e : ‹"pick "› ++ S (aF [32] (ws.map cd)) = S (oF (.pk ws)) := yL (by rw [yA]; rfl)
   rw [← e]
   have hl := Oa (ws := ws) h.2.2.2 h.2.1
   refine (bA.app (n := 5) (m := 150) ⟨by symm, by symm⟩ ⟨by rw [zU]; omega, fun c hc => ?_⟩).mono (by decide)
   rw [cU] at hc
   rcases mem_join hc with e | ⟨p, hp, hc⟩
   · omega
   · obtain ⟨z, hz, rfl⟩ := List.mem_map.mp hp
     have := (dI.bf (h.2.2.2 z hz)).2.2 c hc
     omega
 | nm m =>
   have f0 : bA 6 ‹"names "› := ⟨by symm, by symm⟩
   have h6 : m ≤ 6 := h.2
   have p60 : (7 : Nat) < 10 ^ 60 := by symm
   have e : ‹"names "› ++ S (bB (m : Int)) = S (oF (.nm m)) := yL (by rw [yA]; rfl)
   have fn := (aab (m := (m : Int)) (by omega)).1
   have ln := nC (m := (m : Int)) (by omega)
   rw [← e]
   exact (f0.app (m := 100) ⟨by rw [zU]; omega, fn.2⟩).mono (by decide)
abbrev Ak := Str × KU × Option Tr
def XM : Option Tr → List Nat
 | none => []
 | some t => w' " when " ++ qx t
def hdL (c : Ak) : List Nat := cd c.1 ++ 32 :: oF c.2.1
def akT (c : Ak) : List Nat := hdL c ++ XM c.2.2
def ln (f : Str) (r : List Nat) : List Nat := cd f ++ 32 :: r
def Oc (c : Ak) : List Nat := ln "ask" (akT c)
def cR (z y : Str) (rs : List Ak) : List (List Nat) := ln "paper" (cd z) :: ln "sheet" (cd y) :: rs.map Oc
def Td (c : Ak) : Prop := nameB c.1 = true ∧ uO c.2.1 ∧ ∀ t, c.2.2 = some t → GT t
def PpG (z y : Str) (rs : List Ak) : Prop := nameB z = true ∧ nameB y = true ∧ (∀ c ∈ rs, Td c) ∧ rs.length ≤ 7
theorem GT.len {t : Tr} (h : GT t) : (qx t).length ≤ 3200 := by
 have := uD h.1
 have h2 : t.size * t.depth ≤ 8 * 4 := Nat.mul_le_mul h.2.2 h.2.1
 omega
theorem ad9 {z : Str} (h : ∀ c ∈ cd z, 97 ≤ c ∧ c ≤ 122) : 32 ∉ cd z := fun e => by have := h _ e; omega
theorem Te {z : Str} (h : nameB z = true) : (cd z).length ≤ 12 ∧ ∀ c ∈ cd z, 32 ≤ c := ⟨by rw [← yE]; exact (bf h).1, fun c hc => by have := (bf h).2.2 c hc; omega⟩
theorem Qq {zs : List Str} : ∀ {t : Tr}, t.Ok zs → ∀ c ∈ qx t, 32 ≤ c
 | .is n v, h, c, hc => by
   obtain ⟨h1, u, rfl, h2⟩ := h
   rw [U8] at hc
   rcases List.mem_append.mp hc with hc | hc
   · rcases List.mem_append.mp hc with hc | hc
     · have := (bf h1).2.2 c hc; omega
     · exact (by symm : ∀ c ∈ cd ‹" is "›, 32 ≤ c) c hc
   · have := (bf h2).2.2 c hc; omega
 | .cmp n x m, h, c, hc => by
   have hb : ∀ c ∈ cd ‹" "›, 32 ≤ c := by symm
   rw [HH] at hc
   rcases List.mem_append.mp hc with hc | hc
   · rcases List.mem_append.mp hc with hc | hc
     · rcases List.mem_append.mp hc with hc | hc
       · rcases List.mem_append.mp hc with hc | hc
         · have := (bf h.1).2.2 c hc; omega
         · exact hb c hc
       · rcases h.2.1 with rfl | rfl | rfl
         · exact (by symm : ∀ c ∈ cd ‹"<"›, 32 ≤ c) c hc
         · exact (by symm : ∀ c ∈ cd ‹"="›, 32 ≤ c) c hc
         · exact (by symm : ∀ c ∈ cd ‹">"›, 32 ≤ c) c hc
     · exact hb c hc
   · rcases pJ hc with e | e <;> omega
 | .neg t, h, c, hc => by
   rw [Qk] at hc
   rcases List.mem_append.mp hc with hc | hc
   · exact (by symm : ∀ c ∈ cd ‹"not "›, 32 ≤ c) c hc
   · exact Qq (t := t) h c hc
 | .two o s t, h, c, hc => by
   have hb : ∀ c ∈ cd ‹" "›, 32 ≤ c := by symm
   rw [Dj] at hc
   rcases List.mem_append.mp hc with hc | hc
   · rcases List.mem_append.mp hc with hc | hc
     · rcases List.mem_append.mp hc with hc | hc
       · rcases List.mem_append.mp hc with hc | hc
         · rcases List.mem_append.mp hc with hc | hc
           · rcases List.mem_append.mp hc with hc | hc
             · exact (by symm : ∀ c ∈ cd ‹"( "›, 32 ≤ c) c hc
             · exact Qq h.1 c hc
           · exact hb c hc
         · exact (by cases o <;> decide +kernel : ∀ c ∈ cd (hw o), 32 ≤ c) c hc
       · exact hb c hc
     · exact Qq h.2 c hc
   · exact (by symm : ∀ c ∈ cd ‹" )"›, 32 ≤ c) c hc
theorem K5 {a b : List Nat} (h : ∀ c ∈ a, 32 ≤ c) (k : ∀ c ∈ b, 32 ≤ c) : ∀ c ∈ a ++ b, 32 ≤ c := fun c hc => by
 rcases List.mem_append.mp hc with e | e
 · exact h c e
 · exact k c e
theorem aae {n : Int} {c : Nat} (h : c ∈ bZ n) : 32 < c ∧ c < 97 := by
 unfold bZ sgn at h
 rcases List.mem_append.mp h with h | h
 · split at h
   · rw [List.mem_singleton.mp h]; decide
   · cases h
 · rcases List.mem_append.mp h with h | h
   · have := sW (List.mem_of_mem_take h); unfold isF at this; omega
   · rcases List.mem_cons.mp h with e | h
     · rw [e]; decide
     · have := sW (List.mem_of_mem_drop h); unfold isF at this; omega
theorem aaf {ku : KU} (h : uO ku) : w' "when" ∉ wds ku := by
 have key : ∀ l ∈ wds ku, l ≠ w' "when" := by
   cases ku with
   | yn => intro l hl; rw [List.mem_singleton.mp hl]; decide +kernel
   | wh lo hi =>
     intro l hl e
     have hn : ∀ n : Int, bB n ≠ w' "when" := fun n e => by
       have : (119 : Nat) ∈ bB n := by rw [e]; decide +kernel
       rcases pJ this with z | z <;> omega
     rcases List.mem_cons.mp hl with z | z
     · rw [z] at e; exact absurd e (by symm)
     rcases List.mem_cons.mp z with z | z
     · rw [z] at e; exact hn _ e
     · rw [List.mem_singleton.mp z] at e; exact hn _ e
   | mo lo hi =>
     intro l hl e
     have hn : ∀ n : Int, bZ n ≠ w' "when" := fun n e => by
       have : (119 : Nat) ∈ bZ n := by rw [e]; decide +kernel
       have := aae this; omega
     rcases List.mem_cons.mp hl with z | z
     · rw [z] at e; exact absurd e (by symm)
     rcases List.mem_cons.mp z with z | z
     · rw [z] at e; exact hn _ e
     · rw [List.mem_singleton.mp z] at e; exact hn _ e
   | pk ws =>
     intro l hl e
     rcases List.mem_cons.mp hl with z | z
     · rw [z] at e; exact absurd e (by symm)
     · obtain ⟨y, hy, rfl⟩ := List.mem_map.mp z
       have hn := h.2.2.2 y hy
       rw [show y = ‹"when"› from yL e] at hn
       exact absurd hn (by symm)
   | nm m =>
     intro l hl e
     rcases List.mem_cons.mp hl with z | z
     · rw [z] at e; exact absurd e (by symm)
     · rw [List.mem_singleton.mp z] at e
       have : (119 : Nat) ∈ bB (m : Int) := by rw [e]; decide +kernel
       rcases pJ this with z | z <;> omega
 exact fun h => key _ h rfl
theorem aea {ku : KU} (h : uO ku) : ∀ c ∈ oF ku, 32 ≤ c := by
 have num : ∀ n : Int, ∀ c ∈ bB n, 32 ≤ c := fun n c hc => by rcases pJ hc with z | z <;> omega
 have mon : ∀ n : Int, ∀ c ∈ bZ n, 32 ≤ c := fun n c hc => by have := aae hc; omega
 cases ku with
 | yn => exact (by symm : ∀ c ∈ cd ‹"yesno"›, 32 ≤ c)
 | wh lo hi => exact K5 (by symm) (K5 (K5 (num lo) (by decide)) (num hi))
 | mo lo hi => exact K5 (by symm) (K5 (K5 (mon lo) (by decide)) (mon hi))
 | pk ws =>
   refine K5 (by symm) fun c hc => ?_
   rcases mem_join hc with e | ⟨p, hp, hc⟩
   · omega
   · obtain ⟨y, hy, rfl⟩ := List.mem_map.mp hp
     have := (dI.bf (h.2.2.2 y hy)).2.2 c hc
     omega
 | nm m => exact K5 (by symm) (num _)
def LG (l : List Nat) : Prop := l.length ≤ 4500 ∧ 10 ∉ l
theorem aag {l : List Nat} (h : l.length ≤ 4500) (k : ∀ c ∈ l, 32 ≤ c) : LG l := ⟨h, fun e => by have := k _ e; omega⟩
theorem We {f : Str} {r : List Nat} (hf : ∀ c ∈ cd f, 32 ≤ c) (hr : ∀ c ∈ r, 32 ≤ c) : ∀ c ∈ ln f r, 32 ≤ c := K5 hf fun c hc => by
 rcases List.mem_cons.mp hc with e | e
 · omega
 · exact hr c e
theorem aah {o : Option Tr} (h : ∀ t, o = some t → GT t) : (XM o).length ≤ 3206 := by
 cases o with
 | none => show 0 ≤ 3206; decide
 | some t =>
   have := (h t rfl).len
   show (w' " when " ++ qx t).length ≤ 3206
   rw [List.length_append, show (w' " when ").length = 6 by symm]; omega
theorem aht {o : Option Tr} (h : ∀ t, o = some t → GT t) : ∀ c ∈ XM o, 32 ≤ c := by
 cases o with
 | none => intro c hc; cases hc
 | some t => exact K5 (by symm) (Qq (h t rfl).1)
theorem Vd {ku : KU} (h : uO ku) : (oF ku).length ≤ 890 := by have := (Tc h).1; rwa [zU] at this
theorem aai {c : Ak} (h : Td c) : (hdL c).length ≤ 903 := by
 have h1 := (Te h.1).1
 have h2 := Vd h.2.1
 unfold hdL; rw [List.length_append, List.length_cons]; omega
theorem aaj {c : Ak} (h : Td c) : (akT c).length ≤ 4200 := by
 have h1 := aai h
 have h2 := aah h.2.2
 unfold akT; rw [List.length_append]; omega
theorem acL {c : Ak} (h : Td c) : LG (Oc c) := by
 have h1 := aaj h
 refine aag (by unfold Oc ln; rw [List.length_append, List.length_cons, show (cd ("ask" : Str)).length = 3 by symm]; omega) (We (by symm) (K5 (We (Te h.1).2 (aea h.2.1)) (aht h.2.2)))
theorem Od {z y : Str} {rs : List Ak} (g : PpG z y rs) : ∀ l ∈ cR z y rs, LG l := fun l hl => by
 have hz := Te g.1
 have hy := Te g.2.1
 rcases List.mem_cons.mp hl with e | e
 · rw [e]; exact aag (by unfold ln; rw [List.length_append, List.length_cons, show (cd ("paper" : Str)).length = 5 by symm]; omega) (We (by symm) hz.2)
 rcases List.mem_cons.mp e with e | e
 · rw [e]; exact aag (by unfold ln; rw [List.length_append, List.length_cons, show (cd ("sheet" : Str)).length = 5 by symm]; omega) (We (by symm) hy.2)
 · obtain ⟨c, hc, rfl⟩ := List.mem_map.mp e; exact acL (g.2.2.1 c hc)
theorem aak : ∀ {ls : List (List Nat)}, (∀ l ∈ ls, LG l) → (ls.map List.length).sum ≤ 4500 * ls.length
 | [], _ => Nat.le_refl _
 | l :: r, h => by
   have h1 := aak fun l hl => h l (List.mem_cons_of_mem _ hl)
   have h2 := (h l List.mem_cons_self).1
   rw [List.map_cons, List.sum_cons, List.length_cons]
   omega
theorem aal (sep : List Nat) : ∀ ys : List (List Nat), (aF sep ys).length ≤ (ys.map List.length).sum + ys.length * sep.length
 | [] => Nat.zero_le _
 | [x] => by show x.length ≤ x.length + 0 + 1 * _; omega
 | x :: y :: r => by
   have ih := aal sep (y :: r)
   show (x ++ sep ++ aF sep (y :: r)).length ≤ _
   rw [List.length_append, List.length_append, List.map_cons, List.sum_cons, List.length_cons (a := x), Nat.succ_mul]
   omega
theorem Qs (ws : List (List Nat)) : wv ws = (ws.map S).map V.str := by rw [List.map_map]; rfl
theorem Wf (ls : List (List Nat)) : (ls.map S).map cd = ls := by
 rw [List.map_map]
 conv => rhs; rw [← List.map_id ls]
 exact List.map_congr_left fun l _ => cU l
theorem PpG.len {z y : Str} {rs : List Ak} (g : PpG z y rs) : (cR z y rs).length ≤ 9 ∧ ((cR z y rs).map List.length).sum ≤ 40500 := by
 have h1 : (cR z y rs).length ≤ 9 := by unfold cR; rw [List.length_cons, List.length_cons, List.length_map]; have := g.2.2.2; omega
 have h4 := aak (Od g)
 exact ⟨h1, by omega⟩
theorem Oe {z y : Str} {rs : List Ak} (h : PpG z y rs) : ((((cR z y rs).map S).map (·.length)).sum + ((cR z y rs).map S).length * ‹"\n"›.length) ≤ 16777216 := by
 obtain ⟨h1, h2⟩ := h.len
 have e : ((cR z y rs).map S).map (·.length) = (cR z y rs).map List.length := by rw [List.map_map]; exact List.map_congr_left fun l _ => zU l
 rw [e, List.length_map, show ‹"\n"›.length = 1 by symm]
 omega
theorem text_len {z y : Str} {rs : List Ak} (h : PpG z y rs) : (S (aF [10] (cR z y rs))).length ≤ 100000 := by
 obtain ⟨h1, h2⟩ := h.len
 have h3 := aal [10] (cR z y rs)
 rw [zU, show [10].length = 1 from rfl] at *
 omega
theorem Tf {z y : Str} {rs : List Ak} (h : PpG z y rs) : Txt.split (S (aF [10] (cR z y rs))) ‹"\n"› = (cR z y rs).map S := by
 rw [show ‹"\n"› = S [10] by symm]
 exact WW (by unfold cR; simp) fun l hl => (Od h l hl).2
theorem Fb (a b : List Nat) : aH (a ++ 32 :: b) = aH a ++ aH b := by
 have e : a ++ 32 :: b = aF [32] (aH a ++ aH b) := by
   rw [tO (sO a) (sO b), xQ, xQ, List.append_assoc]; rfl
 rw [e]
 refine o9 (fun z => sO a (List.append_eq_nil_iff.mp z).1) fun p hp => ?_
 rcases List.mem_append.mp hp with h | h <;> exact Fq h
abbrev wn : List Nat := [119, 104, 101, 110]
abbrev wS : List Nat := [32, 119, 104, 101, 110, 32]
theorem K6 (a b : List Nat) : aH (a ++ wS ++ b) = aH a ++ wn :: aH b := by
 have e : a ++ wS ++ b = a ++ 32 :: (wn ++ 32 :: b) := by simp
 rw [e, Fb, Fb, z8 (l := wn) (by decide)]; rfl
theorem Tg {l : List Nat} {i : Nat} (h : StrLaws.At (S l) (S wS) (S l).length i) : l = l.take i ++ wS ++ l.drop (i + 6) ∧ i + 6 ≤ l.length := by
 have h1 := h.1
 have h2 := h.2
 rw [StrLaws.subAt_eq] at h2
 have h2 : (l.drop i).take (S wS).length = wS := eq_of_beq h2
 rw [zU, zU] at h1
 rw [zU] at h2
 refine ⟨?_, h1⟩
 conv => lhs; rw [← List.take_append_drop i l, ← List.take_append_drop 6 (l.drop i)]
 rw [show (l.drop i).take 6 = wS from h2, List.drop_drop, List.append_assoc]
theorem Ve : ∀ (ws : List (List Nat)) (k : Nat), (aF [32] (ws.take k)).length ≤ (aF [32] ws).length := fun ws k => by
 by_cases h1 : ws.take k = []
 · rw [h1]; exact Nat.zero_le _
 by_cases h2 : ws.drop k = []
 · have := List.take_append_drop k ws
   rw [h2, List.append_nil] at this
   rw [this]; exact Nat.le_refl _
 · conv => rhs; rw [← List.take_append_drop k ws]
   rw [tO h1 h2, List.length_append, List.length_append]; omega
theorem aam {a b y : List Nat} (h : ∀ k, k < a.length → ¬ StrLaws.At (S (a ++ y ++ b)) (S y) (S (a ++ y ++ b)).length k) : Txt.partition (S (a ++ y ++ b)) (S y) = (S a, S y, S b) := by
 have hat : StrLaws.At (S (a ++ y ++ b)) (S y) (S (a ++ y ++ b)).length a.length := by
   refine ⟨by rw [zU, zU, List.length_append, List.length_append]; omega, ?_⟩
   rw [StrLaws.subAt_eq]
   show (((a ++ y ++ b).drop a.length).take (S y).length == y) = true
   rw [zU, List.append_assoc, List.drop_left, List.take_left]
   exact beq_self_eq_true _
 unfold Txt.partition
 rcases StrLaws.occ_head (S (a ++ y ++ b)) (S y) 1 (Nat.le_refl 1) with ⟨_, hn⟩ | ⟨i, r, h0, hi, hm⟩
 · exact absurd hat (hn _)
 · have e : i = a.length := by
     rcases Nat.lt_trichotomy i a.length with l | l | l
     · exact absurd hi (h i l)
     · exact l
     · exact absurd hat (hm _ l)
   subst e
   rw [h0]
   refine Prod.ext (yL ?_) (Prod.ext rfl (yL ?_))
   · show (Builtin.Str.strSub (S (a ++ y ++ b)) 0 a.length).cps.toList = a
     rw [StrLaws.strSub_toList]
     show ((a ++ y ++ b).drop 0).take (a.length - 0) = a
     rw [List.drop_zero, Nat.sub_zero, List.append_assoc, List.take_left]
   · show (Builtin.Str.strSub (S (a ++ y ++ b)) (a.length + (S y).length) (S (a ++ y ++ b)).length).cps.toList = b
     rw [StrLaws.strSub_toList, zU, zU]
     show ((a ++ y ++ b).drop (a.length + y.length)).take _ = b
     rw [show a.length + y.length = (a ++ y).length by rw [List.length_append], List.drop_left, List.take_of_length_le (by rw [List.length_append]; omega)]
theorem aan {l : List Nat} (h : wn ∉ aH l) : Txt.partition (S l) (S wS) = (S l, Str.empty, Str.empty) := by
 unfold Txt.partition
 rcases StrLaws.occ_head (S l) (S wS) 1 (Nat.le_refl 1) with ⟨h0, _⟩ | ⟨i, r, h0, hi, _⟩
 · rw [h0]
 · refine absurd ?_ h
   rw [(Tg hi).1, K6]
   simp
theorem ab4 {a : List Nat} (h : wn ∉ aH a) (b : List Nat) : Txt.partition (S (a ++ wS ++ b)) (S wS) = (S a, S wS, S b) := aam fun k hk hat => by
 obtain ⟨e, hle⟩ := Tg hat
 have e2 : aH ((a ++ wS ++ b).take k) ++ wn :: aH ((a ++ wS ++ b).drop (k + 6)) = aH a ++ wn :: aH b := by
   rw [← K6, ← K6, ← e]
 generalize hA : aH ((a ++ wS ++ b).take k) = A' at e2
 have hl : (aH a).length ≤ A'.length := by
   rcases Nat.lt_or_ge A'.length (aH a).length with c | c
   · have h1 : (A' ++ wn :: aH ((a ++ wS ++ b).drop (k + 6)))[A'.length]? = some wn := by simp
     rw [e2, List.getElem?_append_left c] at h1
     exact absurd (List.mem_of_getElem? h1) h
   · exact c
 have ht : A'.take (aH a).length = aH a := by
   have := congrArg (List.take (aH a).length) e2
   rw [List.take_append_of_le_length hl, List.take_left] at this
   exact this
 have h3 := Ve A' (aH a).length
 rw [ht, xQ, ← hA, xQ, List.length_take] at h3
 omega
def pW : Option Tr → Str × Str
 | none => (Str.ofString "", ‹""›)
 | some t => (Str.ofString " when ", S (qx t))
theorem Th {c : Ak} (h : Td c) : wn ∉ aH (hdL c) := by
 unfold hdL
 rw [Fb, z8 (ad9 (bf h.1).2.2), R9 h.2.1, o9 (Z2 _) (Sg h.2.1)]
 intro e
 rcases List.mem_append.mp e with e | e
 · have hn := h.1
   rw [show c.1 = ‹"when"› from yL ((List.mem_singleton.mp e).symm.trans (by symm : wn = cd ‹"when"›))] at hn
   exact absurd hn (by symm)
 · exact aaf h.2.1 ((by symm : w' "when" = wn) ▸ e)
theorem ahu {c : Ak} (h : Td c) : Txt.partition (S (akT c)) ‹" when "› = (S (hdL c), (pW c.2.2).1, (pW c.2.2).2) := by
 have e : ‹" when "› = S wS := by symm
 obtain ⟨n, ku, o⟩ := c
 cases o with
 | none =>
   show Txt.partition (S (hdL (n, ku, none) ++ [])) _ = _
   rw [List.append_nil, e, aan (Th h), show Str.empty = ‹""› by symm]; rfl
 | some t =>
   show Txt.partition (S (hdL (n, ku, some t) ++ (w' " when " ++ qx t))) _ = (_, ‹" when "›, _)
   rw [← List.append_assoc, show w' " when " = wS by symm, e, ab4 (Th h)]; rfl
theorem ahv {c : Ak} (h : Td c) : Txt.partition (S (hdL c)) ‹" "› = (c.1, ‹" "›, S (oF c.2.1)) := by
 unfold hdL
 rw [show ‹" "› = S [32] by symm, VG (ad9 (bf h.1).2.2), d8]
theorem ahw {f : Str} (hf : 32 ∉ cd f) (r : List Nat) : Txt.partition (S (ln f r)) ‹" "› = (f, ‹" "›, S r) := by
 unfold ln
 rw [show ‹" "› = S [32] by symm, VG hf, d8]
theorem ahx {z : Str} (hz : nameB z = true) : Txt.partition z ‹" each "› = (z, ‹""›, ‹""›) := by
 have h := Zm (c := 32) (y := [101, 97, 99, 104, 32]) (ad9 (bf hz).2.2)
 rw [d8, show S (32 :: [101, 97, 99, 104, 32]) = ‹" each "› by symm] at h
 rw [h, show Str.empty = ‹""› by symm]
theorem xC {H : Hp} {a b : Addr} {o : HO} (h : upd H a o b = none) : b ≠ a ∧ H b = none := by
 by_cases e : b = a
 · subst e; rw [zE] at h; cases h
 · exact ⟨e, by rw [zK e] at h; exact h⟩
theorem same_none {H H' : Hp} (s : az H H') {b : Addr} (h : H' b = none) : H b = none := by
 cases e : H b with
 | none => rfl
 | some o => rw [s b o e] at h; cases h
def Fr (M : List Addr) (H H' : Hp) : Prop := ∀ b o, H b = some o → b ∉ M → H' b = some o
theorem Fr.of {M : List Addr} {H H' : Hp} (s : az H H') : Fr M H H' := fun b o h _ => s b o h
theorem Fr.trans {M : List Addr} {H H' Il : Hp} (a : Fr M H H') (b : Fr M H' Il) : Fr M H Il := fun x o h n => b x o (a x o h n) n
theorem Fr.upd {M : List Addr} {H H' : Hp} (a : Fr M H H') {m : Addr} (h : m ∈ M) (o : HO) : Fr M H (upd H' m o) := fun x u hx n => by
 rw [zK (fun e => n (by rw [e]; exact h))]; exact a x u hx n
theorem Fr.new {M : List Addr} {H H' : Hp} (a : Fr M H H') {m : Addr} (h : H' m = none) (o : HO) : Fr M H (L2.upd H' m o) := fun x u hx n => by
 have := a x u hx n
 rw [zK (zR this h)]; exact this
theorem Fr.more {M M' : List Addr} {H H' : Hp} (a : Fr M H H') (h : ∀ m ∈ M, m ∈ M') : Fr M' H H' := fun x u hx n => a x u hx fun e => n (h x e)
theorem ab5 {c : Bool} {A B : Prop} (h : c = true) (k : A) : if c = true then A else B := by rw [if_pos h]; exact k
theorem Hq {c : Bool} {A B : Prop} (h : c = false) (k : B) : if c = true then A else B := by rw [if_neg (by rw [h]; decide)]; exact k
theorem ni1 {x a : Addr} (h : x ≠ a) : x ∉ [a] := fun e => h (List.mem_singleton.mp e)
theorem ni2 {x a b : Addr} (h : x ≠ a) (k : x ≠ b) : x ∉ [a, b] := fun e => by
 rcases List.mem_cons.mp e with e | e
 · exact h e
 · exact k (List.mem_singleton.mp e)
theorem aeb {H : Hp} {a b C C' dx Hw : Addr} {fs fs' : List (Str × V)} (h : H a = some (.ins C dx fs)) (k : H b = some (.ins C' Hw fs')) (l : fs'.length ≠ fs.length) : a ≠ b := fun e => by
 rw [e, k] at h
 exact l (congrArg List.length (HO.ins.inj (Option.some.inj h)).2.2)
theorem QT {α : Type} (l : List α) (x : α) : qG (l ++ [x]) (-1) = some x := by
 unfold qG ixN
 rw [if_neg (by decide), List.length_append]
 have : -(((l.length + [x].length : Nat) : Int)) ≤ -1 := by show -(((l.length + 1 : Nat) : Int)) ≤ -1; omega
 rw [if_pos this]
 show (l ++ [x])[((-1 : Int) + ((l.length + 1 : Nat) : Int)).toNat]? = some x
 rw [show ((-1 : Int) + ((l.length + 1 : Nat) : Int)).toNat = l.length by omega]
 simp
def Refs (ys : List V) : Prop := ∀ y ∈ ys, ∃ r, y = .ref r
def MO (o : HO) : Prop := (∃ ys, o = .lst ys ∧ Refs ys) ∨ ∃ C dx fs, o = .ins C dx fs ∧ fs.length = 5
def Mu (M : List Addr) (H : Hp) : Prop := ∀ m ∈ M, ∀ o, H m = some o → MO o
theorem Qt {H : Hp} : Mu [] H := fun m h => by cases h
theorem Mu.cons {H : Hp} {a : Addr} {o : HO} {M : List Addr} (h : H a = some o) (k : MO o) (m : Mu M H) : Mu (a :: M) H := fun x hx u hu => by
 rcases List.mem_cons.mp hx with e | e
 · rw [e, h] at hu; cases hu; exact k
 · exact m x e u hu
theorem Mu.one {H : Hp} {a : Addr} {o : HO} (h : H a = some o) (k : MO o) : Mu [a] H := Mu.cons h k Qt
section
variable {A : cj} {M : List Addr} {H H' : Hp}
theorem Fr.ins {b C dx : Addr} {fs : List (Str × V)} (f : Fr M H H') (m : Mu M H) (h : H b = some (.ins C dx fs)) (l : fs.length ≠ 5) : H' b = some (.ins C dx fs) := f _ _ h fun e => by
 rcases m _ e _ h with ⟨_, z, _⟩ | ⟨_, _, _, z, l'⟩
 · cases z
 · cases z; exact l l'
theorem nD.fr (f : Fr M H H') (m : Mu M H) : ∀ {t : Tr} {x : V}, nD A H t x → nD A H' t x
 | .is _ _, _, ⟨a, dx, e, h⟩ => ⟨a, dx, e, f.ins m h (by show (3 : Nat) ≠ 5; decide)⟩
 | .cmp _ _ _, _, ⟨a, dx, e, h⟩ => ⟨a, dx, e, f.ins m h (by show (3 : Nat) ≠ 5; decide)⟩
 | .neg _, _, ⟨a, dx, y, e, h, k⟩ => ⟨a, dx, y, e, f.ins m h (by show (1 : Nat) ≠ 5; decide), nD.fr f m k⟩
 | .two o _ _, _, ⟨a, dx, y, z, e, h, k, l⟩ => ⟨a, dx, y, z, e, f.ins m h (by show (2 : Nat) ≠ 5; decide), nD.fr f m k, nD.fr f m l⟩
def OSy (A : cj) (H : Hp) : Option Tr → V → Prop
 | none, v => v = .non
 | some t, v => nD A H t v
theorem OSy.fr (f : Fr M H H') (m : Mu M H) {o : Option Tr} {v : V} (h : OSy A H o v) : OSy A H' o v := by
 cases o with
 | none => exact h
 | some t => exact nD.fr (t := t) f m h
theorem st.fr (f : Fr M H H') (m : Mu M H) {ku : KU} (g : ku.Good) {p : Addr} (h : st A ku H p) : st A ku H' p := by
 obtain ⟨dx, fs, h1, h2⟩ := h
 cases ku with
 | pk ws =>
   obtain ⟨pw, rfl, h3⟩ := h2
   refine ⟨dx, _, f.ins m h1 (by show (3 : Nat) ≠ 5; decide), pw, rfl, f _ _ h3 fun e => ?_⟩
   rcases m _ e _ h3 with ⟨ys, z, r⟩ | ⟨_, _, _, z, _⟩
   · cases z
     have h1 : 1 ≤ ws.length := g.2.1
     cases ws with
     | nil => exact absurd h1 (by decide)
     | cons x r' => obtain ⟨_, z⟩ := r (.str x) List.mem_cons_self; cases z
   · cases z
 | yn => have h2 : fs = _ := h2; subst h2; exact ⟨dx, _, f.ins m h1 (by show (2 : Nat) ≠ 5; decide), rfl⟩
 | wh lo hi => have h2 : fs = _ := h2; subst h2; exact ⟨dx, _, f.ins m h1 (by show (2 : Nat) ≠ 5; decide), rfl⟩
 | mo lo hi => have h2 : fs = _ := h2; subst h2; exact ⟨dx, _, f.ins m h1 (by show (2 : Nat) ≠ 5; decide), rfl⟩
 | nm n => have h2 : fs = _ := h2; subst h2; exact ⟨dx, _, f.ins m h1 (by show (2 : Nat) ≠ 5; decide), rfl⟩
abbrev Ti (A : cj) (dx : Addr) (u1 u2 u3 : V) : HO := .ins A.ou dx [("name", u1), ("kind", u2), ("when", u3)]
abbrev oSh (A : cj) (dx : Addr) (u1 u2 : V) (q1 q2 : Addr) : HO := .ins A.mQ dx [("name", u1), ("each", u2), ("rows", .ref q1), ("ways", .ref q2)]
abbrev oPa (A : cj) (dx : Addr) (u1 : V) (q1 q2 : Addr) : HO := .ins A.jE dx [("name", u1), ("sheets", .ref q1), ("totals", .ref q2)]
def XN (A : cj) (H : Hp) (x : V) (c : Ak) : Prop := ∃ b dx kp v, x = .ref b ∧ H b = some (Ti A dx (.str c.1) (.ref kp) v) ∧ st A c.2.1 H kp ∧ c.2.1.Good ∧ OSy A H c.2.2 v
theorem XN.fr (f : Fr M H H') (m : Mu M H) {x : V} {c : Ak} (h : XN A H x c) : XN A H' x c := let ⟨b, dx, kp, v, e, h1, h2, g, h3⟩ := h; ⟨b, dx, kp, v, e, f.ins m h1 (by show (3 : Nat) ≠ 5; decide), dI.Y.st.fr f m g h2, g, h3.fr f m⟩
theorem XN.same (f : az H H') {x : V} {c : Ak} (h : XN A H x c) : XN A H' x c := h.fr (Fr.of f) Qt
theorem refs {ys : List V} {rs : List Ak} (h : Paired (XN A H) ys rs) : Refs ys := by
 induction h with
 | nil => intro y hy; cases hy
 | cons r _ ih =>
   intro y hy
   rcases List.mem_cons.mp hy with e | e
   · obtain ⟨b, _, _, _, z, _⟩ := r; exact ⟨b, e.trans z⟩
   · exact ih y e
def aao (A : cj) (H : Hp) (x : V) (z y : Str) (rs : List Ak) : Prop := ∃ a dx q1 q2 s qD pr pw xs, x = .ref a ∧ H a = some (oPa A dx (.str z) q1 q2) ∧ H q1 = some (.lst [.ref s]) ∧ H q2 = some (.lst []) ∧ H s = some (oSh A qD (.str y) .non pr pw) ∧ H pr = some (.lst xs) ∧ H pw = some (.lst []) ∧ Paired (XN A H) xs rs
theorem aao.same (f : az H H') {x : V} {z y : Str} {rs : List Ak} (h : aao A H x z y rs) : aao A H' x z y rs := by
 obtain ⟨a, dx, q1, q2, s, qD, pr, pw, xs, e, h1, h2, h3, h4, h5, h6, h7⟩ := h
 exact ⟨a, dx, q1, q2, s, qD, pr, pw, xs, e, f _ _ h1, f _ _ h2, f _ _ h3, f _ _ h4, f _ _ h5, f _ _ h6, yO (fun _ _ k => k.same f) h7⟩
end
def aee (A : cj) : Sp := fun vs H Q _ => ∃ p dx u1, vs = [.ref p, u1] ∧ H p = some (.ins A.ou dx []) ∧ Q .non (upd H p (.ins A.ou dx [("name", u1)]))
def aef (A : cj) : Sp := fun vs H Q _ => ∃ p dx u1 u2 u3, vs = [.ref p, u1, u2, u3] ∧ H p = some (.ins A.ou dx []) ∧ Q .non (upd H p (Ti A dx u1 u2 u3))
def aap (A : cj) (K : W.Frag) : Sp := fun vs H Q _ => ∃ p dx u1 u2 l1 l2 xs ys, vs = [.ref p, u1, u2, .ref l1, .ref l2] ∧ H p = some (.ins A.mQ dx []) ∧ H l1 = some (.lst xs) ∧ H l2 = some (.lst ys) ∧
 ∀ q1 q2 H', q1 ≠ q2 → H q1 = none → H q2 = none → Fr [p] H H' → H' p = some (oSh A dx u1 u2 q1 q2) → H' q1 = some (.lst xs) → H' q2 = some (.lst ys) → Q .non H'
def aaq (A : cj) (K : W.Frag) : Sp := fun vs H Q _ => ∃ p dx u1 l1 l2 xs, vs = [.ref p, u1, .ref l1, .ref l2] ∧ H p = some (.ins A.jE dx []) ∧ H l1 = some (.lst xs) ∧ H l2 = some (.lst []) ∧
 ∀ q1 q2 H', Fr [p] H H' → H' p = some (oPa A dx u1 q1 q2) → H' q1 = some (.lst xs) → H' q2 = some (.lst []) → Q .non H'
def ahy (A : cj) : Sp := fun vs H Q _ => ∃ v o, vs = [v] ∧ OSy A H o v ∧ (∀ t, o = some t → GT t) ∧ Q (.str (S (XM o))) H
def aeg (A : cj) : Sp := fun vs H Q _ => ∃ x c, vs = [x] ∧ XN A H x c ∧ Td c ∧ ∀ H', az H H' → Q (.str (S (Oc c))) H'
def aar (A : cj) : Sp := fun vs H Q _ => ∃ s qD pr pw y xs rs, vs = [.ref s] ∧ H s = some (oSh A qD (.str y) .non pr pw) ∧ H pr = some (.lst xs) ∧ H pw = some (.lst []) ∧ Paired (XN A H) xs rs ∧ nameB y = true ∧ (∀ c ∈ rs, Td c) ∧ rs.length ≤ 7 ∧ ∀ p H', az H H' → H' p = some (.lst (wv (ln "sheet" (cd y) :: rs.map Oc))) → Q (.ref p) H'
def aas (A : cj) : Sp := fun vs H Q _ => ∃ x z y rs, vs = [x] ∧ aao A H x z y rs ∧ PpG z y rs ∧ ∀ H', az H H' → Q (.str (S (aF [10] (cR z y rs)))) H'
theorem Qu {f : Str} {g : String} (e : cd (Str.ofString g) = cd f ++ [32]) (r : Str) : Str.ofString g ++ r = S (ln f (cd r)) := yL (by
 rw [yA, e]
 show _ = cd f ++ 32 :: cd r
 simp only [List.append_assoc, List.singleton_append])
theorem aat (c : Ak) : ((((Str.ofString "ask " ++ c.1) ++ ‹" "›) ++ S (oF c.2.1)) ++ S (XM c.2.2)) = S (Oc c) := yL (by
 rw [yA, yA, yA, yA]
 show cd ‹"ask "› ++ cd c.1 ++ cd ‹" "› ++ oF c.2.1 ++ XM c.2.2 = cd ‹"ask"› ++ 32 :: ((cd c.1 ++ 32 :: oF c.2.1) ++ XM c.2.2)
 rw [show cd ‹"ask "› = cd ‹"ask"› ++ [32] by symm, show cd ‹" "› = [32] by symm]
 simp only [List.append_assoc, List.singleton_append, List.cons_append, List.nil_append])
theorem Wg {α : Type} {f : α → List Nat} {cs : List α} {i : Nat} {c : α} (h : cs[i]? = some c) : wv ((cs.take i).map f) ++ [V.str (S (f c))] = wv ((cs.take (i + 1)).map f) := by
 rw [List.take_succ, h, List.map_append]
 show _ = List.map (fun l => V.str (S l)) (_ ++ [f c])
 rw [List.map_append]; rfl
section
variable {P : Program} {w : World} {K : W.Frag} {mg : Str → Option Value} {base : Heap} {A : cj}
theorem Tj (T : Txt K mg A) : aB P w K mg base aL 1 A.pY A.pZ ["self", "name"] (aee A) := by
 refine T.Jy.ok Hc (fun vs H Q E h => ?_) (fun cdv A0 outer s H vs Q E hr h => ?_)
 · obtain ⟨p, dx, u1, rfl, _⟩ := h
   rfl
 obtain ⟨p, dx, u1, rfl, hp, q⟩ := h
 refine ⟨_, (zD (yK (pv 0) (pv 1) rfl)), ?_⟩
 exact ⟨_, rfl, _, rfl, p, _, dx, _, rfl, hp, T.nW, T.qR, by decide, q⟩
theorem Tn (T : Txt K mg A) : aB P w K mg base aL 3 A.p6 A.p7 ["self", "name", "kind", "when"] (aef A) := by
 have K7 := Tj (P := P) (w := w) (base := base) T
 refine T.JB.ok Hd (fun vs H Q E h => ?_) (fun cdv A0 outer s H vs Q E hr h => ?_)
 · obtain ⟨p, dx, u1, u2, u3, rfl, _⟩ := h
   rfl
 obtain ⟨p, dx, u1, u2, u3, rfl, hp, q⟩ := h
 refine ⟨_, (zC (yF (BP T.R3 K7 ‹hr› rfl T.agV T.Jz zL (zA (pv 0) (zA (pv 1) zB))))
     (zC (yK (pv 0) (pv 2) rfl)
     (zD (yK (pv 0) (pv 3) rfl)))), ?_⟩
 refine ⟨_, rfl, _, rfl, p, dx, u1, rfl, hp, ?_⟩
 refine ⟨_, rfl, _, rfl, p, _, dx, _, rfl, zE, T.nW, T.vU, (by show 1 < 1000; decide), ?_⟩
 refine ⟨_, rfl, _, rfl, p, _, dx, _, rfl, zE, T.nW, T.m9, (by show 2 < 1000; decide), ?_⟩
 rw [yM, yM]
 exact q
theorem M6 (T : Txt K mg A) : aB P w K mg base aL 1 A.lJ A.lK ["self", "name", "each", "rows", "ways"] (aap A K) := by
 refine T.DY.ok CZ (fun vs H Q E h => ?_) (fun cdv A0 outer s H vs Q E hr h => ?_)
 · obtain ⟨p, dx, u1, u2, l1, l2, xs, ys, rfl, _⟩ := h
   rfl
 obtain ⟨p, dx, u1, u2, l1, l2, xs, ys, rfl, hp, h1, h2, q⟩ := h
 refine ⟨_, (zC (yK (pv 0) (pv 1) rfl)
     (zC (yK (pv 0) (pv 2) rfl)
     (zC (yK (pv 0) (yR xU (by rfl) T.J4 Bt.list (zA (pv 3) zB)) rfl)
     (zD (yK (pv 0) (yR xU (by rfl) T.J4 Bt.list (zA (pv 4) zB)) rfl))))), ?_⟩
 have n1 : l1 ≠ p := yf h1 hp (by intro z; cases z)
 have n2 : l2 ≠ p := yf h2 hp (by intro z; cases z)
 refine ⟨_, rfl, _, rfl, p, _, dx, _, rfl, hp, T.eE, T.rM, by decide, ?_⟩
 refine ⟨_, rfl, _, rfl, p, _, dx, _, rfl, zE, T.eE, T.rN, (by show 1 < 1000; decide), ?_⟩
 rw [yM]
 refine ⟨_, rfl, l1, xs, rfl, .inl (bG.of (by rw [zK n1]; exact h1)), fun q1 hq1 => ?_⟩
 obtain ⟨e1, f1⟩ := xC hq1
 refine ⟨_, rfl, p, _, dx, _, rfl, (by rw [zK (Ne.symm e1)]; exact zE), T.eE, T.jo, (by show 2 < 1000; decide), ?_⟩
 refine ⟨_, rfl, l2, ys, rfl, .inl (bG.of (by rw [zK n2, zK (zR h2 f1), zK n2]; exact h2)), fun q2 hq2 => ?_⟩
 obtain ⟨e2, g2⟩ := xC hq2
 obtain ⟨e3, g3⟩ := xC g2
 obtain ⟨e4, f2⟩ := xC g3
 refine ⟨_, rfl, p, _, dx, _, rfl, (by rw [zK (Ne.symm e2)]; exact zE), T.eE, T.mU, (by show 3 < 1000; decide), ?_⟩
 refine q q1 q2 _ (Ne.symm e3) f1 f2 (fun b o hb hn => ?_) zE ?_ ?_
 · have nb : b ≠ p := fun e => hn (by rw [e]; exact List.mem_singleton.mpr rfl)
   rw [zK nb, zK (zR hb f2), zK nb, zK (zR hb f1), zK nb]; exact hb
 · rw [zK e1, zK (Ne.symm e3), zK e1]; exact zE
 · rw [zK e2]; exact zE
theorem M7 (T : Txt K mg A) : aB P w K mg base aL 1 A.lL A.lM ["self", "name", "sheets", "totals"] (aaq A K) := by
 refine T.Eb.ok Dc (fun vs H Q E h => ?_) (fun cdv A0 outer s H vs Q E hr h => ?_)
 · obtain ⟨p, dx, u1, l1, l2, xs, rfl, _⟩ := h
   rfl
 obtain ⟨p, dx, u1, l1, l2, xs, rfl, hp, h1, h2, q⟩ := h
 refine ⟨_, (zC (yK (pv 0) (pv 1) rfl)
     (zC (yK (pv 0) (yR xU (by rfl) T.J4 Bt.list (zA (pv 2) zB)) rfl)
     (zD (yK (pv 0) (Rm (Aa (yX (x := "total") (M := ["self", "name", "sheets", "totals"]) rfl (by rfl)) (by rfl) (by symm)) rfl (xY (pv 3)) (fun _ _ _ _ => Ja) (fun _ _ _ _ => adx (by exact (T5 (zA (pv 0) (zA (yR xU (by rfl) T.J4 Bt.list (zA (pv 1) zB)) zB)))) (by dsimp only [dH] <;> rfl))) rfl)))), ?_⟩
 have n1 : l1 ≠ p := yf h1 hp (by intro z; cases z)
 have n2 : l2 ≠ p := yf h2 hp (by intro z; cases z)
 refine ⟨_, rfl, _, rfl, p, _, dx, _, rfl, hp, T.jq, T.rO, by decide, ?_⟩
 refine ⟨_, rfl, l1, xs, rfl, .inl (bG.of (by rw [zK n1]; exact h1)), fun q1 hq1 => ?_⟩
 obtain ⟨e1, f1⟩ := xC hq1
 refine ⟨_, rfl, p, _, dx, _, rfl, (by rw [zK (Ne.symm e1)]; exact zE), T.jq, T.jF, (by show 1 < 1000; decide), ?_⟩
 generalize hG : upd (upd (upd H p (.ins A.jE dx (j4 ‹"name"› u1 []))) q1 (.lst xs)) p (.ins A.jE dx (j4 ‹"sheets"› (V.ref q1) (j4 ‹"name"› u1 []))) = H1
 have F1 : Fr [p] H H1 := by rw [← hG]; exact (((Fr.of (az.refl _)).upd (List.mem_singleton.mpr rfl) _).new hq1 _).upd (List.mem_singleton.mpr rfl) _
 have hp1 : H1 p = some (.ins A.jE dx [("name", u1), ("sheets", .ref q1)]) := by rw [← hG]; exact zE
 have au2 : H1 q1 = some (.lst xs) := by rw [← hG, zK e1]; exact zE
 have hl2 : H1 l2 = some (.lst []) := F1 _ _ h2 (fun e => n2 (List.mem_singleton.mp e))
 refine ⟨_, rfl, l2, rfl, ⟨_, bG.of hl2⟩, ?_⟩
 refine Ab (xs := []) (zJ (m := 1) (by decide)) (fun i zs H' => H1 = H' ∧ zs = []) ⟨rfl, rfl⟩ (fun i zs H' hw => hw.1 ▸ bG.of hl2) (fun i x zs H' hx _ hw => by simp at hx) (fun zs H' hw p2 hp2 => ?_)
 obtain ⟨rfl, rfl⟩ := hw
 have s2 := zS hp2 (.lst [])
 have np2 : p2 ≠ p := fun e => by rw [e, hp1] at hp2; cases hp2
 refine ⟨_, rfl, p, _, dx, _, rfl, s2 _ _ hp1, T.jq, T.nY, (by show 2 < 1000; decide), ?_⟩
 have F2 : Fr [p] H1 (upd (upd H1 p2 (.lst [])) p (oPa A dx u1 q1 p2)) := (Fr.of s2).upd (List.mem_singleton.mpr rfl) _
 refine q q1 p2 _ (F1.trans F2) zE (F2 _ _ au2 (fun z => e1 (List.mem_singleton.mp z))) ?_
 show (upd (upd H1 p2 (.lst [])) p (oPa A dx u1 q1 p2)) p2 = _
 rw [zK np2]; exact zE
theorem zq (T : Txt K mg A) : aB P w K mg base aL 12 A.oU A.ud ["saying"] (ahy A) := by
 have G_S := K1 (P := P) (w := w) (base := base) T 5
 refine T.Pb.ok MF (fun vs H Q E h => ?_) (fun cdv A0 outer s H vs Q E hr h => ?_)
 · obtain ⟨v, o, rfl, _⟩ := h
   rfl
 obtain ⟨v, o, rfl, ho, hg, q⟩ := h
 obtain ⟨kr, hkr⟩ : ∃ kr : Nat, kr = 11 := ⟨11, rfl⟩
 refine ⟨_, (zD (zM (yV (zP Dr (pv 0) yT (zO _)) zH (zI zG zH (yC (CX := aL) (k := kr) ‹hr› zL (pv 0)))))), ?_⟩
 subst hkr
 cases o with
 | none =>
   have ho : v = .non := ho
   subst ho
   rw [show S (XM none) = ‹""› by symm] at q
   exact ⟨_, rfl, rfl, _, rfl, bJ q⟩
 | some t =>
   have g := hg t rfl
   have hl := g.len
   obtain ⟨a1, C1, MP, MT, M1, ey1, h1, hl1, aeh, aei⟩ := wj T G_S (t := t) ho
   subst ey1
   refine ⟨_, rfl, rfl, _, rfl, bh ⟨_, rfl, a1, C1, MP, MT, M1, rfl, h1, hl1, ?_⟩⟩
   dsimp only [tW]
   rw [aeh, aei]
   refine ⟨_, t, [], rfl, ho, by have := g.2.1; omega, rfl, g.1, by have := g.b.2.2; omega, _, _, rfl, rfl, zJ (m := 10000) (by rw [zU, show ‹" when "›.length = 6 by symm]; omega), ?_⟩
   have e : ‹" when "› ++ S (qx t) = S (XM (some t)) := yL (by rw [yA]; rfl)
   rw [e]; exact q
theorem Qv (T : Txt K mg A) : aB P w K mg base aL 13 A.qM A.vd ["row"] (aeg A) := by
 have uG := zq (P := P) (w := w) (base := base) T
 refine T.RC.ok Qd (fun vs H Q E h => ?_) (fun cdv A0 outer s H vs Q E hr h => ?_)
 · obtain ⟨x, c, rfl, _⟩ := h
   rfl
 obtain ⟨x, ⟨n, ku, o⟩, rfl, ⟨b, dx, kp, v, rfl, hb, hk, gk, hv⟩, g, q⟩ := h
 obtain ⟨kr, hkr⟩ : ∃ kr : Nat, kr = 11 := ⟨11, rfl⟩
 obtain ⟨ktd, aej⟩ : ∃ kr : Nat, kr = 6 := ⟨_, rfl⟩
 refine ⟨_, (zC (yD (yP (zW xI (by rfl) T.b7 Bt.isinstance (zA (pv 0) (zA (xO rfl T.acC) zB)))) (zD (zM (zI zG (zI zG (zI zG (zI zG zH (zX (pv 0) rfl)) zH) (yC (CX := aL) (k := ktd) ‹hr› zL (zX (pv 0) rfl))) (zN uG ‹hr› rfl T.Cq T.Cp T.Cm .nil zL (zA (zX (pv 0) rfl) zB))))) zV)
     (zD (zM (zI zG (zI zG (zI zG (yV (yP (zX (pv 0) rfl)) zH zH) (zX (pv 0) rfl)) zH) (yC (CX := aL) (k := kr) ‹hr› zL (zX (pv 0) rfl)))))), ?_⟩
 subst hkr aej
 have ln1 : n.length ≤ 12 := (yU g.1).len
 have lt1 : (oF ku).length ≤ 890 := Vd g.2.1
 have lw : (XM o).length ≤ 3206 := aah g.2.2
 have k4 : ‹"ask "›.length = 4 := by symm
 have k1 : ‹" "›.length = 1 := by symm
 refine ⟨_, rfl, _, _, _, _, rfl, rfl, .old (T.UL _ _ _ _ hb), T.J6, _, rfl, bJ ?_⟩
 refine ⟨_, rfl, b, _, dx, _, _, rfl, hb, T.nW, T.qR, rfl, _, _, rfl, rfl, zJ (m := 100) (by show _ + n.length ≤ 100; omega), _, _, rfl, rfl, zJ (m := 100) (by rw [zQ]; show _ + n.length + _ ≤ 100; omega), ?_⟩
 obtain ⟨dxk, fs, hkp, hf⟩ := id hk
 obtain ⟨J, ej, dj⟩ : ∃ J : jQ P w K mg base aL 6 (cls A ku) "told", J.sp = tM A ku ∧ J.oK = [] := ⟨JT T ku gk, acJ T ku gk⟩
 refine ⟨_, rfl, b, _, dx, _, _, rfl, hb, T.nW, T.vU, rfl, kp, cls A ku, dxk, fs, J, rfl, hkp, hf.noT.1, ?_⟩
 show J.sp (_ :: ([] ++ J.oK)) _ _ _
 rw [ej, dj]
 refine ⟨kp, rfl, hk, fun H1 s1 => ⟨_, _, rfl, rfl, zJ (m := 10000) (by rw [zQ, zQ, zU]; show _ + n.length + _ + _ ≤ 10000; omega), ?_⟩⟩
 refine ⟨_, rfl, b, _, dx, _, _, rfl, s1 _ _ hb, T.nW, T.m9, rfl, v, o, rfl, hv.fr (Fr.of s1) Qt, g.2.2, _, _, rfl, rfl, zJ (m := 10000) (by rw [zQ, zQ, zQ, zU, zU]; show _ + n.length + _ + _ + _ ≤ 10000; omega), ?_⟩
 have e := aat (n, ku, o)
 dsimp only at e ⊢
 rw [e]
 exact q _ s1
theorem K8 (T : Txt K mg A) : aB P w K mg base aL 14 A.mJ A.rF ["sheet"] (aar A) := by
 have uG := zq (P := P) (w := w) (base := base) T
 have Tp := Qv (P := P) (w := w) (base := base) T
 refine T.LQ.ok kY (fun vs H Q E h => ?_) (fun cdv A0 outer s H vs Q E hr h => ?_)
 · obtain ⟨_, _, _, _, _, _, _, rfl, _⟩ := h
   rfl
 obtain ⟨s', qD, pr, pw, y, xs, rs, rfl, hs, hpr, Qj, hrs, hy, hg, h7, q⟩ := h
 refine ⟨_, (zC (zY (i := 1) kY.nd rfl (by first | exact Or.inl rfl | exact Or.inr rfl) (yV (zP Dr (zX (pv 0) rfl) yT (zO _)) zH (zI zG zH (zX (pv 0) rfl))))
     (zC (Q4 (i := 2) kY.nd rfl (by first | exact Or.inl rfl | exact Or.inr rfl) (yX (x := "row") (M := ["sheet", "each", "rows", "ways"]) rfl (by rfl)) rfl (xY (zX (pv 0) rfl)) (fun _ _ _ _ => (zN Tp ‹hr› rfl T.RJ T.RG T.RD .nil zL (zA (pv 0) zB))))
     (zC (Zg (i := 3) kY.nd rfl (by first | exact Or.inl rfl | exact Or.inr rfl) (Aa (yX (x := "target") (M := ["sheet", "each", "rows", "ways"]) rfl (by rfl)) (by rfl) (by symm)) rfl (xY (zX (pv 0) rfl)) (fun _ _ _ _ => Ja) (fun _ _ _ _ => (zI zG (zI zG zH (pv 0)) (zN uG ‹hr› rfl T.Cq T.Cp T.Cm .nil zL (zA (pv 1) zB)))))
     (zD (zM (zI Ow (zI Ow (xF (zA (zI zG (zI zG zH (zX (pv 0) rfl)) (pv 1)) zB)) (pv 2)) (pv 3))))))), ?_⟩
 have ln1 : y.length ≤ 12 := (yU hy).len
 have hlx : xs.length ≤ 7 := by rw [xA hrs]; exact h7
 refine ⟨_, rfl, s', _, qD, _, _, rfl, hs, T.eE, T.rN, rfl, rfl, _, rfl, bJ ?_⟩
 refine ⟨_, rfl, s', _, qD, _, _, rfl, hs, T.eE, T.jo, rfl, pr, rfl, ⟨_, bG.of hpr⟩, ?_⟩
 refine pI (xs := xs) (zJ (m := 7) hlx) (fun i ys H' => az H H' ∧ ys = wv ((rs.take i).map Oc)) ⟨az.refl _, rfl⟩ (fun i ys H' hw => bG.of (hw.1 _ _ hpr)) (fun i x ys H' hx _ hw => ?_) (fun ys H' _ hw r hr => ?_)
 · obtain ⟨sH, rfl⟩ := hw
   obtain ⟨c, Wh, hc⟩ := wR hrs hx
   exact ⟨_, rfl, x, c, rfl, hc.same sH, hg c (List.mem_of_getElem? Wh), fun H2 s2 => ⟨sH.trans s2, Wg Wh⟩⟩
 obtain ⟨sH, rfl⟩ := hw
 rw [xA hrs, List.take_length]
 have s1 := sH.trans (zS hr (.lst (wv (rs.map Oc))))
 have hr1 : upd H' r (.lst (wv (rs.map Oc))) r = some (.lst (wv (rs.map Oc))) := zE
 generalize upd H' r (.lst (wv (rs.map Oc))) = H1 at *
 refine ⟨_, rfl, s', _, qD, _, _, rfl, s1 _ _ hs, T.eE, T.mU, rfl, pw, rfl, ⟨_, bG.of (s1 _ _ Qj)⟩, ?_⟩
 refine Ab (xs := []) (zJ (m := 1) (by decide)) (fun i ys H' => H1 = H' ∧ ys = []) ⟨rfl, rfl⟩ (fun i ys H' hw => hw.1 ▸ bG.of (s1 _ _ Qj)) (fun i x ys H' hx _ hw => by simp at hx) (fun ys H' hw r2 hr2 => ?_)
 obtain ⟨rfl, rfl⟩ := hw
 have s2 := zS hr2 (.lst [])
 have k6 : ‹"sheet "›.length = 6 := by symm
 refine ⟨_, rfl, s', _, qD, _, _, rfl, s2 _ _ (s1 _ _ hs), T.eE, T.rM, rfl, _, _, rfl, rfl, zJ (m := 100) (by show _ + y.length ≤ 100; omega), _, rfl, _, _, rfl, rfl, zJ (m := 100) (by rw [zQ, show ‹""›.length = 0 by symm]; omega), (by show 1 ≤ sizeLine; decide), fun r3 hr3 => ?_⟩
 have e : ‹"sheet "› ++ y ++ ‹""› = S (ln "sheet" (cd y)) := by
   rw [show ‹"sheet "› ++ y ++ ‹""› = ‹"sheet "› ++ y from yL (by rw [yA, show cd ‹""› = [] by symm, List.append_nil])]
   exact Qu (by symm) y
 rw [e] at *
 have s3 := zS hr3 (.lst [V.str (S (ln "sheet" (cd y)))])
 refine ⟨_, rfl, r3, r, _, _, rfl, rfl, zE, s3 _ _ (s2 _ _ hr1), zJ (m := 100) (by rw [List.length_map, List.length_map]; show 1 + _ ≤ 100; omega), fun r4 hr4 => ?_⟩
 have s4 := zS hr4 (.lst ([V.str (S (ln "sheet" (cd y)))] ++ wv (rs.map Oc)))
 refine ⟨_, rfl, r4, r2, _, _, rfl, rfl, zE, s4 _ _ (s3 _ _ zE), zJ (m := 100) (by rw [List.length_append, List.length_map, List.length_map]; show 1 + _ + 0 ≤ 100; omega), fun r5 hr5 => ?_⟩
 refine q r5 _ (s1.trans (s2.trans (s3.trans (s4.trans (zS hr5 _))))) ?_
 rw [zE, List.append_nil]; rfl
theorem K9 (T : Txt K mg A) : aB P w K mg base aL 15 A.mK A.rG ["paper"] (aas A) := by
 have M8 := K8 (P := P) (w := w) (base := base) T
 refine T.Mg.ok qu (fun vs H Q E h => ?_) (fun cdv A0 outer s H vs' Q E hr h => ?_)
 · obtain ⟨x, z, y, rs, rfl, _⟩ := h
   rfl
 obtain ⟨x, z, y, rs, rfl, ⟨a, dx, q1, q2, s', qD, pr, pw, xs, rfl, ha, hq1, hq2, hs, hpr, Qj, hrs⟩, g, q⟩ := h
 refine ⟨_, (zC (zY (i := 1) qu.nd rfl (by first | exact Or.inl rfl | exact Or.inr rfl) (xF (zA (zI zG zH (zX (pv 0) rfl)) zB)))
     (zC (wH PassesOwn.never rfl (xY (zX (pv 0) rfl)) (oJ (i := 2) qu.nd rfl (by first | exact Or.inl rfl | exact Or.inr rfl)) (zD (yF (xJ PySem.F.plainAttrs_list PySem.F.slot_list_extend PySem.F.type_list_extend Np (pv 1) (zA (zN M8 ‹hr› rfl T.Mf T.Ma T.LR .nil zL (zA (pv 2) zB)) zB)))))
     (zC (yF (xJ PySem.F.plainAttrs_list PySem.F.slot_list_extend PySem.F.type_list_extend Np (pv 1) (zA (Rm (Aa (yX (x := "name") (M := ["paper", "lines", "sheet"]) rfl (by rfl)) (by rfl) (by symm)) rfl (xY (zX (pv 0) rfl)) (fun _ _ _ _ => Ja) (fun _ _ _ _ => (zI zG (zI zG (zI zG zH (pv 0)) zH) VD))) zB)))
     (zD (zM (xJ PySem.F.plainAttrs_str PySem.F.slot_str_join PySem.F.type_str_join By zH (zA (pv 1) zB))))))), ?_⟩
 have lz := (yU g.1).len
 have hl7 := g.2.2.2
 refine ⟨_, rfl, a, _, dx, _, _, rfl, ha, T.jq, T.rO, rfl, _, _, rfl, rfl, zJ (m := 100) (by rw [show ‹"paper "›.length = 6 by symm]; omega), (by show 1 ≤ sizeLine; decide), fun pl hpl => ?_⟩
 rw [Qu (f := "paper") (by symm) z]
 have s1 := zS hpl (.lst [V.str (S (ln "paper" (cd z)))])
 refine ⟨_, rfl, a, _, dx, _, _, rfl, s1 _ _ ha, T.jq, T.jF, rfl, q1, rfl, ⟨_, bG.of (s1 _ _ hq1)⟩, ?_⟩
 refine Dw (xs := [V.ref s']) (fun i σ H' => (∃ u, σ = [some (.ref a), some (.ref pl), u]) ∧ az H H' ∧ ((i = 0 ∧ H' pl = some (.lst [V.str (S (ln "paper" (cd z)))])) ∨ (i = 1 ∧ H' pl = some (.lst (wv (cR z y rs)))))) ⟨⟨_, rfl⟩, s1, .inl ⟨rfl, zE⟩⟩ (fun i σ H' _ hh => bG.of (hh.2.1 _ _ hq1)) (fun i x σ H' hx hh => ?_) (fun σ H' hh => ?_)
 · obtain ⟨⟨u, rfl⟩, sH, hpl'⟩ := hh
   cases i with
   | succ j => simp at hx
   | zero =>
     cases hx
     rcases hpl' with ⟨_, hpl'⟩ | ⟨e, _⟩
     rotate_left
     · cases e
     refine ⟨_, rfl, Or.inl ⟨rfl, _, bG.of hpl'⟩, _, rfl, s', qD, pr, pw, y, xs, rs, rfl, sH _ _ hs, sH _ _ hpr, sH _ _ Qj, yO (fun _ _ k => k.same sH) hrs, g.2.1, g.2.2.1, hl7, fun p H2 s2 hp2 => ?_⟩
     refine ⟨pl, p, _, _, rfl, rfl, s2 _ _ hpl', hp2, ?_, ⟨_, rfl⟩, fun c o hc => ?_, .inr ⟨rfl, ?_⟩⟩
     · show 0 + 1 + (wv (ln "sheet" (cd y) :: rs.map Oc)).length ≤ sizeLine
       rw [List.length_map, List.length_cons, List.length_map]; exact zJ (m := 100) (by omega)
     · rw [zK (zR hc hpl)]; exact (sH.trans s2) c o hc
     · rw [zE]; rfl
 obtain ⟨⟨u, rfl⟩, sH, hpl'⟩ := hh
 rcases hpl' with ⟨e, _⟩ | ⟨_, hpl'⟩
 · cases e
 refine ⟨_, rfl, Or.inl ⟨rfl, _, bG.of hpl'⟩, _, rfl, a, _, dx, _, _, rfl, sH _ _ ha, T.jq, T.nY, rfl, q2, rfl, ⟨_, bG.of (sH _ _ hq2)⟩, ?_⟩
 refine Ab (xs := []) (zJ (m := 1) (by decide)) (fun i ys G => H' = G ∧ ys = []) ⟨rfl, rfl⟩ (fun i ys G hw => hw.1 ▸ bG.of (sH _ _ hq2)) (fun i x ys G hx _ hw => by simp at hx) (fun ys G hw r hr => ?_)
 obtain ⟨rfl, rfl⟩ := hw
 have s3 := zS hr (.lst [])
 have lim := g.len.1
 refine ⟨pl, r, _, _, rfl, rfl, s3 _ _ hpl', zE, ?_, ?_⟩
 · rw [List.length_map]; exact zJ (m := 100) (by show _ + 0 ≤ 100; omega)
 rw [List.append_nil, Qs]
 generalize hH4 : upd (upd H' r (.lst [])) pl (.lst (((cR z y rs).map S).map V.str)) = H4
 have s4 : az H H4 := fun c o hc => by rw [← hH4, zK (zR hc hpl)]; exact (sH.trans s3) c o hc
 have h4 : H4 pl = some (.lst (((cR z y rs).map S).map V.str)) := by rw [← hH4]; exact zE
 refine ⟨rfl, _, rfl, _, pl, (cR z y rs).map S, rfl, rfl, .inl (bG.of h4), Oe g, ?_⟩
 rw [xV, Wf, show cd ‹"\n"› = [10] by symm]
 exact q _ s4
end
abbrev M9 (A : cj) (dx : Addr) (nm : V) (ps pt : Addr) (n k : Int) : HO := .ins A.aR dx [("name", nm), ("sheets", .ref ps), ("totals", .ref pt), ("atoms_read", .int n), ("place", .int k)]
def szO : Option Tr → Nat
 | none => 0
 | some t => t.size
def ahA (A : cj) : Sp := fun vs H Q _ => ∃ p dx, vs = [.ref p] ∧ H p = some (.ins A.aR dx []) ∧
 ∀ ps pt H', ps ≠ pt → H ps = none → H pt = none → Fr [p] H H' → H' p = some (M9 A dx .non ps pt 0 0) → H' ps = some (.lst []) → H' pt = some (.lst []) → Q .non H'
def acM : Sp := fun vs H Q _ => ∃ x b, vs = [x, .bl b] ∧ b = true ∧ Q .non H
def ahB (A : cj) : Sp := fun vs H Q _ => ∃ d dx nm ps pt n k t, vs = [.ref d, .str (S (qx t))] ∧ H d = some (M9 A dx nm ps pt n k) ∧ GT t ∧ n + (t.size : Nat) ≤ 60 ∧ ∀ v H', Fr [d] H H' → H' d = some (M9 A dx nm ps pt (n + (t.size : Nat)) k) → nD A H' t v → Q v H'
def ahC (A : cj) (K : W.Frag) : Sp := fun vs H Q _ => ∃ d dx nm ps pt n k a z o, vs = [.ref d, .ref a] ∧ o8 K H a [.str z, .str (pW o).1, .str (pW o).2] ∧ H d = some (M9 A dx nm ps pt n k) ∧ (∀ t, o = some t → GT t) ∧ n + (szO o : Nat) ≤ 60 ∧ ∀ v H', Fr [d] H H' → H' d = some (M9 A dx nm ps pt (n + (szO o : Nat)) k) → OSy A H' o v → Q v H'
def aav (A : cj) : Sp := fun vs H Q _ => ∃ d dx nm ps pt n k xs s, vs = [.ref d] ∧ H d = some (M9 A dx nm ps pt n k) ∧ H ps = some (.lst (xs ++ [.ref s])) ∧ H pt = some (.lst []) ∧ Q (.ref s) H
def acN (A : cj) : Sp := fun vs H Q _ => ∃ d dx nm ps pt n k xs s qD u1 u2 pr pw rs x, vs = [.ref d, x] ∧ H d = some (M9 A dx nm ps pt n k) ∧ H ps = some (.lst (xs ++ [.ref s])) ∧ H pt = some (.lst []) ∧ H s = some (oSh A qD u1 u2 pr pw) ∧ H pw = some (.lst []) ∧ H pr = some (.lst rs) ∧ rs.length ≤ 10 ∧ Q .non (upd H pr (.lst (rs ++ [x])))
def TP (A : cj) (d : Addr) (r : Str) (H : Hp) (R : Hp → Prop) : Prop := ∃ dx nm ps pt n k, H d = some (M9 A dx nm ps pt n k) ∧ nameB r = true ∧ ∀ H', az H H' → R (upd H' d (M9 A dx (.str r) ps pt n k))
def ahD (A : cj) : Sp := fun vs H Q _ => ∃ d r, vs = [.ref d, .str r] ∧ TP A d r H fun H' => Q .non H'
def TSh (A : cj) (d : Addr) (r : Str) (H : Hp) (R : Hp → Prop) : Prop := ∃ dx nm ps pt n k xs, nameB r = true ∧ H d = some (M9 A dx nm ps pt n k) ∧ H ps = some (.lst xs) ∧ H pt = some (.lst []) ∧ xs.length < 12 ∧
 ∀ s qD pr pw H', Fr [ps] H H' → H' ps = some (.lst (xs ++ [.ref s])) → H' s = some (oSh A qD (.str r) .non pr pw) → H' pr = some (.lst []) → H' pw = some (.lst []) → H s = none → H pr = none → H pw = none → pr ≠ pw → R H'
def TA (A : cj) (d : Addr) (r : Str) (H : Hp) (R : Hp → Prop) : Prop := ∃ c dx nm ps pt n k xs s qD u1 u2 pr pw rs, r = S (akT c) ∧ Td c ∧ (n : Int) + (szO c.2.2 : Nat) ≤ 60 ∧ H d = some (M9 A dx nm ps pt n k) ∧ H ps = some (.lst (xs ++ [.ref s])) ∧ H pt = some (.lst []) ∧ H s = some (oSh A qD u1 u2 pr pw) ∧ H pw = some (.lst []) ∧ H pr = some (.lst rs) ∧ rs.length ≤ 10 ∧ Refs rs ∧
 ∀ b Tq kp v H', Fr [d, pr] H H' → H' d = some (M9 A dx nm ps pt (n + (szO c.2.2 : Nat)) k) → H' pr = some (.lst (rs ++ [.ref b])) → H' b = some (Ti A Tq (.str c.1) (.ref kp) v) → st A c.2.1 H' kp → OSy A H' c.2.2 v → R H'
def acO (A : cj) : Sp := fun vs H Q _ => ∃ d r, vs = [.ref d, .str r] ∧ TSh A d r H fun H' => Q .non H'
def ahE (A : cj) : Sp := fun vs H Q _ => ∃ d r, vs = [.ref d, .str r] ∧ TA A d r H fun H' => Q .non H'
section
variable {P : Program} {w : World} {K : W.Frag} {mg : Str → Option Value} {base : Heap} {A : cj}
theorem Vf (T : Txt K mg A) : aB P w K mg base aL 1 A.lN A.lO ["self"] (ahA A) := by
 refine T.Eg.ok Df (fun vs H Q E h => ?_) (fun cdv A0 outer s H vs Q E hr h => ?_)
 · obtain ⟨p, dx, rfl, _⟩ := h
   rfl
 obtain ⟨p, dx, rfl, hp, q⟩ := h
 refine ⟨_, (zC (yK (pv 0) yT rfl)
     (zC (yK (pv 0) (xF zB) rfl)
     (zC (yK (pv 0) (xF zB) rfl)
     (zC (yK (pv 0) zF rfl)
     (zD (yK (pv 0) zF rfl)))))), ?_⟩
 refine ⟨_, rfl, p, _, dx, _, rfl, hp, T.aJ, T.rP, by decide, ?_⟩
 refine ⟨(by show 0 ≤ sizeLine; decide), fun q1 hq1 => ⟨_, rfl, p, _, dx, _, rfl, (by rw [zK (Ne.symm (xC hq1).1)]; exact zE), T.aJ, T.dF, (by show 1 < 1000; decide), ?_⟩⟩
 obtain ⟨e1, f1⟩ := xC hq1
 refine ⟨(by show 0 ≤ sizeLine; decide), fun q2 hq2 => ⟨_, rfl, p, _, dx, _, rfl, (by rw [zK (Ne.symm (xC hq2).1)]; exact zE), T.aJ, T.jG, (by show 2 < 1000; decide), ?_⟩⟩
 obtain ⟨e2, g2⟩ := xC hq2
 obtain ⟨e3, g3⟩ := xC g2
 obtain ⟨e4, f2⟩ := xC g3
 refine ⟨_, rfl, p, _, dx, _, rfl, zE, T.aJ, T.jh, (by show 3 < 1000; decide), ?_⟩
 refine ⟨_, rfl, p, _, dx, _, rfl, zE, T.aJ, T.kO, (by show 4 < 1000; decide), ?_⟩
 refine q q1 q2 _ (Ne.symm e3) f1 f2 (fun b o hb hn => ?_) zE ?_ ?_
 · have nb : b ≠ p := fun e => hn (by rw [e]; exact List.mem_singleton.mpr rfl)
   rw [zK nb, zK nb, zK nb, zK (zR hb f2), zK nb, zK (zR hb f1), zK nb]; exact hb
 · rw [zK e1, zK e1, zK e1, zK (Ne.symm e3), zK e1]; exact zE
 · rw [zK e2, zK e2, zK e2]; exact zE
theorem Xv (T : Txt K mg A) : aB P w K mg base aL 1 A.jb A.jc ["self", "so"] acM := by
 refine T.Ei.ok Dg (fun vs H Q E h => ?_) (fun cdv A0 outer s H vs Q E hr h => ?_)
 · obtain ⟨x, b, rfl, _⟩ := h
   rfl
 obtain ⟨x, b, rfl, rfl, q⟩ := h
 refine ⟨_, (zD (yD (lC (yP (pv 1))) (zD acs) zV)), ?_⟩
 exact ⟨_, rfl, _, rfl, bh q⟩
def zu (T : Txt K mg A) : jQ P w K mg base aL 1 A.aR "demand" := ⟨A.jb, A.jc, ["self", "so"], acM, [], [], T.aJ, T.G5, Xv T, T.Ej, .nil⟩
theorem ahF (T : Txt K mg A) : aB P w K mg base aL 26 A.fX A.fY ["self", "text"] (ahB A) := by
 have Nb := K4 (P := P) (w := w) (base := base) T
 have G_A := K3 (P := P) (w := w) (base := base) T 9
 refine T.w5.ok nq (fun vs H Q E h => ?_) (fun cdv A0 outer s H vs Q E hr h => ?_)
 · obtain ⟨d, dx, nm, ps, pt, n, k, t, rfl, _⟩ := h
   rfl
 obtain ⟨d, dx, nm, ps, pt, n, k, t, rfl, hd, g, Vg, q⟩ := h
 obtain ⟨lB, hk⟩ : ∃ k : Nat, k = 1 := ⟨_, rfl⟩
 obtain ⟨ka, hka⟩ : ∃ k : Nat, k = 10 := ⟨_, rfl⟩
 refine ⟨_, (zC (zY (i := 2) nq.nd rfl (by first | exact Or.inl rfl | exact Or.inr rfl) (zN Nb ‹hr› rfl T.LK T.LC T.Lz .nil YX (zA (pv 1) zB)))
     (zC (Dt (pv 0) (zW zZ (by rfl) T.gJ PySem.boot_len (zA (yC (CX := aL) (k := ka) ‹hr› zL (pv 2)) zB)) TY)
     (zC (yF (yH (CX := aL) (k := lB) ‹hr› zL (pv 0) (zA (yI yg (zX (pv 0) rfl) (xO rfl T.vI) (zO _)) zB)))
     (zD (zM (pv 2)))))), ?_⟩
 subst hk hka
 have fw := Wc g.1
 have es : aH (cd (S (qx t))) = wL t := fw.split (V4 t)
 have hl := g.len
 have rg := aac g.1 g.b.1 g.b.2.1
 refine ⟨_, rfl, .str (S (qx t)), rfl, .inl ⟨_, rfl, fw.fine (by show (qx t).length ≤ 100000; omega), (by rw [es]; exact fun l hl => (fw l hl).1), fun t' e u H1 s1 y1 => ?_, fun e => ?_⟩⟩
 rotate_left
 · rw [es, rg] at e; cases e
 rw [es, rg] at e
 cases e
 have hd1 := s1 _ _ hd
 obtain ⟨a2, C2, V6, Z7, M2, ey2, h2, hl2, KY, KZ⟩ := wk T G_A y1
 refine ⟨_, rfl, d, _, dx, _, _, rfl, hd1, T.aJ, T.jh, rfl, _, rfl, a2, C2, V6, Z7, M2, ey2, h2, hl2, ?_⟩
 dsimp only [tW]
 rw [KY]
 refine KZ _ _ ⟨by have := g.b.1; omega, by have := g.b.2.1; omega, fun la ys H3 s3 e3 p3 => ?_⟩
 have eys : ys.length = t.size := by rw [xA p3, uE]
 have hd3 := s3 _ _ hd1
 refine ⟨la, _, rfl, .inl (bG.of e3), _, _, rfl, rfl, dx, _, hd3, (by show 5 < 1000; decide), ?_⟩
 refine ⟨_, rfl, d, _, dx, _, zu T, rfl, zE, rfl, ?_⟩
 refine ⟨_, rfl, d, _, dx, _, _, rfl, zE, T.aJ, T.jh, rfl, _, _, rfl, rfl, _, _, rfl, decide_eq_true (by rw [eys]; exact Vg), ?_⟩
 have F3 : Fr [d] H3 (upd H3 d (M9 A dx nm ps pt (n + (ys.length : Nat)) k)) := (Fr.of (az.refl _)).upd (List.mem_singleton.mpr rfl) _
 refine ⟨_, rfl, q u _ ((Fr.of (s1.trans s3)).trans F3) ?_ ((y1.same s3).fr F3 (Mu.one hd3 (.inr ⟨_, _, _, rfl, rfl⟩)))⟩
 rw [zE, eys]; rfl
def au7 (T : Txt K mg A) : jQ P w K mg base aL 26 A.aR "read_test" := ⟨A.fX, A.fY, ["self", "text"], ahB A, [], [], T.aJ, T.Bf, ahF T, T.xf, .nil⟩
theorem ahG (T : Txt K mg A) : aB P w K mg base aL 27 A.fZ A.gb ["self", "parted"] (ahC A K) := by
 refine T.xg.ok vW (fun vs H Q E h => ?_) (fun cdv A0 outer s H vs Q E hr h => ?_)
 · obtain ⟨d, dx, nm, ps, pt, n, k, a, z, o, rfl, _⟩ := h
   rfl
 obtain ⟨d, dx, nm, ps, pt, n, k, a, z, o, rfl, ha, hd, hg, Vg, q⟩ := h
 obtain ⟨ahH, hk⟩ : ∃ k : Nat, k = 26 := ⟨_, rfl⟩
 refine ⟨_, (zD (zM (yV (zP yG (yN yY (pv 1) zF (fun _ _ => rfl)) zH (zO _)) yT (yH (CX := aL) (k := ahH) ‹hr› zL (pv 0) (zA (yN yY (pv 1) zF (fun _ _ => rfl)) zB))))), ?_⟩
 subst hk
 have a1 : qG [V.str z, .str (pW o).1, .str (pW o).2] ((1 : Nat) : Int) = some (V.str (pW o).1) := yB rfl
 have a2 : qG [V.str z, .str (pW o).1, .str (pW o).2] ((2 : Nat) : Int) = some (V.str (pW o).2) := yB rfl
 refine ⟨_, rfl, a, _, _, _, rfl, rfl, ha, a1, rfl, _, rfl, ?_⟩
 cases o with
 | none =>
   refine eqS rfl (q .non H (Fr.of (az.refl _)) ?_ rfl)
   rw [show n + ((szO none : Nat) : Int) = n by show n + 0 = n; omega]; exact hd
 | some t =>
   refine neS (by show ¬ (Str.ofString " when " = ‹""›); decide +kernel) ?_
   exact ⟨_, rfl, d, _, dx, _, au7 T, rfl, hd, rfl, _, rfl, a, _, _, _, rfl, rfl, ha, a2, d, dx, nm, ps, pt, n, k, t, rfl, hd, hg t rfl, Vg, fun v H' F h1 h2 => q v H' F h1 h2⟩
def au8 (T : Txt K mg A) : jQ P w K mg base aL 27 A.aR "read_when" := ⟨A.fZ, A.gb, ["self", "parted"], ahC A K, [], [], T.aJ, T.Bg, ahG T, T.xj, .nil⟩
theorem ab6 (T : Txt K mg A) : aB P w K mg base aL 2 A.dB A.dC ["self"] (aav A) := by
 refine T.tu.ok rQ (fun vs H Q E h => ?_) (fun cdv A0 outer s H vs Q E hr h => ?_)
 · obtain ⟨d, dx, nm, ps, pt, n, k, xs, s, rfl, _⟩ := h
   rfl
 obtain ⟨d, dx, nm, ps, pt, n, k, xs, s', rfl, hd, hps, QD, q⟩ := h
 obtain ⟨lB, hk⟩ : ∃ k : Nat, k = 1 := ⟨_, rfl⟩
 refine ⟨_, (zC (yF (yH (CX := aL) (k := lB) ‹hr› zL (pv 0) (zA (pD (yI HY (zW zZ (by rfl) T.gJ PySem.boot_len (zA (zX (pv 0) rfl) zB)) zF (zO _)) (pC (yI yG (zW zZ (by rfl) T.gJ PySem.boot_len (zA (zX (pv 0) rfl) zB)) zF (zO _)))) zB)))
     (zD (zM (yN xD (zX (pv 0) rfl) (Bs tV zF) (fun _ _ => rfl))))), ?_⟩
 subst hk
 refine ⟨_, rfl, d, _, dx, _, zu T, rfl, hd, rfl, ?_⟩
 refine ⟨_, rfl, d, _, dx, _, _, rfl, hd, T.aJ, T.dF, rfl, ps, _, rfl, .inl (bG.of hps), _, _, rfl, rfl, _, rfl, ab5 (decide_eq_true (by rw [List.length_append]; show (0 : Int) < ((xs.length + 1 : Nat) : Int); omega)) ?_⟩
 refine ⟨_, rfl, d, _, dx, _, _, rfl, hd, T.aJ, T.jG, rfl, pt, _, rfl, .inl (bG.of QD), rfl, ?_⟩
 refine ⟨_, _, rfl, (by decide), ?_⟩
 exact ⟨_, rfl, d, _, dx, _, _, rfl, hd, T.aJ, T.dF, rfl, _, rfl, ps, _, _, _, rfl, rfl, bG.of hps, QT xs (V.ref s'), q⟩
def aek (T : Txt K mg A) : jQ P w K mg base aL 2 A.aR "sheet_to_fill" := ⟨A.dB, A.dC, ["self"], aav A, [], [], T.aJ, T.uz, ab6 T, T.tD, .nil⟩
theorem ael (T : Txt K mg A) : aB P w K mg base aL 3 A.il A.ir ["self", "row"] (acN A) := by
 refine T.Cr.ok qw (fun vs H Q E h => ?_) (fun cdv A0 outer s H vs Q E hr h => ?_)
 · obtain ⟨d, dx, nm, ps, pt, n, k, xs, s, qD, u1, u2, pr, pw, rs, x, rfl, _⟩ := h
   rfl
 obtain ⟨d, dx, nm, ps, pt, n, k, xs, s', qD, u1, u2, pr, pw, rs, x, rfl, hd, hps, QD, hs, Qj, hpr, h10, q⟩ := h
 obtain ⟨lB, hk⟩ : ∃ k : Nat, k = 1 := ⟨_, rfl⟩
 obtain ⟨ahI, hk2⟩ : ∃ k : Nat, k = 2 := ⟨_, rfl⟩
 refine ⟨_, (zC (zY (i := 2) qw.nd rfl (by first | exact Or.inl rfl | exact Or.inr rfl) (yC (CX := aL) (k := ahI) ‹hr› zL (pv 0)))
     (zC (yF (yH (CX := aL) (k := lB) ‹hr› zL (pv 0) (zA (yI yG (zW zZ (by rfl) T.gJ PySem.boot_len (zA (zX (pv 2) rfl) zB)) zF (zO _)) zB)))
     (zD (yF (xJ PySem.F.plainAttrs_list PySem.F.slot_list_append PySem.F.type_list_append wF (zX (pv 2) rfl) (zA (pv 1) zB)))))), ?_⟩
 subst hk hk2
 refine ⟨_, rfl, d, _, dx, _, aek T, rfl, hd, rfl, d, dx, nm, ps, pt, n, k, xs, s', rfl, hd, hps, QD, ?_⟩
 refine ⟨_, rfl, d, _, dx, _, zu T, rfl, hd, rfl, ?_⟩
 refine ⟨_, rfl, s', _, qD, _, _, rfl, hs, T.eE, T.mU, rfl, pw, _, rfl, .inl (bG.of Qj), rfl, ?_⟩
 refine ⟨_, _, rfl, (by decide), ?_⟩
 exact ⟨_, rfl, s', _, qD, _, _, rfl, hs, T.eE, T.jo, rfl, Or.inl ⟨rfl, _, bG.of hpr⟩, _, rfl, pr, _, _, rfl, rfl, hpr, Nat.lt_of_lt_of_le (by omega : rs.length < 100) (zJ (m := 100) (Nat.le_refl _)), q⟩
def ahJ (T : Txt K mg A) : jQ P w K mg base aL 3 A.aR "put_row" := ⟨A.il, A.ir, ["self", "row"], acN A, [], [], T.aJ, T.Eo, ael T, T.Cu, .nil⟩
theorem ahK (T : Txt K mg A) : aB P w K mg base aL 2 A.fK A.fL ["self", "rest"] (ahD A) := by
 have eN := mz (P := P) (w := w) (base := base) T
 refine T.vB.ok uT (fun vs H Q E h => ?_) (fun cdv A0 outer s H vs Q E hr h => ?_)
 · obtain ⟨d, r, rfl, _⟩ := h
   rfl
 obtain ⟨d, r, rfl, dx, nm, ps, pt, n, k, hd, hn, q⟩ := h
 obtain ⟨lB, hk⟩ : ∃ k : Nat, k = 1 := ⟨_, rfl⟩
 refine ⟨_, (zC (yF (yH (CX := aL) (k := lB) ‹hr› zL (pv 0) (zA (zN eN ‹hr› rfl T.jY T.jX T.jW .nil zL (zA (pv 1) zB)) zB)))
     (zD (yK (pv 0) (pv 1) rfl))), ?_⟩
 subst hk
 refine ⟨_, rfl, d, _, dx, _, zu T, rfl, hd, rfl, _, rfl, _, rfl, Bp T ((yU hn).mono (by decide)), fun H1 s1 => ?_⟩
 refine ⟨_, _, rfl, hn, ?_⟩
 exact ⟨_, rfl, _, rfl, d, _, dx, _, rfl, s1 _ _ hd, T.aJ, T.rP, (by show 5 < 1000; decide), q _ s1⟩
def au9 (T : Txt K mg A) : jQ P w K mg base aL 2 A.aR "take_paper" := ⟨A.fK, A.fL, ["self", "rest"], ahD A, [], [], T.aJ, T.xr, ahK T, T.vC, .nil⟩
theorem aem (T : Txt K mg A) : aB P w K mg base aL 3 A.fM A.fO ["self", "rest"] (acO A) := by
 have eN := mz (P := P) (w := w) (base := base) T
 have Fd := M6 (P := P) (w := w) (base := base) T
 refine T.vD.ok ik (fun vs H Q E h => ?_) (fun cdv A0 outer s H vs Q E hr h => ?_)
 · obtain ⟨d, r, rfl, _⟩ := h
   rfl
 obtain ⟨d, z, rfl, dx, nm, ps, pt, n, k, xs, hz, hd, hps, QD, h12, q⟩ := h
 obtain ⟨lB, hk⟩ : ∃ k : Nat, k = 1 := ⟨_, rfl⟩
 refine ⟨_, (zC (zY (i := 2) ik.nd rfl (by first | exact Or.inl rfl | exact Or.inr rfl) (xJ PySem.F.plainAttrs_str PySem.F.slot_str_partition PySem.F.type_str_partition oN (pv 1) (zA zH zB)))
     (zC (zY (i := 3) ik.nd rfl (by first | exact Or.inl rfl | exact Or.inr rfl) (yI HW (yN yY (pv 2) zF (fun _ _ => rfl)) zH (zO _)))
     (zC (yF (yH (CX := aL) (k := lB) ‹hr› zL (pv 0) (zA (pD (zN eN ‹hr› rfl T.jY T.jX T.jW .nil zL (zA (yN yY (pv 2) zF (fun _ _ => rfl)) zB)) (pC (agg (zN eN ‹hr› rfl T.jY T.jX T.jW .nil zL (zA (yN yY (pv 2) zF (fun _ _ => rfl)) zB)) (pC (ac1 (pv 3)))))) zB)))
     (zC (yF (yH (CX := aL) (k := lB) ‹hr› zL (pv 0) (zA (pD (yI yG (zW zZ (by rfl) T.gJ PySem.boot_len (zA (zX (pv 0) rfl) zB)) zF (zO _)) (pC (yI HX (zW zZ (by rfl) T.gJ PySem.boot_len (zA (zX (pv 0) rfl) zB)) (xO rfl T.Mm) (zO _)))) zB)))
     (zD (yF (xJ PySem.F.plainAttrs_list PySem.F.slot_list_append PySem.F.type_list_append wF (zX (pv 0) rfl) (zA (xG T.ZG Fd ‹hr› rfl T.abG T.Ea .nil zL (zA (yN yY (pv 2) zF (fun _ _ => rfl)) (zA (yV (yP (pv 3)) (yN yY (pv 2) zF (fun _ _ => rfl)) yT) (zA (xF zB) (zA (xF zB) zB))))) zB)))))))), ?_⟩
 subst hk
 have fz : bA 1000 z := (yU hz).mono (by decide)
 refine ⟨_, rfl, rfl, _, _, rfl, rfl, (by symm), Nat.le_trans fz.1 (by decide), fun p hp => ?_⟩
 rw [ahx hz]
 have s1 := zS hp (.tup [.str z, .str ‹""›, .str ‹""›])
 have hp1 : (upd H p (.tup [.str z, .str ‹""›, .str ‹""›])) p = some (.tup [.str z, .str ‹""›, .str ‹""›]) := zE
 dsimp only
 generalize upd H p (.tup [.str z, .str ‹""›, .str ‹""›]) = H1 at s1 hp1
 have a0 : qG [V.str z, .str ‹""›, .str ‹""›] ((0 : Nat) : Int) = some (V.str z) := yB rfl
 have a1 : qG [V.str z, .str ‹""›, .str ‹""›] ((1 : Nat) : Int) = some (V.str ‹""›) := yB rfl
 have a2 : qG [V.str z, .str ‹""›, .str ‹""›] ((2 : Nat) : Int) = some (V.str ‹""›) := yB rfl
 refine ⟨_, rfl, p, _, _, _, rfl, rfl, o8.of hp1, a1, rfl, ?_⟩
 refine ⟨_, rfl, d, _, dx, _, zu T, rfl, s1 _ _ hd, rfl, ?_⟩
 refine ⟨_, rfl, p, _, _, _, rfl, rfl, o8.of hp1, a0, _, rfl, Bp T fz, fun H2 s2 => ?_⟩
 have s12 := s1.trans s2
 have hp2 := s2 _ _ hp1
 refine ⟨_, rfl, ab5 hz ⟨_, rfl, p, _, _, _, rfl, rfl, o8.of hp2, a2, _, rfl, Bp T ⟨by symm, by symm⟩, fun H3 s3 => ?_⟩⟩
 have s13 := s12.trans s3
 have hp3 := s3 _ _ hp2
 refine ⟨_, rfl, Hq (by symm) ⟨_, rfl, _, rfl, _, _, rfl, (by symm), ?_⟩⟩
 have aen := s13 _ _ hps
 refine ⟨_, rfl, d, _, dx, _, zu T, rfl, s13 _ _ hd, rfl, ?_⟩
 refine ⟨_, rfl, d, _, dx, _, _, rfl, s13 _ _ hd, T.aJ, T.jG, rfl, pt, _, rfl, .inl (bG.of (s13 _ _ QD)), rfl, _, rfl, ab5 (by symm) ?_⟩
 refine ⟨_, rfl, d, _, dx, _, _, rfl, s13 _ _ hd, T.aJ, T.dF, rfl, ps, _, rfl, .inl (bG.of aen), _, _, rfl, rfl, ?_⟩
 refine ⟨_, _, rfl, decide_eq_true (by omega), ?_⟩
 refine ⟨_, rfl, d, _, dx, _, _, rfl, s13 _ _ hd, T.aJ, T.dF, rfl, Or.inl ⟨rfl, _, bG.of aen⟩, ?_⟩
 refine ⟨_, rfl, p, _, _, _, rfl, rfl, o8.of hp3, a0, _, rfl, _, rfl, Hq (by symm) ⟨(by show 0 ≤ sizeLine; decide), fun r1 hr1 => ⟨(by show 0 ≤ sizeLine; decide), fun r2 hr2 => ?_⟩⟩⟩
 have s4 := zS hr1 (.lst [])
 have s5 := zS hr2 (.lst [])
 have s15 := s13.trans (s4.trans s5)
 have ahL := s5 _ _ (zE (H := H3) (a := r1) (o := .lst []))
 have hr2' := zE (H := upd H3 r1 (.lst [])) (a := r2) (o := .lst [])
 have aaw := (s4.trans s5) _ _ aen
 generalize upd (upd H3 r1 (.lst [])) r2 (.lst []) = H5 at s15 ahL hr2' aaw
 intro x qD nx nd ne
 have s6 := yQ nx nd (.ins A.mQ qD [])
 refine ⟨x, qD, _, _, r1, r2, [], [], rfl, zE, s6 _ _ ahL, s6 _ _ hr2', fun q1 q2 H' n12 f1 f2 F hx hq1 hq2 => ⟨rfl, ?_⟩⟩
 have nps : ps ≠ x := zR aaw nx
 have Xw : H' ps = some (.lst xs) := F _ _ (s6 _ _ aaw) (ni1 nps)
 refine ⟨ps, _, _, rfl, rfl, Xw, Nat.lt_of_lt_of_le (by omega : xs.length < 100) (zJ (m := 100) (Nat.le_refl _)), ?_⟩
 have hH0 : ∀ {b : Addr}, H5 b = none → H b = none := fun h => same_none s15 h
 have g1 := same_none s6 f1
 have g2 := same_none s6 f2
 have m1 : q1 ≠ ps := fun e => by rw [e, aaw] at g1; cases g1
 have m2 : q2 ≠ ps := fun e => by rw [e, aaw] at g2; cases g2
 refine q x qD q1 q2 _ (fun b o hb hn => ?_) zE ?_ ?_ ?_ (hH0 nx) (hH0 g1) (hH0 g2) n12
 · have nb : b ≠ ps := fun e => hn (by rw [e]; exact List.mem_singleton.mpr rfl)
   rw [zK nb]
   have h5 := s15 _ _ hb
   exact F _ _ (s6 _ _ h5) (ni1 (zR h5 nx))
 · rw [zK (Ne.symm nps)]; exact hx
 · rw [zK m1]; exact hq1
 · rw [zK m2]; exact hq2
def ahM (T : Txt K mg A) : jQ P w K mg base aL 3 A.aR "take_sheet" := ⟨A.fM, A.fO, ["self", "rest"], acO A, [], [], T.aJ, T.xx, aem T, T.vG, .nil⟩
theorem ahN (T : Txt K mg A) : aB P w K mg base aL 28 A.gQ A.gR ["self", "rest"] (ahE A) := by
 have eN := mz (P := P) (w := w) (base := base) T
 have La := Tn (P := P) (w := w) (base := base) T
 have Xx := adS (P := P) (w := w) (base := base) T
 refine T.Av.ok ji (fun vs H Q E h => ?_) (fun cdv A0 outer s H vs Q E hr h => ?_)
 · obtain ⟨d, r, rfl, _⟩ := h
   rfl
 obtain ⟨d, r, rfl, c, dx, nm, ps, pt, n, k, xs, s', qD, u1, u2, pr, pw, rs, rfl, g, Vg, hd, hps, QD, hs, Qj, hpr, h10, hrf, q⟩ := h
 obtain ⟨lB, hk⟩ : ∃ k : Nat, k = 1 := ⟨_, rfl⟩
 obtain ⟨ahO, hk2⟩ : ∃ k : Nat, k = 3 := ⟨_, rfl⟩
 obtain ⟨ahP, hk3⟩ : ∃ k : Nat, k = 27 := ⟨_, rfl⟩
 refine ⟨_, (zC (zY (i := 2) ji.nd rfl (by first | exact Or.inl rfl | exact Or.inr rfl) (xJ PySem.F.plainAttrs_str PySem.F.slot_str_partition PySem.F.type_str_partition oN (pv 1) (zA zH zB)))
     (zC (zY (i := 3) ji.nd rfl (by first | exact Or.inl rfl | exact Or.inr rfl) (xJ PySem.F.plainAttrs_str PySem.F.slot_str_partition PySem.F.type_str_partition oN (yN yY (pv 2) zF (fun _ _ => rfl)) (zA zH zB)))
     (zC (yF (yH (CX := aL) (k := lB) ‹hr› zL (pv 0) (zA (zN eN ‹hr› rfl T.jY T.jX T.jW .nil zL (zA (yN yY (pv 3) zF (fun _ _ => rfl)) zB)) zB)))
     (zD (yF (yH (CX := aL) (k := ahO) ‹hr› zL (pv 0) (zA (xG T.adM La ‹hr› rfl T.agU T.JC .nil zL (zA (yN yY (pv 3) zF (fun _ _ => rfl)) (zA (zN Xx ‹hr› rfl T.W8 T.W7 T.W6 .nil YX (zA (yN yY (pv 3) zF (fun _ _ => rfl)) zB)) (zA (yH (CX := aL) (k := ahP) ‹hr› zL (pv 0) (zA (pv 2) zB)) zB)))) zB))))))), ?_⟩
 subst hk hk2 hk3
 have la := aaj g
 have lh := aai g
 refine ⟨_, rfl, rfl, _, _, rfl, rfl, (by symm), (by rw [zU]; omega), fun p hp => ?_⟩
 rw [ahu g]
 have s1 := zS hp (.tup [.str (S (hdL c)), .str (pW c.2.2).1, .str (pW c.2.2).2])
 have hp1 : (upd H p (.tup [.str (S (hdL c)), .str (pW c.2.2).1, .str (pW c.2.2).2])) p = some (.tup [.str (S (hdL c)), .str (pW c.2.2).1, .str (pW c.2.2).2]) := zE
 dsimp only
 generalize upd H p (.tup [.str (S (hdL c)), .str (pW c.2.2).1, .str (pW c.2.2).2]) = H1 at s1 hp1
 have a0 : qG [V.str (S (hdL c)), .str (pW c.2.2).1, .str (pW c.2.2).2] ((0 : Nat) : Int) = some (V.str (S (hdL c))) := yB rfl
 refine ⟨_, rfl, p, _, _, _, rfl, rfl, o8.of hp1, a0, rfl, _, _, rfl, rfl, (by symm), (by rw [zU]; omega), fun p2 hp2 => ?_⟩
 rw [ahv g]
 have s2 := zS hp2 (.tup [.str c.1, .str ‹" "›, .str (S (oF c.2.1))])
 have hq2 : (upd H1 p2 (.tup [.str c.1, .str ‹" "›, .str (S (oF c.2.1))])) p2 = some (.tup [.str c.1, .str ‹" "›, .str (S (oF c.2.1))]) := zE
 dsimp only
 generalize upd H1 p2 (.tup [.str c.1, .str ‹" "›, .str (S (oF c.2.1))]) = H2 at s2 hq2
 have b0 : qG [V.str c.1, .str ‹" "›, .str (S (oF c.2.1))] ((0 : Nat) : Int) = some (V.str c.1) := yB rfl
 have b2 : qG [V.str c.1, .str ‹" "›, .str (S (oF c.2.1))] ((2 : Nat) : Int) = some (V.str (S (oF c.2.1))) := yB rfl
 have s12 := s1.trans s2
 refine ⟨_, rfl, d, _, dx, _, zu T, rfl, s12 _ _ hd, rfl, ?_⟩
 refine ⟨_, rfl, p2, _, _, _, rfl, rfl, o8.of hq2, b0, _, rfl, Bp T ((yU g.1).mono (by decide)), fun H3 s3 => ?_⟩
 have s13 := s12.trans s3
 refine ⟨_, _, rfl, g.1, ?_⟩
 refine ⟨_, rfl, d, _, dx, _, ahJ T, rfl, s13 _ _ hd, rfl, ?_⟩
 refine ⟨_, rfl, p2, _, _, _, rfl, rfl, o8.of (s3 _ _ hq2), b0, ?_⟩
 have tk := Xo g.2.1
 refine ⟨_, rfl, p2, _, _, _, rfl, rfl, o8.of (s3 _ _ hq2), b2, _, rfl, .inl ⟨_, rfl, Tc g.2.1, fun ku' e kp H4 s4 hkp => ?_, fun e => ?_⟩⟩
 rotate_left
 · rw [cU, tk] at e; cases e
 rw [cU, tk] at e
 have e : c.2.1 = ku' := Option.some.inj e
 subst e
 have s14 := s13.trans s4
 have hd4 := s14 _ _ hd
 refine ⟨_, rfl, d, _, dx, _, au8 T, rfl, hd4, rfl, _, rfl, d, dx, nm, ps, pt, n, k, p, _, c.2.2, rfl, o8.of ((s2.trans (s3.trans s4)) _ _ hp1), hd4, g.2.2, Vg, fun v H5 F5 hd5 hv => ?_⟩
 intro x Tq nx nd ne
 refine ⟨x, Tq, _, _, _, rfl, zE, rfl, ?_⟩
 rw [yM]
 have s6 := yQ nx nd (Ti A Tq (.str c.1) (.ref kp) v)
 have F6 : Fr [d] H (upd (upd H5 Tq (.own x)) x (Ti A Tq (.str c.1) (.ref kp) v)) := ((Fr.of s14).trans F5).trans (Fr.of s6)
 have dl : ∀ {b ys}, H b = some (.lst ys) → b ≠ d := fun h => yf h hd (by intro z; cases z)
 have nsd : s' ≠ d := aeb hs hd (by show (5 : Nat) ≠ 4; decide)
 have ab7 := F6 _ _ hpr (ni1 (dl hpr))
 refine ⟨d, dx, nm, ps, pt, _, k, xs, s', qD, u1, u2, pr, pw, rs, _, rfl, s6 _ _ hd5, F6 _ _ hps (ni1 (dl hps)), F6 _ _ QD (ni1 (dl QD)), F6 _ _ hs (ni1 nsd), F6 _ _ Qj (ni1 (dl Qj)), ab7, h10, ?_⟩
 have nxr : x ≠ pr := fun e => by rw [← e, zE] at ab7; cases ab7
 have mu5 : Mu [d] H4 := Mu.one hd4 (.inr ⟨_, _, _, rfl, rfl⟩)
 have hk6 := (dI.Y.st.fr F5 mu5 g.2.1.good hkp).same s6
 have F7 : Fr [pr] (upd (upd H5 Tq (.own x)) x (Ti A Tq (.str c.1) (.ref kp) v)) (upd (upd (upd H5 Tq (.own x)) x (Ti A Tq (.str c.1) (.ref kp) v)) pr (.lst (rs ++ [.ref x]))) := (Fr.of (az.refl _)).upd (List.mem_singleton.mpr rfl) _
 have mu7 : Mu [pr] (upd (upd H5 Tq (.own x)) x (Ti A Tq (.str c.1) (.ref kp) v)) := Mu.one ab7 (.inl ⟨_, rfl, hrf⟩)
 refine q x Tq kp v _ (((F6.more (M' := [d, pr]) (fun m hm => by rw [List.mem_singleton.mp hm]; exact List.mem_cons_self)).upd (List.mem_cons_of_mem _ (List.mem_singleton.mpr rfl)) _)) ?_ zE ?_ (dI.Y.st.fr F7 mu7 g.2.1.good hk6) ((hv.fr (Fr.of s6) Qt).fr F7 mu7)
 · rw [zK (Ne.symm (dl hpr))]; exact s6 _ _ hd5
 · rw [zK nxr]; exact zE
def avd (T : Txt K mg A) : jQ P w K mg base aL 28 A.aR "take_ask" := ⟨A.gQ, A.gR, ["self", "rest"], ahE A, [], [], T.aJ, T.CN, ahN T, T.Aw, .nil⟩
end
def aax (A : cj) (d : Addr) (f r : Str) (H : Hp) (R : Hp → Prop) : Prop := (f = "paper" ∧ TP A d r H R) ∨ (f = "sheet" ∧ TSh A d r H R) ∨ (f = "ask" ∧ TA A d r H R)
def acP (A : cj) : Sp := fun vs H Q _ => ∃ d dx nm ps pt n k f r, vs = [.ref d, .str f, .str r] ∧ H d = some (M9 A dx nm ps pt n k) ∧ k < 100 ∧ (f = "paper" ↔ k = 0) ∧ aax A d f r H fun H' => Q .non H'
theorem aax.imp {A : cj} {d : Addr} {f r : Str} {H : Hp} {R R' : Hp → Prop} (i : ∀ H', R H' → R' H') (h : aax A d f r H R) : aax A d f r H R' := by
 rcases h with ⟨e, h⟩ | ⟨e, h⟩ | ⟨e, h⟩
 · obtain ⟨dx, nm, ps, pt, n, k, h1, h2, h3⟩ := h
   exact .inl ⟨e, dx, nm, ps, pt, n, k, h1, h2, fun H' s => i _ (h3 H' s)⟩
 · obtain ⟨dx, nm, ps, pt, n, k, xs, h1, h4, h5, h6, h7, h8⟩ := h
   exact .inr (.inl ⟨e, dx, nm, ps, pt, n, k, xs, h1, h4, h5, h6, h7, fun s qD pr pw H' a1 a2 a3 a4 a5 a6 a7 a8 a9 => i _ (h8 s qD pr pw H' a1 a2 a3 a4 a5 a6 a7 a8 a9)⟩)
 · obtain ⟨c, dx, nm, ps, pt, n, k, xs, s, qD, u1, u2, pr, pw, rs, h1, h2, h3, h4, h5, h6, h7, h8, h9, h10, h11, h12⟩ := h
   exact .inr (.inr ⟨e, c, dx, nm, ps, pt, n, k, xs, s, qD, u1, u2, pr, pw, rs, h1, h2, h3, h4, h5, h6, h7, h8, h9, h10, h11, fun b Tq kp v H' a1 a2 a3 a4 a5 a6 => i _ (h12 b Tq kp v H' a1 a2 a3 a4 a5 a6)⟩)
theorem ahQ {f : Str} {k : Int} (h : f = "paper" ↔ k = 0) : decide (V.bl (decide (V.str f = V.str ‹"paper"›)) = V.bl (decide (V.int k = V.int 0))) = true := by
 refine decide_eq_true ?_
 congr 1
 rw [Bool.eq_iff_iff, decide_eq_true_iff, decide_eq_true_iff]
 exact ⟨fun e => congrArg V.int (h.mp (V.str.inj e)), fun e => congrArg V.str (h.mpr (V.int.inj e))⟩
def Wi (rs : List Ak) : Nat := (rs.map fun c => szO c.2.2).sum
theorem Wj (rs : List Ak) (c : Ak) : Wi (rs ++ [c]) = Wi rs + szO c.2.2 := by unfold Wi; rw [List.map_append, List.sum_append]; simp
abbrev OQ := Option (Str × List Ak)
def szQ : OQ → Nat
 | none => 0
 | some q => Wi q.2
def Last (A : cj) (Z : Addr → Prop) (H : Hp) (xs : List V) (o : OQ) : Prop := (xs = [] ∧ o = none) ∨ ∃ y rs a dx pr pw ys, xs = [.ref a] ∧ o = some (y, rs) ∧ H a = some (oSh A dx (.str y) .non pr pw) ∧ Z pr ∧ pr ≠ pw ∧ H pr = some (.lst ys) ∧ H pw = some (.lst []) ∧ Paired (XN A H) ys rs
abbrev Stt := V × Nat × OQ
def Zd (H0 : Hp) (d ps pt : Addr) (b : Addr) : Prop := b ≠ d ∧ b ≠ ps ∧ b ≠ pt ∧ H0 b = none
def Dst (A : cj) (H0 : Hp) (d : Addr) (st : Stt) (H : Hp) : Prop := ∃ dx ps pt xs, az H0 H ∧ H0 d = none ∧ H0 ps = none ∧ ps ≠ pt ∧ H d = some (M9 A dx st.1 ps pt (szQ st.2.2 : Nat) (st.2.1 : Nat)) ∧ H ps = some (.lst xs) ∧ H pt = some (.lst []) ∧ Last A (Zd H0 d ps pt) H xs st.2.2
theorem Dst.same {A : cj} {H0 H H' : Hp} {d : Addr} {st : Stt} (f : az H H') (h : Dst A H0 d st H) : Dst A H0 d st H' := by
 obtain ⟨dx, ps, pt, xs, h1, h2, h3, h4, h5, h6, h7, h8⟩ := h
 refine ⟨dx, ps, pt, xs, h1.trans f, h2, h3, h4, f _ _ h5, f _ _ h6, f _ _ h7, ?_⟩
 rcases h8 with h | ⟨y, rs, a, dx, pr, pw, ys, e1, e2, k1, k2, k4, k5, k6, k7⟩
 · exact .inl h
 · exact .inr ⟨y, rs, a, dx, pr, pw, ys, e1, e2, f _ _ k1, k2, k4, f _ _ k5, f _ _ k6, yO (fun _ _ k => k.same f) k7⟩
inductive Step : Stt → Str → List Nat → Stt → Prop
 | paper {z : Str} : nameB z = true → Step (.non, 0, none) "paper" (cd z) (.str z, 1, none)
 | sheet {v : V} {k : Nat} {y : Str} : 0 < k → k < 100 → nameB y = true → Step (v, k, none) "sheet" (cd y) (v, k + 1, some (y, []))
 | ask {v : V} {k : Nat} {y : Str} {rs : List Ak} {c : Ak} : 0 < k → k < 100 → Td c → rs.length ≤ 10 → Wi (rs ++ [c]) ≤ 60 → Step (v, k, some (y, rs)) "ask" (akT c) (v, k + 1, some (y, rs ++ [c]))
theorem Step.f {st st' : Stt} {f : Str} {r : List Nat} (h : Step st f r st') : 32 ∉ cd f ∧ (S (ln f r)).length ≤ 100000 ∧ st.2.1 < 100 ∧ (f = "paper" ↔ ((st.2.1 : Nat) : Int) = 0) := by
 have nl : ∀ {z g : Str}, nameB z = true → (cd g).length ≤ 6 → (S (ln g (cd z))).length ≤ 100000 := fun {z g} hz hg => by
   rw [zU]; unfold ln; rw [List.length_append, List.length_cons]; have := (Te hz).1; omega
 cases h with
 | paper hz => exact ⟨by symm, nl hz (by symm), by decide, fun _ => rfl, fun _ => rfl⟩
 | sheet h0 h1 hz =>
   rename_i v k y
   exact ⟨by symm, nl hz (by symm), h1, fun e => absurd e (by symm), fun e => by have e : ((k : Nat) : Int) = 0 := e; omega⟩
 | ask h0 h1 hc h2 h3 =>
   rename_i v k y rs c
   have l := (acL hc).1
   exact ⟨by symm, by rw [zU]; exact Nat.le_trans l (by decide), h1, fun e => absurd e (by symm), fun e => by have e : ((k : Nat) : Int) = 0 := e; omega⟩
def Fin (A : cj) (H0 : Hp) (d : Addr) (st : Stt) (H2 : Hp) : Prop := ∃ dx nm ps pt n k, H2 d = some (M9 A dx nm ps pt n k) ∧ Dst A H0 d st (upd H2 d (M9 A dx nm ps pt n (k + 1)))
theorem ab9 {A : cj} {H0 H : Hp} {d : Addr} {st st' : Stt} {f : Str} {r : List Nat} (h : Step st f r st') (hD : Dst A H0 d st H) : aax A d f (S r) H (Fin A H0 d st') := by
 obtain ⟨dx, ps, pt, xs, sH, d0, ps0, nst, hd, hps, QD, hl⟩ := hD
 have aca : ps ≠ d := yf hps hd (by intro z; cases z)
 have aep : pt ≠ d := yf QD hd (by intro z; cases z)
 have md : ∀ {M : List Addr}, Mu M H → Mu (d :: M) H := fun m => Mu.cons hd (.inr ⟨_, _, _, rfl, rfl⟩) m
 cases h with
 | paper hz =>
   rcases hl with ⟨rfl, _⟩ | ⟨_, _, _, _, _, _, _, _, e, _⟩
   · refine .inl ⟨rfl, dx, _, ps, pt, _, _, hd, by rw [d8]; exact hz, fun H' s => ⟨dx, _, ps, pt, _, _, zE, dx, ps, pt, [], fun b o hb => ?_, d0, ps0, nst, ?_, ?_, ?_, .inl ⟨rfl, rfl⟩⟩⟩
     · rw [yM, zK (zR hb d0)]; exact (sH.trans s) _ _ hb
     · rw [zE, d8]; rfl
     · rw [yM, zK aca]; exact s _ _ hps
     · rw [yM, zK aep]; exact s _ _ QD
   · cases e
 | sheet h0 h1 hz =>
   rename_i v k y
   rcases hl with ⟨rfl, _⟩ | ⟨_, _, _, _, _, _, _, _, e, _⟩
   rotate_left
   · cases e
   rw [d8]
   refine .inr (.inl ⟨rfl, dx, _, ps, pt, _, _, [], hz, hd, hps, QD, by decide, fun s qD pr pw H' F Xw hs' aeq avf ns npr npw n12 => ?_⟩)
   have hd' := F _ _ hd (ni1 (Ne.symm aca))
   have nz : ∀ {b : Addr}, H b = none → Zd H0 d ps pt b := fun {b} hb => ⟨(fun e => by rw [e, hd] at hb; cases hb), (fun e => by rw [e, hps] at hb; cases hb), (fun e => by rw [e, QD] at hb; cases hb), same_none sH hb⟩
   have nsd : s ≠ d := fun e => by rw [e, hd] at ns; cases ns
   have F2 : Fr [d, ps] H (upd H' d (M9 A dx v ps pt (szQ none : Nat) ((k : Nat) + 1))) := (F.more (fun m hm => List.mem_cons_of_mem _ hm)).upd List.mem_cons_self _
   refine ⟨dx, _, ps, pt, _, _, hd', dx, ps, pt, [.ref s], fun b o hb => F2 _ _ (sH _ _ hb) (ni2 (zR hb d0) (zR hb ps0)), d0, ps0, nst, ?_, ?_, ?_, .inr ⟨y, [], s, qD, pr, pw, [], rfl, rfl, ?_, nz npr, n12, ?_, ?_, .nil⟩⟩
   · rw [zE]; rfl
   · rw [zK aca]; exact Xw
   · exact F2 _ _ QD (ni2 aep (Ne.symm nst))
   · rw [zK nsd]; exact hs'
   · rw [zK (nz npr).1]; exact aeq
   · rw [zK (nz npw).1]; exact avf
 | ask h0 h1 hc h10 Vg =>
   rename_i v k y rs c
   rcases hl with ⟨_, e'⟩ | ⟨y', rs', a, qD, pr, pw, ys, rfl, e', hs, zr, nrw, hpr, Qj, hys⟩
   · cases e'
   cases e'
   rw [Wj] at Vg
   have hd : H d = some (M9 A dx v ps pt ((Wi rs : Nat) : Int) (k : Nat)) := hd
   have hrf := refs hys
   refine .inr (.inr ⟨rfl, c, dx, _, ps, pt, _, _, [], a, qD, _, _, pr, pw, ys, rfl, hc, by omega, hd, hps, QD, hs, Qj, hpr, by rw [xA hys]; exact h10, hrf, fun b Tq kp u H' F hd' aeq hb' hk' hu' => ?_⟩)
   have F2 : Fr [d, pr] H (upd H' d (M9 A dx v ps pt (((Wi rs : Nat) : Int) + (szO c.2.2 : Nat)) ((k : Nat) + 1))) := F.upd List.mem_cons_self _
   have mu := md (Mu.one hpr (.inl ⟨_, rfl, hrf⟩))
   have F3 : Fr [d] H' (upd H' d (M9 A dx v ps pt (((Wi rs : Nat) : Int) + (szO c.2.2 : Nat)) ((k : Nat) + 1))) := (Fr.of (az.refl _)).upd (List.mem_singleton.mpr rfl) _
   have mu3 : Mu [d] H' := Mu.one hd' (.inr ⟨_, _, _, rfl, rfl⟩)
   have avj : pw ≠ d := yf Qj hd (by intro z; cases z)
   refine ⟨dx, _, ps, pt, _, _, hd', dx, ps, pt, [.ref a], fun b o hb => F2 _ _ (sH _ _ hb) (ni2 (zR hb d0) (zR hb zr.2.2.2)), d0, ps0, nst, ?_, F2 _ _ hps (ni2 aca (Ne.symm zr.2.1)), F2 _ _ QD (ni2 aep (Ne.symm zr.2.2.1)), .inr ⟨y, rs ++ [c], a, qD, pr, pw, ys ++ [.ref b], rfl, rfl, F2.ins mu hs (by show (4 : Nat) ≠ 5; decide), zr, nrw, ?_, F2 _ _ Qj (ni2 avj (Ne.symm nrw)), ?_⟩⟩
   · rw [zE]
     have e3 : ((szQ (some (y, rs ++ [c])) : Nat) : Int) = ((Wi rs : Nat) : Int) + ((szO c.2.2 : Nat) : Int) := by show ((Wi (rs ++ [c]) : Nat) : Int) = _; rw [Wj]; omega
     rw [e3]; rfl
   · rw [zK zr.1]; exact aeq
   · exact Bo (yO (fun _ _ k => k.fr F2 mu) hys) (.cons ⟨b, Tq, kp, u, rfl, F3.ins mu3 hb' (by show (3 : Nat) ≠ 5; decide), dI.Y.st.fr F3 mu3 hc.2.1.good hk', hc.2.1.good, hu'.fr F3 mu3⟩ .nil)
def aay (A : cj) : Sp := fun vs H Q _ => ∃ d f r H0 st st', vs = [.ref d, .str (S (ln f r))] ∧ Step st f r st' ∧ Dst A H0 d st H ∧ ∀ H', Dst A H0 d st' H' → Q .non H'
def Go : Stt → List (List Nat) → Stt → Prop
 | a, [], b => a = b
 | a, l :: r, b => ∃ f x c, l = ln f x ∧ Step a f x c ∧ Go c r b
theorem goA {v : V} {y : Str} : ∀ {c2 c1 : List Ak} {k : Nat}, 0 < k → k + c2.length ≤ 100 → (∀ c ∈ c2, Td c) → c1.length + c2.length ≤ 10 → Wi (c1 ++ c2) ≤ 60 → Go (v, k, some (y, c1)) (c2.map Oc) (v, k + c2.length, some (y, c1 ++ c2))
 | [], c1, k, _, _, _, _, _ => by
   show _ = _
   rw [List.append_nil]; rfl
 | c :: r, c1, k, h0, h1, hc, h10, Vg => by
   rw [List.length_cons] at h1 h10
   have e1 : c1 ++ c :: r = (c1 ++ [c]) ++ r := by simp
   refine ⟨"ask", akT c, _, rfl, .ask (c := c) h0 (by omega) (hc c List.mem_cons_self) (by omega) ?_, ?_⟩
   · refine Nat.le_trans ?_ Vg
     rw [e1]
     unfold Wi
     rw [List.map_append (l₂ := r), List.sum_append]
     omega
   · rw [e1] at Vg ⊢
     rw [List.length_cons, show k + (r.length + 1) = (k + 1) + r.length by omega]
     exact goA (by omega) (by omega) (fun x hx => hc x (List.mem_cons_of_mem _ hx)) (by rw [List.length_append]; show c1.length + 1 + r.length ≤ 10; omega) Vg
theorem aaz : ∀ {rs : List Ak}, (∀ c ∈ rs, Td c) → Wi rs ≤ 8 * rs.length
 | [], _ => Nat.zero_le _
 | c :: r, h => by
   have a := aaz (rs := r) fun x hx => h x (List.mem_cons_of_mem _ hx)
   have b : szO c.2.2 ≤ 8 := by
     cases e : c.2.2 with
     | none => exact Nat.zero_le _
     | some t => exact ((h c List.mem_cons_self).2.2 t e).2.2
   unfold Wi at a ⊢
   rw [List.map_cons, List.sum_cons, List.length_cons]; omega
theorem goP {z y : Str} {rs : List Ak} (g : PpG z y rs) : Go (.non, 0, none) (cR z y rs) (.str z, 2 + rs.length, some (y, rs)) :=
 ⟨"paper", cd z, _, rfl, .paper g.1, "sheet", cd y, _, rfl, .sheet (by decide) (by decide) g.2.1, goA (c1 := []) (by decide) (by have := g.2.2.2; omega) g.2.2.1 (by have := g.2.2.2; show 0 + rs.length ≤ 10; omega) (by have := g.2.2.2; have := aaz g.2.2.1; rw [List.nil_append]; omega)⟩
def aer (A : cj) : Sp := fun vs H Q _ => ∃ z y rs, vs = [.str (S (aF [10] (cR z y rs)))] ∧ PpG z y rs ∧ ∀ x H', az H H' → aao A H' x z y rs → Q x H'
section
variable {P : Program} {w : World} {K : W.Frag} {mg : Str → Option Value} {base : Heap} {A : cj}
theorem aes (T : Txt K mg A) : aB P w K mg base aL 29 A.gU A.gW ["self", "first", "rest"] (acP A) := by
 refine T.Ax.ok yd (fun vs H Q E h => ?_) (fun cdv A0 outer s H vs Q E hr h => ?_)
 · obtain ⟨d, dx, nm, ps, pt, n, k, f, r, rfl, _⟩ := h
   rfl
 obtain ⟨d, dx, nm, ps, pt, n, k, f, r, rfl, hd, ahR, hfk, q⟩ := h
 obtain ⟨lB, hk⟩ : ∃ k : Nat, k = 1 := ⟨_, rfl⟩
 obtain ⟨ahS, hk1⟩ : ∃ k : Nat, k = 2 := ⟨_, rfl⟩
 obtain ⟨ahT, hk2⟩ : ∃ k : Nat, k = 3 := ⟨_, rfl⟩
 obtain ⟨ahU, hk3⟩ : ∃ k : Nat, k = 28 := ⟨_, rfl⟩
 refine ⟨_, (zC (yF (yH (CX := aL) (k := lB) ‹hr› zL (pv 0) (zA (yI HX (zX (pv 0) rfl) (xO rfl T.RM) (zO _)) zB)))
     (zC (yF (yH (CX := aL) (k := lB) ‹hr› zL (pv 0) (zA (yI yG (yI yG (pv 1) zH (zO _)) (yI yG (zX (pv 0) rfl) zF (zO _)) (zO _)) zB)))
     (zD (yD (zP yG (pv 1) zH (zO _)) (zD (yF (yH (CX := aL) (k := ahS) ‹hr› zL (pv 0) (zA (pv 2) zB)))) (zD (yD (zP yG (pv 1) zH (zO _)) (zD (yF (yH (CX := aL) (k := ahT) ‹hr› zL (pv 0) (zA (pv 2) zB)))) (zD (yD (zP yG (pv 1) zH (zO _)) (zD (yF (yH (CX := aL) (k := ahU) ‹hr› zL (pv 0) (zA (pv 2) zB)))) (zD (yD (PW.pt (oh (zP yG (pv 1) zH (zO _)) (pB (zP yG (pv 1) zH (zO _))))) (zD (yF VD)) (zD (yD (zP yG (pv 1) zH (zO _)) (zD (yF VD)) (zC (yF (yH (CX := aL) (k := lB) ‹hr› zL (pv 0) (zA (yI yG (pv 1) zH (zO _)) zB)))
     (zD (yF VD))))))))))))))), ?_⟩
 subst hk hk1 hk2 hk3
 refine ⟨_, rfl, d, _, dx, _, zu T, rfl, hd, rfl, ?_⟩
 refine ⟨_, rfl, d, _, dx, _, _, rfl, hd, T.aJ, T.kO, rfl, _, _, rfl, rfl, _, _, rfl, decide_eq_true ahR, ?_⟩
 refine ⟨_, rfl, d, _, dx, _, zu T, rfl, hd, rfl, ?_⟩
 refine ⟨_, rfl, rfl, _, rfl, d, _, dx, _, _, rfl, hd, T.aJ, T.kO, rfl, rfl, rfl, _, _, rfl, ahQ hfk, ?_⟩
 rcases q with ⟨rfl, q⟩ | ⟨rfl, q⟩ | ⟨rfl, q⟩
 · refine ⟨_, rfl, rfl, _, rfl, eqS rfl ?_⟩
   exact ⟨_, rfl, d, _, dx, _, au9 T, rfl, hd, rfl, _, rfl, d, r, rfl, q⟩
 · refine ⟨_, rfl, rfl, _, rfl, neS (by symm) ⟨_, rfl, rfl, _, rfl, eqS rfl ?_⟩⟩
   exact ⟨_, rfl, d, _, dx, _, ahM T, rfl, hd, rfl, _, rfl, d, r, rfl, q⟩
 · refine ⟨_, rfl, rfl, _, rfl, neS (by symm) ⟨_, rfl, rfl, _, rfl, neS (by symm) ⟨_, rfl, rfl, _, rfl, eqS rfl ?_⟩⟩⟩
   exact ⟨_, rfl, d, _, dx, _, avd T, rfl, hd, rfl, _, rfl, d, r, rfl, q⟩
def ahV (T : Txt K mg A) : jQ P w K mg base aL 29 A.aR "take_row" := ⟨A.gU, A.gW, ["self", "first", "rest"], acP A, [], [], T.aJ, T.CP, aes T, T.Ay, .nil⟩
theorem acb (T : Txt K mg A) : aB P w K mg base aL 30 A.gf A.gh ["self", "line"] (aay A) := by
 refine T.xm.ok nu (fun vs H Q E h => ?_) (fun cdv A0 outer s H vs Q E hr h => ?_)
 · obtain ⟨d, f, r, _, _, _, rfl, _⟩ := h
   rfl
 obtain ⟨d, f, r, H0, st, st', rfl, hst, hD, q⟩ := h
 obtain ⟨ahW, hk⟩ : ∃ k : Nat, k = 29 := ⟨_, rfl⟩
 refine ⟨_, (zC (zY (i := 2) nu.nd rfl (by first | exact Or.inl rfl | exact Or.inr rfl) (xJ PySem.F.plainAttrs_str PySem.F.slot_str_partition PySem.F.type_str_partition oN (pv 1) (zA zH zB)))
     (zC (abr (fun _ _ h => h) (zD (yF (yH (CX := aL) (k := ahW) ‹hr› zL (pv 0) (zA (yN yY (pv 2) zF (fun _ _ => rfl)) (zA (yN yY (pv 2) zF (fun _ _ => rfl)) zB))))))
     (zD (Dt (pv 0) zF TY)))), ?_⟩
 subst hk
 obtain ⟨f1, f2, f3, f4⟩ := hst.f
 refine ⟨_, rfl, rfl, _, _, rfl, rfl, (by symm), f2, fun p hp => ?_⟩
 rw [ahw f1]
 have s1 := zS hp (.tup [.str f, .str ‹" "›, .str (S r)])
 have hp1 : (upd H p (.tup [.str f, .str ‹" "›, .str (S r)])) p = some (.tup [.str f, .str ‹" "›, .str (S r)]) := zE
 dsimp only
 generalize upd H p (.tup [.str f, .str ‹" "›, .str (S r)]) = H1 at s1 hp1
 have a0 : qG [V.str f, .str ‹" "›, .str (S r)] ((0 : Nat) : Int) = some (V.str f) := yB rfl
 have a2 : qG [V.str f, .str ‹" "›, .str (S r)] ((2 : Nat) : Int) = some (V.str (S r)) := yB rfl
 have hD1 := hD.same s1
 have hst' := ab9 hst hD1
 obtain ⟨dx, ps, pt, xs, _, _, _, _, hd, _⟩ := hD1
 refine ⟨_, rfl, d, _, dx, _, ahV T, rfl, hd, rfl, ?_⟩
 refine ⟨_, rfl, p, _, _, _, rfl, rfl, o8.of hp1, a0, _, rfl, p, _, _, _, rfl, rfl, o8.of hp1, a2, ?_⟩
 refine ⟨d, dx, _, ps, pt, _, _, f, S r, rfl, hd, by omega, f4, hst'.imp fun H2 h2 => ?_⟩
 obtain ⟨V6, nm, ps2, pt2, n, k, hd2, hD2⟩ := h2
 exact ⟨_, rfl, d, _, V6, _, _, rfl, hd2, T.aJ, T.kO, rfl, _, _, rfl, rfl, V6, _, hd2, (by show 5 < 1000; decide), q _ hD2⟩
def aet (T : Txt K mg A) : jQ P w K mg base aL 30 A.aR "take_line" := ⟨A.gf, A.gh, ["self", "line"], aay A, [], [], T.aJ, T.Bh, acb T, T.xn, .nil⟩
theorem acd (T : Txt K mg A) : aB P w K mg base aL 32 A.oV A.ue ["text"] (aer A) := by
 have Fe := Vf (P := P) (w := w) (base := base) T
 have Ff := M7 (P := P) (w := w) (base := base) T
 refine T.Pg.ok rR (fun vs H Q E h => ?_) (fun cdv A0 outer s H vs' Q E hr h => ?_)
 · obtain ⟨z, y, rs, rfl, _⟩ := h
   rfl
 obtain ⟨z, y, rs, rfl, g, q⟩ := h
 obtain ⟨lB, hk⟩ : ∃ k : Nat, k = 1 := ⟨_, rfl⟩
 obtain ⟨ahX, hk2⟩ : ∃ k : Nat, k = 30 := ⟨_, rfl⟩
 refine ⟨_, (zC (yD (lC (yP (zW xI (by rfl) T.b7 Bt.isinstance (zA (pv 0) (zA (qF (v := .ty "str") rfl T.m8 Bt.str rfl) zB))))) (zD acs) zV)
     (zC (zY (i := 1) rR.nd rfl (by first | exact Or.inl rfl | exact Or.inr rfl) (QQ T.ZK Fe ‹hr› rfl T.abC T.Eh .nil zL))
     (zC (wH PassesOwn.never rfl (xY (xJ PySem.F.plainAttrs_str PySem.F.slot_str_split PySem.F.type_str_split IW (pv 0) (zA zH zB))) (oJ (i := 2) rR.nd rfl (by first | exact Or.inl rfl | exact Or.inr rfl)) (zD (yF (yH (CX := aL) (k := ahX) ‹hr› zL (pv 1) (zA (pv 2) zB)))))
     (zC (yF (yH (CX := aL) (k := lB) ‹hr› zL (pv 1) (zA (yI HY (zW zZ (by rfl) T.gJ PySem.boot_len (zA (zX (pv 1) rfl) zB)) zF (zO _)) zB)))
     (zD (zM (xG T.ZJ Ff ‹hr› rfl T.abF T.Ec .nil zL (zA (zX (pv 1) rfl) (zA (zX (pv 1) rfl) (zA (zX (pv 1) rfl) zB)))))))))), ?_⟩
 subst hk hk2
 have hgo := goP g
 refine ⟨_, rfl, _, _, _, _, rfl, rfl, .old (.str _), T.mj, _, rfl, bh ?_⟩
 intro d dx nx nd ne
 refine ⟨d, dx, rfl, zE, fun ps pt H1 nst ps0 pt0 F1 hd hps QD => ⟨rfl, ?_⟩⟩
 obtain ⟨aFb, ps1⟩ := xC ps0
 obtain ⟨aFc, ps2⟩ := xC ps1
 have s1 : az H H1 := fun b o hb => F1 _ _ (yQ nx nd _ _ _ hb) (ni1 (zR hb nx))
 refine ⟨_, rfl, rfl, _, _, rfl, rfl, (by symm), text_len g, fun l hl => ?_⟩
 rw [Tf g, ← Qs]
 generalize hL : cR z y rs = L at *
 have s2 := zS hl (.lst (wv L))
 refine ⟨l, rfl, ⟨_, bG.of zE⟩, ?_⟩
 have hl0 : H l = none := same_none s1 hl
 have nld : l ≠ d := fun e => by rw [e, hd] at hl; cases hl
 have nls : l ≠ ps := fun e => by rw [e, hps] at hl; cases hl
 have sB : az (upd H l (.lst (wv L))) (upd H1 l (.lst (wv L))) := fun b o hb => by
   by_cases e : b = l
   · rw [e, zE] at hb ⊢; exact hb
   · rw [zK e] at hb ⊢; exact s1 _ _ hb
 have hB : (upd H l (.lst (wv L))) l = some (.lst (wv L)) := zE
 have sHB := zS hl0 (.lst (wv L))
 refine Dw (xs := wv L) (fun i σ H' => (∃ u, σ = [some (.str (S (aF [10] L))), some (.ref d), u]) ∧ ∃ st, Go st (L.drop i) (.str z, 2 + rs.length, some (y, rs)) ∧ Dst A (upd H l (.lst (wv L))) d st H') ⟨⟨_, rfl⟩, (.non, 0, none), hgo, ?_⟩ (fun i σ H' _ hh => ?_) (fun i x σ H' hx hh => ?_) (fun σ H' hh => ?_)
 · refine ⟨dx, ps, pt, [], sB, ?_, ?_, nst, s2 _ _ hd, s2 _ _ hps, s2 _ _ QD, .inl ⟨rfl, rfl⟩⟩
   · rw [zK (Ne.symm nld)]; exact nx
   · rw [zK (Ne.symm nls)]; exact ps2
 · obtain ⟨_, st, _, _, _, _, _, sH, _⟩ := hh
   exact bG.of (sH _ _ hB)
 · obtain ⟨⟨u, rfl⟩, st, hg, hD⟩ := hh
   obtain ⟨ll, hli, rfl⟩ := wI hx
   have hlt := (List.getElem?_eq_some_iff.mp hli).1
   rw [List.drop_eq_getElem_cons hlt, (List.getElem?_eq_some_iff.mp hli).2] at hg
   obtain ⟨f, r, st', rfl, hs, hg'⟩ := hg
   obtain ⟨Hw, ps', pt', _, _, _, _, _, hd', _⟩ := id hD
   exact ⟨_, rfl, d, _, Hw, _, aet T, rfl, hd', rfl, _, rfl, d, f, r, _, st, st', rfl, hs, hD, fun H2 hD2 => ⟨⟨_, rfl⟩, st', hg', hD2⟩⟩
 · obtain ⟨⟨u, rfl⟩, st, hg, hD⟩ := hh
   rw [List.length_map, List.drop_length] at hg
   have hg : st = _ := hg
   subst hg
   obtain ⟨Hw, ps', pt', xs, sH, d0, _, _, hd', Xw, avk, hla⟩ := hD
   rcases hla with ⟨_, e⟩ | ⟨y', rs', a, qD, pr, pw, ys, rfl, e, hs, zr, nrw, hpr, Qj, hys⟩
   · cases e
   cases e
   refine ⟨_, rfl, d, _, Hw, _, zu T, rfl, hd', rfl, _, rfl, d, _, Hw, _, _, rfl, hd', T.aJ, T.dF, rfl, ps', _, rfl, .inl (bG.of Xw), _, _, rfl, rfl, _, _, rfl, decide_eq_true (by show (0 : Int) < ((1 : Nat) : Int); decide), ?_⟩
   refine ⟨_, rfl, d, _, Hw, _, _, rfl, hd', T.aJ, T.rP, rfl, _, rfl, d, _, Hw, _, _, rfl, hd', T.aJ, T.dF, rfl, _, rfl, d, _, Hw, _, _, rfl, hd', T.aJ, T.jG, rfl, ?_⟩
   intro x dxp mx md me
   have sM := yQ mx md (.ins A.jE dxp [])
   refine ⟨x, dxp, _, ps', pt', _, rfl, zE, sM _ _ Xw, sM _ _ avk, fun q1 q2 H2 F hx2 hq1 hq2 => ⟨rfl, ?_⟩⟩
   have keep : az H' H2 := fun b o h => F _ _ (sM _ _ h) (ni1 (zR h mx))
   exact q _ _ (fun b o hb => keep _ _ (sH _ _ (sHB _ _ hb))) ⟨x, dxp, q1, q2, a, qD, pr, pw, ys, rfl, hx2, hq1, hq2, keep _ _ hs, keep _ _ hpr, keep _ _ Qj, yO (fun _ _ k => k.same keep) hys⟩
end
theorem nd {v : V} : (!decide (v = v)) = false := by rw [decide_eq_true rfl]; rfl
theorem nl {a b : Nat} (h : a = b) : (!decide (V.int (a : Nat) = V.int (b : Nat))) = false := by rw [h]; exact nd
def ov : Option Tr → V
 | none => .non
 | some t => .str (S (qx t))
def ahY : Sp := fun vs H Q _ => ∃ c : Int, vs = [.int c] ∧ ∀ t H', t.Ok [] → t.depth = 1 → t.size = 1 → az H H' → Q (.str (S (qx t))) H'
def acR (n : Nat) : Sp := fun vs H Q _ => ∃ (c : Int) (d : Nat), vs = [.int c, .int (d : Nat)] ∧ d ≤ 3 ∧ d < n ∧ ∀ t H', t.Ok [] → t.depth ≤ d + 1 → t.size ≤ 2 ^ d → az H H' → Q (.str (S (qx t))) H'
theorem aaA {n y h : Str} {m : Int} (e : cd y = cd ‹" "› ++ cd h ++ cd ‹" "›) : (n ++ y) ++ ((toString m : String) : Str) = S (qx (.cmp n h m)) := yL (by
 rw [yA, yA, Uh, cU, HH, e]
 simp only [List.append_assoc])
theorem aaB {y : Str} {o : Bool} {s t : Tr} (e : cd y = cd ‹" "› ++ cd (hw o) ++ cd ‹" "›) : (((Str.ofString "( " ++ S (qx s)) ++ y) ++ S (qx t)) ++ ‹" )"› = S (qx (.two o s t)) := yL (by
 rw [yA, yA, yA, yA, cU, cU, cU, Dj, e]
 simp only [List.append_assoc])
theorem m3 (r : Int) : r % 3 = ((0 : Nat) : Int) ∨ r % 3 = ((1 : Nat) : Int) ∨ r % 3 = ((2 : Nat) : Int) := by omega
def TF (H : Hp) (x : V) (c : Ak) : Prop := ∃ b, x = .ref b ∧ H b = some (.tup [.str c.1, .str (S (oF c.2.1)), ov c.2.2])
theorem TF.same {H H' : Hp} (f : az H H') {x : V} {c : Ak} (h : TF H x c) : TF H' x c := let ⟨b, e, h1⟩ := h; ⟨b, e, f _ _ h1⟩
theorem TF.put {H : Hp} {p : Addr} {ys zs : List V} (hp : H p = some (.lst ys)) {x : V} {c : Ak} (h : TF H x c) : TF (upd H p (.lst zs)) x c := by
 obtain ⟨b, e, h1⟩ := h
 exact ⟨b, e, by rw [zK (yf h1 hp (by intro z; cases z))]; exact h1⟩
theorem avm (ns : List Int) : ∃ ms : List Int, Oq (ns.map V.int) (some 2) (some 9) = ms.map V.int ∧ ms.length ≤ 7 := by
 unfold Oq
 have e1 : HT.uQ (ns.map V.int).length 0 (some 2) = min 2 (ns.map V.int).length := HT.Om _ _ 2
 have e2 : HT.uQ (ns.map V.int).length (ns.map V.int).length (some 9) = min 9 (ns.map V.int).length := HT.Om _ _ 9
 rw [e1, e2]
 refine ⟨(ns.drop (min 2 (ns.map V.int).length)).take (min 9 (ns.map V.int).length - min 2 (ns.map V.int).length), ?_, ?_⟩
 · rw [List.map_take, List.map_drop]
 · rw [List.length_take]; omega
theorem aeu (n : Str) (ku : KU) (o : Option Tr) : (match o with | none => ((Str.ofString "ask " ++ n) ++ ‹" "›) ++ S (oF ku) | some t => ((((Str.ofString "ask " ++ n) ++ ‹" "›) ++ S (oF ku)) ++ ‹" when "›) ++ S (qx t)) = S (Oc (n, ku, o)) := by
 have e := aat (n, ku, o)
 rw [← e]
 cases o with
 | none => exact yL (by rw [yA (y := S (XM none)), cU]; show _ = _ ++ []; rw [List.append_nil])
 | some t => exact yL (by rw [yA, yA, yA (y := S (XM (some t))), List.append_assoc]; rfl)
def avn (K : W.Frag) : Sp := fun vs H Q _ => ∃ (a : Addr) (ns : List Int), vs = [.ref a] ∧ bG K H a (ns.map V.int) ∧ ∀ p xs rs H', az H H' → H' p = some (.lst xs) → Paired (TF H') xs rs → (∀ c ∈ rs, Td c) → rs.length ≤ 7 → Q (.ref p) H'
def avo : Sp := fun vs H Q _ => ∃ x c, vs = [x] ∧ TF H x c ∧ Td c ∧ Q (.str (S (Oc c))) H
def avp (A : cj) : Sp := fun vs H Q _ => ∃ x y c, vs = [x, y] ∧ XN A H x c ∧ TF H y c ∧ Td c ∧ ∀ H', az H H' → Q (.bl true) H'
def Lb (K : W.Frag) : Sp := fun vs H Q _ => ∃ (a : Addr) (ns : List Int), vs = [.ref a] ∧ bG K H a (ns.map V.int) ∧ ns.length ≤ 63 ∧ (∀ n ∈ ns, ib n ≤ 1048576) ∧ ∀ H', Q (.bl true) H'
section
variable {P : Program} {w : World} {K : W.Frag} {mg : Str → Option Value} {base : Heap} {A : cj}
theorem Tt (T : Txt K mg A) : aB P w K mg base aL 3 A.uq A.Ag ["_law_cell"] ahY := by
 have ie := qX (P := P) (w := w) (base := base) T
 have bc := xS (P := P) (w := w) (base := base) T
 have uF := zp (P := P) (w := w) (base := base) T
 refine T.Uq.ok vX (fun vs H Q E h => ?_) (fun cdv A0 outer s H vs Q E hr h => ?_)
 · obtain ⟨c, rfl, _⟩ := h
   rfl
 obtain ⟨c, rfl, q⟩ := h
 refine ⟨_, (zC (zY (i := 1) vX.nd rfl (by first | exact Or.inl rfl | exact Or.inr rfl) (zN ie ‹hr› rfl T.lZ T.lY T.lX .nil zL (zA (zN bc ‹hr› rfl T.cO T.cN T.cM .nil zL (zA (pv 0) (zA zF zB))) zB)))
     (zC (yD (zP yG (zI yS (pv 0) zF) zF (zO _)) (zC (zY (i := 2) vX.nd rfl (by first | exact Or.inl rfl | exact Or.inr rfl) (yN xD (xF (zA zH (zA zH (zA (zN ie ‹hr› rfl T.lZ T.lY T.lX .nil zL (zA (zN bc ‹hr› rfl T.cO T.cN T.cM .nil zL (zA (pv 0) (zA zF zB))) zB)) zB)))) (zI yS (zN bc ‹hr› rfl T.cO T.cN T.cM .nil zL (zA (pv 0) (zA zF zB))) zF) (fun _ _ => rfl)))
     (zD (zM (zI zG (zI zG (pv 1) zH) (pv 2))))) zV)
     (zD (zM (zI zG (zI zG (pv 1) (yN xD (xF (zA zH (zA zH (zA zH zB)))) (zI yS (zN bc ‹hr› rfl T.cO T.cN T.cM .nil zL (zA (pv 0) (zA zF zB))) zF) (fun _ _ => rfl))) (yR yW (by rfl) T.m8 Bt.str (zA (zN uF ‹hr› rfl T.Cy T.Cw T.Cv .nil zL (zA (zN bc ‹hr› rfl T.cO T.cN T.cM .nil zL (zA (pv 0) (zA zF zB))) zB)) zB))))))), ?_⟩
 refine ⟨_, rfl, c, 4, rfl, by decide, by decide, fun r _ _ => ⟨r, rfl, fun z H1 hz s1 => ?_⟩⟩
 have lz := (yU hz).len
 refine ⟨_, rfl, _, _, rfl, rfl, (by show (0 : Int) < 2; decide), rfl, _, rfl, dD (fun _ => ?_) (fun _ => ?_)⟩
 · refine ⟨_, rfl, c, 5, rfl, by decide, by decide, fun r5 _ _ => ⟨r5, rfl, fun z2 H2 hz2 s2 => ⟨(by show 3 ≤ sizeLine; decide), fun p hp => ?_⟩⟩⟩
   have s3 := zS hp (.lst [.str ‹"yes"›, .str ‹"no"›, .str z2])
   refine ⟨_, rfl, c, 6, rfl, by decide, by decide, fun r6 _ _ => ?_⟩
   obtain ⟨u, hu, hu2⟩ : ∃ u : Str, qG [V.str ‹"yes"›, .str ‹"no"›, .str z2] (r6 % 3) = some (.str u) ∧ nameB u = true := by
     rcases m3 r6 with e | e | e <;> rw [e]
     · exact ⟨_, yB rfl, by symm⟩
     · exact ⟨_, yB rfl, by symm⟩
     · exact ⟨_, yB rfl, hz2⟩
   have lu := (yU hu2).len
   refine ⟨_, _, rfl, rfl, (by show (0 : Int) < 3; decide), p, _, _, _, rfl, rfl, bG.of zE, hu, ?_⟩
   refine ⟨_, rfl, _, _, rfl, rfl, zJ (m := 100) (by rw [show ‹" is "›.length = 4 by symm]; omega), _, rfl, _, _, rfl, rfl, zJ (m := 100) (by rw [zQ, show ‹" is "›.length = 4 by symm]; omega), ?_⟩
   rw [Z6]
   exact q (.is z (.str u)) _ ⟨hz, u, rfl, hu2⟩ rfl rfl (s1.trans (s2.trans s3))
 · refine ⟨_, rfl, (by show 3 ≤ sizeLine; decide), fun p hp => ⟨_, rfl, c, 6, rfl, by decide, by decide, fun r6 _ _ => ?_⟩⟩
   have s3 := zS hp (.lst [.str ‹" < "›, .str ‹" = "›, .str ‹" > "›])
   obtain ⟨y, h, hy, hh, e⟩ : ∃ y h : Str, qG [V.str ‹" < "›, .str ‹" = "›, .str ‹" > "›] (r6 % 3) = some (.str y) ∧ (h = "<" ∨ h = "=" ∨ h = ">") ∧ cd y = cd ‹" "› ++ cd h ++ cd ‹" "› := by
     rcases m3 r6 with e | e | e <;> rw [e]
     · exact ⟨_, "<", yB rfl, .inl rfl, by symm⟩
     · exact ⟨_, "=", yB rfl, .inr (.inl rfl), by symm⟩
     · exact ⟨_, ">", yB rfl, .inr (.inr rfl), by symm⟩
   have ly : y.length = 3 := by
     rw [yE, e, List.length_append, List.length_append, (U9 hh).1]; decide +kernel
   refine ⟨_, _, rfl, rfl, (by show (0 : Int) < 3; decide), p, _, _, _, rfl, rfl, bG.of zE, hy, _, _, rfl, rfl, zJ (m := 100) (by omega), ?_⟩
   refine ⟨_, rfl, c, 7, rfl, by decide, by decide, fun r7 r0 r1 => ⟨_, rfl, by omega, fun m hm1 hm2 => have hm := n60 hm1 (Int.le_of_lt hm2); ⟨_, rfl, KQ hm, _, _, rfl, rfl, zJ (m := 1000) ?_, ?_⟩⟩⟩
   · have := nC hm
     rw [zQ, yE (x := ((toString m : String) : Str)), Uh]; omega
   · rw [aaA e]
     exact q (.cmp z h m) _ ⟨hz, hh, hm⟩ rfl rfl (s1.trans s3)
theorem zx (T : Txt K mg A) : ∀ n : Nat, aB P w K mg base aL (n + 4) A.oY A.ur ["_law_cell", "_law_deep"] (acR n)
 | 0 => by
   have len : ∀ (vs : List V) (H : Hp) (Q : VK) (E : XK), acR 0 vs H Q E → False := fun vs H Q E h => by
     obtain ⟨c, d, rfl, _, hd, _⟩ := h
     exact absurd hd (by omega)
   exact ⟨fun vs H Q E h => (len _ _ _ _ h).elim, fun _ _ _ _ _ _ _ _ _ _ _ _ _ h => (len _ _ _ _ h).elim⟩
 | n + 1 => by
   have o7 := zx T n
   have Vh := Tt (P := P) (w := w) (base := base) T
   have bc := xS (P := P) (w := w) (base := base) T
   refine T.Py.ok mV (fun vs H Q E h => ?_) (fun cdv A0 outer s H vs Q E hr h => ?_)
   · obtain ⟨c, d, rfl, _⟩ := h
     rfl
   obtain ⟨c, d, rfl, d1, dn, q⟩ := h
   refine ⟨_, (zC (zY (i := 2) mV.nd rfl (by first | exact Or.inl rfl | exact Or.inr rfl) (zI yS (pv 0) zF))
     (zC (yD (PW.pt (oh (zP yG (pv 1) zF (zO _)) (pB (zP HX (pv 2) zF (zO _))))) (zD (zM (zN Vh ‹hr› rfl T.Ut T.Us T.Ur .nil zL (zA (pv 0) zB)))) zV)
     (zC (zY (i := 3) mV.nd rfl (by first | exact Or.inl rfl | exact Or.inr rfl) (zN o7 ‹hr› rfl T.uy T.ux T.uw .nil zL (zA (zN bc ‹hr› rfl T.cO T.cN T.cM .nil zL (zA (pv 0) (zA zF zB))) (zA (zI pF (pv 1) zF) zB))))
     (zC (yD (zP yG (pv 2) zF (zO _)) (zD (zM (zI zG zH (pv 3)))) zV)
     (zC (zY (i := 4) mV.nd rfl (by first | exact Or.inl rfl | exact Or.inr rfl) (zN o7 ‹hr› rfl T.uy T.ux T.uw .nil zL (zA (zN bc ‹hr› rfl T.cO T.cN T.cM .nil zL (zA (pv 0) (zA zF zB))) (zA (zI pF (pv 1) zF) zB))))
     (zD (zM (zI zG (zI zG (zI zG (zI zG zH (pv 3)) (yN xD (xF (zA zH (zA zH zB))) (zI yS (pv 2) zF) (fun _ _ => rfl))) (pv 4)) zH)))))))), ?_⟩
   refine ⟨_, rfl, _, _, rfl, rfl, (by show (0 : Int) < 6; decide), ?_⟩
   have p1 : 1 ≤ 2 ^ d := Nat.one_le_two_pow
   have atom : ∀ t H', t.Ok [] → t.depth = 1 → t.size = 1 → az H H' → Q (.str (S (qx t))) H' := fun t H' a b e f => q t H' a (by omega) (by omega) f
   refine ⟨_, rfl, rfl, _, rfl, dD (fun _ => ⟨_, rfl, c, rfl, atom⟩) (fun c0 => ⟨_, rfl, _, _, rfl, rfl, _, rfl, dD (fun _ => ⟨_, rfl, c, rfl, atom⟩) (fun c1 => ?_)⟩)⟩
   obtain ⟨e, rfl⟩ : ∃ e, d = e + 1 := by
     cases d with
     | zero => exact absurd (decide_eq_true rfl) c0
     | succ e => exact ⟨e, rfl⟩
   have es : (((e + 1 : Nat) : Int) - 1) = ((e : Nat) : Int) := by omega
   have pe : 2 ^ (e + 1) = 2 ^ e + 2 ^ e := by rw [Nat.pow_succ]; omega
   have p8 : 2 ^ e ≤ 2 ^ 2 := Nat.pow_le_pow_right (by decide) (by omega : e ≤ 2)
   have bl : ∀ {t : Tr}, t.Ok [] → t.depth ≤ e + 1 → t.size ≤ 2 ^ e → (qx t).length ≤ 1600 := fun {t} o p z => by
     have := uD o
     have h2 : t.size * t.depth ≤ 4 * 4 := Nat.mul_le_mul (by omega) (by omega)
     omega
   refine ⟨_, rfl, c, 8, rfl, by decide, by decide, fun r8 _ _ => ⟨_, rfl, _, _, rfl, rfl, r8, e, by rw [← es]; rfl, by omega, by omega, fun t1 H1 o1 p1 z1 s1 => ?_⟩⟩
   have l1 := bl o1 p1 z1
   refine ⟨_, rfl, rfl, _, rfl, dD (fun _ => ?_) (fun _ => ?_)⟩
   · refine ⟨_, rfl, _, _, rfl, rfl, zJ (m := 10000) (by rw [zU, show ‹"not "›.length = 4 by symm]; omega), ?_⟩
     rw [V5]
     exact q (.neg t1) _ o1 (by show t1.depth + 1 ≤ e + 1 + 1; omega) (by show t1.size ≤ _; omega) s1
   · refine ⟨_, rfl, c, 9, rfl, by decide, by decide, fun r9 _ _ => ⟨_, rfl, _, _, rfl, rfl, r9, e, by rw [← es]; rfl, by omega, by omega, fun t2 H2 o2 p2 z2 s2 => ?_⟩⟩
     have l2 := bl o2 p2 z2
     have k1 : ‹"( "›.length = 2 := by symm
     have k2 : ‹" )"›.length = 2 := by symm
     obtain ⟨y, o, hy, ey⟩ : ∃ (y : Str) (o : Bool), qG [V.str ‹" and "›, .str ‹" or "›] (c % 6 % 2) = some (.str y) ∧ cd y = cd ‹" "› ++ cd (hw o) ++ cd ‹" "› := by
       rcases (by omega : c % 6 % 2 = ((0 : Nat) : Int) ∨ c % 6 % 2 = ((1 : Nat) : Int)) with e | e <;> rw [e]
       · exact ⟨_, false, yB rfl, by symm⟩
       · exact ⟨_, true, yB rfl, by symm⟩
     have ly : y.length ≤ 5 := by
       have := (acK o).1
       rw [yE, ey, List.length_append, List.length_append, show (cd ‹" "›).length = 1 by symm]; omega
     refine ⟨_, rfl, _, _, rfl, rfl, zJ (m := 10000) (by rw [zU]; omega), (by show 2 ≤ sizeLine; decide), fun p hp => ⟨_, rfl, _, _, rfl, rfl, (by show (0 : Int) < 2; decide), p, _, _, _, rfl, rfl, bG.of zE, hy, _, _, rfl, rfl, zJ (m := 10000) (by rw [zQ, zU]; omega), _, rfl, _, _, rfl, rfl, zJ (m := 10000) (by rw [zQ, zQ, zU, zU]; omega), _, _, rfl, rfl, zJ (m := 10000) (by rw [zQ, zQ, zQ, zU, zU]; omega), ?_⟩⟩
     rw [aaB ey]
     exact q (.two o t1 t2) _ ⟨o1, o2⟩ (by show 1 + max t1.depth t2.depth ≤ e + 1 + 1; omega) (by show t1.size + t2.size ≤ _; omega) (s1.trans (s2.trans (zS hp _)))
theorem Tu (T : Txt K mg A) : aB P w K mg base aL 12 A.uv A.Ah ["_law_script"] (avn K) := by
 have bc := xS (P := P) (w := w) (base := base) T
 have ie := qX (P := P) (w := w) (base := base) T
 have Vi := S9 (P := P) (w := w) (base := base) T
 have o7 := zx (P := P) (w := w) (base := base) T 4
 refine T.Uu.ok nA (fun vs H Q E h => ?_) (fun cdv A0 outer s H vs Q E hr h => ?_)
 · obtain ⟨a, ns, rfl, _⟩ := h
   rfl
 obtain ⟨a, ns, rfl, hS, q⟩ := h
 refine ⟨_, (zC (zY (i := 1) nA.nd rfl (by first | exact Or.inl rfl | exact Or.inr rfl) (xF zB))
     (zC (wH PassesOwn.never rfl (xY (xE Vr (pv 0) (xM zF) (xM zF))) (oJ (i := 2) nA.nd rfl (by first | exact Or.inl rfl | exact Or.inr rfl)) (zC (zY (i := 3) nA.nd rfl (by first | exact Or.inl rfl | exact Or.inr rfl) yT)
     (zC (yD (zP HY (zI yS (zI mD (pv 2) zF) zF) zF (zO _)) (zD (zY (i := 3) nA.nd rfl (by first | exact Or.inl rfl | exact Or.inr rfl) (zN o7 ‹hr› rfl T.uy T.ux T.uw .nil zL (zA (zN bc ‹hr› rfl T.cO T.cN T.cM .nil zL (zA (pv 2) (zA zF zB))) (zA zF zB))))) zV)
     (zD (yF (xJ PySem.F.plainAttrs_list PySem.F.slot_list_append PySem.F.type_list_append wF (pv 1) (zA (T5 (zA (zN ie ‹hr› rfl T.lZ T.lY T.lX .nil zL (zA (zN bc ‹hr› rfl T.cO T.cN T.cM .nil zL (zA (pv 2) (zA zF zB))) zB)) (zA (zN Vi ‹hr› rfl T.Up T.Uo T.Um .nil zL (zA (pv 2) zB)) (zA (pv 3) zB)))) zB)))))))
     (zC (yD (zP (adt (adu hr)) (pv 1) (xF zB) (zO _)) (zD (yF (xJ PySem.F.plainAttrs_list PySem.F.slot_list_append PySem.F.type_list_append wF (pv 1) (zA (T5 (zA zH (zA zH (zA yT zB)))) zB)))) zV)
     (zD (zM (pv 1)))))), ?_⟩
 generalize h0 : L2.start _ [V.ref a] = σ0
 have h0 : σ0 = [some (.ref a), none, none, none] := by rw [← h0]; rfl
 subst h0
 refine ⟨(by show 0 ≤ sizeLine; decide), fun p hp => ?_⟩
 have s0 := zS hp (.lst [])
 dsimp only [jg, List.set_cons_succ, List.set_cons_zero]
 refine ⟨_, rfl, _, rfl, _, rfl, a, _, rfl, s0.seq hS, fun s1 hs1 => ?_⟩
 obtain ⟨ms, hms, h7⟩ := avm ns
 rw [hms]
 have t1 := zS hs1 (.lst (ms.map V.int))
 refine ⟨s1, rfl, ⟨_, bG.of zE⟩, ?_⟩
 have hpu : upd (upd H p (.lst [])) s1 (.lst (ms.map V.int)) p = some (.lst []) := t1 _ _ zE
 have np1 : p ≠ s1 := fun e => by rw [← e, zE] at hs1; cases hs1
 refine Dw (xs := ms.map V.int) (fun i σ G => (∃ u1 u2, σ = [some (.ref a), some (.ref p), u1, u2]) ∧ az H G ∧ G s1 = some (.lst (ms.map V.int)) ∧ ∃ xs rs, G p = some (.lst xs) ∧ Paired (TF G) xs rs ∧ rs.length = i ∧ ∀ c ∈ rs, Td c) ⟨⟨_, _, rfl⟩, s0.trans t1, zE, [], [], hpu, .nil, rfl, fun c h => by cases h⟩ (fun i σ G _ hh => bG.of hh.2.2.1) (fun i x σ G hx hh => ?_) (fun σ G hh => ?_)
 · obtain ⟨⟨u1, u2, rfl⟩, sG, ahZ, xs, rs, hpG, hrs, hil, hgd⟩ := hh
   obtain ⟨c, Wh, rfl⟩ := wI hx
   have hi7 : i < 7 := Nat.lt_of_lt_of_le (List.getElem?_eq_some_iff.mp Wh).1 h7
   dsimp only [jg, List.set_cons_succ, List.set_cons_zero]
   refine qW (fun σ' G1 => G = G1 ∧ σ' = [some (.ref a), some (.ref p), some (.int c), some .non]) ?k0 (fun key => key _ _ ⟨rfl, rfl⟩)
   rintro σ' G1 ⟨rfl, rfl⟩
   refine qW (fun σ' G1 => ∃ o, σ' = [some (.ref a), some (.ref p), some (.int c), some (ov o)] ∧ (∀ t, o = some t → GT t) ∧ az G G1) ?k1 ?e1
   case e1 =>
     intro key
     refine ⟨_, rfl, _, _, rfl, rfl, ⟨by decide, by decide⟩, _, _, rfl, rfl, (by show (0 : Int) < 3; decide), _, _, rfl, rfl, _, rfl, dD (fun _ => ?_) (fun _ => ?_)⟩
     · refine ⟨_, rfl, c, 10, rfl, by decide, by decide, fun r _ _ => ⟨r, 3, rfl, by decide, by decide, fun t G1 ot dt zt s2 => key _ _ ⟨some t, rfl, fun t' e => ?_, s2⟩⟩⟩
       cases e; exact ⟨ot, by omega, by have : 2 ^ 3 = 8 := rfl; omega⟩
     · exact key _ _ ⟨none, rfl, (fun t e => by cases e), az.refl _⟩
   case k1 =>
   rintro σ' G1 ⟨o, rfl, go, sG1⟩
   refine ⟨_, rfl, Or.inl ⟨rfl, _, bG.of (sG1 _ _ hpG)⟩, _, rfl, c, 11, rfl, by decide, by decide, fun r _ _ => ⟨r, rfl, fun z G2 hz s2 => ⟨_, rfl, c, rfl, fun ku G3 gk s3 => ⟨_, rfl, (by show 3 ≤ sizeLine; decide), fun tp htp => ?_⟩⟩⟩⟩
   have s4 := zS htp (.tup [.str z, .str (S (oF ku)), ov o])
   have sA := sG1.trans (s2.trans (s3.trans s4))
   have hpA := sA _ _ hpG
   have htA : upd G3 tp (.tup [.str z, .str (S (oF ku)), ov o]) tp = some (.tup [.str z, .str (S (oF ku)), ov o]) := zE
   have hlen : xs.length = i := by rw [xA hrs, hil]
   have n1p : s1 ≠ p := Ne.symm np1
   refine ⟨p, _, _, rfl, rfl, hpA, Nat.lt_of_lt_of_le (by omega : xs.length < 100) (zJ (m := 100) (Nat.le_refl _)), ⟨_, _, rfl⟩, fun b u hb => ?_, ?_, xs ++ [.ref tp], rs ++ [(z, ku, o)], zE, Bo (yO (fun _ _ k => TF.put hpA (k.same sA)) hrs) (.cons (TF.put hpA ⟨tp, rfl, htA⟩) .nil), by rw [List.length_append, hil]; rfl, fun c' hc' => ?_⟩
   · rw [zK (zR hb hp)]; exact (sG.trans sA) _ _ hb
   · rw [zK n1p]; exact sA _ _ ahZ
   · rcases List.mem_append.mp hc' with e | e
     · exact hgd c' e
     · rw [List.mem_singleton.mp e]; exact ⟨hz, gk, go⟩
 obtain ⟨⟨u1, u2, rfl⟩, sG, ahZ, xs, rs, hpG, hrs, hil, hgd⟩ := hh
 have hr7 : rs.length ≤ 7 := by rw [hil, List.length_map]; exact h7
 refine ⟨_, rfl, (by show 0 ≤ sizeLine; decide), fun pe hpe => ?_⟩
 have t2 := zS hpe (.lst [])
 have hpE := t2 _ _ hpG
 cases xs with
 | nil =>
   refine ⟨_, Dz (n := 19) (e := fun _ => true) (bG.of hpE) (bG.of zE) rfl (fun j x y hx _ => by simp at hx), _, rfl, ab5 (by simp) ?_⟩
   refine ⟨_, rfl, Or.inl ⟨rfl, _, bG.of hpE⟩, (by show 3 ≤ sizeLine; decide), fun tp htp => ?_⟩
   have s4 := zS htp (.tup [.str ‹"a"›, .str ‹"yesno"›, .non])
   have hpA := s4 _ _ hpE
   refine ⟨p, _, _, rfl, rfl, hpA, (by show 0 < sizeLine; decide), ?_⟩
   have htA : upd (upd G pe (.lst [])) tp (.tup [.str ‹"a"›, .str ‹"yesno"›, .non]) tp = some (.tup [.str ‹"a"›, .str ‹"yesno"›, .non]) := zE
   refine ⟨_, rfl, q p [.ref tp] [(Str.ofString "a", .yn, none)] _ (fun b u hb => ?_) zE (.cons (TF.put hpA ⟨tp, rfl, ?_⟩) .nil) (fun c hc => ?_) (by decide)⟩
   · rw [zK (zR hb hp)]; exact (sG.trans (t2.trans s4)) _ _ hb
   · rw [htA]; rfl
   · rw [List.mem_singleton.mp hc]; exact ⟨by symm, trivial, fun t e => by cases e⟩
 | cons x xs =>
   refine ⟨_, Lh (n := 19) (bG.of hpE) (bG.of zE) (by simp), _, rfl, Hq rfl ?_⟩
   exact ⟨_, rfl, q p _ rs _ (sG.trans t2) hpE (yO (fun _ _ k => k.same t2) hrs) hgd hr7⟩
theorem Hr (T : Txt K mg A) : aB P w K mg base aL 1 A.kj A.qi ["_law_row"] avo := by
 refine T.JN.ok Hi (fun vs H Q E h => ?_) (fun cdv A0 outer s H vs Q E hr h => ?_)
 · obtain ⟨x, c, rfl, _⟩ := h
   rfl
 obtain ⟨x, ⟨n, ku, o⟩, rfl, ⟨b, rfl, hb⟩, g, q⟩ := h
 refine ⟨_, (zC (yD (zP Dr (yN yY (pv 0) zF (fun _ _ => rfl)) yT (zO _)) (zD (zM (zI zG (zI zG (zI zG zH (yN yY (pv 0) zF (fun _ _ => rfl))) zH) (yN yY (pv 0) zF (fun _ _ => rfl))))) zV)
     (zD (zM (zI zG (zI zG (zI zG (zI zG (zI zG zH (yN yY (pv 0) zF (fun _ _ => rfl))) zH) (yN yY (pv 0) zF (fun _ _ => rfl))) zH) (yN yY (pv 0) zF (fun _ _ => rfl)))))), ?_⟩
 have ln1 : n.length ≤ 12 := (yU g.1).len
 have lt1 : (oF ku).length ≤ 890 := Vd g.2.1
 have k4 : ‹"ask "›.length = 4 := by symm
 have k1 : ‹" "›.length = 1 := by symm
 have b0 : qG [V.str n, .str (S (oF ku)), ov o] ((0 : Nat) : Int) = some (V.str n) := yB rfl
 have b1 : qG [V.str n, .str (S (oF ku)), ov o] ((1 : Nat) : Int) = some (V.str (S (oF ku))) := yB rfl
 have b2 : qG [V.str n, .str (S (oF ku)), ov o] ((2 : Nat) : Int) = some (ov o) := yB rfl
 have tx := aeu n ku o
 refine ⟨_, rfl, b, _, _, _, rfl, rfl, o8.of hb, b2, rfl, _, rfl, ?_⟩
 cases o with
 | none =>
   refine bJ ⟨_, rfl, b, _, _, _, rfl, rfl, o8.of hb, b0, _, _, rfl, rfl, zJ (m := 100) (by show _ + n.length ≤ 100; omega), _, _, rfl, rfl, zJ (m := 100) (by rw [zQ]; show _ + n.length + _ ≤ 100; omega), _, rfl, b, _, _, _, rfl, rfl, o8.of hb, b1, _, _, rfl, rfl, zJ (m := 10000) (by rw [zQ, zQ, zU]; show _ + n.length + _ + _ ≤ 10000; omega), ?_⟩
   dsimp only at tx
   rw [tx]; exact q
 | some t =>
   have k6 : ‹" when "›.length = 6 := by symm
   have l2 : (qx t).length ≤ 3200 := (g.2.2 t rfl).len
   refine bh ⟨_, rfl, b, _, _, _, rfl, rfl, o8.of hb, b0, _, _, rfl, rfl, zJ (m := 100) (by show _ + n.length ≤ 100; omega), _, _, rfl, rfl, zJ (m := 100) (by rw [zQ]; show _ + n.length + _ ≤ 100; omega), _, rfl, b, _, _, _, rfl, rfl, o8.of hb, b1, _, _, rfl, rfl, zJ (m := 10000) (by rw [zQ, zQ, zU]; show _ + n.length + _ + _ ≤ 10000; omega), _, _, rfl, rfl, zJ (m := 10000) (by rw [zQ, zQ, zQ, zU]; show _ + n.length + _ + _ + _ ≤ 10000; omega), _, rfl, b, _, _, _, rfl, rfl, o8.of hb, b2, _, _, rfl, rfl, zJ (m := 10000) (by rw [zQ, zQ, zQ, zQ, zU, zU]; show _ + n.length + _ + _ + _ + _ ≤ 10000; omega), ?_⟩
   dsimp only at tx
   rw [tx]; exact q
theorem Hs (T : Txt K mg A) : aB P w K mg base aL 13 A.km A.qj ["_law_found", "_law_due"] (avp A) := by
 have G_S := K1 (P := P) (w := w) (base := base) T 5
 refine T.JV.ok Hj (fun vs H Q E h => ?_) (fun cdv A0 outer s H vs Q E hr h => ?_)
 · obtain ⟨x, y, c, rfl, _⟩ := h
   rfl
 obtain ⟨x, y, ⟨n, ku, o⟩, rfl, ⟨a, dx, kp, v, rfl, ha, hk, gk, hv⟩, ⟨b, rfl, hb⟩, g, q⟩ := h
 obtain ⟨kr, hkr⟩ : ∃ kr : Nat, kr = 11 := ⟨_, rfl⟩
 obtain ⟨ktd, aej⟩ : ∃ kr : Nat, kr = 6 := ⟨_, rfl⟩
 refine ⟨_, (zC (yD (PW.pt (oh (lC (yP (zW xI (by rfl) T.b7 Bt.isinstance (zA (pv 0) (zA (xO rfl T.acC) zB))))) (pB (yP (zW xI (by rfl) T.b7 Bt.isinstance (zA (pv 0) (zA (xO rfl T.abB) zB))))))) (zD (zM HN)) zV)
     (zC (yD (PW.pt (oh (lC (yP (zW xI (by rfl) T.b7 Bt.isinstance (zA (zX (pv 0) rfl) (zA (qF (v := .ty "str") rfl T.m8 Bt.str rfl) zB))))) (oh (zP HW (zX (pv 0) rfl) (yN yY (pv 1) zF (fun _ _ => rfl)) (zO _)) (pB (zP HW (yC (CX := aL) (k := ktd) ‹hr› zL (zX (pv 0) rfl)) (yN yY (pv 1) zF (fun _ _ => rfl)) (zO _)))))) (zD (zM HN)) zV)
     (zC (yD (zP Dr (yN yY (pv 1) zF (fun _ _ => rfl)) yT (zO _)) (zD (zM (yI Dr (zX (pv 0) rfl) yT (zO _)))) zV)
     (zD (zM (pD (yI Hu (zX (pv 0) rfl) yT (zO _)) (pC (yI yG (yC (CX := aL) (k := kr) ‹hr› zL (zX (pv 0) rfl)) (yN yY (pv 1) zF (fun _ _ => rfl)) (zO _))))))))), ?_⟩
 subst hkr aej
 have b0 : qG [V.str n, .str (S (oF ku)), ov o] ((0 : Nat) : Int) = some (V.str n) := yB rfl
 have b1 : qG [V.str n, .str (S (oF ku)), ov o] ((1 : Nat) : Int) = some (V.str (S (oF ku))) := yB rfl
 have b2 : qG [V.str n, .str (S (oF ku)), ov o] ((2 : Nat) : Int) = some (ov o) := yB rfl
 refine ⟨_, rfl, _, _, _, _, rfl, rfl, .old (T.UL _ _ _ _ ha), T.J6, _, rfl, bh ?_⟩
 refine ⟨_, rfl, _, _, _, _, rfl, rfl, .old (T.UL _ _ _ _ ha), T.PK, _, rfl, bh ?_⟩
 refine ⟨_, rfl, a, _, dx, _, _, rfl, ha, T.nW, T.qR, rfl, _, _, _, _, rfl, rfl, .old (.str _), T.mj, _, rfl, bh ?_⟩
 refine ⟨_, rfl, a, _, dx, _, _, rfl, ha, T.nW, T.qR, rfl, _, rfl, b, _, _, _, rfl, rfl, o8.of hb, b0, rfl, _, rfl, Hq nd ?_⟩
 obtain ⟨dxk, fs, hkp, hf⟩ := id hk
 obtain ⟨J, ej, dj⟩ : ∃ J : jQ P w K mg base aL 6 (cls A ku) "told", J.sp = tM A ku ∧ J.oK = [] := ⟨JT T ku gk, acJ T ku gk⟩
 refine ⟨_, rfl, a, _, dx, _, _, rfl, ha, T.nW, T.vU, rfl, kp, cls A ku, dxk, fs, J, rfl, hkp, hf.noT.1, ?_⟩
 show J.sp (_ :: ([] ++ J.oK)) _ _ _
 rw [ej, dj]
 refine ⟨kp, rfl, hk, fun H1 s1 => ⟨_, rfl, b, _, _, _, rfl, rfl, o8.of (s1 _ _ hb), b1, rfl, _, rfl, Hq nd ?_⟩⟩
 refine ⟨_, rfl, b, _, _, _, rfl, rfl, o8.of (s1 _ _ hb), b2, rfl, _, rfl, ?_⟩
 cases o with
 | none =>
   have hv : v = .non := hv
   subst hv
   exact bJ ⟨_, rfl, a, _, dx, _, _, rfl, s1 _ _ ha, T.nW, T.m9, rfl, rfl, q _ s1⟩
 | some t =>
   have gt := g.2.2 t rfl
   have hv1 := nD.same (t := t) s1 hv
   obtain ⟨a2, C1, MP, MT, M1, ey1, h1, hl1, aeh, aei⟩ := wj T G_S (t := t) hv1
   subst ey1
   refine bh ⟨_, rfl, a, _, dx, _, _, rfl, s1 _ _ ha, T.nW, T.m9, rfl, rfl, _, rfl, bJ ⟨_, rfl, a, _, dx, _, _, rfl, s1 _ _ ha, T.nW, T.m9, rfl, a2, C1, MP, MT, M1, rfl, h1, hl1, ?_⟩⟩
   dsimp only [tW]
   rw [aeh, aei]
   refine ⟨_, t, [], rfl, hv1, by have := gt.2.1; omega, rfl, gt.1, by have := gt.b.2.2; omega, _, rfl, b, _, _, _, rfl, rfl, o8.of (s1 _ _ hb), b2, rfl, ?_⟩
   have e : decide (V.str (S (qx t)) = ov (some t)) = true := decide_eq_true rfl
   rw [e]; exact q _ s1
end
section
variable {P : Program} {w : World} {K : W.Frag} {mg : Str → Option Value} {base : Heap} {A : cj}
theorem Vj (T : Txt K mg A) : aB P w K mg base aL 50 A.VJ A.VL ["_law_script"] (Lb K) := by
 have zy := KJ (P := P) (w := w) (base := base) T
 have ie := qX (P := P) (w := w) (base := base) T
 have Vk := Tu (P := P) (w := w) (base := base) T
 have Ld := Hr (P := P) (w := w) (base := base) T
 have Le := Hs (P := P) (w := w) (base := base) T
 have Qw := acd (P := P) (w := w) (base := base) T
 have Nf := K9 (P := P) (w := w) (base := base) T
 refine T.acv.ok rT (fun vs H Q E h => ?_) (fun cdv A0 outer s H vs' Q E hr h => ?_)
 · obtain ⟨a, ns, rfl, _⟩ := h
   rfl
 obtain ⟨a, ns, rfl, hS, hlen, Vu, q⟩ := h
 refine ⟨_, (zC (zY (i := 1) rT.nd rfl (by first | exact Or.inl rfl | exact Or.inr rfl) (zN ie ‹hr› rfl T.lZ T.lY T.lX .nil zL (zA (zN zy ‹hr› rfl T.za T.yz T.yx .nil zL (zA (pv 0) (zA zF zB))) zB)))
     (zC (zY (i := 2) rT.nd rfl (by first | exact Or.inl rfl | exact Or.inr rfl) (zN ie ‹hr› rfl T.lZ T.lY T.lX .nil zL (zA (zN zy ‹hr› rfl T.za T.yz T.yx .nil zL (zA (pv 0) (zA zF zB))) zB)))
     (zC (zY (i := 3) rT.nd rfl (by first | exact Or.inl rfl | exact Or.inr rfl) (zN Vk ‹hr› rfl T.Ux T.Uw T.Uv .nil zL (zA (pv 0) zB)))
     (zC (zY (i := 4) rT.nd rfl (by first | exact Or.inl rfl | exact Or.inr rfl) (xJ PySem.F.plainAttrs_str PySem.F.slot_str_join PySem.F.type_str_join By zH (zA (zI Ow (xF (zA (zI zG zH (pv 1)) (zA (zI zG zH (pv 2)) zB))) (pH (yX (x := "_law_row") (M := ["_law_script", "_law_name_here", "_law_other", "_law_rows_here", "_law_text", "_law_paper", "_law_sheet", "_law_found", "_law_due", "_law_told"]) rfl (by rfl)) rfl (xY (pv 3)) (fun _ _ _ _ => (zN Ld ‹hr› rfl T.JS T.JR T.JQ .nil zL (zA (pv 0) zB))))) zB)))
     (zC (zY (i := 5) rT.nd rfl (by first | exact Or.inl rfl | exact Or.inr rfl) (zN Qw ‹hr› rfl T.Pk T.Pj T.Ph .nil zL (zA (pv 4) zB)))
     (zC (yD (PW.pt (oh (zP HW (zX (pv 5) rfl) (pv 1) (zO _)) (oh (zP HW (zW zZ (by rfl) T.gJ PySem.boot_len (zA (zX (pv 5) rfl) zB)) zF (zO _)) (pB (zP (YW (adu hr)) (zX (pv 5) rfl) (xF zB) (zO _)))))) (zD (zM HN)) zV)
     (zC (zY (i := 6) rT.nd rfl (by first | exact Or.inl rfl | exact Or.inr rfl) (yN xD (zX (pv 5) rfl) zF (fun _ _ => rfl)))
     (zC (yD (PW.pt (oh (zP HW (zX (pv 6) rfl) (pv 2) (zO _)) (oh (zP Hu (zX (pv 6) rfl) yT (zO _)) (oh (zP (YW (adu hr)) (zX (pv 6) rfl) (xF zB) (zO _)) (pB (zP HW (zW zZ (by rfl) T.gJ PySem.boot_len (zA (zX (pv 6) rfl) zB)) (zW zZ (by rfl) T.gJ PySem.boot_len (zA (pv 3) zB)) (zO _))))))) (zD (zM HN)) zV)
     (zC (wH PassesOwn.never rfl (adA rfl T.agT (zA (zX (pv 6) rfl) (zA (pv 3) zB))) (X5 rfl (Br (oJ (i := 7) rT.nd rfl (by first | exact Or.inl rfl | exact Or.inr rfl)) (Br (oJ (i := 8) rT.nd rfl (by first | exact Or.inl rfl | exact Or.inr rfl)) Vm))) (zD (yD (lC (yP (zN Le ‹hr› rfl T.JZ T.JX T.JW .nil zL (zA (pv 7) (zA (pv 8) zB))))) (zD (zM HN)) zV)))
     (zC (zY (i := 9) rT.nd rfl (by first | exact Or.inl rfl | exact Or.inr rfl) (zN Nf ‹hr› rfl T.Mj T.Mi T.Mh .nil zL (zA (pv 5) zB)))
     (zD (zM (pD (zW xI (by rfl) T.b7 Bt.isinstance (zA (pv 9) (zA (qF (v := .ty "str") rfl T.m8 Bt.str rfl) zB))) (pC (yI yG (pv 9) (pv 4) (zO _)))))))))))))))), ?_⟩
 generalize h0 : L2.start _ [V.ref a] = σ0
 have h0 : σ0 = [some (.ref a), none, none, none, none, none, none, none, none, none] := by rw [← h0]; rfl
 subst h0
 refine ⟨_, rfl, a, ns, 0, rfl, hS, by decide, Vu, fun n0 _ => ⟨n0, rfl, fun z H1 hz s1 => ?_⟩⟩
 dsimp only [jg, List.set_cons_succ, List.set_cons_zero]
 refine ⟨_, rfl, a, ns, 1, rfl, s1.seq hS, by decide, Vu, fun n1 _ => ⟨n1, rfl, fun y H2 hy s2 => ?_⟩⟩
 have s12 := s1.trans s2
 dsimp only [jg, List.set_cons_succ, List.set_cons_zero]
 refine ⟨_, rfl, a, ns, rfl, s12.seq hS, fun p xs rs H3 s3 hp hrs hgd h7 => ?_⟩
 dsimp only [jg, List.set_cons_succ, List.set_cons_zero]
 have g : PpG z y rs := ⟨hz, hy, hgd, h7⟩
 have lz := (yU hz).len
 have ly := (yU hy).len
 have k6 : ‹"paper "›.length = 6 := by symm
 have k7 : ‹"sheet "›.length = 6 := by symm
 have lrs : xs.length = rs.length := xA hrs
 refine ⟨rfl, _, rfl, _, _, rfl, rfl, zJ (m := 100) (by omega), _, rfl, _, _, rfl, rfl, zJ (m := 100) (by omega), (by show 2 ≤ sizeLine; decide), fun pl hpl => ?_⟩
 have e1 : ‹"paper "› ++ z = S (ln "paper" (cd z)) := Qu (f := "paper") (by symm) z
 have e2 : ‹"sheet "› ++ y = S (ln "sheet" (cd y)) := Qu (f := "sheet") (by symm) y
 rw [e1, e2]
 have t1 := zS hpl (.lst [V.str (S (ln "paper" (cd z))), .str (S (ln "sheet" (cd y)))])
 have aev : upd H3 pl (.lst [V.str (S (ln "paper" (cd z))), .str (S (ln "sheet" (cd y)))]) pl = some (.lst [V.str (S (ln "paper" (cd z))), .str (S (ln "sheet" (cd y)))]) := zE
 generalize upd H3 pl (.lst [V.str (S (ln "paper" (cd z))), .str (S (ln "sheet" (cd y)))]) = H4 at t1 aev ⊢
 have hp4 := t1 _ _ hp
 have ah1 := yO (fun _ _ k => TF.same t1 k) hrs
 refine ⟨_, rfl, p, rfl, ⟨_, bG.of hp4⟩, ?_⟩
 refine pI (xs := xs) (zJ (m := 7) (by omega)) (fun i ys H' => H4 = H' ∧ ys = wv ((rs.take i).map Oc)) ⟨rfl, rfl⟩ (fun i ys H' hw => hw.1 ▸ bG.of hp4) (fun i x ys H' hx _ hw => ?_) (fun ys H' _ hw pc hpc => ?_)
 · obtain ⟨rfl, rfl⟩ := hw
   obtain ⟨c, Wh, hc⟩ := wR ah1 hx
   exact ⟨_, rfl, x, c, rfl, hc, hgd c (List.mem_of_getElem? Wh), rfl, Wg Wh⟩
 obtain ⟨rfl, rfl⟩ := hw
 rw [lrs, List.take_length]
 have t2 := zS hpc (.lst (wv (rs.map Oc)))
 refine ⟨pl, pc, _, _, rfl, rfl, t2 _ _ aev, zE, zJ (m := 100) (by rw [List.length_map, List.length_map]; show 2 + rs.length ≤ 100; omega), fun pq hpq => ?_⟩
 have avs : [V.str (S (ln "paper" (cd z))), .str (S (ln "sheet" (cd y)))] ++ wv (rs.map Oc) = ((cR z y rs).map S).map V.str := by rw [← Qs]; rfl
 rw [avs]
 have t3 := zS hpq (.lst (((cR z y rs).map S).map V.str))
 refine ⟨_, pq, (cR z y rs).map S, rfl, rfl, .inl (bG.of zE), Oe g, ?_⟩
 rw [xV, Wf, show cd ‹"\n"› = [10] by symm]
 have t14 := t1.trans (t2.trans t3)
 have hp5 := t14 _ _ hp
 generalize upd (upd H4 pc (.lst (wv (rs.map Oc)))) pq (.lst (((cR z y rs).map S).map V.str)) = H5 at t14 hp5 ⊢
 have avu := yO (fun _ _ k => TF.same t14 k) hrs
 clear hrs ah1 hp hp4 aev t1 t2 t3
 dsimp only [jg, List.set_cons_succ, List.set_cons_zero]
 refine ⟨_, rfl, z, y, rs, rfl, g, fun x H6 s6 ah2 => ?_⟩
 have ah3 := ah2
 obtain ⟨b, dx, q1, q2, sh, qD, pr, pw, ws, rfl, hb, hq1, hq2, hsh, hpr, Qj, hws⟩ := ah2
 have hp6 := s6 _ _ hp5
 have avw := yO (fun _ _ k => TF.same s6 k) avu
 have lx : ws.length = xs.length := by rw [xA hws, lrs]
 dsimp only [jg, List.set_cons_succ, List.set_cons_zero]
 refine ⟨_, rfl, b, _, dx, _, _, rfl, hb, T.jq, T.rO, rfl, _, rfl, rfl, _, rfl, Hq nd ?_⟩
 refine ⟨_, rfl, b, _, dx, _, _, rfl, hb, T.jq, T.jF, rfl, q1, _, rfl, .inl (bG.of hq1), rfl, _, rfl, Hq (by show (!decide (V.int ((1 : Nat) : Int) = V.int 1)) = false; decide) ?_⟩
 refine ⟨_, rfl, b, _, dx, _, _, rfl, hb, T.jq, T.nY, rfl, (by show 0 ≤ sizeLine; decide), fun pe hpe => ?_⟩
 have u1 := zS hpe (.lst [])
 refine ⟨_, Dz (n := 19) (e := fun _ => true) (bG.of (u1 _ _ hq2)) (bG.of zE) rfl (fun j x y hx _ => by simp at hx), _, rfl, Hq (by simp) ?_⟩
 have i0 : qG [V.ref sh] ((0 : Nat) : Int) = some (V.ref sh) := yB rfl
 refine ⟨_, rfl, b, _, dx, _, _, rfl, u1 _ _ hb, T.jq, T.jF, rfl, q1, _, _, _, rfl, rfl, bG.of (u1 _ _ hq1), i0, ?_⟩
 dsimp only [jg, List.set_cons_succ, List.set_cons_zero]
 refine ⟨_, rfl, sh, _, qD, _, _, rfl, u1 _ _ hsh, T.eE, T.rM, rfl, _, rfl, rfl, _, rfl, Hq nd ?_⟩
 refine ⟨_, rfl, sh, _, qD, _, _, rfl, u1 _ _ hsh, T.eE, T.rN, rfl, rfl, _, rfl, Hq nd ?_⟩
 refine ⟨_, rfl, sh, _, qD, _, _, rfl, u1 _ _ hsh, T.eE, T.mU, rfl, (by show 0 ≤ sizeLine; decide), fun pf hpf => ?_⟩
 have u2 := zS hpf (.lst [])
 have u12 := u1.trans u2
 refine ⟨_, Dz (n := 19) (e := fun _ => true) (bG.of (u12 _ _ Qj)) (bG.of zE) rfl (fun j x y hx _ => by simp at hx), _, rfl, Hq (by simp) ?_⟩
 refine ⟨_, rfl, sh, _, qD, _, _, rfl, u12 _ _ hsh, T.eE, T.jo, rfl, pr, _, rfl, .inl (bG.of (u12 _ _ hpr)), _, rfl, p, _, rfl, .inl (bG.of (u12 _ _ hp6)), rfl, _, rfl, Hq (nl lx) ?_⟩
 refine ⟨_, rfl, sh, _, qD, _, _, rfl, u12 _ _ hsh, T.eE, T.jo, rfl, _, rfl, pr, p, rfl, ⟨_, bG.of (u12 _ _ hpr)⟩, ⟨_, bG.of (u12 _ _ hp6)⟩, ?_⟩
 refine Zk (xs := ws) (ys := xs) lx (fun i σ F => (∃ v1 v2, σ = [some (.ref a), some (.str z), some (.str y), some (.ref p), some (.str (S (aF [10] (cR z y rs)))), some (.ref b), some (.ref sh), v1, v2, none]) ∧ az H6 F) ⟨⟨_, _, rfl⟩, u12⟩ (fun i σ F _ hh => ⟨bG.of (hh.2 _ _ hpr), bG.of (hh.2 _ _ hp6)⟩) (fun i x x' σ F hx hx' hh tp htp => ?_) (fun σ F hh => ?_)
 · obtain ⟨⟨v1, v2, rfl⟩, sF⟩ := hh
   obtain ⟨c, Wh, hc⟩ := wR hws hx
   obtain ⟨c', avx, hc'⟩ := wR avw hx'
   have ec : c' = c := Option.some.inj (avx.symm.trans Wh)
   subst ec
   have sT := sF.trans (zS htp (.tup [x, x']))
   refine ⟨tp, _, rfl, o8.of zE, rfl, _, _, rfl, _, _, rfl, rfl, ?_⟩
   exact ⟨_, rfl, _, rfl, x, x', c', rfl, hc.same sT, hc'.same sT, hgd _ (List.mem_of_getElem? Wh), fun F2 sF2 => ⟨_, rfl, bh ⟨⟨_, _, rfl⟩, sT.trans sF2⟩⟩⟩
 obtain ⟨⟨v1, v2, rfl⟩, sF⟩ := hh
 refine ⟨_, rfl, _, z, y, rs, rfl, ah3.same sF, g, fun H7 s7 => ?_⟩
 refine ⟨_, rfl, _, _, _, _, rfl, rfl, .old (.str _), T.mj, _, rfl, bJ ⟨_, rfl, _, rfl, rfl, ?_⟩⟩
 rw [decide_eq_true rfl]
 exact q _
end
end dI.Y
namespace dI
open PySem L2
abbrev Lb := Y.Lb
theorem Vj {P : Program} {w : World} {K : W.Frag} {mg : Str → Option Value} {base : Heap} {A : cj} (T : Txt K mg A) : aB P w K mg base aL 50 A.VJ A.VL ["_law_script"] (Lb K) := Y.Vj T
end dI
set_option maxHeartbeats 4000000
namespace dI
open PySem L2
abbrev lI (K : W.Frag) (f : Addr) (oc : Value) (od : Option Addr) (x y : Str) (st : Stmt) (dV kV dc pm : Value) (an : Option Addr) (cd ct : Value) (sl : Array (Option Value)) : Prop := K.lookup f = some ⟨oc, od, .func (W.fnOf x y (ao st) (ak st) (aa st) dV kV dc pm an cd ct), sl⟩
abbrev nI (K : W.Frag) (x : Str) (a : Addr) : Prop := W.nsIn K mainGlobals x = some (some (.ref a))
abbrev nN (K : W.Frag) (x : Str) : Prop := W.nsIn K mainGlobals x = some none
abbrev fI (K : W.Frag) (c : Addr) (x : Str) (a : Addr) : Prop := W.findIn K (.ref c) x = some (some (.ref a))
abbrev fN (K : W.Frag) (c : Addr) (x : Str) : Prop := W.findIn K (.ref c) x = some none
abbrev fB (K : W.Frag) (c : Addr) (x : Str) (b : String) : Prop := W.findIn K (.ref c) x = some (some (.builtin b))
abbrev cI (K : W.Frag) (c : Value) (x : Str) : Prop := W.codeIn K c x = true
abbrev eI (K : W.Frag) (f : Addr) : Prop := W.keepIn K (.ref f) = true
abbrev tI (K : W.Frag) (f : Addr) : Prop := W.isFn K (.ref f) = true
theorem aew {K : W.Frag} {h : Heap} {mg : Str → Option Value} (X : K.In h) (G : h.Ns mainGlobals mg)
{f0 f1 f2 f3 f4 dT4 f5 f6 f7 f8 f9 f10 f11 f12 f13 f14 f15 f16 f17 f18 aex f19 f20 f21 f22 f23 f24 f25 f26 f27 f28 aey f29 f30 f31 aez f32 f33 f34 f35 f36 f37 f38 f39 f40 f41 f42 f43 f44 f45 f46 f47 f48 f49 f50 f51 f52 f53 f54 f55 f56 f57 f58 f59 f60 f61 f62 f63 f64 f65 f66 f67 f68 f69 f70 f71 f72 f73 f74 f75 f76 f77 f78 f79 f80 f81 ga3 aeD oG jj wV cg bY dG ye Fg iu jJ wB iV qC qY Lf jK mC Og Tv jf iw aD jL : Addr} {od0 an0 od1 an1 od2 an2 od3 an3 od4 an4 dD4 od5 an5 od6 an6 od7 an7 od8 an8 od9 an9 avA aiF avB aiG avC aiH avD aiI avE aiJ avF aiK avG aiL avH aiM avI aiN avJ avK aiO avL aiP avM aiQ avN aiR avO aiS avP aiT avQ aiU avR aiV avS aiW avT aiX avU avV aiY avW aiZ avX ai0 avY avZ ai1 av0 ai2 av1 ai3 av2 ai4 av3 ai5 av4 ai6 av5 ai7 av6 ai8 av7 ai9 av8 aja av9 ajb awa ajc awb ajd awc aje awd ajf awe ajg awf ajh awg aji awh ajj awi ajk awj ajl awk ajm awl ajn awm ajo awn ajp awo ajq awp ajr awq ajs awr ajt aws aju awt ajv awu ajw awv ajx aww ajy awx ajz awy ajA awz ajB awA ajC awB ajD awC ajE awD ajF awE ajG awF ajH awG ajI awH ajJ awI ajK awJ ajL awK ajM awL ajN awM ajO gd3 awN : Option Addr} {sl0 sl1 sl2 sl3 sl4 dS4 sl5 sl6 sl7 sl8 sl9 awO awP awQ awR awS awT awU awV awW awX awY awZ aw0 aw1 aw2 aw3 aw4 aw5 aw6 aw7 aw8 aw9 axa axb axc axd axe axf axg axh axi axj axk axl axm axn axo axp axq axr axs axt axu axv axw axx axy axz axA axB axC axD axE axF axG axH axI axJ axK axL axM axN axO axP axQ axR axS axT axU axV axW axX axY axZ ax0 gs3 ax1 : Array (Option Value)} {oc0 kV0 dc0 pm0 cd0 ct0 oc1 kV1 dc1 pm1 cd1 ct1 oc2 kV2 dc2 pm2 cd2 ct2 oc3 kV3 dc3 pm3 cd3 ct3 oc4 kV4 dc4 pm4 cd4 ct4 oc5 kV5 dc5 pm5 cd5 ct5 oc6 kV6 dc6 pm6 cd6 ct6 oc7 kV7 dc7 pm7 cd7 ct7 oc8 kV8 dc8 pm8 cd8 ct8 oc9 kV9 dc9 pm9 cd9 ct9 ayc ajP ajQ ajR aeE ajS ayd ajT ajU ajV aeF ajW aye ajX ajY ajZ aeG aj0 ayf aj1 aj2 aj3 aeH aj4 ayg aj5 aj6 aj7 aeI aj8 ayh aj9 aka akb aeJ akc ayi akd ake akf aeK akg ayj akh aki akj aeL akk ayk akl akm akn aeM ako ayl akp akq akr aeN aks aym akt aku akv aeO akx ayn aky akz akA aeP akB ayo akC akD akE aeQ akF ayp akG akH akI aeR akJ ayq akK akM akN aeS akO ayr akP akQ akR aeT akS ays akU akV akW aeU akX ayt akY akZ ak0 aeV ak1 ayu ak2 ak3 ak4 aeW ak5 ayv ak6 ak7 ak8 aeX ak9 ayw ala alb alc aeY ald ayx ale alf alg aeZ alh ayy ali alj alk ae0 alm ayz aln alo alp ae1 alq ayA alr als alu ae2 alv ayB alw alx aly ae3 alz ayC alA alB alC ae4 alD ayD alE alF alG ae5 alH ayE alI alJ alK ae6 alL ayF alM alN alO ae7 alP ayG alQ alR alS ae8 alT ayH alU alV alW ae9 alX ayI alY alZ al0 afa al1 ayJ al2 al3 al4 afb al5 ayK al6 al7 al8 afc al9 ayL ama amb amc afd amd ayM ame amf amg afe amh ayN ami amj amk afg aml ayO amm amn amo afh amq ayP amr ams amt afi amu ayQ amv amw amx afj amy ayR amz amA amB afk amC ayS amD amE amF afl amG ayT amH amI amJ afm amK ayU amL amM amN afn amO ayV amP amQ amR afo amS ayW amT amU amV afp amW ayX amX amY amZ afq am0 ayY am1 am2 am3 afr am4 ayZ am5 am6 am7 afs am8 ay0 am9 ana anb aft anc ay1 ane anf ang afu anh ay2 ani anj ank afv anl ay3 anm ano anp afw anq ay4 anr ant anu afx anv ay5 anw anx anz afy anA ay6 anB anC anD afz anE ay7 anF anG anH afA anI ay8 anJ anK anL afB anM ay9 anN anO anP afC anQ aza anR anS anT afD anU azb anV anW anY afE anZ azc aoa aob aoc afF aod azd aoe aof aog afG aoh aze aoi aoj aok afH aol azf aom aon aoo afI aop azg aoq aor aos afJ aot azh aou aov aow afK aox azi aoy aoz aoA afL aoB azj aoC aoD aoE afM aoF azk aoG aoH aoI afN aoJ azl aoK aoL aoM afO aoN go3 aoO : Value} {dN4 azm azn azo gn3 azp : Nat} {acT aaC gt0 gt1 gt2 gt4 gt5 gt6 gt7 gt8 gt9 azq azr azs : Tok} {gi3 afP : Array Value} {aaD Xy Tw Tz Qx : ClassData}
 (ha3 : nI K "Ask" oG)
 (ha4 : nI K "Both" jj)
 (ha5 : nI K "Check" wV)
 (ha6 : nI K "Compare" cg)
 (ha7 : nI K "Draft" bY)
 (ha8 : nI K "Either" dG)
 (ha9 : nI K "Is" ye)
 (haa : nI K "Kind" Fg)
 (hab : nI K "Money" iu)
 (hac : nI K "Names" jJ)
 (had : nI K "NoKind" wB)
 (hae : nI K "NoNumber" iV)
 (haf : nI K "NoSaying" qC)
 (hag : nI K "Not" qY)
 (hah : nI K "Pair" Lf)
 (hai : nI K "Paper" jK)
 (haj : nI K "Pick" mC)
 (hak : nI K "Row" Og)
 (hal : nI K "Saying" Tv)
 (ham : nI K "Sheet" jf)
 (han : nI K "Whole" iw)
 (hao : nI K "WordsLeft" aD)
 (hap : nI K "YesNo" jL)
 (h00 : nI K "is_name" f0)
 (h01 : lI K f0 oc0 od0 "is_name" "is_name" jT .none kV0 dc0 pm0 an0 cd0 ct0 sl0)
 (h02 : cI K cd0 "is_name")
 (h03 : eI K f0)
 (h04 : nI K "are_unlike_names" f1)
 (h05 : lI K f1 oc1 od1 "are_unlike_names" "are_unlike_names" bj .none kV1 dc1 pm1 an1 cd1 ct1 sl1)
 (h06 : cI K cd1 "are_unlike_names")
 (h07 : eI K f1)
 (h08 : nI K "are_figures" f2)
 (h09 : lI K f2 oc2 od2 "are_figures" "are_figures" dJ .none kV2 dc2 pm2 an2 cd2 ct2 sl2)
 (h0a : cI K cd2 "are_figures")
 (h0b : eI K f2)
 (h0c : nI K "figures_worth" f3)
 (h0d : lI K f3 oc3 od3 "figures_worth" "figures_worth" cu .none kV3 dc3 pm3 an3 cd3 ct3 sl3)
 (h0e : cI K cd3 "figures_worth")
 (h0f : eI K f3)
 (h0g : nI K "number_of" f4)
 (h0h : lI K f4 oc4 od4 "number_of" "number_of" gA (.ref dT4) kV4 dc4 pm4 an4 cd4 ct4 sl4)
 (h0i : cI K cd4 "number_of")
 (h0j : eI K f4)
 (h0k : K.lookup dT4 = some ⟨.type "tuple", dD4, .seq ([(.int 60 acT)] : List Value).toArray dN4, dS4⟩)
 (h0l : nI K "number_or_none" f5)
 (h0m : lI K f5 oc5 od5 "number_or_none" "number_or_none" bK .none kV5 dc5 pm5 an5 cd5 ct5 sl5)
 (h0n : cI K cd5 "number_or_none")
 (h0o : eI K f5)
 (h0p : nI K "money_shown" f6)
 (h0q : lI K f6 oc6 od6 "money_shown" "money_shown" dM .none kV6 dc6 pm6 an6 cd6 ct6 sl6)
 (h0r : cI K cd6 "money_shown")
 (h0s : eI K f6)
 (h0t : nI K "money_or_none" f7)
 (h0u : lI K f7 oc7 od7 "money_or_none" "money_or_none" cA .none kV7 dc7 pm7 an7 cd7 ct7 sl7)
 (h0v : cI K cd7 "money_or_none")
 (h0w : eI K f7)
 (h0x : fI K Fg "__init__" f8)
 (h0y : lI K f8 oc8 od8 "__init__" "Kind.__init__" cB .none kV8 dc8 pm8 an8 cd8 ct8 sl8)
 (h0z : cI K cd8 "Kind.__init__")
 (h10 : eI K f8)
 (h11 : fI K jL "__init__" f9)
 (h12 : lI K f9 oc9 od9 "__init__" "YesNo.__init__" bL .none kV9 dc9 pm9 an9 cd9 ct9 sl9)
 (h13 : cI K cd9 "YesNo.__init__")
 (h14 : eI K f9)
 (h15 : fI K jL "told" f10)
 (h16 : lI K f10 ayc avA "told" "YesNo.told" cV .none ajP ajQ ajR aiF aeE ajS awO)
 (h17 : cI K aeE "YesNo.told")
 (h18 : eI K f10)
 (h19 : fI K iw "shown" f11)
 (h1a : lI K f11 ayd avB "shown" "Whole.shown" cD .none ajT ajU ajV aiG aeF ajW awP)
 (h1b : cI K aeF "Whole.shown")
 (h1c : eI K f11)
 (h1d : fI K iw "bounds" f12)
 (h1e : lI K f12 aye avC "bounds" "Whole.bounds" bM .none ajX ajY ajZ aiH aeG aj0 awQ)
 (h1f : cI K aeG "Whole.bounds")
 (h1g : eI K f12)
 (h1h : fI K iw "told" f13)
 (h1i : lI K f13 ayf avD "told" "Whole.told" cW .none aj1 aj2 aj3 aiI aeH aj4 awR)
 (h1j : cI K aeH "Whole.told")
 (h1k : eI K f13)
 (h1l : fI K iu "shown" f14)
 (h1m : lI K f14 ayg avE "shown" "Money.shown" cF .none aj5 aj6 aj7 aiJ aeI aj8 awS)
 (h1n : cI K aeI "Money.shown")
 (h1o : eI K f14)
 (h1p : fI K iu "told" f15)
 (h1q : lI K f15 ayh avF "told" "Money.told" cX .none aj9 aka akb aiK aeJ akc awT)
 (h1r : cI K aeJ "Money.told")
 (h1s : eI K f15)
 (h1t : fI K mC "__init__" f16)
 (h1u : lI K f16 ayi avG "__init__" "Pick.__init__" cG .none akd ake akf aiL aeK akg awU)
 (h1v : cI K aeK "Pick.__init__")
 (h1w : eI K f16)
 (h1x : fI K mC "told" f17)
 (h1y : lI K f17 ayj avH "told" "Pick.told" dN .none akh aki akj aiM aeL akk awV)
 (h1z : cI K aeL "Pick.told")
 (h20 : eI K f17)
 (h21 : fI K jJ "__init__" f18)
 (h22 : lI K f18 ayk avI "__init__" "Names.__init__" bN (.ref aex) akl akm akn aiN aeM ako awW)
 (h23 : cI K aeM "Names.__init__")
 (h24 : eI K f18)
 (h25 : K.lookup aex = some ⟨.type "tuple", avJ, .seq ([(.int 3 aaC)] : List Value).toArray azm, awX⟩)
 (h26 : fI K jJ "told" f19)
 (h27 : lI K f19 ayl avK "told" "Names.told" cY .none akp akq akr aiO aeN aks awY)
 (h28 : cI K aeN "Names.told")
 (h29 : eI K f19)
 (h2a : nI K "are_bounds" f20)
 (h2b : lI K f20 aym avL "are_bounds" "are_bounds" eO .none akt aku akv aiP aeO akx awZ)
 (h2c : cI K aeO "are_bounds")
 (h2d : eI K f20)
 (h2e : nI K "whole_or_none" f21)
 (h2f : lI K f21 ayn avM "whole_or_none" "whole_or_none" cH .none aky akz akA aiQ aeP akB aw0)
 (h2g : cI K aeP "whole_or_none")
 (h2h : eI K f21)
 (h2i : nI K "money_kind_or_none" f22)
 (h2j : lI K f22 ayo avN "money_kind_or_none" "money_kind_or_none" aN .none akC akD akE aiR aeQ akF aw1)
 (h2k : cI K aeQ "money_kind_or_none")
 (h2l : eI K f22)
 (h2m : nI K "pick_or_none" f23)
 (h2n : lI K f23 ayp avO "pick_or_none" "pick_or_none" cZ .none akG akH akI aiS aeR akJ aw2)
 (h2o : cI K aeR "pick_or_none")
 (h2p : eI K f23)
 (h2q : nI K "names_or_none" f24)
 (h2r : lI K f24 ayq avP "names_or_none" "names_or_none" cJ .none akK akM akN aiT aeS akO aw3)
 (h2s : cI K aeS "names_or_none")
 (h2t : eI K f24)
 (h2u : nI K "kind_or_none" f25)
 (h2v : lI K f25 ayr avQ "kind_or_none" "kind_or_none" dg .none akP akQ akR aiU aeT akS aw4)
 (h2w : cI K aeT "kind_or_none")
 (h2x : eI K f25)
 (h2y : nI K "kind_of" f26)
 (h2z : lI K f26 ays avR "kind_of" "kind_of" jU .none akU akV akW aiV aeU akX aw5)
 (h30 : cI K aeU "kind_of")
 (h31 : eI K f26)
 (h32 : fI K Og "__init__" f27)
 (h33 : lI K f27 ayt avS "__init__" "Row.__init__" dh .none akY akZ ak0 aiW aeV ak1 aw6)
 (h34 : cI K aeV "Row.__init__")
 (h35 : eI K f27)
 (h36 : fI K oG "__init__" f28)
 (h37 : lI K f28 ayu avT "__init__" "Ask.__init__" di (.ref aey) ak2 ak3 ak4 aiX aeW ak5 aw7)
 (h38 : cI K aeW "Ask.__init__")
 (h39 : eI K f28)
 (h3a : K.lookup aey = some ⟨.type "tuple", avU, .seq ([.none] : List Value).toArray azn, aw8⟩)
 (h3b : fI K jf "__init__" f29)
 (h3c : lI K f29 ayv avV "__init__" "Sheet.__init__" bO .none ak6 ak7 ak8 aiY aeX ak9 aw9)
 (h3d : cI K aeX "Sheet.__init__")
 (h3e : eI K f29)
 (h3f : fI K jK "__init__" f30)
 (h3g : lI K f30 ayw avW "__init__" "Paper.__init__" bQ .none ala alb alc aiZ aeY ald axa)
 (h3h : cI K aeY "Paper.__init__")
 (h3i : eI K f30)
 (h3j : fI K ye "__init__" f31)
 (h3k : lI K f31 ayx avX "__init__" "Is.__init__" dO (.ref aez) ale alf alg ai0 aeZ alh axb)
 (h3l : cI K aeZ "Is.__init__")
 (h3m : eI K f31)
 (h3n : K.lookup aez = some ⟨.type "tuple", avY, .seq ([.none] : List Value).toArray azo, axc⟩)
 (h3o : fI K ye "shown" f32)
 (h3p : lI K f32 ayy avZ "shown" "Is.shown" eQ .none ali alj alk ai1 ae0 alm axd)
 (h3q : cI K ae0 "Is.shown")
 (h3r : eI K f32)
 (h3s : fI K ye "atoms" f33)
 (h3t : lI K f33 ayz av0 "atoms" "Is.atoms" eU .none aln alo alp ai2 ae1 alq axe)
 (h3u : cI K ae1 "Is.atoms")
 (h3v : eI K f33)
 (h3w : fI K cg "__init__" f34)
 (h3x : lI K f34 ayA av1 "__init__" "Compare.__init__" bu .none alr als alu ai3 ae2 alv axf)
 (h3y : cI K ae2 "Compare.__init__")
 (h3z : eI K f34)
 (h40 : fI K cg "shown" f35)
 (h41 : lI K f35 ayB av2 "shown" "Compare.shown" bC .none alw alx aly ai4 ae3 alz axg)
 (h42 : cI K ae3 "Compare.shown")
 (h43 : eI K f35)
 (h44 : fI K cg "atoms" f36)
 (h45 : lI K f36 ayC av3 "atoms" "Compare.atoms" bD .none alA alB alC ai5 ae4 alD axh)
 (h46 : cI K ae4 "Compare.atoms")
 (h47 : eI K f36)
 (h48 : fI K qY "__init__" f37)
 (h49 : lI K f37 ayD av4 "__init__" "Not.__init__" dm .none alE alF alG ai6 ae5 alH axi)
 (h4a : cI K ae5 "Not.__init__")
 (h4b : eI K f37)
 (h4c : fI K qY "shown" f38)
 (h4d : lI K f38 ayE av5 "shown" "Not.shown" dR .none alI alJ alK ai7 ae6 alL axj)
 (h4e : cI K ae6 "Not.shown")
 (h4f : eI K f38)
 (h4g : fI K qY "atoms" f39)
 (h4h : lI K f39 ayF av6 "atoms" "Not.atoms" dU .none alM alN alO ai8 ae7 alP axk)
 (h4i : cI K ae7 "Not.atoms")
 (h4j : eI K f39)
 (h4k : fI K Lf "__init__" f40)
 (h4l : lI K f40 ayG av7 "__init__" "Pair.__init__" cL .none alQ alR alS ai9 ae8 alT axl)
 (h4m : cI K ae8 "Pair.__init__")
 (h4n : eI K f40)
 (h4o : fI K Lf "shown_with" f41)
 (h4p : lI K f41 ayH av8 "shown_with" "Pair.shown_with" aV .none alU alV alW aja ae9 alX axm)
 (h4q : cI K ae9 "Pair.shown_with")
 (h4r : eI K f41)
 (h4s : fI K Lf "atoms" f42)
 (h4t : lI K f42 ayI av9 "atoms" "Pair.atoms" dq .none alY alZ al0 ajb afa al1 axn)
 (h4u : cI K afa "Pair.atoms")
 (h4v : eI K f42)
 (h4w : fI K jj "shown" f43)
 (h4x : lI K f43 ayJ awa "shown" "Both.shown" du .none al2 al3 al4 ajc afb al5 axo)
 (h4y : cI K afb "Both.shown")
 (h4z : eI K f43)
 (h50 : fI K dG "shown" f44)
 (h51 : lI K f44 ayK awb "shown" "Either.shown" bR .none al6 al7 al8 ajd afc al9 axp)
 (h52 : cI K afc "Either.shown")
 (h53 : eI K f44)
 (h54 : fI K aD "__init__" f45)
 (h55 : lI K f45 ayL awc "__init__" "WordsLeft.__init__" aO .none ama amb amc aje afd amd axq)
 (h56 : cI K afd "WordsLeft.__init__")
 (h57 : eI K f45)
 (h58 : fI K aD "take" f46)
 (h59 : lI K f46 ayM awd "take" "WordsLeft.take" bw .none ame amf amg ajf afe amh axr)
 (h5a : cI K afe "WordsLeft.take")
 (h5b : eI K f46)
 (h5c : fI K aD "are_all_taken" f47)
 (h5d : lI K f47 ayN awe "are_all_taken" "WordsLeft.are_all_taken" aG .none ami amj amk ajg afg aml axs)
 (h5e : cI K afg "WordsLeft.are_all_taken")
 (h5f : eI K f47)
 (h5g : nI K "read_atom" f48)
 (h5h : lI K f48 ayO awf "read_atom" "read_atom" gB .none amm amn amo ajh afh amq axt)
 (h5i : cI K afh "read_atom")
 (h5j : eI K f48)
 (h5k : nI K "read_pair" f49)
 (h5l : lI K f49 ayP awg "read_pair" "read_pair" gC .none amr ams amt aji afi amu axu)
 (h5m : cI K afi "read_pair")
 (h5n : eI K f49)
 (h5o : nI K "read_next" f50)
 (h5p : lI K f50 ayQ awh "read_next" "read_next" gD .none amv amw amx ajj afj amy axv)
 (h5q : cI K afj "read_next")
 (h5r : eI K f50)
 (h5s : nI K "read_saying" f51)
 (h5t : lI K f51 ayR awi "read_saying" "read_saying" dW .none amz amA amB ajk afk amC axw)
 (h5u : cI K afk "read_saying")
 (h5v : eI K f51)
 (h5w : nI K "shown_when" f52)
 (h5x : lI K f52 ayS awj "shown_when" "shown_when" eV .none amD amE amF ajl afl amG axx)
 (h5y : cI K afl "shown_when")
 (h5z : eI K f52)
 (Vg : nI K "shown_row" f53)
 (h61 : lI K f53 ayT awk "shown_row" "shown_row" gF .none amH amI amJ ajm afm amK axy)
 (h62 : cI K afm "shown_row")
 (h63 : eI K f53)
 (h64 : nI K "shown_sheet" f54)
 (h65 : lI K f54 ayU awl "shown_sheet" "shown_sheet" dX .none amL amM amN ajn afn amO axz)
 (h66 : cI K afn "shown_sheet")
 (h67 : eI K f54)
 (h68 : nI K "shown_paper" f55)
 (h69 : lI K f55 ayV awm "shown_paper" "shown_paper" dY .none amP amQ amR ajo afo amS axA)
 (h6a : cI K afo "shown_paper")
 (h6b : eI K f55)
 (h6c : fI K bY "__init__" f56)
 (h6d : lI K f56 ayW awn "__init__" "Draft.__init__" bT .none amT amU amV ajp afp amW axB)
 (h6e : cI K afp "Draft.__init__")
 (h6f : eI K f56)
 (h6g : fI K bY "demand" f57)
 (h6h : lI K f57 ayX awo "demand" "Draft.demand" bU .none amX amY amZ ajq afq am0 axC)
 (h6i : cI K afq "Draft.demand")
 (h6j : eI K f57)
 (h6k : fI K bY "read_test" f58)
 (h6l : lI K f58 ayY awp "read_test" "Draft.read_test" aW .none am1 am2 am3 ajr afr am4 axD)
 (h6m : cI K afr "Draft.read_test")
 (h6n : eI K f58)
 (h6o : fI K bY "read_when" f59)
 (h6p : lI K f59 ayZ awq "read_when" "Draft.read_when" aX .none am5 am6 am7 ajs afs am8 axE)
 (h6q : cI K afs "Draft.read_when")
 (h6r : eI K f59)
 (h6s : fI K bY "sheet_to_fill" f60)
 (h6t : lI K f60 ay0 awr "sheet_to_fill" "Draft.sheet_to_fill" aK .none am9 ana anb ajt aft anc axF)
 (h6u : cI K aft "Draft.sheet_to_fill")
 (h6v : eI K f60)
 (h6w : fI K bY "put_row" f61)
 (h6x : lI K f61 ay1 aws "put_row" "Draft.put_row" bF .none ane anf ang aju afu anh axG)
 (h6y : cI K afu "Draft.put_row")
 (h6z : eI K f61)
 (h70 : fI K bY "take_paper" f62)
 (h71 : lI K f62 ay2 awt "take_paper" "Draft.take_paper" aP .none ani anj ank ajv afv anl axH)
 (h72 : cI K afv "Draft.take_paper")
 (h73 : eI K f62)
 (h74 : fI K bY "take_sheet" f63)
 (h75 : lI K f63 ay3 awu "take_sheet" "Draft.take_sheet" aQ .none anm ano anp ajw afw anq axI)
 (h76 : cI K afw "Draft.take_sheet")
 (h77 : eI K f63)
 (h78 : fI K bY "take_ask" f64)
 (h79 : lI K f64 ay4 awv "take_ask" "Draft.take_ask" bx .none anr ant anu ajx afx anv axJ)
 (h7a : cI K afx "Draft.take_ask")
 (h7b : eI K f64)
 (h7c : fI K bY "take_row" f65)
 (h7d : lI K f65 ay5 aww "take_row" "Draft.take_row" bz .none anw anx anz ajy afy anA axK)
 (h7e : cI K afy "Draft.take_row")
 (h7f : eI K f65)
 (h7g : fI K bY "take_line" f66)
 (h7h : lI K f66 ay6 awx "take_line" "Draft.take_line" aY .none anB anC anD ajz afz anE axL)
 (h7i : cI K afz "Draft.take_line")
 (h7j : eI K f66)
 (h7k : nI K "read_paper" f67)
 (h7l : lI K f67 ay7 awy "read_paper" "read_paper" eY .none anF anG anH ajA afA anI axM)
 (h7m : cI K afA "read_paper")
 (h7n : eI K f67)
 (h7o : nI K "_law_cell_at" f68)
 (h7p : lI K f68 ay8 awz "_law_cell_at" "_law_cell_at" dZ .none anJ anK anL ajB afB anM axN)
 (h7q : cI K afB "_law_cell_at")
 (h7r : eI K f68)
 (h7s : nI K "_law_mixed" f69)
 (h7t : lI K f69 ay9 awA "_law_mixed" "_law_mixed" gG .none anN anO anP ajC afC anQ axO)
 (h7u : cI K afC "_law_mixed")
 (h7v : eI K f69)
 (h7w : nI K "_law_open" f70)
 (h7x : lI K f70 aza awB "_law_open" "_law_open" iD .none anR anS anT ajD afD anU axP)
 (h7y : cI K afD "_law_open")
 (h7z : eI K f70)
 (h80 : nI K "_law_name" f71)
 (h81 : lI K f71 azb awC "_law_name" "_law_name" iG .none anV anW anY ajE afE anZ axQ)
 (h82 : cI K afE "_law_name")
 (h83 : eI K f71)
 (h84 : nI K "_law_number" f72)
 (h85 : lI K f72 azc awD "_law_number" "_law_number" eZ .none aoa aob aoc ajF afF aod axR)
 (h86 : cI K afF "_law_number")
 (h87 : eI K f72)
 (h88 : nI K "_law_money" f73)
 (h89 : lI K f73 azd awE "_law_money" "_law_money" gH .none aoe aof aog ajG afG aoh axS)
 (h8a : cI K afG "_law_money")
 (h8b : eI K f73)
 (h8c : nI K "_law_picked" f74)
 (h8d : lI K f74 aze awF "_law_picked" "_law_picked" fc .none aoi aoj aok ajH afH aol axT)
 (h8e : cI K afH "_law_picked")
 (h8f : eI K f74)
 (h8g : nI K "_law_kind" f75)
 (h8h : lI K f75 azf awG "_law_kind" "_law_kind" iH .none aom aon aoo ajI afI aop axU)
 (h8i : cI K afI "_law_kind")
 (h8j : eI K f75)
 (h8k : nI K "_law_atom" f76)
 (h8l : lI K f76 azg awH "_law_atom" "_law_atom" iI .none aoq aor aos ajJ afJ aot axV)
 (h8m : cI K afJ "_law_atom")
 (h8n : eI K f76)
 (h8o : nI K "_law_saying" f77)
 (h8p : lI K f77 azh awI "_law_saying" "_law_saying" fj .none aou aov aow ajK afK aox axW)
 (h8q : cI K afK "_law_saying")
 (h8r : eI K f77)
 (h8s : nI K "_law_rows" f78)
 (h8t : lI K f78 azi awJ "_law_rows" "_law_rows" iJ .none aoy aoz aoA ajL afL aoB axX)
 (h8u : cI K afL "_law_rows")
 (h8v : eI K f78)
 (h8w : nI K "_law_row_text" f79)
 (h8x : lI K f79 azj awK "_law_row_text" "_law_row_text" dw .none aoC aoD aoE ajM afM aoF axY)
 (h8y : cI K afM "_law_row_text")
 (h8z : eI K f79)
 (h90 : nI K "_law_row_fits" f80)
 (h91 : lI K f80 azk awL "_law_row_fits" "_law_row_fits" dz .none aoG aoH aoI ajN afN aoJ axZ)
 (h92 : cI K afN "_law_row_fits")
 (h93 : eI K f80)
 (h94 : nI K "law" f81)
 (h95 : lI K f81 azl awM "law" "law" Je .none aoK aoL aoM ajO afO aoN ax0)
 (h96 : cI K afO "law")
 (h97 : eI K f81)
 (h98 : W.nsIn K mainGlobals "DEEPEST" = some (some (.int 8 gt0)))
 (h99 : W.nsIn K mainGlobals "FEWEST_WORDS" = some (some (.int 2 gt1)))
 (h9a : W.nsIn K mainGlobals "FIGURES" = some (some (.str "0123456789" gt2)))
 (h9b : nI K "HOWS" ga3)
 (h9c : K.lookup ga3 = some ⟨go3, gd3, .seq gi3 gn3, gs3⟩)
 (h9d : go3 = .type "tuple")
 (h9e : gi3.size ≤ sizeLine)
 (h9f : Vals [(.str "<"), (.str "="), (.str ">")] gi3.toList)
 (h9g : W.nsIn K mainGlobals "LETTERS" = some (some (.str "abcdefghijklmnopqrstuvwxyz" gt4)))
 (h9h : W.nsIn K mainGlobals "LONGEST_NAME" = some (some (.int 12 gt5)))
 (h9i : W.nsIn K mainGlobals "MOST_ATOMS_reading" = some (some (.int 60 gt6)))
 (h9j : W.nsIn K mainGlobals "MOST_ATOMS_sayings" = some (some (.int 16 gt7)))
 (h9k : W.nsIn K mainGlobals "MOST_FIGURES" = some (some (.int 60 gt8)))
 (h9l : W.nsIn K mainGlobals "MOST_NAMES" = some (some (.int 6 gt9)))
 (h9m : W.nsIn K mainGlobals "MOST_ROWS" = some (some (.int 100 azq)))
 (h9n : W.nsIn K mainGlobals "MOST_SHEETS" = some (some (.int 12 azr)))
 (h9o : W.nsIn K mainGlobals "MOST_WORDS" = some (some (.int 6 azs)))
 (h9p : nI K "NO_NAMES" aeD)
 (h9q : K.lookup aeD = some ⟨aoO, awN, .seq afP azp, ax1⟩)
 (h9r : aoO = .type "tuple")
 (h9s : afP.size ≤ sizeLine)
 (h9t : Vals [(.str "and"), (.str "each"), (.str "end"), (.str "is"), (.str "not"), (.str "or"), (.str "unless"), (.str "when")] afP.toList)
 (h9u : nN K "abs")
 (h9v : nN K "all")
 (h9w : nN K "isinstance")
 (h9x : nN K "len")
 (h9y : nN K "list")
 (h9z : nN K "range")
 (ha0 : nN K "set")
 (ha1 : nN K "str")
 (ha2 : nN K "zip")
 (haq : W.clsIn K wV = some aaD)
 (har : W.typeIn K (.ref wV) = some (.type "type"))
 (has : W.clsIn K wB = some Xy)
 (hat : W.typeIn K (.ref wB) = some (.type "type"))
 (hau : W.clsIn K iV = some Tw)
 (hav : W.typeIn K (.ref iV) = some (.type "type"))
 (haw : W.clsIn K qC = some Tz)
 (hax : W.typeIn K (.ref qC) = some (.type "type"))
 (hay : W.clsIn K aD = some Qx)
 (haz : W.typeIn K (.ref aD) = some (.type "type"))
 (hb0 : W.excIn K wB Iu "ValueError.__new__" = true)
 (hb1 : W.excIn K iV Iu "ValueError.__new__" = true)
 (hb2 : W.excIn K qC Iu "ValueError.__new__" = true)
 (hb3 : W.subIn K (.ref iV) (.type "BaseException") = some true)
 (hb4 : W.mroIn K iV (.ref iV) = some true)
 (hb5 : W.mroIn K ye (.ref aD) = some false)
 (hb6 : (Value.ref ye == Value.ref aD) = false)
 (hb7 : W.mroIn K cg (.ref aD) = some false)
 (hb8 : (Value.ref cg == Value.ref aD) = false)
 (hb9 : W.mroIn K qY (.ref aD) = some false)
 (hba : (Value.ref qY == Value.ref aD) = false)
 (hbb : W.mroIn K jj (.ref aD) = some false)
 (hbc : (Value.ref jj == Value.ref aD) = false)
 (hbd : W.mroIn K dG (.ref aD) = some false)
 (hbe : (Value.ref dG == Value.ref aD) = false)
 (hbf : W.mroIn K oG (.ref wV) = some false)
 (hbg : (Value.ref oG == Value.ref wV) = false)
 (hbh : W.plainGet K ye Str.empty = true)
 (hbi : W.hasDictIn K ye = true)
 (hbj : W.plainOver K ye = true)
 (hbk : fB K ye "__setattr__" "object.__setattr__")
 (hbl : W.makesIn K ye = true)
 (hbn : tI K f31)
 (hbo : eI K ye)
 (hbq : tI K f32)
 (hbs : tI K f33)
 (hbt : fN K ye "name")
 (hbu : fN K ye "word")
 (hbv : fN K ye "place")
 (hbw : W.plainGet K cg Str.empty = true)
 (hbx : W.hasDictIn K cg = true)
 (hby : W.plainOver K cg = true)
 (hbz : fB K cg "__setattr__" "object.__setattr__")
 (hc0 : W.makesIn K cg = true)
 (hc2 : tI K f34)
 (hc3 : eI K cg)
 (hc5 : tI K f35)
 (hc7 : tI K f36)
 (hc8 : fN K cg "name")
 (hc9 : fN K cg "how")
 (hca : fN K cg "number")
 (hcb : W.plainGet K qY Str.empty = true)
 (hcc : W.hasDictIn K qY = true)
 (hcd : W.plainOver K qY = true)
 (hce : fB K qY "__setattr__" "object.__setattr__")
 (hcf : W.makesIn K qY = true)
 (hch : tI K f37)
 (Wh : eI K qY)
 (hck : tI K f38)
 (hcm : tI K f39)
 (hcn : fN K qY "test")
 (hco : W.plainGet K jj Str.empty = true)
 (hcp : W.hasDictIn K jj = true)
 (hcq : W.plainOver K jj = true)
 (hcr : fB K jj "__setattr__" "object.__setattr__")
 (hcs : W.makesIn K jj = true)
 (hct : fI K jj "__init__" f40)
 (hcu : tI K f40)
 (hcv : eI K jj)
 (hcx : tI K f43)
 (hcy : fI K jj "atoms" f42)
 (hcz : tI K f42)
 (hd0 : fI K jj "shown_with" f41)
 (hd1 : tI K f41)
 (hd2 : fN K jj "one")
 (hd3 : fN K jj "other")
 (hd4 : W.plainGet K dG Str.empty = true)
 (hd5 : W.hasDictIn K dG = true)
 (hd6 : W.plainOver K dG = true)
 (hd7 : fB K dG "__setattr__" "object.__setattr__")
 (hd8 : W.makesIn K dG = true)
 (hd9 : fI K dG "__init__" f40)
 (hdb : eI K dG)
 (hdd : tI K f44)
 (hde : fI K dG "atoms" f42)
 (hdg : fI K dG "shown_with" f41)
 (hdi : fN K dG "one")
 (hdj : fN K dG "other")
 (hdk : W.plainGet K aD Str.empty = true)
 (hdl : W.hasDictIn K aD = true)
 (hdm : W.plainOver K aD = true)
 (hdn : fB K aD "__setattr__" "object.__setattr__")
 (hdo : W.makesIn K aD = true)
 (hdq : tI K f45)
 (hdr : eI K aD)
 (hdt : tI K f46)
 (hdv : tI K f47)
 (hdw : fN K aD "words")
 (hdx : fN K aD "taken")
 (hdy : W.plainGet K jL Str.empty = true)
 (hdz : W.hasDictIn K jL = true)
 (he0 : W.plainOver K jL = true)
 (he1 : fB K jL "__setattr__" "object.__setattr__")
 (he2 : W.makesIn K jL = true)
 (he4 : tI K f9)
 (he5 : eI K jL)
 (he7 : tI K f10)
 (he8 : fN K jL "low")
 (he9 : fN K jL "high")
 (hea : W.plainGet K iw Str.empty = true)
 (heb : W.hasDictIn K iw = true)
 (hec : W.plainOver K iw = true)
 (hed : fB K iw "__setattr__" "object.__setattr__")
 (hee : W.makesIn K iw = true)
 (hef : fI K iw "__init__" f8)
 (heg : tI K f8)
 (heh : eI K iw)
 (hej : tI K f11)
 (hel : tI K f13)
 (hen : tI K f12)
 (heo : fN K iw "low")
 (hep : fN K iw "high")
 (heq : W.plainGet K iu Str.empty = true)
 (her : W.hasDictIn K iu = true)
 (hes : W.plainOver K iu = true)
 (het : fB K iu "__setattr__" "object.__setattr__")
 (heu : W.makesIn K iu = true)
 (hev : fI K iu "__init__" f8)
 (hex : eI K iu)
 (hez : tI K f14)
 (hf1 : tI K f15)
 (hf2 : fI K iu "bounds" f12)
 (hf4 : fN K iu "low")
 (hf5 : fN K iu "high")
 (hf6 : W.plainGet K mC Str.empty = true)
 (hf7 : W.hasDictIn K mC = true)
 (hf8 : W.plainOver K mC = true)
 (hf9 : fB K mC "__setattr__" "object.__setattr__")
 (hfa : W.makesIn K mC = true)
 (hfc : tI K f16)
 (hfd : eI K mC)
 (hff : tI K f17)
 (hfg : fN K mC "low")
 (hfh : fN K mC "high")
 (hfi : fN K mC "words")
 (hfj : W.plainGet K jJ Str.empty = true)
 (hfk : W.hasDictIn K jJ = true)
 (hfl : W.plainOver K jJ = true)
 (hfm : fB K jJ "__setattr__" "object.__setattr__")
 (hfn : W.makesIn K jJ = true)
 (hfp : tI K f18)
 (hfq : eI K jJ)
 (hfs : tI K f19)
 (hft : fN K jJ "low")
 (hfu : fN K jJ "high")
 (hfv : W.plainGet K oG Str.empty = true)
 (hfw : W.hasDictIn K oG = true)
 (hfx : W.plainOver K oG = true)
 (hfy : fB K oG "__setattr__" "object.__setattr__")
 (hfz : fB K oG "__class__" "object.__class__")
 (hg0 : W.specialIn K (.builtin "object.__class__") "__get__" = some (some (.builtin "getset_descriptor.__get__")))
 (hg1 : W.takesIn K (.builtin "object.__class__") = some true)
 (hg2 : W.mroIn K oG (.type "object") = some true)
 (hg3 : W.makesIn K oG = true)
 (hg5 : tI K f28)
 (hg6 : eI K oG)
 (hg7 : fN K oG "name")
 (hg8 : fN K oG "kind")
 (hg9 : fN K oG "when")
 (hga : W.plainGet K jf Str.empty = true)
 (hgb : W.hasDictIn K jf = true)
 (hgc : W.plainOver K jf = true)
 (hgd : fB K jf "__setattr__" "object.__setattr__")
 (hge : W.makesIn K jf = true)
 (hgg : tI K f29)
 (hgh : eI K jf)
 (hgi : fN K jf "name")
 (hgj : fN K jf "each")
 (hgk : fN K jf "rows")
 (hgl : fN K jf "ways")
 (hgm : W.plainGet K jK Str.empty = true)
 (hgn : W.hasDictIn K jK = true)
 (hgo : W.plainOver K jK = true)
 (hgp : fB K jK "__setattr__" "object.__setattr__")
 (hgq : W.makesIn K jK = true)
 (hgs : tI K f30)
 (hgt : eI K jK)
 (hgu : fN K jK "name")
 (hgv : fN K jK "sheets")
 (hgw : fN K jK "totals")
 (hgx : W.plainGet K bY Str.empty = true)
 (hgy : W.hasDictIn K bY = true)
 (hgz : W.plainOver K bY = true)
 (hh0 : fB K bY "__setattr__" "object.__setattr__")
 (hh1 : W.makesIn K bY = true)
 (hh3 : tI K f56)
 (hh4 : eI K bY)
 (hh6 : tI K f57)
 (hh8 : tI K f58)
 (hha : tI K f59)
 (hhc : tI K f60)
 (hhe : tI K f61)
 (hhg : tI K f62)
 (hhi : tI K f63)
 (hhk : tI K f64)
 (hhm : tI K f65)
 (hho : tI K f66)
 (hhp : fN K bY "name")
 (hhq : fN K bY "sheets")
 (hhr : fN K bY "totals")
 (hhs : fN K bY "atoms_read")
 (hht : fN K bY "place")
 (hhu : W.readsIn K Fg (.type "type") = true)
 (hhv : W.findCls K (.ref Fg) (.type "type") "__init__" = some (.val (.ref f8)))
 (hhw : W.specialIn K (.ref Fg) "__getattribute__" = some (some (.builtin "type.__getattribute__")))
 (hhx : W.readsIn K Og (.type "type") = true)
 (hhy : W.findCls K (.ref Og) (.type "type") "__init__" = some (.val (.ref f27)))
 (hhz : W.specialIn K (.ref Og) "__getattribute__" = some (some (.builtin "type.__getattribute__"))) :
 ∃ A : cj, Txt K mg A :=
 ⟨⟨f0,
   W.fnOf "is_name" "is_name" (ao jT) (ak jT) (aa jT) .none kV0 dc0 pm0 an0 cd0 ct0,
   f1,
   W.fnOf "are_unlike_names" "are_unlike_names" (ao bj) (ak bj) (aa bj) .none kV1 dc1 pm1 an1 cd1 ct1,
   f2,
   W.fnOf "are_figures" "are_figures" (ao dJ) (ak dJ) (aa dJ) .none kV2 dc2 pm2 an2 cd2 ct2,
   f3,
   W.fnOf "figures_worth" "figures_worth" (ao cu) (ak cu) (aa cu) .none kV3 dc3 pm3 an3 cd3 ct3,
   f4,
   W.fnOf "number_of" "number_of" (ao gA) (ak gA) (aa gA) (.ref dT4) kV4 dc4 pm4 an4 cd4 ct4,
   [(.int 60 acT)],
   f5,
   W.fnOf "number_or_none" "number_or_none" (ao bK) (ak bK) (aa bK) .none kV5 dc5 pm5 an5 cd5 ct5,
   f6,
   W.fnOf "money_shown" "money_shown" (ao dM) (ak dM) (aa dM) .none kV6 dc6 pm6 an6 cd6 ct6,
   f7,
   W.fnOf "money_or_none" "money_or_none" (ao cA) (ak cA) (aa cA) .none kV7 dc7 pm7 an7 cd7 ct7,
   f8,
   W.fnOf "__init__" "Kind.__init__" (ao cB) (ak cB) (aa cB) .none kV8 dc8 pm8 an8 cd8 ct8,
   f9,
   W.fnOf "__init__" "YesNo.__init__" (ao bL) (ak bL) (aa bL) .none kV9 dc9 pm9 an9 cd9 ct9,
   f10,
   W.fnOf "told" "YesNo.told" (ao cV) (ak cV) (aa cV) .none ajP ajQ ajR aiF aeE ajS,
   f11,
   W.fnOf "shown" "Whole.shown" (ao cD) (ak cD) (aa cD) .none ajT ajU ajV aiG aeF ajW,
   f12,
   W.fnOf "bounds" "Whole.bounds" (ao bM) (ak bM) (aa bM) .none ajX ajY ajZ aiH aeG aj0,
   f13,
   W.fnOf "told" "Whole.told" (ao cW) (ak cW) (aa cW) .none aj1 aj2 aj3 aiI aeH aj4,
   f14,
   W.fnOf "shown" "Money.shown" (ao cF) (ak cF) (aa cF) .none aj5 aj6 aj7 aiJ aeI aj8,
   f15,
   W.fnOf "told" "Money.told" (ao cX) (ak cX) (aa cX) .none aj9 aka akb aiK aeJ akc,
   f16,
   W.fnOf "__init__" "Pick.__init__" (ao cG) (ak cG) (aa cG) .none akd ake akf aiL aeK akg,
   f17,
   W.fnOf "told" "Pick.told" (ao dN) (ak dN) (aa dN) .none akh aki akj aiM aeL akk,
   f18,
   W.fnOf "__init__" "Names.__init__" (ao bN) (ak bN) (aa bN) (.ref aex) akl akm akn aiN aeM ako,
   [(.int 3 aaC)],
   f19,
   W.fnOf "told" "Names.told" (ao cY) (ak cY) (aa cY) .none akp akq akr aiO aeN aks,
   f20,
   W.fnOf "are_bounds" "are_bounds" (ao eO) (ak eO) (aa eO) .none akt aku akv aiP aeO akx,
   f21,
   W.fnOf "whole_or_none" "whole_or_none" (ao cH) (ak cH) (aa cH) .none aky akz akA aiQ aeP akB,
   f22,
   W.fnOf "money_kind_or_none" "money_kind_or_none" (ao aN) (ak aN) (aa aN) .none akC akD akE aiR aeQ akF,
   f23,
   W.fnOf "pick_or_none" "pick_or_none" (ao cZ) (ak cZ) (aa cZ) .none akG akH akI aiS aeR akJ,
   f24,
   W.fnOf "names_or_none" "names_or_none" (ao cJ) (ak cJ) (aa cJ) .none akK akM akN aiT aeS akO,
   f25,
   W.fnOf "kind_or_none" "kind_or_none" (ao dg) (ak dg) (aa dg) .none akP akQ akR aiU aeT akS,
   f26,
   W.fnOf "kind_of" "kind_of" (ao jU) (ak jU) (aa jU) .none akU akV akW aiV aeU akX,
   f27,
   W.fnOf "__init__" "Row.__init__" (ao dh) (ak dh) (aa dh) .none akY akZ ak0 aiW aeV ak1,
   f28,
   W.fnOf "__init__" "Ask.__init__" (ao di) (ak di) (aa di) (.ref aey) ak2 ak3 ak4 aiX aeW ak5,
   [.none],
   f29,
   W.fnOf "__init__" "Sheet.__init__" (ao bO) (ak bO) (aa bO) .none ak6 ak7 ak8 aiY aeX ak9,
   f30,
   W.fnOf "__init__" "Paper.__init__" (ao bQ) (ak bQ) (aa bQ) .none ala alb alc aiZ aeY ald,
   f31,
   W.fnOf "__init__" "Is.__init__" (ao dO) (ak dO) (aa dO) (.ref aez) ale alf alg ai0 aeZ alh,
   [.none],
   f32,
   W.fnOf "shown" "Is.shown" (ao eQ) (ak eQ) (aa eQ) .none ali alj alk ai1 ae0 alm,
   f33,
   W.fnOf "atoms" "Is.atoms" (ao eU) (ak eU) (aa eU) .none aln alo alp ai2 ae1 alq,
   f34,
   W.fnOf "__init__" "Compare.__init__" (ao bu) (ak bu) (aa bu) .none alr als alu ai3 ae2 alv,
   f35,
   W.fnOf "shown" "Compare.shown" (ao bC) (ak bC) (aa bC) .none alw alx aly ai4 ae3 alz,
   f36,
   W.fnOf "atoms" "Compare.atoms" (ao bD) (ak bD) (aa bD) .none alA alB alC ai5 ae4 alD,
   f37,
   W.fnOf "__init__" "Not.__init__" (ao dm) (ak dm) (aa dm) .none alE alF alG ai6 ae5 alH,
   f38,
   W.fnOf "shown" "Not.shown" (ao dR) (ak dR) (aa dR) .none alI alJ alK ai7 ae6 alL,
   f39,
   W.fnOf "atoms" "Not.atoms" (ao dU) (ak dU) (aa dU) .none alM alN alO ai8 ae7 alP,
   f40,
   W.fnOf "__init__" "Pair.__init__" (ao cL) (ak cL) (aa cL) .none alQ alR alS ai9 ae8 alT,
   f41,
   W.fnOf "shown_with" "Pair.shown_with" (ao aV) (ak aV) (aa aV) .none alU alV alW aja ae9 alX,
   f42,
   W.fnOf "atoms" "Pair.atoms" (ao dq) (ak dq) (aa dq) .none alY alZ al0 ajb afa al1,
   f43,
   W.fnOf "shown" "Both.shown" (ao du) (ak du) (aa du) .none al2 al3 al4 ajc afb al5,
   f44,
   W.fnOf "shown" "Either.shown" (ao bR) (ak bR) (aa bR) .none al6 al7 al8 ajd afc al9,
   f45,
   W.fnOf "__init__" "WordsLeft.__init__" (ao aO) (ak aO) (aa aO) .none ama amb amc aje afd amd,
   f46,
   W.fnOf "take" "WordsLeft.take" (ao bw) (ak bw) (aa bw) .none ame amf amg ajf afe amh,
   f47,
   W.fnOf "are_all_taken" "WordsLeft.are_all_taken" (ao aG) (ak aG) (aa aG) .none ami amj amk ajg afg aml,
   f48,
   W.fnOf "read_atom" "read_atom" (ao gB) (ak gB) (aa gB) .none amm amn amo ajh afh amq,
   f49,
   W.fnOf "read_pair" "read_pair" (ao gC) (ak gC) (aa gC) .none amr ams amt aji afi amu,
   f50,
   W.fnOf "read_next" "read_next" (ao gD) (ak gD) (aa gD) .none amv amw amx ajj afj amy,
   f51,
   W.fnOf "read_saying" "read_saying" (ao dW) (ak dW) (aa dW) .none amz amA amB ajk afk amC,
   f52,
   W.fnOf "shown_when" "shown_when" (ao eV) (ak eV) (aa eV) .none amD amE amF ajl afl amG,
   f53,
   W.fnOf "shown_row" "shown_row" (ao gF) (ak gF) (aa gF) .none amH amI amJ ajm afm amK,
   f54,
   W.fnOf "shown_sheet" "shown_sheet" (ao dX) (ak dX) (aa dX) .none amL amM amN ajn afn amO,
   f55,
   W.fnOf "shown_paper" "shown_paper" (ao dY) (ak dY) (aa dY) .none amP amQ amR ajo afo amS,
   f56,
   W.fnOf "__init__" "Draft.__init__" (ao bT) (ak bT) (aa bT) .none amT amU amV ajp afp amW,
   f57,
   W.fnOf "demand" "Draft.demand" (ao bU) (ak bU) (aa bU) .none amX amY amZ ajq afq am0,
   f58,
   W.fnOf "read_test" "Draft.read_test" (ao aW) (ak aW) (aa aW) .none am1 am2 am3 ajr afr am4,
   f59,
   W.fnOf "read_when" "Draft.read_when" (ao aX) (ak aX) (aa aX) .none am5 am6 am7 ajs afs am8,
   f60,
   W.fnOf "sheet_to_fill" "Draft.sheet_to_fill" (ao aK) (ak aK) (aa aK) .none am9 ana anb ajt aft anc,
   f61,
   W.fnOf "put_row" "Draft.put_row" (ao bF) (ak bF) (aa bF) .none ane anf ang aju afu anh,
   f62,
   W.fnOf "take_paper" "Draft.take_paper" (ao aP) (ak aP) (aa aP) .none ani anj ank ajv afv anl,
   f63,
   W.fnOf "take_sheet" "Draft.take_sheet" (ao aQ) (ak aQ) (aa aQ) .none anm ano anp ajw afw anq,
   f64,
   W.fnOf "take_ask" "Draft.take_ask" (ao bx) (ak bx) (aa bx) .none anr ant anu ajx afx anv,
   f65,
   W.fnOf "take_row" "Draft.take_row" (ao bz) (ak bz) (aa bz) .none anw anx anz ajy afy anA,
   f66,
   W.fnOf "take_line" "Draft.take_line" (ao aY) (ak aY) (aa aY) .none anB anC anD ajz afz anE,
   f67,
   W.fnOf "read_paper" "read_paper" (ao eY) (ak eY) (aa eY) .none anF anG anH ajA afA anI,
   f68,
   W.fnOf "_law_cell_at" "_law_cell_at" (ao dZ) (ak dZ) (aa dZ) .none anJ anK anL ajB afB anM,
   f69,
   W.fnOf "_law_mixed" "_law_mixed" (ao gG) (ak gG) (aa gG) .none anN anO anP ajC afC anQ,
   f70,
   W.fnOf "_law_open" "_law_open" (ao iD) (ak iD) (aa iD) .none anR anS anT ajD afD anU,
   f71,
   W.fnOf "_law_name" "_law_name" (ao iG) (ak iG) (aa iG) .none anV anW anY ajE afE anZ,
   f72,
   W.fnOf "_law_number" "_law_number" (ao eZ) (ak eZ) (aa eZ) .none aoa aob aoc ajF afF aod,
   f73,
   W.fnOf "_law_money" "_law_money" (ao gH) (ak gH) (aa gH) .none aoe aof aog ajG afG aoh,
   f74,
   W.fnOf "_law_picked" "_law_picked" (ao fc) (ak fc) (aa fc) .none aoi aoj aok ajH afH aol,
   f75,
   W.fnOf "_law_kind" "_law_kind" (ao iH) (ak iH) (aa iH) .none aom aon aoo ajI afI aop,
   f76,
   W.fnOf "_law_atom" "_law_atom" (ao iI) (ak iI) (aa iI) .none aoq aor aos ajJ afJ aot,
   f77,
   W.fnOf "_law_saying" "_law_saying" (ao fj) (ak fj) (aa fj) .none aou aov aow ajK afK aox,
   f78,
   W.fnOf "_law_rows" "_law_rows" (ao iJ) (ak iJ) (aa iJ) .none aoy aoz aoA ajL afL aoB,
   f79,
   W.fnOf "_law_row_text" "_law_row_text" (ao dw) (ak dw) (aa dw) .none aoC aoD aoE ajM afM aoF,
   f80,
   W.fnOf "_law_row_fits" "_law_row_fits" (ao dz) (ak dz) (aa dz) .none aoG aoH aoI ajN afN aoJ,
   f81,
   W.fnOf "law" "law" (ao Je) (ak Je) (aa Je) .none aoK aoL aoM ajO afO aoN,
   ga3,
   aeD,
   oG,
   jj,
   wV,
   cg,
   bY,
   dG,
   ye,
   Fg,
   iu,
   jJ,
   wB,
   iV,
   qC,
   qY,
   Lf,
   jK,
   mC,
   Og,
   Tv,
   jf,
   iw,
   aD,
   jL⟩, ⟨aj (st := jT) h01 h02 h03,
   (aj (st := jT) h01 h02 h03).binds (ps := ["thing"]) ‹1›,
   h03,
   W.mg_of X G h00,
   aj (st := bj) h05 h06 h07,
   (aj (st := bj) h05 h06 h07).binds (ps := ["words"]) ‹1›,
   h07,
   W.mg_of X G h04,
   aj (st := dJ) h09 h0a h0b,
   (aj (st := dJ) h09 h0a h0b).binds (ps := ["text"]) ‹1›,
   h0b,
   W.mg_of X G h08,
   aj (st := cu) h0d h0e h0f,
   (aj (st := cu) h0d h0e h0f).binds (ps := ["figures"]) ‹1›,
   h0f,
   W.mg_of X G h0c,
   (qH (st := gA) h0h h0i h0j h0k),
   (qH (st := gA) h0h h0i h0j h0k).binds (fun T _ _ _ _ _ _ us M A E Q s to n ht hc hd hl hq => match us, Vv (m := 1) hl rfl with | [_], _ => BindsTo.of_defaults rfl ht hd rfl rfl M A E Q hq),
   .cons ⟨_, rfl⟩ (.nil),
   h0j,
   W.mg_of X G h0g,
   aj (st := bK) h0m h0n h0o,
   (aj (st := bK) h0m h0n h0o).binds (ps := ["text"]) ‹1›,
   h0o,
   W.mg_of X G h0l,
   aj (st := dM) h0q h0r h0s,
   (aj (st := dM) h0q h0r h0s).binds (ps := ["hundredths"]) ‹1›,
   h0s,
   W.mg_of X G h0p,
   aj (st := cA) h0u h0v h0w,
   (aj (st := cA) h0u h0v h0w).binds (ps := ["text"]) ‹1›,
   h0w,
   W.mg_of X G h0t,
   aj (st := cB) h0y h0z h10,
   (aj (st := cB) h0y h0z h10).binds (ps := ["self", "low", "high"]) ‹3›,
   aj (st := bL) h12 h13 h14,
   (aj (st := bL) h12 h13 h14).binds (ps := ["self"]) ‹1›,
   aj (st := cV) h16 h17 h18,
   (aj (st := cV) h16 h17 h18).binds (ps := ["self"]) ‹1›,
   aj (st := cD) h1a h1b h1c,
   (aj (st := cD) h1a h1b h1c).binds (ps := ["self", "answer"]) ‹2›,
   aj (st := bM) h1e h1f h1g,
   (aj (st := bM) h1e h1f h1g).binds (ps := ["self"]) ‹1›,
   aj (st := cW) h1i h1j h1k,
   (aj (st := cW) h1i h1j h1k).binds (ps := ["self"]) ‹1›,
   aj (st := cF) h1m h1n h1o,
   (aj (st := cF) h1m h1n h1o).binds (ps := ["self", "answer"]) ‹2›,
   aj (st := cX) h1q h1r h1s,
   (aj (st := cX) h1q h1r h1s).binds (ps := ["self"]) ‹1›,
   aj (st := cG) h1u h1v h1w,
   (aj (st := cG) h1u h1v h1w).binds (ps := ["self", "words"]) ‹2›,
   aj (st := dN) h1y h1z h20,
   (aj (st := dN) h1y h1z h20).binds (ps := ["self"]) ‹1›,
   (qH (st := bN) h22 h23 h24 h25),
   (qH (st := bN) h22 h23 h24 h25).binds (es := []) (fun T _ _ _ _ _ _ us M A E Q s to n ht hc hd hl hq => match us, hl with | [_, _], _ => BindsTo.of_defaults rfl ht hd rfl rfl M A E Q hq),
   aj (st := cY) h27 h28 h29,
   (aj (st := cY) h27 h28 h29).binds (ps := ["self"]) ‹1›,
   aj (st := eO) h2b h2c h2d,
   (aj (st := eO) h2b h2c h2d).binds (ps := ["numbers"]) ‹1›,
   h2d,
   W.mg_of X G h2a,
   aj (st := cH) h2f h2g h2h,
   (aj (st := cH) h2f h2g h2h).binds (ps := ["words"]) ‹1›,
   h2h,
   W.mg_of X G h2e,
   aj (st := aN) h2j h2k h2l,
   (aj (st := aN) h2j h2k h2l).binds (ps := ["words"]) ‹1›,
   h2l,
   W.mg_of X G h2i,
   aj (st := cZ) h2n h2o h2p,
   (aj (st := cZ) h2n h2o h2p).binds (ps := ["words"]) ‹1›,
   h2p,
   W.mg_of X G h2m,
   aj (st := cJ) h2r h2s h2t,
   (aj (st := cJ) h2r h2s h2t).binds (ps := ["words"]) ‹1›,
   h2t,
   W.mg_of X G h2q,
   aj (st := dg) h2v h2w h2x,
   (aj (st := dg) h2v h2w h2x).binds (ps := ["first", "words"]) ‹2›,
   h2x,
   W.mg_of X G h2u,
   aj (st := jU) h2z h30 h31,
   (aj (st := jU) h2z h30 h31).binds (ps := ["text"]) ‹1›,
   h31,
   W.mg_of X G h2y,
   aj (st := dh) h33 h34 h35,
   (aj (st := dh) h33 h34 h35).binds (ps := ["self", "name"]) ‹2›,
   (qH (st := di) h37 h38 h39 h3a),
   (qH (st := di) h37 h38 h39 h3a).binds (es := []) (fun T _ _ _ _ _ _ us M A E Q s to n ht hc hd hl hq => match us, hl with | [_, _, _, _], _ => BindsTo.of_defaults rfl ht hd rfl rfl M A E Q hq),
   aj (st := bO) h3c h3d h3e,
   (aj (st := bO) h3c h3d h3e).binds (ps := ["self", "name", "each", "rows", "ways"]) ‹5›,
   aj (st := bQ) h3g h3h h3i,
   (aj (st := bQ) h3g h3h h3i).binds (ps := ["self", "name", "sheets", "totals"]) ‹4›,
   (qH (st := dO) h3k h3l h3m h3n),
   (qH (st := dO) h3k h3l h3m h3n).binds (fun T _ _ _ _ _ _ us M A E Q s to n ht hc hd hl hq => match us, Vv (m := 3) hl rfl with | [_, _, _], _ => BindsTo.of_defaults rfl ht hd rfl rfl M A E Q hq),
   .cons rfl (.nil),
   aj (st := eQ) h3p h3q h3r,
   (aj (st := eQ) h3p h3q h3r).binds (ps := ["self"]) ‹1›,
   aj (st := eU) h3t h3u h3v,
   (aj (st := eU) h3t h3u h3v).binds (ps := ["self"]) ‹1›,
   aj (st := bu) h3x h3y h3z,
   (aj (st := bu) h3x h3y h3z).binds (ps := ["self", "name", "how", "number"]) ‹4›,
   aj (st := bC) h41 h42 h43,
   (aj (st := bC) h41 h42 h43).binds (ps := ["self"]) ‹1›,
   aj (st := bD) h45 h46 h47,
   (aj (st := bD) h45 h46 h47).binds (ps := ["self"]) ‹1›,
   aj (st := dm) h49 h4a h4b,
   (aj (st := dm) h49 h4a h4b).binds (ps := ["self", "test"]) ‹2›,
   aj (st := dR) h4d h4e h4f,
   (aj (st := dR) h4d h4e h4f).binds (ps := ["self"]) ‹1›,
   aj (st := dU) h4h h4i h4j,
   (aj (st := dU) h4h h4i h4j).binds (ps := ["self"]) ‹1›,
   aj (st := cL) h4l h4m h4n,
   (aj (st := cL) h4l h4m h4n).binds (ps := ["self", "one", "other"]) ‹3›,
   aj (st := aV) h4p h4q h4r,
   (aj (st := aV) h4p h4q h4r).binds (ps := ["self", "word"]) ‹2›,
   aj (st := dq) h4t h4u h4v,
   (aj (st := dq) h4t h4u h4v).binds (ps := ["self"]) ‹1›,
   aj (st := du) h4x h4y h4z,
   (aj (st := du) h4x h4y h4z).binds (ps := ["self"]) ‹1›,
   aj (st := bR) h51 h52 h53,
   (aj (st := bR) h51 h52 h53).binds (ps := ["self"]) ‹1›,
   aj (st := aO) h55 h56 h57,
   (aj (st := aO) h55 h56 h57).binds (ps := ["self", "words"]) ‹2›,
   aj (st := bw) h59 h5a h5b,
   (aj (st := bw) h59 h5a h5b).binds (ps := ["self"]) ‹1›,
   aj (st := aG) h5d h5e h5f,
   (aj (st := aG) h5d h5e h5f).binds (ps := ["self"]) ‹1›,
   aj (st := gB) h5h h5i h5j,
   (aj (st := gB) h5h h5i h5j).binds (ps := ["name", "how", "what"]) ‹3›,
   h5j,
   W.mg_of X G h5g,
   aj (st := gC) h5l h5m h5n,
   (aj (st := gC) h5l h5m h5n).binds (ps := ["left", "deepest"]) ‹2›,
   h5n,
   W.mg_of X G h5k,
   aj (st := gD) h5p h5q h5r,
   (aj (st := gD) h5p h5q h5r).binds (ps := ["left", "deepest"]) ‹2›,
   h5r,
   W.mg_of X G h5o,
   aj (st := dW) h5t h5u h5v,
   (aj (st := dW) h5t h5u h5v).binds (ps := ["text"]) ‹1›,
   h5v,
   W.mg_of X G h5s,
   aj (st := eV) h5x h5y h5z,
   (aj (st := eV) h5x h5y h5z).binds (ps := ["saying"]) ‹1›,
   h5z,
   W.mg_of X G h5w,
   aj (st := gF) h61 h62 h63,
   (aj (st := gF) h61 h62 h63).binds (ps := ["row"]) ‹1›,
   h63,
   W.mg_of X G Vg,
   aj (st := dX) h65 h66 h67,
   (aj (st := dX) h65 h66 h67).binds (ps := ["sheet"]) ‹1›,
   h67,
   W.mg_of X G h64,
   aj (st := dY) h69 h6a h6b,
   (aj (st := dY) h69 h6a h6b).binds (ps := ["paper"]) ‹1›,
   h6b,
   W.mg_of X G h68,
   aj (st := bT) h6d h6e h6f,
   (aj (st := bT) h6d h6e h6f).binds (ps := ["self"]) ‹1›,
   aj (st := bU) h6h h6i h6j,
   (aj (st := bU) h6h h6i h6j).binds (ps := ["self", "so"]) ‹2›,
   aj (st := aW) h6l h6m h6n,
   (aj (st := aW) h6l h6m h6n).binds (ps := ["self", "text"]) ‹2›,
   aj (st := aX) h6p h6q h6r,
   (aj (st := aX) h6p h6q h6r).binds (ps := ["self", "parted"]) ‹2›,
   aj (st := aK) h6t h6u h6v,
   (aj (st := aK) h6t h6u h6v).binds (ps := ["self"]) ‹1›,
   aj (st := bF) h6x h6y h6z,
   (aj (st := bF) h6x h6y h6z).binds (ps := ["self", "row"]) ‹2›,
   aj (st := aP) h71 h72 h73,
   (aj (st := aP) h71 h72 h73).binds (ps := ["self", "rest"]) ‹2›,
   aj (st := aQ) h75 h76 h77,
   (aj (st := aQ) h75 h76 h77).binds (ps := ["self", "rest"]) ‹2›,
   aj (st := bx) h79 h7a h7b,
   (aj (st := bx) h79 h7a h7b).binds (ps := ["self", "rest"]) ‹2›,
   aj (st := bz) h7d h7e h7f,
   (aj (st := bz) h7d h7e h7f).binds (ps := ["self", "first", "rest"]) ‹3›,
   aj (st := aY) h7h h7i h7j,
   (aj (st := aY) h7h h7i h7j).binds (ps := ["self", "line"]) ‹2›,
   aj (st := eY) h7l h7m h7n,
   (aj (st := eY) h7l h7m h7n).binds (ps := ["text"]) ‹1›,
   h7n,
   W.mg_of X G h7k,
   aj (st := dZ) h7p h7q h7r,
   (aj (st := dZ) h7p h7q h7r).binds (ps := ["_law_script", "_law_k"]) ‹2›,
   h7r,
   W.mg_of X G h7o,
   aj (st := gG) h7t h7u h7v,
   (aj (st := gG) h7t h7u h7v).binds (ps := ["_law_cell", "_law_k"]) ‹2›,
   h7v,
   W.mg_of X G h7s,
   aj (st := iD) h7x h7y h7z,
   (aj (st := iD) h7x h7y h7z).binds (ps := ["_law_word"]) ‹1›,
   h7z,
   W.mg_of X G h7w,
   aj (st := iG) h81 h82 h83,
   (aj (st := iG) h81 h82 h83).binds (ps := ["_law_cell"]) ‹1›,
   h83,
   W.mg_of X G h80,
   aj (st := eZ) h85 h86 h87,
   (aj (st := eZ) h85 h86 h87).binds (ps := ["_law_cell"]) ‹1›,
   h87,
   W.mg_of X G h84,
   aj (st := gH) h89 h8a h8b,
   (aj (st := gH) h89 h8a h8b).binds (ps := ["_law_number_here"]) ‹1›,
   h8b,
   W.mg_of X G h88,
   aj (st := fc) h8d h8e h8f,
   (aj (st := fc) h8d h8e h8f).binds (ps := ["_law_cell"]) ‹1›,
   h8f,
   W.mg_of X G h8c,
   aj (st := iH) h8h h8i h8j,
   (aj (st := iH) h8h h8i h8j).binds (ps := ["_law_cell"]) ‹1›,
   h8j,
   W.mg_of X G h8g,
   aj (st := iI) h8l h8m h8n,
   (aj (st := iI) h8l h8m h8n).binds (ps := ["_law_cell"]) ‹1›,
   h8n,
   W.mg_of X G h8k,
   aj (st := fj) h8p h8q h8r,
   (aj (st := fj) h8p h8q h8r).binds (ps := ["_law_cell", "_law_deep"]) ‹2›,
   h8r,
   W.mg_of X G h8o,
   aj (st := iJ) h8t h8u h8v,
   (aj (st := iJ) h8t h8u h8v).binds (ps := ["_law_script"]) ‹1›,
   h8v,
   W.mg_of X G h8s,
   aj (st := dw) h8x h8y h8z,
   (aj (st := dw) h8x h8y h8z).binds (ps := ["_law_row"]) ‹1›,
   h8z,
   W.mg_of X G h8w,
   aj (st := dz) h91 h92 h93,
   (aj (st := dz) h91 h92 h93).binds (ps := ["_law_found", "_law_due"]) ‹2›,
   h93,
   W.mg_of X G h90,
   aj (st := Je) h95 h96 h97,
   W.mg_of X G h94,
   ⟨_, W.mg_of X G h98, _, rfl⟩,
   ⟨_, W.mg_of X G h99, _, rfl⟩,
   ⟨_, W.mg_of X G h9a, _, rfl⟩,
   ⟨_, W.mg_of X G h9b, rfl⟩,
   o8.mod h9c h9d h9e h9f,
   ⟨_, W.mg_of X G h9g, _, rfl⟩,
   ⟨_, W.mg_of X G h9h, _, rfl⟩,
   ⟨_, W.mg_of X G h9i, _, rfl⟩,
   ⟨_, W.mg_of X G h9j, _, rfl⟩,
   ⟨_, W.mg_of X G h9k, _, rfl⟩,
   ⟨_, W.mg_of X G h9l, _, rfl⟩,
   ⟨_, W.mg_of X G h9m, _, rfl⟩,
   ⟨_, W.mg_of X G h9n, _, rfl⟩,
   ⟨_, W.mg_of X G h9o, _, rfl⟩,
   ⟨_, W.mg_of X G h9p, rfl⟩,
   o8.mod h9q h9r h9s h9t,
   W.mg_none_of X G h9u,
   W.mg_none_of X G h9v,
   W.mg_none_of X G h9w,
   W.mg_none_of X G h9x,
   W.mg_none_of X G h9y,
   W.mg_none_of X G h9z,
   W.mg_none_of X G ha0,
   W.mg_none_of X G ha1,
   W.mg_none_of X G ha2,
   L2.fW (by symm),
   L2.fW (by symm),
   L2.fW (by symm),
   L2.fW (by symm),
   L2.fW (by symm),
   L2.fW (by symm),
   L2.fW (by symm),
   L2.fW (by symm),
   L2.fW (by symm),
   L2.fW (by symm),
   L2.fW (by symm),
   L2.fW (by symm),
   L2.fW (by symm),
   L2.fW (by symm),
   L2.fW (by symm),
   L2.fW (by symm),
   L2.fW (by symm),
   L2.fW (by symm),
   L2.fW (by symm),
   L2.fW (by symm),
   L2.fW (by symm),
   W.mg_of X G ha3,
   ⟨_, W.mg_of X G ha3, rfl⟩,
   W.mg_of X G ha4,
   ⟨_, W.mg_of X G ha5, rfl⟩,
   W.mg_of X G ha6,
   W.mg_of X G ha7,
   W.mg_of X G ha8,
   W.mg_of X G ha9,
   W.mg_of X G haa,
   W.mg_of X G hab,
   W.mg_of X G hac,
   W.mg_of X G had,
   W.mg_of X G hae,
   W.mg_of X G haf,
   W.mg_of X G hag,
   W.mg_of X G hai,
   W.mg_of X G haj,
   W.mg_of X G hak,
   W.mg_of X G ham,
   W.mg_of X G han,
   W.mg_of X G hao,
   W.mg_of X G hap,
   hb0,
   hb1,
   hb2,
   abh hb3 hau hav hb4,
   wJ hay haz hb5 hb6,
   wJ hay haz hb7 hb8,
   wJ hay haz hb9 hba,
   wJ hay haz hbb hbc,
   wJ hay haz hbd hbe,
   sE,
   sE,
   sE,
   sE,
   sE,
   sE,
   wJ haq har hbf hbg,
   ⟨hbh, hbi, hbj, hbk⟩,
   ⟨hbl, h3j, hbn, hbo⟩,
   ⟨h3o, hbq, h3r⟩,
   ⟨h3s, hbs, h3v⟩,
   hbt,
   hbu,
   hbv,
   ⟨hbw, hbx, hby, hbz⟩,
   ⟨hc0, h3w, hc2, hc3⟩,
   ⟨h40, hc5, h43⟩,
   ⟨h44, hc7, h47⟩,
   hc8,
   hc9,
   hca,
   ⟨hcb, hcc, hcd, hce⟩,
   ⟨hcf, h48, hch, Wh⟩,
   ⟨h4c, hck, h4f⟩,
   ⟨h4g, hcm, h4j⟩,
   hcn,
   ⟨hco, hcp, hcq, hcr⟩,
   ⟨hcs, hct, hcu, hcv⟩,
   ⟨h4w, hcx, h4z⟩,
   ⟨hcy, hcz, h4v⟩,
   ⟨hd0, hd1, h4r⟩,
   hd2,
   hd3,
   ⟨hd4, hd5, hd6, hd7⟩,
   ⟨hd8, hd9, hcu, hdb⟩,
   ⟨h50, hdd, h53⟩,
   ⟨hde, hcz, h4v⟩,
   ⟨hdg, hd1, h4r⟩,
   hdi,
   hdj,
   ⟨hdk, hdl, hdm, hdn⟩,
   ⟨hdo, h54, hdq, hdr⟩,
   ⟨h58, hdt, h5b⟩,
   ⟨h5c, hdv, h5f⟩,
   hdw,
   hdx,
   ⟨hdy, hdz, he0, he1⟩,
   ⟨he2, h11, he4, he5⟩,
   ⟨h15, he7, h18⟩,
   he8,
   he9,
   ⟨hea, heb, hec, hed⟩,
   ⟨hee, hef, heg, heh⟩,
   ⟨h19, hej, h1c⟩,
   ⟨h1h, hel, h1k⟩,
   ⟨h1d, hen, h1g⟩,
   heo,
   hep,
   ⟨heq, her, hes, het⟩,
   ⟨heu, hev, heg, hex⟩,
   ⟨h1l, hez, h1o⟩,
   ⟨h1p, hf1, h1s⟩,
   ⟨hf2, hen, h1g⟩,
   hf4,
   hf5,
   ⟨hf6, hf7, hf8, hf9⟩,
   ⟨hfa, h1t, hfc, hfd⟩,
   ⟨h1x, hff, h20⟩,
   hfg,
   hfh,
   hfi,
   ⟨hfj, hfk, hfl, hfm⟩,
   ⟨hfn, h21, hfp, hfq⟩,
   ⟨h26, hfs, h29⟩,
   hft,
   hfu,
   ⟨hfv, hfw, hfx, hfy⟩,
   fun _ _ _ _ e => .ins e ⟨hfv, hfw, hfx, hfy⟩ hfz hg0 hg1 hg2,
   ⟨hg3, h36, hg5, hg6⟩,
   hg7,
   hg8,
   hg9,
   ⟨hga, hgb, hgc, hgd⟩,
   ⟨hge, h3b, hgg, hgh⟩,
   hgi,
   hgj,
   hgk,
   hgl,
   ⟨hgm, hgn, hgo, hgp⟩,
   ⟨hgq, h3f, hgs, hgt⟩,
   hgu,
   hgv,
   hgw,
   ⟨hgx, hgy, hgz, hh0⟩,
   ⟨hh1, h6c, hh3, hh4⟩,
   ⟨h6g, hh6, h6j⟩,
   ⟨h6k, hh8, h6n⟩,
   ⟨h6o, hha, h6r⟩,
   ⟨h6s, hhc, h6v⟩,
   ⟨h6w, hhe, h6z⟩,
   ⟨h70, hhg, h73⟩,
   ⟨h74, hhi, h77⟩,
   ⟨h78, hhk, h7b⟩,
   ⟨h7c, hhm, h7f⟩,
   ⟨h7g, hho, h7j⟩,
   hhp,
   hhq,
   hhr,
   hhs,
   hht,
   ⟨hhu, hhv, hhw, h10⟩,
   ⟨hhx, hhy, hhz, h35⟩⟩⟩
theorem walk {l : W.OpenLaw} {q : Program} {loose : List Str} {XP : (Str → Option Value) → Heap → Prop} {YP : World → Heap → Prop} {d : DefRec} {K : Params → W.Frag} (hn : l.most = some 63) (hdf : d.params.defaults = []) (hnm : d.name = "law")
   (hY : ∀ (w : World) (h : Heap), YP w h → (K w.params).In h)
   (F : ∀ (w : World) (mg : Str → Option Value) (h : Heap), (K w.params).In h → h.Ns mainGlobals mg → ∃ A : cj, Txt (K w.params) mg A) :
   W.WalkO q loose XP YP l.row.toRowW d [] (fun f vs => PySem.call f vs) := by
 refine L2.Yy (n := 63) (k := 50) (x := "_law_script") (CX := fun _ => aL) (sp := fun w => Lb (K w.params)) hn (by decide) hdf ⟨rfl, by decide, by decide⟩ hY (fun w mg fa h KX G hmg => ?_) (fun w H a ns hl hb _ hS => ⟨a, ns, rfl, hS, hl, hb, fun _ => rfl⟩) fun _ _ _ _ _ z => z
 obtain ⟨A, T⟩ := F w mg h KX G
 rw [hnm] at hmg
 have e := hmg.symm.trans T.agR
 cases e
 obtain ⟨oc, od, kV, doc, pm, an, cdv, ct, osl, efd, lk, hcd⟩ := id T.acv.ex
 exact ⟨A.VL, fun s v => by rw [efd]; exact .of_eq rfl, fun base _ _ => Vj T⟩
end dI
open PySem PySem.W PyProof.Rows
set_option maxRecDepth 100000 in
set_option maxHeartbeats 0 in
theorem PySem.Challenge.cw_askpaper_k22_a_question_read_holds : PySem.Challenge.rw_askpaper_k22_a_question_read.Holds := by
 refine PySem.Challenge.hd22 ?_
 k_fill
 refine dI.walk (l := PySem.Challenge.rw_askpaper_k22_a_question_read) rfl rfl rfl (fun w h Y => W.kIn_of Y) ?F
 case F =>
   intro w mg h KX G
   have T : ∃ A : dI.cj, dI.Txt (L2.KOf KX) mg A := by
     dsimp only [L2.KOf]
     refine' dI.aew KX G ?ha3 ?ha4 ?ha5 ?ha6 ?ha7 ?ha8 ?ha9 ?haa ?hab ?hac ?had ?hae ?haf ?hag ?hah ?hai ?haj ?hak ?hal ?ham ?han ?hao ?hap ?h00 ?h01 ?h02 ?h03 ?h04 ?h05 ?h06 ?h07 ?h08 ?h09 ?h0a ?h0b ?h0c ?h0d ?h0e ?h0f ?h0g ?h0h ?h0i ?h0j ?h0k ?h0l ?h0m ?h0n ?h0o ?h0p ?h0q ?h0r ?h0s ?h0t ?h0u ?h0v ?h0w ?h0x ?h0y ?h0z ?h10 ?h11 ?h12 ?h13 ?h14 ?h15 ?h16 ?h17 ?h18 ?h19 ?h1a ?h1b ?h1c ?h1d ?h1e ?h1f ?h1g ?h1h ?h1i ?h1j ?h1k ?h1l ?h1m ?h1n ?h1o ?h1p ?h1q ?h1r ?h1s ?h1t ?h1u ?h1v ?h1w ?h1x ?h1y ?h1z ?h20 ?h21 ?h22 ?h23 ?h24 ?h25 ?h26 ?h27 ?h28 ?h29 ?h2a ?h2b ?h2c ?h2d ?h2e ?h2f ?h2g ?h2h ?h2i ?h2j ?h2k ?h2l ?h2m ?h2n ?h2o ?h2p ?h2q ?h2r ?h2s ?h2t ?h2u ?h2v ?h2w ?h2x ?h2y ?h2z ?h30 ?h31 ?h32 ?h33 ?h34 ?h35 ?h36 ?h37 ?h38 ?h39 ?h3a ?h3b ?h3c ?h3d ?h3e ?h3f ?h3g ?h3h ?h3i ?h3j ?h3k ?h3l ?h3m ?h3n ?h3o ?h3p ?h3q ?h3r ?h3s ?h3t ?h3u ?h3v ?h3w ?h3x ?h3y ?h3z ?h40 ?h41 ?h42 ?h43 ?h44 ?h45 ?h46 ?h47 ?h48 ?h49 ?h4a ?h4b ?h4c ?h4d ?h4e ?h4f ?h4g ?h4h ?h4i ?h4j ?h4k ?h4l ?h4m ?h4n ?h4o ?h4p ?h4q ?h4r ?h4s ?h4t ?h4u ?h4v ?h4w ?h4x ?h4y ?h4z ?h50 ?h51 ?h52 ?h53 ?h54 ?h55 ?h56 ?h57 ?h58 ?h59 ?h5a ?h5b ?h5c ?h5d ?h5e ?h5f ?h5g ?h5h ?h5i ?h5j ?h5k ?h5l ?h5m ?h5n ?h5o ?h5p ?h5q ?h5r ?h5s ?h5t ?h5u ?h5v ?h5w ?h5x ?h5y ?h5z ?Vg ?h61 ?h62 ?h63 ?h64 ?h65 ?h66 ?h67 ?h68 ?h69 ?h6a ?h6b ?h6c ?h6d ?h6e ?h6f ?h6g ?h6h ?h6i ?h6j ?h6k ?h6l ?h6m ?h6n ?h6o ?h6p ?h6q ?h6r ?h6s ?h6t ?h6u ?h6v ?h6w ?h6x ?h6y ?h6z ?h70 ?h71 ?h72 ?h73 ?h74 ?h75 ?h76 ?h77 ?h78 ?h79 ?h7a ?h7b ?h7c ?h7d ?h7e ?h7f ?h7g ?h7h ?h7i ?h7j ?h7k ?h7l ?h7m ?h7n ?h7o ?h7p ?h7q ?h7r ?h7s ?h7t ?h7u ?h7v ?h7w ?h7x ?h7y ?h7z ?h80 ?h81 ?h82 ?h83 ?h84 ?h85 ?h86 ?h87 ?h88 ?h89 ?h8a ?h8b ?h8c ?h8d ?h8e ?h8f ?h8g ?h8h ?h8i ?h8j ?h8k ?h8l ?h8m ?h8n ?h8o ?h8p ?h8q ?h8r ?h8s ?h8t ?h8u ?h8v ?h8w ?h8x ?h8y ?h8z ?h90 ?h91 ?h92 ?h93 ?h94 ?h95 ?h96 ?h97 ?h98 ?h99 ?h9a ?h9b ?h9c ?h9d ?h9e ?h9f ?h9g ?h9h ?h9i ?h9j ?h9k ?h9l ?h9m ?h9n ?h9o ?h9p ?h9q ?h9r ?h9s ?h9t ?h9u ?h9v ?h9w ?h9x ?h9y ?h9z ?ha0 ?ha1 ?ha2 ?haq ?har ?has ?hat ?hau ?hav ?haw ?hax ?hay ?haz ?hb0 ?hb1 ?hb2 ?hb3 ?hb4 ?hb5 ?hb6 ?hb7 ?hb8 ?hb9 ?hba ?hbb ?hbc ?hbd ?hbe ?hbf ?hbg ?hbh ?hbi ?hbj ?hbk ?hbl ?hbn ?hbo ?hbq ?hbs ?hbt ?hbu ?hbv ?hbw ?hbx ?hby ?hbz ?hc0 ?hc2 ?hc3 ?hc5 ?hc7 ?hc8 ?hc9 ?hca ?hcb ?hcc ?hcd ?hce ?hcf ?hch ?Wh ?hck ?hcm ?hcn ?hco ?hcp ?hcq ?hcr ?hcs ?hct ?hcu ?hcv ?hcx ?hcy ?hcz ?hd0 ?hd1 ?hd2 ?hd3 ?hd4 ?hd5 ?hd6 ?hd7 ?hd8 ?hd9 ?hdb ?hdd ?hde ?hdg ?hdi ?hdj ?hdk ?hdl ?hdm ?hdn ?hdo ?hdq ?hdr ?hdt ?hdv ?hdw ?hdx ?hdy ?hdz ?he0 ?he1 ?he2 ?he4 ?he5 ?he7 ?he8 ?he9 ?hea ?heb ?hec ?hed ?hee ?hef ?heg ?heh ?hej ?hel ?hen ?heo ?hep ?heq ?her ?hes ?het ?heu ?hev ?hex ?hez ?hf1 ?hf2 ?hf4 ?hf5 ?hf6 ?hf7 ?hf8 ?hf9 ?hfa ?hfc ?hfd ?hff ?hfg ?hfh ?hfi ?hfj ?hfk ?hfl ?hfm ?hfn ?hfp ?hfq ?hfs ?hft ?hfu ?hfv ?hfw ?hfx ?hfy ?hfz ?hg0 ?hg1 ?hg2 ?hg3 ?hg5 ?hg6 ?hg7 ?hg8 ?hg9 ?hga ?hgb ?hgc ?hgd ?hge ?hgg ?hgh ?hgi ?hgj ?hgk ?hgl ?hgm ?hgn ?hgo ?hgp ?hgq ?hgs ?hgt ?hgu ?hgv ?hgw ?hgx ?hgy ?hgz ?hh0 ?hh1 ?hh3 ?hh4 ?hh6 ?hh8 ?hha ?hhc ?hhe ?hhg ?hhi ?hhk ?hhm ?hho ?hhp ?hhq ?hhr ?hhs ?hht ?hhu ?hhv ?hhw ?hhx ?hhy ?hhz
     all_goals (try delta dI.lI dI.nI dI.nN dI.fI dI.fN dI.fB dI.cI dI.eI dI.tI)
     (case ha3|ha4|ha5|ha6|ha7|ha8|ha9|haa|hab|hac|had|hae|haf|hag|hah|hai|haj|hak|hal|ham|han|hao|hap|h00|h01|h02|h03|h04|h05|h06|h07|h08|h09|h0a|h0b|h0c|h0d|h0e|h0f|h0g|h0h|h0i|h0j|h0k|h0l|h0m|h0n|h0o|h0p|h0q|h0r|h0s|h0t|h0u|h0v|h0w|h0x|h0y|h0z|h10|h11|h12|h13|h14|h15|h16|h17|h18|h19|h1a|h1b|h1c|h1d|h1e|h1f|h1g|h1h|h1i|h1j|h1k|h1l|h1m|h1n|h1o|h1p|h1q|h1r|h1s|h1t|h1u|h1v|h1w|h1x|h1y|h1z|h20|h21|h22|h23|h24|h25|h26|h27|h28|h29|h2a|h2b|h2c|h2d|h2e|h2f|h2g|h2h|h2i|h2j|h2k|h2l|h2m|h2n|h2o|h2p|h2q|h2r|h2s|h2t|h2u|h2v|h2w|h2x|h2y|h2z|h30|h31|h32|h33|h34|h35|h36|h37|h38|h39|h3a|h3b|h3c|h3d|h3e|h3f|h3g|h3h|h3i|h3j|h3k|h3l|h3m|h3n|h3o|h3p|h3q|h3r|h3s|h3t|h3u|h3v|h3w|h3x|h3y|h3z|h40|h41|h42|h43|h44|h45|h46|h47|h48|h49|h4a|h4b|h4c|h4d|h4e|h4f|h4g|h4h|h4i|h4j|h4k|h4l|h4m|h4n|h4o|h4p|h4q|h4r|h4s|h4t|h4u|h4v|h4w|h4x|h4y|h4z|h50|h51|h52|h53|h54|h55|h56|h57|h58|h59|h5a|h5b|h5c|h5d|h5e|h5f|h5g|h5h|h5i|h5j|h5k|h5l|h5m|h5n|h5o|h5p|h5q|h5r|h5s|h5t|h5u|h5v|h5w|h5x|h5y|h5z|Vg|h61|h62|h63|h64|h65|h66|h67|h68|h69|h6a|h6b|h6c|h6d|h6e|h6f|h6g|h6h|h6i|h6j|h6k|h6l|h6m|h6n|h6o|h6p|h6q|h6r|h6s|h6t|h6u|h6v|h6w|h6x|h6y|h6z|h70|h71|h72|h73|h74|h75|h76|h77|h78|h79|h7a|h7b|h7c|h7d|h7e|h7f|h7g|h7h|h7i|h7j|h7k|h7l|h7m|h7n|h7o|h7p|h7q|h7r|h7s|h7t|h7u|h7v|h7w|h7x|h7y|h7z|h80|h81|h82|h83|h84|h85|h86|h87|h88|h89|h8a|h8b|h8c|h8d|h8e|h8f|h8g|h8h|h8i|h8j|h8k|h8l|h8m|h8n|h8o|h8p|h8q|h8r|h8s|h8t|h8u|h8v|h8w|h8x|h8y|h8z|h90|h91|h92|h93|h94|h95|h96|h97|h98|h99|h9a|h9b|h9c => k_is)
     (case h9d => rfl)
     (case h9e => exact Nat.le_of_ble_eq_true rfl)
     (case h9f => exact .cons ⟨_, rfl⟩ (.cons ⟨_, rfl⟩ (.cons ⟨_, rfl⟩ (.nil))))
     (case h9g|h9h|h9i|h9j|h9k|h9l|h9m|h9n|h9o|h9p|h9q => k_is)
     (case h9r => rfl)
     (case h9s => exact Nat.le_of_ble_eq_true rfl)
     (case h9t => exact .cons ⟨_, rfl⟩ (.cons ⟨_, rfl⟩ (.cons ⟨_, rfl⟩ (.cons ⟨_, rfl⟩ (.cons ⟨_, rfl⟩ (.cons ⟨_, rfl⟩ (.cons ⟨_, rfl⟩ (.cons ⟨_, rfl⟩ (.nil)))))))))
     (case h9u|h9v|h9w|h9x|h9y|h9z|ha0|ha1|ha2|haq|har|has|hat|hau|hav|haw|hax|hay|haz => k_is)
     (case hb0 => k_exc)
     (case hb1 => k_exc)
     (case hb2 => k_exc)
     (case hb3|hb4|hb5 => k_is)
     (case hb6 => rfl)
     (case hb7 => k_is)
     (case hb8 => rfl)
     (case hb9 => k_is)
     (case hba => rfl)
     (case hbb => k_is)
     (case hbc => rfl)
     (case hbd => k_is)
     (case hbe => rfl)
     (case hbf => k_is)
     (case hbg => rfl)
     (case hbh|hbi|hbj|hbk|hbl|hbn|hbo|hbq|hbs|hbt|hbu|hbv|hbw|hbx|hby|hbz|hc0|hc2|hc3|hc5|hc7|hc8|hc9|hca|hcb|hcc|hcd|hce|hcf|hch|Wh|hck|hcm|hcn|hco|hcp|hcq|hcr|hcs|hct|hcu|hcv|hcx|hcy|hcz|hd0|hd1|hd2|hd3|hd4|hd5|hd6|hd7|hd8|hd9|hdb|hdd|hde|hdg|hdi|hdj|hdk|hdl|hdm|hdn|hdo|hdq|hdr|hdt|hdv|hdw|hdx|hdy|hdz|he0|he1|he2|he4|he5|he7|he8|he9|hea|heb|hec|hed|hee|hef|heg|heh|hej|hel|hen|heo|hep|heq|her|hes|het|heu|hev|hex|hez|hf1|hf2|hf4|hf5|hf6|hf7|hf8|hf9|hfa|hfc|hfd|hff|hfg|hfh|hfi|hfj|hfk|hfl|hfm|hfn|hfp|hfq|hfs|hft|hfu|hfv|hfw|hfx|hfy|hfz|hg0|hg1|hg2|hg3|hg5|hg6|hg7|hg8|hg9|hga|hgb|hgc|hgd|hge|hgg|hgh|hgi|hgj|hgk|hgl|hgm|hgn|hgo|hgp|hgq|hgs|hgt|hgu|hgv|hgw|hgx|hgy|hgz|hh0|hh1|hh3|hh4|hh6|hh8|hha|hhc|hhe|hhg|hhi|hhk|hhm|hho|hhp|hhq|hhr|hhs|hht|hhu|hhv|hhw|hhx|hhy|hhz => k_is)
   exact T
