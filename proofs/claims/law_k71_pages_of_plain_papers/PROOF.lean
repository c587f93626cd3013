import PyProof.Rows.All
import OpenK.KLine
import OpenK.KWalk
import OpenK.KRaise
import Open.Line
import Wide.Line
import KE.IntBitsLaws
import KE.KIsAll
import KE.KTryMore
import KE.KNest
import KE.KLam
import Wide.FinOn
import Lean
import PyProof.EqAt
import PyProof.EqKinds
import PyProof.TupleCall
import PyProof.ZipIter
import PyProof.Rows.ZipGen
import PyProof.EnumMake
import PyProof.EnumFor
import PyProof.EnumStmt
import KE.KDictOf
import PyProof.AttrMissHeap
import PyProof.NeKinds
import KE.KItem
import KE.KDictSum
import KE.KSortTup
import KE.KEqDict
import KE.KRevSl
import KE.KTabExpr
import KE.KPairComp
import PyProof.DictItems
import KE.KDictList
import PyProof.ListRange
import KE.KRevIter
import PySem.Challenge.RW_askpaper_k71_pages_of_plain_papers
local macro_rules | `(tactic| symm) => `(tactic| decide +kernel)
set_option Elab.async false
set_option linter.all false
set_option maxRecDepth 100000
namespace PySem.W.Fast
def tw10044846389105822502 := Nat
def tw10057796254719539827 := Nat
def tw10058631149844352311 := Nat
def tw10102266163600468388 := Nat
def tw10151820211929795083 := Nat
def tw1016375366956201918 := Nat
def tw10168219964627323863 := Nat
def tw10205323260013246310 := Nat
def tw10215490413611058574 := Nat
def tw10245251473170843972 := Nat
def tw10251206279596264775 := Nat
def tw10346463146618845605 := Nat
def tw10383564244354267505 := Nat
def tw10411881229277192436 := Nat
def tw1047892194681580724 := Nat
def tw10536514353201341937 := Nat
def tw1060762569898693012 := Nat
def tw10610377538041756722 := Nat
def tw10630748450869513912 := Nat
def tw10635058248800884558 := Nat
def tw10649830338913724895 := Nat
def tw10671225630990027177 := Nat
def tw10698460735915865502 := Nat
def tw10728661834162542067 := Nat
def tw10737073899053915634 := Nat
def tw1076470936294410337 := Nat
def tw10771928983587128953 := Nat
def tw10772778231531639053 := Nat
def tw10862558733040596846 := Nat
def tw10866274511189119743 := Nat
def tw10875833364116139416 := Nat
def tw10876630658953619776 := Nat
def tw10878874005462294750 := Nat
def tw10929901981884940701 := Nat
def tw10983353756563009772 := Nat
def tw1099828830701241688 := Nat
def tw11004866253290314656 := Nat
def tw11051969692172947728 := Nat
def tw11067970470108038985 := Nat
def tw11096808927376624352 := Nat
def tw1121323019483584192 := Nat
def tw11231966386727277991 := Nat
def tw11293758643513628114 := Nat
def tw1133865219507965254 := Nat
def tw11370276717943272485 := Nat
def tw11406051904060964029 := Nat
def tw1142559178579682138 := Nat
def tw11441963079344494979 := Nat
def tw11468197595344648682 := Nat
def tw11535002382234563958 := Nat
def tw11543468402104386540 := Nat
def tw11557891504056432212 := Nat
def tw11633595500159284067 := Nat
def tw11669232314102283704 := Nat
def tw11683463876809890370 := Nat
def tw11711337253527071099 := Nat
def tw11719346793518284068 := Nat
def tw11724279001190481520 := Nat
def tw11746714824470849829 := Nat
def tw11746870862300833309 := Nat
def tw11775070649823839485 := Nat
def tw11838689001440077594 := Nat
def tw11847716368304578823 := Nat
def tw11875347259067071938 := Nat
def tw11882342979500077214 := Nat
def tw11921898880122974982 := Nat
def tw11941252162796040906 := Nat
def tw11955437855692232394 := Nat
def tw11963308492637748440 := Nat
def tw11973570981269842602 := Nat
def tw11981942773080302074 := Nat
def tw12047819932752419688 := Nat
def tw12067686876767471842 := Nat
def tw12111804269506030361 := Nat
def tw12128670841817073425 := Nat
def tw12283805498043508110 := Nat
def tw12295705498778345402 := Nat
def tw12299308837794898150 := Nat
def tw12339579336461787686 := Nat
def tw1233984177374227947 := Nat
def tw12365065034801843516 := Nat
def tw12393406251201081209 := Nat
def tw12404973733428876139 := Nat
def tw12437541889227348907 := Nat
def tw12477074770294260683 := Nat
def tw12491938093039938592 := Nat
def tw12531877541004614350 := Nat
def tw12537682429949769638 := Nat
def tw1257883774557045368 := Nat
def tw12585921340573273300 := Nat
def tw12633673845652436587 := Nat
def tw12638023167396977926 := Nat
def tw12715147141718847932 := Nat
def tw12767547557359502401 := Nat
def tw12782131664363029094 := Nat
def tw12804081569593399345 := Nat
def tw12830981178294755847 := Nat
def tw12865853465994111543 := Nat
def tw12886296873767161358 := Nat
def tw12945375256670696183 := Nat
def tw12954145365610978286 := Nat
def tw12993281314024193037 := Nat
def tw13071948406752774635 := Nat
def tw13115951696188636623 := Nat
def tw13157722563609960174 := Nat
def tw13172944239699259834 := Nat
def tw1319253592698074967 := Nat
def tw1325126717934583337 := Nat
def tw13260960691923272458 := Nat
def tw13268974074063395051 := Nat
def tw13299995832746825506 := Nat
def tw13309184035382621171 := Nat
def tw13312155940161164366 := Nat
def tw13388281125727896171 := Nat
def tw13416027223589130373 := Nat
def tw13421425822164786840 := Nat
def tw13433516703792217018 := Nat
def tw13440383089167768956 := Nat
def tw13451570709415810077 := Nat
def tw13550497098906008265 := Nat
def tw13558446104455244348 := Nat
def tw13564126705857404047 := Nat
def tw13576479270930842449 := Nat
def tw13580816974510872622 := Nat
def tw13597572937500254420 := Nat
def tw13617092672232635889 := Nat
def tw13651552574727325092 := Nat
def tw13653373449612729227 := Nat
def tw13682933337207268067 := Nat
def tw13695981133457863089 := Nat
def tw13706795448856245000 := Nat
def tw13734958659027169953 := Nat
def tw13771504132427936362 := Nat
def tw1380134042511553402 := Nat
def tw13808788687132032959 := Nat
def tw13809897004985078841 := Nat
def tw13868945426310128347 := Nat
def tw13874371867228517942 := Nat
def tw13887313082048649266 := Nat
def tw13957942253022406451 := Nat
def tw13964568709889165145 := Nat
def tw13977613870855313800 := Nat
def tw13993919793374858532 := Nat
def tw14022516797355499732 := Nat
def tw14053520785829093509 := Nat
def tw14105271771045016027 := Nat
def tw14210319041976958943 := Nat
def tw14217747702835318117 := Nat
def tw14217769527655316868 := Nat
def tw14277494193457085416 := Nat
def tw14288671695411141195 := Nat
def tw1433569318376071874 := Nat
def tw14336863215303355263 := Nat
def tw14349605701144172418 := Nat
def tw14395193585594454131 := Nat
def tw14402330827982282868 := Nat
def tw14444827088210956145 := Nat
def tw14491135889781443986 := Nat
def tw14549506037079464301 := Nat
def tw14549927040965129018 := Nat
def tw14585237285093854634 := Nat
def tw14732435102398666978 := Nat
def tw14747166234557984812 := Nat
def tw14778123694609385328 := Nat
def tw14789123249592243612 := Nat
def tw14815418612484081553 := Nat
def tw1481766136416253218 := Nat
def tw14842675109839257689 := Nat
def tw14884705769944228769 := Nat
def tw14916855149687662539 := Nat
def tw14960165236297251942 := Nat
def tw14963245953973410581 := Nat
def tw14976821849097175919 := Nat
def tw14988272326117928906 := Nat
def tw15024397385402264294 := Nat
def tw15059946023360594582 := Nat
def tw15062973005525005874 := Nat
def tw15069814366063651740 := Nat
def tw15107216783487673558 := Nat
def tw15143030480019161766 := Nat
def tw15160502968916413027 := Nat
def tw1516147876670588932 := Nat
def tw15189951288393913782 := Nat
def tw15192191270884484532 := Nat
def tw15210194154212870946 := Nat
def tw15229259847467843483 := Nat
def tw15284464695675404470 := Nat
def tw15308825045715009271 := Nat
def tw15332340531699303327 := Nat
def tw15335752379227720431 := Nat
def tw15374694136131044121 := Nat
def tw153869796910663894 := Nat
def tw15407436873830307776 := Nat
def tw15410528756473395535 := Nat
def tw15423726211481053367 := Nat
def tw15489710377257097581 := Nat
def tw15530843415515441561 := Nat
def tw1556255207942564762 := Nat
def tw15582159225071333553 := Nat
def tw15585600626969672350 := Nat
def tw15624146760719367914 := Nat
def tw15662271171808524694 := Nat
def tw15678880582191840574 := Nat
def tw15700965334230501966 := Nat
def tw15710304660792555046 := Nat
def tw1578450824819114720 := Nat
def tw15787018611045338985 := Nat
def tw15805337320436560778 := Nat
def tw15835966428672233 := Nat
def tw1583928993714624032 := Nat
def tw15876832383465515347 := Nat
def tw15934390336689550625 := Nat
def tw15937615365228737653 := Nat
def tw15939404480886507592 := Nat
def tw15980071348050454976 := Nat
def tw15999241544957916381 := Nat
def tw16012430298324556992 := Nat
def tw16049145993178606646 := Nat
def tw16093633008815728708 := Nat
def tw16093938464428369469 := Nat
def tw16115560909350093512 := Nat
def tw16142786699289238600 := Nat
def tw16159552448138834435 := Nat
def tw1618736581192529406 := Nat
def tw16237812727907603663 := Nat
def tw16246016471728851649 := Nat
def tw16248468901220135656 := Nat
def tw16259839640828328468 := Nat
def tw16263210889824964623 := Nat
def tw1628811447473324302 := Nat
def tw16306993104846625602 := Nat
def tw16325581701289922590 := Nat
def tw16377779158827747641 := Nat
def tw16407280456262848710 := Nat
def tw16420446249477145625 := Nat
def tw16426699941229759402 := Nat
def tw16452102355316951169 := Nat
def tw16455344956797958016 := Nat
def tw16493026964028798141 := Nat
def tw16527954624205349474 := Nat
def tw16585232506131919619 := Nat
def tw16682112808008920494 := Nat
def tw16760928884449208707 := Nat
def tw16808284751790035150 := Nat
def tw16863499026185354883 := Nat
def tw1698664162287873361 := Nat
def tw16998207672161574620 := Nat
def tw17069729733410884656 := Nat
def tw17071042778975201813 := Nat
def tw17090252121946571255 := Nat
def tw17141113354800466384 := Nat
def tw17163914362090235486 := Nat
def tw17217953615391833240 := Nat
def tw17225986071412900195 := Nat
def tw17239470868242389903 := Nat
def tw17240004583761665420 := Nat
def tw17247149042460614387 := Nat
def tw1729837149286244233 := Nat
def tw1735003638332544321 := Nat
def tw17393032349146985700 := Nat
def tw17397588215440354085 := Nat
def tw1741391107131772749 := Nat
def tw17428432222444541193 := Nat
def tw17443116727287569708 := Nat
def tw17502692508047183826 := Nat
def tw1753890004811759854 := Nat
def tw175839935016660102 := Nat
def tw17590458349074287686 := Nat
def tw1759124638151737820 := Nat
def tw17617443208993880127 := Nat
def tw17645581678295309703 := Nat
def tw17749708898333441476 := Nat
def tw17776781448795259441 := Nat
def tw17777459929580185916 := Nat
def tw17788556536602575684 := Nat
def tw17877729320556589475 := Nat
def tw17915110920055106426 := Nat
def tw17917300175676625250 := Nat
def tw17936143657472486797 := Nat
def tw17958481841352522812 := Nat
def tw17989593918853812185 := Nat
def tw18019634948275642722 := Nat
def tw18020018819677520679 := Nat
def tw18047028813153111729 := Nat
def tw18050423911228538030 := Nat
def tw18064935460669976655 := Nat
def tw18108444164112561130 := Nat
def tw18113728414666266444 := Nat
def tw18130669890041125627 := Nat
def tw18186838515121515160 := Nat
def tw1820010795434785870 := Nat
def tw18203433351177650033 := Nat
def tw1820969532534889219 := Nat
def tw18233745295867731167 := Nat
def tw18253167581917487442 := Nat
def tw18260462311542630876 := Nat
def tw18289557470669306372 := Nat
def tw18297717202321176328 := Nat
def tw18301489967916140671 := Nat
def tw18303816962678355085 := Nat
def tw18401105362820290340 := Nat
def tw1875100011626928382 := Nat
def tw1876483239824602216 := Nat
def tw1881344872617798208 := Nat
def tw1886565001794468887 := Nat
def tw1911157121094814981 := Nat
def tw1946111483001625783 := Nat
def tw1968112524639731469 := Nat
def tw1989840458410092131 := Nat
def tw2011189126984969544 := Nat
def tw2023511349175970843 := Nat
def tw2042232887724375790 := Nat
def tw2054635374154761159 := Nat
def tw2098288134135641868 := Nat
def tw2110677301104008194 := Nat
def tw2121875668843030048 := Nat
def tw2142052641465089374 := Nat
def tw2164525542809408899 := Nat
def tw2167205038761850924 := Nat
def tw2220874110851933527 := Nat
def tw222980805952195777 := Nat
def tw2263242662001917600 := Nat
def tw2336821478576771098 := Nat
def tw2340323973055586755 := Nat
def tw2378248540996164353 := Nat
def tw2381908743675722896 := Nat
def tw2441570650507243433 := Nat
def tw250561428517107616 := Nat
def tw2539332225796434996 := Nat
def tw2572687467228348180 := Nat
def tw2640171161437219001 := Nat
def tw26643244282084147 := Nat
def tw2669602243718534862 := Nat
def tw2686735710223736172 := Nat
def tw2710753039673531540 := Nat
def tw2746938131748506319 := Nat
def tw2765833832403700503 := Nat
def tw2839402254821244153 := Nat
def tw2878116743653791040 := Nat
def tw2878183246022143091 := Nat
def tw2882714239862154045 := Nat
def tw2896773581060770486 := Nat
def tw2897301804366545582 := Nat
def tw2901606837497716838 := Nat
def tw3020271339587480332 := Nat
def tw3024761264853405867 := Nat
def tw3135866981416823347 := Nat
def tw3140820972299759320 := Nat
def tw3152100036988058506 := Nat
def tw3159095556225216416 := Nat
def tw3164760116292775550 := Nat
def tw3168111212131163526 := Nat
def tw3169371203454423572 := Nat
def tw3202319519851905882 := Nat
def tw3269650548796861243 := Nat
def tw3295511035942344991 := Nat
def tw3296696246554401710 := Nat
def tw3303076469521256886 := Nat
def tw3360572157074674641 := Nat
def tw3382288432254506334 := Nat
def tw3470159340891164721 := Nat
def tw3488737048814333071 := Nat
def tw3510280887917469505 := Nat
def tw357057977577199919 := Nat
def tw3585100346491456120 := Nat
def tw3600269797298399825 := Nat
def tw3623375577985213242 := Nat
def tw3686373911203471688 := Nat
def tw369430802800722402 := Nat
def tw3738845888886470058 := Nat
def tw3762416602199808477 := Nat
def tw3841264594709382148 := Nat
def tw3856681171429095071 := Nat
def tw3857511833214385248 := Nat
def tw3880362310539097487 := Nat
def tw3898242516773169515 := Nat
def tw3929649112514292872 := Nat
def tw3965211323047277613 := Nat
def tw4037879530533684896 := Nat
def tw4083496720478759545 := Nat
def tw4095274016354937838 := Nat
def tw4111910020617946662 := Nat
def tw4115184578856039422 := Nat
def tw4117321788469438050 := Nat
def tw4121998636243775354 := Nat
def tw4136090849509979984 := Nat
def tw4137325370957549327 := Nat
def tw4138291746590396869 := Nat
def tw4170905166582606496 := Nat
def tw4210609787760625466 := Nat
def tw423735369069554163 := Nat
def tw424096116050014176 := Nat
def tw4250838741089372437 := Nat
def tw4255424625545077409 := Nat
def tw4286538256212314165 := Nat
def tw4305875597859926534 := Nat
def tw4336915615088085378 := Nat
def tw4351086095426644366 := Nat
def tw4396106348161092250 := Nat
def tw4484467781169072956 := Nat
def tw4522424643947223619 := Nat
def tw4554420597048321524 := Nat
def tw4559660290966181761 := Nat
def tw4584654498582487530 := Nat
def tw4654815904035078997 := Nat
def tw4677471691218242753 := Nat
def tw4698656901678913875 := Nat
def tw470095895951594905 := Nat
def tw4787430468708740587 := Nat
def tw4802116594241944376 := Nat
def tw4810029385125926605 := Nat
def tw4827080230699814212 := Nat
def tw4840524211544760861 := Nat
def tw4844716164202882221 := Nat
def tw4866863782545451205 := Nat
def tw488007671338765875 := Nat
def tw4887685015850659331 := Nat
def tw4952150904599247559 := Nat
def tw4969701445928388879 := Nat
def tw4973250177141933893 := Nat
def tw4973543367190591318 := Nat
def tw4996961393002207327 := Nat
def tw4998361951225929484 := Nat
def tw500373144686045674 := Nat
def tw5018691714253406179 := Nat
def tw5056125178052536965 := Nat
def tw5083850324813786703 := Nat
def tw50881077836905481 := Nat
def tw5111956853416582048 := Nat
def tw5150846733945624158 := Nat
def tw517260894014078394 := Nat
def tw5198347725375305903 := Nat
def tw5204247425865641839 := Nat
def tw5223822560880197017 := Nat
def tw5240048820334558648 := Nat
def tw5296716228132759371 := Nat
def tw5316742535100819302 := Nat
def tw5329849526537760011 := Nat
def tw5346076054499418017 := Nat
def tw5363241011009905135 := Nat
def tw5364621266610939370 := Nat
def tw538441503083176187 := Nat
def tw5396799144146160342 := Nat
def tw5398202471343034998 := Nat
def tw5513286109413830523 := Nat
def tw5527294985305868415 := Nat
def tw5636332049951252381 := Nat
def tw5652365662481079520 := Nat
def tw5673549484726992831 := Nat
def tw5691411001820734588 := Nat
def tw5703151242656069484 := Nat
def tw5756797578927171989 := Nat
def tw5762299452433473303 := Nat
def tw576604734878723103 := Nat
def tw5819929590884917170 := Nat
def tw5834200252053584799 := Nat
def tw5835694581794504156 := Nat
def tw5858459060801153580 := Nat
def tw5954173117018064980 := Nat
def tw5967732437057060591 := Nat
def tw5969235535497513817 := Nat
def tw6012336183897332717 := Nat
def tw6131841629607492777 := Nat
def tw614456567127290071 := Nat
def tw615142128348810299 := Nat
def tw6154514683551229148 := Nat
def tw617310118814925706 := Nat
def tw6205388349485210593 := Nat
def tw6214274202477951937 := Nat
def tw6246948602668414545 := Nat
def tw6266457160718886973 := Nat
def tw6287330796893808603 := Nat
def tw6323258979834095390 := Nat
def tw6499489439639904234 := Nat
def tw6511381813579372973 := Nat
def tw652891226077691851 := Nat
def tw6561784352644307444 := Nat
def tw657887501504314306 := Nat
def tw6587095794939352104 := Nat
def tw6695773727446449784 := Nat
def tw6709115315417164547 := Nat
def tw6720174754814767122 := Nat
def tw6748717737644806958 := Nat
def tw675531646978107651 := Nat
def tw679864686025559320 := Nat
def tw6799628610181654080 := Nat
def tw6893851684656409104 := Nat
def tw6904670392898311857 := Nat
def tw6909285702984956636 := Nat
def tw692035604258825693 := Nat
def tw6938550530621732033 := Nat
def tw6988905547964420254 := Nat
def tw7040754782832321026 := Nat
def tw7044640961585788658 := Nat
def tw7054396678078448527 := Nat
def tw7067495936453211493 := Nat
def tw7077512835659006569 := Nat
def tw7102098515685549962 := Nat
def tw7104432584439347262 := Nat
def tw7115722463927623224 := Nat
def tw7138752964303859365 := Nat
def tw7164205653793215851 := Nat
def tw721732496640149787 := Nat
def tw7254046549455044888 := Nat
def tw727158894061186725 := Nat
def tw7301359767837801295 := Nat
def tw7302990454120368606 := Nat
def tw7318108225432531939 := Nat
def tw7325128113779747421 := Nat
def tw733048262466431130 := Nat
def tw73734655041492918 := Nat
def tw7493739303091177357 := Nat
def tw7524392276197784663 := Nat
def tw7554410871297949949 := Nat
def tw7644053915149250840 := Nat
def tw7649971022101553385 := Nat
def tw7655752829711041418 := Nat
def tw7680290379972034247 := Nat
def tw7705276625633921914 := Nat
def tw7750929992692376546 := Nat
def tw7812624743434920557 := Nat
def tw7816308952824504677 := Nat
def tw784295766342248431 := Nat
def tw7870232128023965322 := Nat
def tw7921608510489657968 := Nat
def tw7958615314142197428 := Nat
def tw7962476563515789536 := Nat
def tw7979855250317893338 := Nat
def tw8037368415238855 := Nat
def tw8054105937642298885 := Nat
def tw8060278510388839446 := Nat
def tw8077767425406115314 := Nat
def tw8096019949260078815 := Nat
def tw811670240363296027 := Nat
def tw8137257922485766115 := Nat
def tw8138255308849659315 := Nat
def tw8150836293342169732 := Nat
def tw8252443171084902820 := Nat
def tw8265337320168083442 := Nat
def tw8282248516107165335 := Nat
def tw8299117151432110165 := Nat
def tw8301128481580742141 := Nat
def tw8337448042167063195 := Nat
def tw8343889944085352956 := Nat
def tw8465587291032471064 := Nat
def tw849705501390150692 := Nat
def tw8516993342984448349 := Nat
def tw8535908686532376722 := Nat
def tw8554610581018088845 := Nat
def tw857566996247419039 := Nat
def tw8585431005422936318 := Nat
def tw8615872511439572488 := Nat
def tw8618390739278116351 := Nat
def tw8630483576913630340 := Nat
def tw863313008744381680 := Nat
def tw8667962465477135343 := Nat
def tw8676052924851299683 := Nat
def tw8679354383331612512 := Nat
def tw8693878414350933888 := Nat
def tw8773519434198954298 := Nat
def tw8853140686732756458 := Nat
def tw8912441592159698781 := Nat
def tw8925688425877274709 := Nat
def tw8951704722261124036 := Nat
def tw9024586851628551107 := Nat
def tw9071090091103243173 := Nat
def tw9110525057292123921 := Nat
def tw9112627220185639913 := Nat
def tw9124062413468020015 := Nat
def tw913916242172789352 := Nat
def tw915788644738410592 := Nat
def tw9160355575611520366 := Nat
def tw9170337610838462589 := Nat
def tw9171563953469125002 := Nat
def tw9174193049007872096 := Nat
def tw9201591803395749281 := Nat
def tw9255484231251115065 := Nat
def tw9287846110523952493 := Nat
def tw9530925983703719641 := Nat
def tw9593924636289671845 := Nat
def tw9604297460972627629 := Nat
def tw9614632143599169229 := Nat
def tw9621291633530658603 := Nat
def tw9625906324372294800 := Nat
def tw9701610956780575117 := Nat
def tw9717472067556973462 := Nat
def tw9736614033922848609 := Nat
def tw9749455233657153938 := Nat
def tw9771592054146991238 := Nat
def tw9779780056557832094 := Nat
def tw9824689954713327761 := Nat
def tw9847152035478065684 := Nat
def tw9849745724387202299 := Nat
def tw9903423564020418714 := Nat
def tw9933127142811805704 := Nat
def tw9940733115933890577 := Nat
def tw9941473706751515329 := Nat
def tw9950683703633498663 := Nat
def tw9955732584290666716 := Nat
def tw9971896813122424532 := Nat
end PySem.W.Fast
section
namespace Hk
open PySem PySem.W
theorem chs {α β : Type} {f : β → α} {l : List β} {γ : Type} {g : γ → α} {l2 : List γ} {n m k : Nat} (h1 : ((l.drop n).take m).map f = ((l2.drop n).take m).map g) (hk : n + m = k) (h2 : (l.drop k).map f = (l2.drop k).map g) : (l.drop n).map f = (l2.drop n).map g := by
  subst hk
  rw [← List.take_append_drop m (l.drop n), ← List.take_append_drop m (l2.drop n), List.map_append, List.map_append, h1, List.drop_drop, List.drop_drop, h2]
theorem ch {K : Params → Frag} {as : List Addr} (e : ∀ P, as = (K P).map (·.1)) (w : World) (s : Shared) (x : ((((((as.drop 0).take 64).map s.heap.get?, ((as.drop 64).take 64).map s.heap.get?), (((as.drop 128).take 64).map s.heap.get?, ((as.drop 192).take 64).map s.heap.get?)), ((((as.drop 256).take 64).map s.heap.get?, ((as.drop 320).take 64).map s.heap.get?), (((as.drop 384).take 64).map s.heap.get?, ((as.drop 448).take 64).map s.heap.get?))), (((((as.drop 512).take 64).map s.heap.get?, ((as.drop 576).take 64).map s.heap.get?), (((as.drop 640).take 64).map s.heap.get?, ((as.drop 704).take 64).map s.heap.get?)), ((((as.drop 768).take 64).map s.heap.get?, ((as.drop 832).take 64).map s.heap.get?), (((as.drop 896).take 64).map s.heap.get?, (as.drop 960).map s.heap.get?)))) = (((((((K w.params).drop 0).take 64).map (fun p => some p.2), (((K w.params).drop 64).take 64).map (fun p => some p.2)), ((((K w.params).drop 128).take 64).map (fun p => some p.2), (((K w.params).drop 192).take 64).map (fun p => some p.2))), (((((K w.params).drop 256).take 64).map (fun p => some p.2), (((K w.params).drop 320).take 64).map (fun p => some p.2)), ((((K w.params).drop 384).take 64).map (fun p => some p.2), (((K w.params).drop 448).take 64).map (fun p => some p.2)))), ((((((K w.params).drop 512).take 64).map (fun p => some p.2), (((K w.params).drop 576).take 64).map (fun p => some p.2)), ((((K w.params).drop 640).take 64).map (fun p => some p.2), (((K w.params).drop 704).take 64).map (fun p => some p.2))), (((((K w.params).drop 768).take 64).map (fun p => some p.2), (((K w.params).drop 832).take 64).map (fun p => some p.2)), ((((K w.params).drop 896).take 64).map (fun p => some p.2), ((K w.params).drop 960).map (fun p => some p.2)))))) : InK K w s.heap := by
  simp only [Prod.mk.injEq] at x
  obtain ⟨⟨⟨⟨x0, x1⟩, ⟨x2, x3⟩⟩, ⟨⟨x4, x5⟩, ⟨x6, x7⟩⟩⟩, ⟨⟨⟨x8, x9⟩, ⟨x10, x11⟩⟩, ⟨⟨x12, x13⟩, ⟨x14, x15⟩⟩⟩⟩ := x
  have y15 := x15
  have y14 := chs x14 (by decide) y15
  have y13 := chs x13 (by decide) y14
  have y12 := chs x12 (by decide) y13
  have y11 := chs x11 (by decide) y12
  have y10 := chs x10 (by decide) y11
  have y9 := chs x9 (by decide) y10
  have y8 := chs x8 (by decide) y9
  have y7 := chs x7 (by decide) y8
  have y6 := chs x6 (by decide) y7
  have y5 := chs x5 (by decide) y6
  have y4 := chs x4 (by decide) y5
  have y3 := chs x3 (by decide) y4
  have y2 := chs x2 (by decide) y3
  have y1 := chs x1 (by decide) y2
  have y0 := chs x0 (by decide) y1
  exact InK.of e w s y0
end Hk
open Lean in
local macro_rules
  | `($f:ident $h:term) => do
    let n := f.getId.eraseMacroScopes
    unless n == `Hook.obs || n == `Hook.val || n == `Hook.of do Macro.throwUnsupported
    match h with
    | `(($g:ident $k $a $e)) =>
      unless g.getId.eraseMacroScopes == `kHook do Macro.throwUnsupported
      if n == `Hook.obs then `(fun (s : PySem.Shared) => ((((((($a).drop 0).take 64).map s.heap.get?, ((($a).drop 64).take 64).map s.heap.get?), (((($a).drop 128).take 64).map s.heap.get?, ((($a).drop 192).take 64).map s.heap.get?)), ((((($a).drop 256).take 64).map s.heap.get?, ((($a).drop 320).take 64).map s.heap.get?), (((($a).drop 384).take 64).map s.heap.get?, ((($a).drop 448).take 64).map s.heap.get?))), (((((($a).drop 512).take 64).map s.heap.get?, ((($a).drop 576).take 64).map s.heap.get?), (((($a).drop 640).take 64).map s.heap.get?, ((($a).drop 704).take 64).map s.heap.get?)), ((((($a).drop 768).take 64).map s.heap.get?, ((($a).drop 832).take 64).map s.heap.get?), (((($a).drop 896).take 64).map s.heap.get?, (($a).drop 960).map s.heap.get?)))))
      else if n == `Hook.val then `(fun (w : PySem.World) => (((((((($k) w.params).drop 0).take 64).map (fun p => some p.2), (((($k) w.params).drop 64).take 64).map (fun p => some p.2)), ((((($k) w.params).drop 128).take 64).map (fun p => some p.2), (((($k) w.params).drop 192).take 64).map (fun p => some p.2))), (((((($k) w.params).drop 256).take 64).map (fun p => some p.2), (((($k) w.params).drop 320).take 64).map (fun p => some p.2)), ((((($k) w.params).drop 384).take 64).map (fun p => some p.2), (((($k) w.params).drop 448).take 64).map (fun p => some p.2)))), ((((((($k) w.params).drop 512).take 64).map (fun p => some p.2), (((($k) w.params).drop 576).take 64).map (fun p => some p.2)), ((((($k) w.params).drop 640).take 64).map (fun p => some p.2), (((($k) w.params).drop 704).take 64).map (fun p => some p.2))), (((((($k) w.params).drop 768).take 64).map (fun p => some p.2), (((($k) w.params).drop 832).take 64).map (fun p => some p.2)), ((((($k) w.params).drop 896).take 64).map (fun p => some p.2), ((($k) w.params).drop 960).map (fun p => some p.2))))))
      else `(Hk.ch (K := $k) (as := $a) $e)
    | _ => Macro.throwUnsupported
open PySem PySem.W PyProof.Rows
set_option maxHeartbeats 0 in
open_top PySem.Challenge.hd71 for PySem.Challenge.rw_askpaper_k71_pages_of_plain_papers
end
namespace L2
open PySem PySem.Spec PyProof.Rows
abbrev Key := Sum Int Str
def keyIs : Key → Value → Bool
 | .inl k, v => Value.isInt k v
 | .inr x, v => Value.isStrOf x v
def keyH (w : World) : Key → Int
 | .inl k => hashInt k
 | .inr x => hashStr w x
theorem yL : ∀ {k : Key} {v : Value}, keyIs k v = true → (∃ i t, k = Sum.inl i ∧ v = Value.int i t) ∨ (∃ x t, k = Sum.inr x ∧ v = Value.str x t)
 | .inl i, v, h => by
   obtain ⟨t, e⟩ := Value.isInt_shape (k := i) (v := v) h
   exact .inl ⟨i, t, rfl, e⟩
 | .inr x, v, h => by
   obtain ⟨t, e⟩ := Value.isStrOf_shape (x := x) (v := v) h
   exact .inr ⟨x, t, rfl, e⟩
theorem keyIs_int (i : Int) (t : Tok) : keyIs (.inl i) (.int i t) = true := by simp [keyIs, Value.isInt]
theorem keyIs_str (x : Str) (t : Tok) : keyIs (.inr x) (.str x t) = true := by simp [keyIs, Value.isStrOf]
theorem key_ll (a b : Int) : decide ((Sum.inl a : Key) = Sum.inl b) = (a == b) := by
 by_cases e : a = b
 · subst e; simp
 · have h : ¬ (Sum.inl a : Key) = Sum.inl b := fun q => e (Sum.inl.inj q)
   rw [decide_eq_false h]
   exact (beq_eq_false_iff_ne.mpr e).symm
theorem key_rr (a b : Str) : decide ((Sum.inr a : Key) = Sum.inr b) = decide (a = b) := by
 by_cases e : a = b
 · subst e; simp
 · have h : ¬ (Sum.inr a : Key) = Sum.inr b := fun q => e (Sum.inr.inj q)
   rw [decide_eq_false h, decide_eq_false e]
theorem key_lr (a : Int) (b : Str) : decide ((Sum.inl a : Key) = Sum.inr b) = false := decide_eq_false (fun q => nomatch q)
theorem key_rl (a : Str) (b : Int) : decide ((Sum.inr a : Key) = Sum.inl b) = false := decide_eq_false (fun q => nomatch q)
def mixKind (prog : Program) (w : World) : PySem.KeyKind prog w Key where
 is := keyIs
 hash := keyH w
 inj := fun v a b ha hb => by
   rcases yL ha with ⟨i, t, rfl, rfl⟩ | ⟨x, t, rfl, rfl⟩
   · rcases yL hb with ⟨j, u, rfl, e⟩ | ⟨y, u, rfl, e⟩
     · injection e with e1 _; rw [e1]
     · exact nomatch e
   · rcases yL hb with ⟨j, u, rfl, e⟩ | ⟨y, u, rfl, e⟩
     · exact nomatch e
     · injection e with e1 _; rw [e1]
 byValue := fun k v h => by
   rcases yL h with ⟨i, t, rfl, rfl⟩ | ⟨x, t, rfl, rfl⟩ <;> rfl
 pyHash := fun hv h => by
   rcases yL hv with ⟨i, t, rfl, rfl⟩ | ⟨x, t, rfl, rfl⟩
   · exact wpAny_pyHash_int h
   · exact wpAny_pyHash_str h
 eqBool := fun hu hv h => by
   rcases yL hu with ⟨i, t, rfl, rfl⟩ | ⟨x, t, rfl, rfl⟩
   · rcases yL hv with ⟨j, u, rfl, rfl⟩ | ⟨y, u, rfl, rfl⟩
     · rw [key_ll] at h; exact wpAny_eqBool_int h
     · rw [key_lr] at h; exact SeqAt.EqAt.int_str i t y u _ _ _ _ h
   · rcases yL hv with ⟨j, u, rfl, rfl⟩ | ⟨y, u, rfl, rfl⟩
     · rw [key_rl] at h; exact SeqAt.EqAt.str_int x t j u _ _ _ _ h
     · rw [key_rr] at h; exact wpAny_eqBool_str h
 «strs» := fun k x t v h => by
   rcases yL h with ⟨i, u, rfl, e⟩ | ⟨y, u, rfl, e⟩
   · exact nomatch e
   · injection e with e1 _
     subst e1
     cases v <;> rfl
theorem mixKind_int (prog : Program) (w : World) (i : Int) (t : Tok) : (mixKind prog w).is (.inl i) (.int i t) = true := keyIs_int i t
theorem mixKind_str (prog : Program) (w : World) (x : Str) (t : Tok) : (mixKind prog w).is (.inr x) (.str x t) = true := keyIs_str x t
end L2
namespace L2
open PySem PySem.Spec PyProof.Rows
inductive V where
 | non | bl (b : Bool) | int (i : Int) | str (x : Str) | byt (b : Array UInt8) | flt (b : UInt64) | ref (a : Addr) | ty (n : String)
 deriving DecidableEq
def RelV : V → Value → Prop
 | .non, u => u = Value.none
 | .bl b, u => u = Value.bool b
 | .int i, u => ∃ t, u = Value.int i t
 | .str x, u => ∃ t, u = Value.str x t
 | .byt b, u => ∃ t, u = Value.bytes b t
 | .flt b, u => ∃ t, u = Value.float b t
 | .ref a, u => u = Value.ref a
 | .ty n, u => u = Value.type n
abbrev Vals : List V → List Value → Prop := Paired RelV
theorem Vals.length {xs : List V} {us : List Value} (r : Vals xs us) : xs.length = us.length := Paired.length r
theorem Vals.get : ∀ {xs : List V} {us : List Value} {i : Nat} {x : V}, Vals xs us → xs[i]? = some x → ∃ u, us[i]? = some u ∧ RelV x u
 | _, _, _, _, .nil, e => by simp at e
 | _, _, 0, _, .cons r _, e => by simp at e; subst e; exact ⟨_, rfl, r⟩
 | _, _, i + 1, x, .cons _ t, e => by
   obtain ⟨u, h1, h2⟩ := Vals.get (i := i) (x := x) t (by simpa using e)
   exact ⟨u, by simpa using h1, h2⟩
theorem Vals.set {x : V} {u : Value} (r : RelV x u) : ∀ {xs : List V} {us : List Value} (i : Nat), Vals xs us → Vals (xs.set i x) (us.set i u)
 | _, _, _, .nil => .nil
 | _, _, 0, .cons _ t => .cons r t
 | _, _, i + 1, .cons q t => .cons q (Vals.set r i t)
theorem Vals.append : ∀ {xs ys : List V} {us ws : List Value}, Vals xs us → Vals ys ws → Vals (xs ++ ys) (us ++ ws)
 | _, _, _, _, .nil, s => s
 | _, _, _, _, .cons r t, s => .cons r (Vals.append t s)
theorem Vals.take : ∀ {xs : List V} {us : List Value} (n : Nat), Vals xs us → Vals (xs.take n) (us.take n)
 | _, _, 0, _ => .nil
 | _, _, _ + 1, .nil => .nil
 | _, _, n + 1, .cons r t => .cons r (Vals.take n t)
theorem Vals.drop : ∀ {xs : List V} {us : List Value} (n : Nat), Vals xs us → Vals (xs.drop n) (us.drop n)
 | _, _, 0, r => r
 | _, _, _ + 1, .nil => .nil
 | _, _, n + 1, .cons _ t => Vals.drop n t
theorem Vals.none_of : ∀ {xs : List V} {us : List Value} {i : Nat}, Vals xs us → xs[i]? = none → us[i]? = none := fun {xs us i} r e => by
 have h1 := r.length
 have h2 : xs.length ≤ i := List.getElem?_eq_none_iff.mp e
 exact List.getElem?_eq_none_iff.mpr (by omega)
def RelO : Option V → Option Value → Prop
 | some v, some u => RelV v u
 | none, none => True
 | _, _ => False
def KV {κ : Type} : List (κ × V) → List (κ × Value) → Prop := Paired fun (p : κ × V) (q : κ × Value) => p.1 = q.1 ∧ RelV p.2 q.2
def kV : Key → V
 | .inl i => .int i
 | .inr x => .str x
inductive HO where
 | lst (xs : List V)
 | tup (xs : List V)
 | dK (kvs : List (Key × V)) | dT (kvs : List (List Key × V))
 | set (S : Int → Bool) (n : Nat)
 | ins (C dx : Addr) (fs : List (Str × V))
 | own (x : Addr)
 | xd (fs : List (Str × V))
 | met (f x : Addr)
 | rng (lo hi : Int)
 | frz (o : Obj) (u : HO)
 | tbl (ps : Array Value)
 | ext (φ : Heap → Prop)
abbrev Hp := Addr → Option HO
def upd (H : Hp) (a : Addr) (o : HO) : Hp := fun b => if b = a then some o else H b
theorem zB {H : Hp} {a : Addr} {o : HO} : upd H a o a = some o := by unfold upd; rw [if_pos rfl]
theorem zI {H : Hp} {a b : Addr} {o : HO} (h : b ≠ a) : upd H a o b = H b := by unfold upd; rw [if_neg h]
theorem upd_upd {H : Hp} {a : Addr} {o u : HO} : upd (upd H a o) a u = upd H a u := by
 funext b; unfold upd; split <;> rfl
theorem yG {H : Hp} {a b : Addr} {o u : HO} (h : H a = some o) (h' : H b = some u) (d : o ≠ u) : a ≠ b := by
 intro e; subst e; rw [h] at h'; exact d (Option.some.inj h')
theorem zG {H : Hp} {a b : Addr} {o : HO} (h : H a = some o) (h' : H b = none) : a ≠ b := by
 intro e; subst e; rw [h] at h'; cases h'
section
variable (P : Program) (w : World)
def ObjOk (H : Hp) (h : Heap) (a : Addr) : HO → Prop
 | .lst xs => xs.length ≤ sizeLine ∧ ∃ (its : List Value) (n : Nat), Vals xs its ∧ h.get? a = some { cls := .type "list", data := .seq its.toArray n }
 | .tup xs => xs.length ≤ sizeLine ∧ ∃ its : List Value, Vals xs its ∧ IsTup h a its.toArray
 | .dK kvs => kvs.length ≤ sizeLine ∧ (a == sysModules) = false ∧ ∃ vs, KV kvs vs ∧ h.DictOf (mixKind P w) a vs
 | .dT kvs => kvs.length ≤ sizeLine ∧ (a == sysModules) = false ∧ ∃ xs : List (List Key × Addr × Value),
     Paired (fun (p : List Key × V) (q : List Key × Addr × Value) => p.1 = q.1 ∧ H q.2.1 = some (.tup (p.1.map kV)) ∧ RelV p.2 q.2.2) kvs xs ∧
     ∃ o es ep, h.get? a = some o ∧ o.ExactDict ∧ o.data = .dict es ep ∧ es.toList = xs.map (entryOfKey (tupleKind (mixKind P w))) ∧ (xs.map (·.1)).Nodup
 | .set S n => h.SetOf (intKind P w) a S n
 | .ins C dx fs => H dx = some (.own a) ∧ fs.length ≤ 1000 ∧ dx ≠ a ∧ h.get? a = some (PySem.W.instObj C dx) ∧
     ∃ mA, h.Ns1 dx mA ∧ (∀ f, RelO (fs.lookup f) (mA f)) ∧ PySem.Within mA (fs.map (·.1))
 | .own _ => ∃ o, h.get? a = some o
 | .xd fs => ∃ mA, h.Ns1 a mA ∧ ∀ f, RelO (fs.lookup f) (mA f)
 | .rng lo hi => ∃ t u v, h.get? a = some { cls := .type "range", data := .fields #[.int lo t, .int hi u, .int 1 v] }
 | .frz o u => h.get? a = some o ∧ ObjOk H h a u
 | .tbl ps => h.get? a = some { cls := .none, data := .fields ps }
 | .met f x => h.get? a = some (PySem.W.methodObj (.ref f) (.ref x))
 | .ext φ => φ h ∧ (∃ o, h.get? a = some o) ∧ ∀ h1 h2 : Heap, φ h1 → (∀ o, h1.get? a = some o → h2.get? a = some o) → φ h2
def HOk (H : Hp) (h : Heap) : Prop := ∀ a o, H a = some o → ObjOk P w H h a o
end
section
variable {P : Program} {w : World} {H H' : Hp} {h h' : Heap} {a : Addr} {o : HO}
theorem ObjOk.lt (x : ObjOk P w H h a o) : a < h.objs.size := by
 cases o with
 | lst xs => obtain ⟨_, _, _, _, e⟩ := x; exact Heap.lt_size e
 | tup xs => obtain ⟨_, _, _, p⟩ := x; exact p.lt
 | dK kvs => obtain ⟨_, _, _, _, o, _, _, e, _⟩ := x; exact Heap.lt_size e
 | dT kvs => obtain ⟨_, _, _, _, o, _, _, e, _⟩ := x; exact Heap.lt_size e
 | set S n => obtain ⟨o, _, _, _, e, _⟩ := x; exact Heap.lt_size e
 | ins C dx fs => obtain ⟨_, _, _, e, _⟩ := x; exact Heap.lt_size e
 | own y => obtain ⟨_, e⟩ := x; exact Heap.lt_size e
 | xd fs => obtain ⟨_, ⟨_, _, _, e, _⟩, _⟩ := x; exact Heap.lt_size e
 | rng lo hi => obtain ⟨_, _, _, e⟩ := x; exact Heap.lt_size e
 | frz ob u => obtain ⟨e, _⟩ := x; exact Heap.lt_size e
 | tbl ps => exact Heap.lt_size (show h.get? a = some _ from x)
 | met f y => exact Heap.lt_size (show h.get? a = some _ from x)
 | ext φ => obtain ⟨_, ⟨_, e⟩, _⟩ := x; exact Heap.lt_size e
theorem Paired.mapP {α β : Type} {F G : α → β → Prop} : ∀ {l₁ : List α} {l₂ : List β}, Paired F l₁ l₂ → (∀ a b, F a b → G a b) → Paired G l₁ l₂
 | _, _, .nil, _ => .nil
 | _, _, .cons r t, f => .cons (f _ _ r) (Paired.mapP t f)
theorem ObjOk.stay (x : ObjOk P w H h a o) (k : ∀ b u, (b = a ∨ H b = some (.own a)) → h.get? b = some u → h'.get? b = some u)
   (ho : ∀ b, H b = some (.own a) → H' b = some (.own a)) (ht : ∀ b xs, H b = some (.tup xs) → H' b = some (.tup xs)) : ObjOk P w H' h' a o := by
 induction o with
 | lst xs => obtain ⟨z, its, n, r, e⟩ := x; exact ⟨z, its, n, r, k _ _ (.inl rfl) e⟩
 | tup xs => obtain ⟨z, its, r, ob, e, c⟩ := x; exact ⟨z, its, r, ob, k _ _ (.inl rfl) e, c⟩
 | dK kvs => obtain ⟨z, y, vs, r, ob, es, ep, e, c⟩ := x; exact ⟨z, y, vs, r, ob, es, ep, k _ _ (.inl rfl) e, c⟩
 | dT kvs =>
   obtain ⟨z, y, xs, r, ob, es, ep, e, c⟩ := x
   exact ⟨z, y, xs, Paired.mapP r fun p q z => ⟨z.1, ht _ _ z.2.1, z.2.2⟩, ob, es, ep, k _ _ (.inl rfl) e, c⟩
 | set S n => obtain ⟨ob, es, ep, t, e, c⟩ := x; exact ⟨ob, es, ep, t, k _ _ (.inl rfl) e, c⟩
 | ins C dx fs =>
   obtain ⟨d, z, ne, e, mA, ⟨od, es, ep, e2, c⟩, r⟩ := x
   exact ⟨ho _ d, z, ne, k _ _ (.inl rfl) e, mA, ⟨od, es, ep, k _ _ (.inr d) e2, c⟩, r⟩
 | own y => obtain ⟨ob, e⟩ := x; exact ⟨ob, k _ _ (.inl rfl) e⟩
 | xd fs => obtain ⟨mA, ⟨od, es, ep, e, c⟩, r⟩ := x; exact ⟨mA, ⟨od, es, ep, k _ _ (.inl rfl) e, c⟩, r⟩
 | rng lo hi => obtain ⟨t, u, v, e⟩ := x; exact ⟨t, u, v, k _ _ (.inl rfl) e⟩
 | frz ob u ih => obtain ⟨e, q⟩ := x; exact ⟨k _ _ (.inl rfl) e, ih q⟩
 | tbl ps =>
   have e : h.get? a = some { cls := .none, data := .fields ps } := x
   show h'.get? a = some { cls := .none, data := .fields ps }
   exact k a _ (.inl rfl) e
 | met f y =>
   have e : h.get? a = some (PySem.W.methodObj (.ref f) (.ref y)) := x
   show h'.get? a = some (PySem.W.methodObj (.ref f) (.ref y))
   exact k a _ (.inl rfl) e
 | ext φ => obtain ⟨p, ⟨o, e⟩, st⟩ := x; exact ⟨st _ _ p fun o q => k _ _ (.inl rfl) q, ⟨o, k _ _ (.inl rfl) e⟩, st⟩
theorem HOk.lt (x : HOk P w H h) (e : H a = some o) : a < h.objs.size := (x a o e).lt
theorem HOk.fresh (x : HOk P w H h) (e : h.objs.size ≤ a) : H a = none := by
 cases q : H a with
 | none => rfl
 | some u => exact absurd (Nat.lt_of_lt_of_le (x.lt q) e) (Nat.lt_irrefl _)
theorem HOk.kept (x : HOk P w H h) (k : ∀ b u, h.get? b = some u → h'.get? b = some u) : HOk P w H h' := fun a o e =>
 (x a o e).stay (fun b u _ q => k b u q) (fun _ q => q) fun _ _ q => q
theorem HOk.laid (x : HOk P w H h) (k : ∀ b u, h.get? b = some u → h'.get? b = some u) (hp : h.objs.size ≤ a) (new : ObjOk P w (upd H a o) h' a o) : HOk P w (upd H a o) h' := fun b u e => by
 have hn := x.fresh hp
 by_cases hb : b = a
 · subst hb; rw [zB] at e; cases e; exact new
 · rw [zI hb] at e
   exact (x b u e).stay (fun c v _ q => k c v q) (fun c q => by rw [zI (zG q hn)]; exact q) fun c xs q => by rw [zI (zG q hn)]; exact q
end
def Rd (H : Hp) (a : Addr) (u : HO) : Prop := H a = some u ∨ ∃ o, H a = some (.frz o u)
theorem Rd.of {H : Hp} {a : Addr} {u : HO} (h : H a = some u) : Rd H a u := .inl h
theorem Rd.ok {P : Program} {w : World} {H : Hp} {h : Heap} {a : Addr} {u : HO} (r : Rd H a u) (x : HOk P w H h) : ObjOk P w H h a u := by
 rcases r with r | ⟨o, r⟩
 · exact x a u r
 · obtain ⟨_, q⟩ := x a _ r
   exact q
def Mut : Option HO → Prop
 | some (.lst _) => True
 | some (.dK _) => True
 | some (.dT _) => True
 | some (.set _ _) => True
 | some (.ins _ _ _) => True
 | some (.ext _) => True
 | _ => False
section
variable {P : Program} {w : World} {H : Hp} {h h' : Heap} {x e : Addr} {o' : HO}
theorem HOk.write (ok : HOk P w H h) (mu : Mut (H x)) (he : e = x ∨ H e = some (.own x)) (k : ∀ b u, b ≠ e → h.get? b = some u → h'.get? b = some u) (heo : ∃ u, h'.get? e = some u)
   (new : ObjOk P w (upd H x o') h' x o') : HOk P w (upd H x o') h' := fun b u q => by
 have nown : ∀ c y, H c = some (.own y) → c ≠ x := fun c y r z => by subst z; rw [r] at mu; exact mu
 have ntup : ∀ c xs, H c = some (.tup xs) → c ≠ x := fun c xs r z => by subst z; rw [r] at mu; exact mu
 by_cases hb : b = x
 · subst hb; rw [zB] at q; cases q; exact new
 · rw [zI hb] at q
   by_cases hbe : b = e
   · have q' : H b = some (.own x) := by
       rcases he with z | z
       · exact absurd (hbe.trans z) hb
       · rw [hbe]; exact z
     rw [q] at q'; cases q'
     obtain ⟨v, hv⟩ := heo
     exact ⟨v, by rw [hbe]; exact hv⟩
   · refine (ok b u q).stay (fun c v hc r => k c v ?_ r) (fun c r => by rw [zI (nown c b r)]; exact r) fun c xs r => by rw [zI (ntup c xs r)]; exact r
     rcases hc with rfl | hc
     · exact hbe
     · rintro rfl
       rcases he with z | z
       · exact nown c b hc z
       · rw [hc] at z; cases z; exact hb rfl
end
structure Un (fs ex : List Addr) (H H' : Hp) (h h' : Heap) : Prop where
 keep : ∀ b o, h.get? b = some o → H b = none → b ∉ fs → b ∉ ex → h'.get? b = some o
 slot : ∀ b o, h.get? b = some o → H b = none → b ∈ fs → b ∉ ex → ∃ sl, h'.get? b = some { o with slots := sl }
 free : ∀ b o, h.get? b = some o → H b = none → b ∉ ex → H' b = none
 there : ∀ b o, h.get? b = some o → b ∉ ex → ∃ o', h'.get? b = some o'
 tups : ∀ b xs, H b = some (.tup xs) → H' b = some (.tup xs)
 frzs : ∀ b o u, H b = some (.frz o u) → H' b = some (.frz o u)
 tbls : ∀ b ps, H b = some (.tbl ps) → ∃ more, H' b = some (.tbl (ps ++ more))
section
variable {fs fs' ex ex' : List Addr} {H H1 H2 : Hp} {h h1 h2 h' : Heap} {a x e : Addr} {o : HO}
theorem Un.any (u : Un fs ex H H1 h h1) {b : Addr} {ob : Obj} (q : h.get? b = some ob) (n : H b = none) (hx : b ∉ ex) : ∃ sl, h1.get? b = some { ob with slots := sl } := by
 by_cases hb : b ∈ fs
 · exact u.slot b ob q n hb hx
 · exact ⟨ob.slots, u.keep b ob q n hb hx⟩
theorem Un.trans (a : Un fs ex H H1 h h1) (b : Un fs ex H1 H2 h1 h2) : Un fs ex H H2 h h2 where
 keep := fun c ob q n hc hx => b.keep c ob (a.keep c ob q n hc hx) (a.free c ob q n hx) hc hx
 slot := fun c ob q n hc hx => by
   obtain ⟨sl, e1⟩ := a.slot c ob q n hc hx
   obtain ⟨sl', e2⟩ := b.slot c _ e1 (a.free c ob q n hx) hc hx
   exact ⟨sl', e2⟩
 free := fun c ob q n hx => by
   obtain ⟨o', e1⟩ := a.there c ob q hx
   exact b.free c o' e1 (a.free c ob q n hx) hx
 there := fun c ob q hx => by
   obtain ⟨o', e1⟩ := a.there c ob q hx
   exact b.there c o' e1 hx
 tups := fun c xs q => b.tups c xs (a.tups c xs q)
 frzs := fun c ob xs q => b.frzs c ob xs (a.frzs c ob xs q)
 tbls := fun c ps q => by
   obtain ⟨m1, e1⟩ := a.tbls c ps q
   obtain ⟨m2, e2⟩ := b.tbls c _ e1
   exact ⟨m1 ++ m2, by rw [e2, Array.append_assoc]⟩
theorem Un.kept (k : ∀ b u, h.get? b = some u → h'.get? b = some u) : Un fs ex H H h h' :=
 ⟨fun b ob q _ _ _ => k b ob q, fun b ob q _ _ _ => ⟨ob.slots, k b ob q⟩, fun _ _ _ n _ => n, fun b ob q _ => ⟨ob, k b ob q⟩, fun _ _ q => q, fun _ _ _ q => q, fun _ ps q => ⟨#[], by rw [q]; simp⟩⟩
theorem Un.refl : Un fs ex H H h h := Un.kept fun _ _ q => q
theorem Un.laid (k : ∀ b u, h.get? b = some u → h'.get? b = some u) (hp : h.objs.size ≤ a) (hn : H a = none) : Un fs ex H (upd H a o) h h' where
 keep := fun b u q _ _ _ => k b u q
 slot := fun b u q _ _ _ => ⟨u.slots, k b u q⟩
 free := fun b u q n _ => by rw [zI (Nat.ne_of_lt (Nat.lt_of_lt_of_le (Heap.lt_size q) hp))]; exact n
 there := fun b u q _ => ⟨u, k b u q⟩
 tups := fun b xs q => by rw [zI (zG q hn)]; exact q
 frzs := fun b u xs q => by rw [zI (zG q hn)]; exact q
 tbls := fun b ps q => ⟨#[], by rw [zI (zG q hn), q]; simp⟩
theorem Un.write (mu : Mut (H x)) (he : e = x ∨ H e = some (.own x)) (k : ∀ b u, b ≠ e → h.get? b = some u → h'.get? b = some u) (heo : ∃ u, h'.get? e = some u) : Un fs ex H (upd H x o) h h' := by
 have hx : ∀ b, H b = none → b ≠ x := fun b n z => by subst z; rw [n] at mu; exact mu
 have hb : ∀ b, H b = none → b ≠ e := fun b n z => by
   subst z
   rcases he with r | r
   · exact hx b n r
   · rw [n] at r; cases r
 have hm : ∀ b u, H b = some u → ¬ Mut (some u) → b ≠ x := fun b u q nm z => by subst z; rw [q] at mu; exact nm mu
 refine ⟨fun b u q n _ _ => k b u (hb b n) q, fun b u q n _ _ => ⟨u.slots, k b u (hb b n) q⟩, fun b u q n _ => by rw [zI (hx b n)]; exact n, fun b u q _ => ?_,
   fun b xs q => by rw [zI (hm b _ q fun z => z)]; exact q, fun b u xs q => by rw [zI (hm b _ q fun z => z)]; exact q, fun b ps q => ⟨#[], by rw [zI (hm b _ q fun z => z), q]; simp⟩⟩
 by_cases hbe : b = e
 · subst hbe; exact heo
 · exact ⟨u, k b u hbe q⟩
theorem Un.mono (u : Un fs ex H H1 h h1) (hs : ∀ b ∈ fs, b ∈ fs') (hx : ∀ b ∈ ex, b ∈ ex') : Un fs' ex' H H1 h h1 :=
 ⟨fun b ob q n hb he => u.keep b ob q n (fun z => hb (hs b z)) fun z => he (hx b z), fun _ _ q n _ he => u.any q n fun z => he (hx _ z), fun b ob q n he => u.free b ob q n fun z => he (hx b z), fun b ob q he => u.there b ob q fun z => he (hx b z), u.tups, u.frzs, u.tbls⟩
end
def trk (h : Heap) (H : Hp) : List Addr := (List.range h.objs.size).filter fun a => (H a).isSome
def hidT (h : Heap) (H : Hp) : Heap := PySem.W.hideAll h (trk h H)
theorem hidT_size (h : Heap) (H : Hp) : (hidT h H).objs.size = h.objs.size := PySem.W.hideAll_size _ _
theorem hidT_get {h : Heap} {H : Hp} {b : Addr} {o : Obj} (e : h.get? b = some o) (n : H b = none) : (hidT h H).get? b = some o :=
 PySem.W.hideAll_get _ e fun hm => by
   have q : (H b).isSome = true := (List.mem_filter.mp hm).2
   rw [n] at q; simp at q
theorem of_hidT {h : Heap} {H : Hp} {b : Addr} {o : Obj} (e : (hidT h H).get? b = some o) : h.get? b = some o ∧ H b = none := by
 have e' : h.get? b = some o := PySem.W.of_hideAll (trk h H) e
 refine ⟨e', ?_⟩
 cases q : H b with
 | none => rfl
 | some x =>
   have hm : b ∈ trk h H := List.mem_filter.mpr ⟨List.mem_range.mpr (Heap.lt_size e'), by simp [q]⟩
   have z : (hidT h H).get? b = none := PySem.W.hideAll_none (trk h H) hm
   rw [z] at e; cases e
def allNews (g h : Heap) (L : Addr) : List (Addr × Obj) := (List.range h.objs.size).filterMap fun a => if a = L ∨ (g.get? a).isSome = true then none else (h.get? a).map fun o => (a, o)
def rest (g h : Heap) (L d : Addr) : List (Addr × Obj) := (allNews g h L).filter fun p => decide (p.1 ≠ d)
end L2
namespace L2
open PySem PySem.Spec PyProof.Rows
structure Mod (K : PySem.W.Frag) (mg : Str → Option Value) (base : Heap) : Prop where
 kin : K.In base
 glob : base.Ns mainGlobals mg
 blt : ∃ mb, base.Ns builtinsNs mb ∧ ∀ x : Str, x ≠ "__name__" → mb x = bootBuiltins x
 nolimit : base.NoLimit
structure Cx where
 prog : Program
 w : World
 K : PySem.W.Frag
 mg : Str → Option Value
 base : Heap
 A : Around
 N : List Str
 s₀ : Shared
 H₀ : Hp
 env : Env
 outer : List Env
 stack : List Env
 ex : List Addr
 fn : Str → Bool
 calm : Bool
 pn : List (Addr × Obj)
 xe : Value → Shared → Prop
def frs (l : List Env) : List Addr := l.filterMap (·.frame)
abbrev Cx.fs (X : Cx) : List Addr := frs X.outer
def Vis (sc : Scope) (x : Str) : Prop := sc.names.lookup x = some .local ∨ sc.names.lookup x = some .cell ∨ sc.names.lookup x = some .free
def Loc (sc : Scope) (x : Str) : Prop := sc.names.lookup x = some .local ∨ sc.names.lookup x = some .cell
def Look (env : Env) (h : Heap) (m : Str → Option Value) (x : Str) (u : Value) : Prop :=
 (env.kindOf x = some .local ∧ m x = some u) ∨ ((env.kindOf x = some .cell ∨ env.kindOf x = some .free) ∧ ∃ c, env.cells.lookup x = some c ∧ h.IsCell c (some u))
structure Cx.Ok (X : Cx) : Prop where
 mod : Mod X.K X.mg X.base
 kind : X.env.scope.kind = .function
 glob : X.env.globals = mainGlobals
 blt : X.env.builtins = builtinsNs
 above : X.s₀.heap.objs.size ≤ X.env.locals
 inj : ∀ x y c, X.env.cells.lookup x = some c → X.env.cells.lookup y = some c → x = y
 has : ∀ x, (X.env.kindOf x = some .cell ∨ X.env.kindOf x = some .free) → ∃ c, X.env.cells.lookup x = some c
 cab : ∀ x c, X.fn x = true → X.env.cells.lookup x = some c → X.s₀.heap.objs.size ≤ c
 hd : X.calm = true → X.A.handled = none
 frames : X.A.frames = some X.stack
 stk : X.stack = X.outer ∨ (X.stack = X.env :: X.outer ∧ X.env.frame = some X.env.locals)
 exf : ∀ b ∈ X.ex, b ≠ X.env.locals ∧ ∀ x c, X.env.cells.lookup x = some c → c ≠ b
 bs : ∀ b o, X.base.get? b = some o → X.s₀.heap.get? b = some o ∧ X.H₀ b = none
 bsz : X.base.objs.size ≤ X.s₀.heap.objs.size
 noex : ∀ b o, X.base.get? b = some o → b ∉ X.ex
 exfs : ∀ b ∈ X.ex, b ∉ X.fs
 funs : X.s₀.heap.FunFrames X.base X.outer
 frf : ∀ b ∈ X.fs, X.H₀ b = none
structure Inv (X : Cx) (pins : List (Addr × Obj)) (σ : List (Option V)) (H : Hp) (s : Shared) : Prop where
 ok : X.Ok
 os : s.os = X.s₀.os
 bare : AllBare s.gens
 base : Un X.fs X.ex X.H₀ H X.s₀.heap s.heap
 loc : ∃ m, s.heap.Ns X.env.locals m ∧ ∀ (i : Nat) (x : Str) (v : V), X.N[i]? = some x → σ[i]? = some (some v) → Vis X.env.scope x → ∃ u, RelV v u ∧ Look X.env s.heap m x u
 cell : ∀ x c, X.env.cells.lookup x = some c → ∃ v, s.heap.IsCell c v
 free : H X.env.locals = none
 freeC : ∀ x c, X.env.cells.lookup x = some c → H c = none
 pin : ∀ p ∈ X.pn ++ pins, s.heap.get? p.1 = some p.2 ∧ H p.1 = none ∧ p.1 ≠ X.env.locals ∧ p.1 ∉ X.fs ∧ ∀ v, p.2.data ≠ .cell v
 hok : HOk X.prog X.w H s.heap
 len : σ.length = X.N.length
section
variable {X : Cx} {pins : List (Addr × Obj)} {σ : List (Option V)} {H H' : Hp} {s : Shared} {h' : Heap}
theorem Cx.Ok.nofr (ok : X.Ok) {b : Addr} {o : Obj} (e : X.base.get? b = some o) : b ∉ X.fs := fun hb => by
 have := (ok.funs.mem hb).1
 rw [e] at this; cases this
theorem Inv.bs (I : Inv X pins σ H s) : ∀ b o, X.base.get? b = some o → s.heap.get? b = some o ∧ H b = none := fun b o e =>
 ⟨I.base.keep b o (I.ok.bs b o e).1 (I.ok.bs b o e).2 (I.ok.nofr e) (I.ok.noex b o e), I.base.free b o (I.ok.bs b o e).1 (I.ok.bs b o e).2 (I.ok.noex b o e)⟩
theorem Inv.bk (I : Inv X pins σ H s) : ∀ b o, X.base.get? b = some o → s.heap.get? b = some o := fun b o e => (I.bs b o e).1
theorem Inv.mod (I : Inv X pins σ H s) : Mod X.K X.mg X.base := I.ok.mod
theorem Inv.kIn (I : Inv X pins σ H s) : X.K.In s.heap := I.ok.mod.kin.keeps I.bk
theorem Inv.nolimit (I : Inv X pins σ H s) : s.heap.NoLimit := I.ok.mod.nolimit.keeps I.bk
theorem Inv.fr (I : Inv X pins σ H s) : ∃ m, Fr X.base X.env.locals s.heap m :=
 let ⟨m, hn, _⟩ := I.loc
 ⟨m, hn, I.bk, Nat.le_trans I.ok.bsz I.ok.above⟩
theorem Inv.lt (I : Inv X pins σ H s) : X.env.locals < s.heap.objs.size := let ⟨_, hn, _⟩ := I.loc; hn.lt
theorem Inv.sz (I : Inv X pins σ H s) : X.s₀.heap.objs.size ≤ s.heap.objs.size := Nat.le_trans I.ok.above (Nat.le_of_lt I.lt)
theorem Inv.nofs (I : Inv X pins σ H s) {a : Addr} (h : s.heap.objs.size ≤ a) : a ∉ X.fs := fun hb => by
 obtain ⟨_, o, ho, _⟩ := I.ok.funs.mem hb
 exact absurd (Nat.lt_of_lt_of_le (Heap.lt_size ho) (Nat.le_trans I.sz h)) (Nat.lt_irrefl _)
theorem Inv.cne (I : Inv X pins σ H s) : ∀ x c, X.env.cells.lookup x = some c → c ≠ X.env.locals := fun x c e z => by
 obtain ⟨v, o, ho, hd⟩ := I.cell x c e
 obtain ⟨m, ⟨o', es, ep, ho', hd', _⟩, _⟩ := I.loc
 rw [z, ho'] at ho; cases ho; rw [hd'] at hd; cases hd
theorem Inv.funs (I : Inv X pins σ H s) : s.heap.FunFrames X.base X.outer := by
 have all : ∀ (l : List Env), (∀ b ∈ frs l, b ∈ X.fs) → X.s₀.heap.FunFrames X.base l → s.heap.FunFrames X.base l := by
   intro l
   induction l with
   | nil => intro _ _; trivial
   | cons env r ih =>
     intro hs hl
     obtain ⟨hk, ⟨L, o, hf, hn, ho, hd⟩, hr⟩ := hl
     have hL : L ∈ X.fs := hs L (by unfold frs; rw [List.filterMap_cons, hf]; exact List.mem_cons_self)
     obtain ⟨sl, e⟩ := I.base.slot L o ho (I.ok.frf L hL) hL fun z => I.ok.exfs L z hL
     exact ⟨hk, ⟨L, _, hf, hn, e, hd⟩, ih (fun b hb => hs b (by unfold frs; rw [List.filterMap_cons, hf]; exact List.mem_cons_of_mem _ hb)) hr⟩
 exact all X.outer (fun _ hb => hb) I.ok.funs
theorem Inv.stack (I : Inv X pins σ H s) : s.heap.FunFrames X.base X.stack := by
 rcases I.ok.stk with e | ⟨e, hf⟩
 · rw [e]; exact I.funs
 · rw [e]
   obtain ⟨m, hn, _⟩ := I.loc
   refine .cons (by rw [I.ok.kind]; decide) hf hn ?_ I.funs
   exact Heap.get?_none_of_le (Nat.le_trans I.ok.bsz I.ok.above)
theorem Inv.stkSub (I : Inv X pins σ H s) : ∀ b ∈ frs X.stack, b ∈ X.env.locals :: X.fs := fun b hb => by
 rcases I.ok.stk with e | ⟨e, hf⟩
 · rw [e] at hb; exact List.mem_cons_of_mem _ hb
 · rw [e] at hb
   unfold frs at hb
   rw [List.filterMap_cons, hf] at hb
   exact hb
theorem Inv.stkFree (I : Inv X pins σ H s) : ∀ b ∈ frs X.stack, H b = none := fun b hb => by
 rcases List.mem_cons.mp (I.stkSub b hb) with e | hb
 · rw [e]; exact I.free
 · obtain ⟨_, o, ho, _⟩ := I.ok.funs.mem hb
   exact I.base.free b o ho (I.ok.frf b hb) fun z => I.ok.exfs b z hb
theorem Inv.step {g' : Array GenState} {t' : Nat} {d' : Drawn} {ch : List Addr} (I : Inv X pins σ H s)
   (hch : ∀ b ∈ ch, (b ∈ X.ex ∨ X.s₀.heap.objs.size ≤ b) ∧ b ≠ X.env.locals ∧ (∀ x c, X.env.cells.lookup x = some c → c ≠ b) ∧ ∀ p ∈ X.pn ++ pins, p.1 ≠ b)
   (keep : ∀ b o, b ≠ X.env.locals → b ∉ X.fs → b ∉ ch → s.heap.get? b = some o → H b = none → h'.get? b = some o)
   (slot : ∀ b o, b ≠ X.env.locals → b ∈ X.fs → b ∉ ch → s.heap.get? b = some o → H b = none → ∃ sl, h'.get? b = some { o with slots := sl }) (free : ∀ b o, b ∉ ch → s.heap.get? b = some o → H b = none → H' b = none)
   (there : ∀ b o, b ∉ ch → s.heap.get? b = some o → ∃ o', h'.get? b = some o')
   (tups : ∀ b xs, H b = some (.tup xs) → H' b = some (.tup xs)) (frzs : ∀ b o u, H b = some (.frz o u) → H' b = some (.frz o u)) (tbls : ∀ b ps, H b = some (.tbl ps) → ∃ more, H' b = some (.tbl (ps ++ more)))
   (ns : ∀ m, s.heap.Ns X.env.locals m → h'.Ns X.env.locals m) (hok : HOk X.prog X.w H' h') (hg : AllBare g') :
   Inv X pins σ H' { s with heap := h', gens := g', drawn := d', toks := t' } := by
 have neL : ∀ b o, X.s₀.heap.get? b = some o → b ≠ X.env.locals := fun b o e => Nat.ne_of_lt (Nat.lt_of_lt_of_le (Heap.lt_size e) I.ok.above)
 have neC : ∀ b o, X.s₀.heap.get? b = some o → b ∉ X.ex → b ∉ ch := fun b o e hx hb => by
   rcases (hch b hb).1 with z | z
   · exact hx z
   · exact absurd (Nat.lt_of_lt_of_le (Heap.lt_size e) z) (Nat.lt_irrefl _)
 have cellK : ∀ x c, X.env.cells.lookup x = some c → ∀ v, s.heap.IsCell c v → h'.IsCell c v := fun x c e v ⟨o, ho, hd⟩ => by
   have nch : c ∉ ch := fun z => (hch c z).2.2.1 x c e rfl
   by_cases hc : c ∈ X.fs
   · obtain ⟨sl, q⟩ := slot c o (I.cne x c e) hc nch ho (I.freeC x c e)
     exact ⟨_, q, hd⟩
   · exact ⟨o, keep c o (I.cne x c e) hc nch ho (I.freeC x c e), hd⟩
 refine ⟨I.ok, I.os, hg, ⟨fun b o e n hb hx => ?_, fun b o e n hb hx => ?_, fun b o e n hx => ?_, fun b o e hx => ?_, fun b xs e => tups b xs (I.base.tups b xs e), fun b o xs e => frzs b o xs (I.base.frzs b o xs e), fun b ps e => ?_⟩, ?_, fun x c e => ?_, ?_, fun x c e => ?_, fun p hp => ?_, hok, I.len⟩
 · exact keep b o (neL b o e) hb (neC b o e hx) (I.base.keep b o e n hb hx) (I.base.free b o e n hx)
 · obtain ⟨sl, e1⟩ := I.base.slot b o e n hb hx
   obtain ⟨sl', e2⟩ := slot b _ (neL b o e) hb (neC b o e hx) e1 (I.base.free b o e n hx)
   exact ⟨sl', e2⟩
 · obtain ⟨o', e1⟩ := I.base.there b o e hx
   exact free b o' (neC b o e hx) e1 (I.base.free b o e n hx)
 · obtain ⟨o', e1⟩ := I.base.there b o e hx
   exact there b o' (neC b o e hx) e1
 · obtain ⟨m1, e1⟩ := I.base.tbls b ps e
   obtain ⟨m2, e2⟩ := tbls b _ e1
   exact ⟨m1 ++ m2, by rw [e2, Array.append_assoc]⟩
 · obtain ⟨m, hn, hl⟩ := I.loc
   refine ⟨m, ns m hn, fun i x v e1 e2 e3 => ?_⟩
   obtain ⟨u, r, l⟩ := hl i x v e1 e2 e3
   refine ⟨u, r, ?_⟩
   rcases l with l | ⟨k, c, e, z⟩
   · exact .inl l
   · exact .inr ⟨k, c, e, cellK x c e _ z⟩
 · obtain ⟨v, z⟩ := I.cell x c e
   exact ⟨v, cellK x c e v z⟩
 · obtain ⟨m, ⟨o, _, _, ho, _⟩, _⟩ := I.loc
   exact free _ o (fun z => (hch _ z).2.1 rfl) ho I.free
 · obtain ⟨v, o, ho, hd⟩ := I.cell x c e
   exact free c o (fun z => (hch c z).2.2.1 x c e rfl) ho (I.freeC x c e)
 · obtain ⟨e, n, ne, nf, d⟩ := I.pin p hp
   have nch : p.1 ∉ ch := fun z => (hch p.1 z).2.2.2 p hp rfl
   exact ⟨keep p.1 p.2 ne nf nch e n, free p.1 p.2 nch e n, ne, nf, d⟩
theorem Inv.un {t' : Nat} (I : Inv X pins σ H s) (u : Un X.fs [] H H' s.heap h') (hok : HOk X.prog X.w H' h') : Inv X pins σ H' { s with heap := h', toks := t' } := by
 obtain ⟨m, ⟨o, es, ep, ho, r⟩, _⟩ := id I.loc
 obtain ⟨sl, hL⟩ := u.any ho I.free (by simp)
 exact I.step (g' := s.gens) (d' := s.drawn) (ch := []) (fun _ z => nomatch z) (fun b o _ hb _ e n => u.keep b o e n hb (by simp)) (fun b o _ hb _ e n => u.slot b o e n hb (by simp)) (fun b o _ e n => u.free b o e n (by simp)) (fun b o _ e => u.there b o e (by simp)) u.tups u.frzs u.tbls (fun m' hm => by
   obtain ⟨o', es', ep', ho', r'⟩ := hm
   rw [ho] at ho'; cases ho'
   exact ⟨_, es', ep', hL, r'⟩) hok I.bare
theorem Inv.call {g' : Array GenState} {t' : Nat} {d' : Drawn} {ch : List Addr} (I : Inv X pins σ H s) (u : Un (frs X.stack) ch H H' s.heap h') (hok : HOk X.prog X.w H' h') (hg : AllBare g')
   (hch : ∀ b ∈ ch, (b ∈ X.ex ∨ X.s₀.heap.objs.size ≤ b) ∧ b ≠ X.env.locals ∧ (∀ x c, X.env.cells.lookup x = some c → c ≠ b) ∧ ∀ p ∈ X.pn ++ pins, p.1 ≠ b) :
   Inv X pins σ H' { s with heap := h', gens := g', drawn := d', toks := t' } := by
 obtain ⟨m, ⟨o, es, ep, ho, r⟩, _⟩ := id I.loc
 obtain ⟨sl, hL⟩ := u.any ho I.free fun z => (hch _ z).2.1 rfl
 exact I.step (ch := ch) hch (fun b o hL hb hc e n => u.keep b o e n (fun z => (List.mem_cons.mp (I.stkSub b z)).elim hL hb) hc) (fun b o _ _ hc e n => u.any e n hc) (fun b o hc e n => u.free b o e n hc) (fun b o hc e => u.there b o e hc) u.tups u.frzs u.tbls (fun m' hm => by
   obtain ⟨o', es', ep', ho', r'⟩ := hm
   rw [ho] at ho'; cases ho'
   exact ⟨_, es', ep', hL, r'⟩) hok hg
theorem Inv.turned {t' : Nat} {it : Addr} (I : Inv X pins σ H s) (k : ∀ b o, b ≠ it → s.heap.get? b = some o → h'.get? b = some o) (hn : H it = none) (hL : it ≠ X.env.locals)
   (h1 : it ∈ X.ex ∨ X.s₀.heap.objs.size ≤ it) (h2 : ∀ x c, X.env.cells.lookup x = some c → c ≠ it) (h3 : ∀ p ∈ X.pn ++ pins, p.1 ≠ it) : Inv X pins σ H { s with heap := h', toks := t' } := by
 have nit : ∀ b u, H b = some u → b ≠ it := fun b u e z => by rw [z, hn] at e; cases e
 refine I.step (g' := s.gens) (d' := s.drawn) (ch := [it]) (fun b hb => ?_) (fun b o _ _ hc e _ => k b o (fun z => hc (by simp [z])) e) (fun b o _ _ hc e _ => ⟨o.slots, k b o (fun z => hc (by simp [z])) e⟩) (fun _ _ _ _ n => n)
   (fun b o hc e => ⟨o, k b o (fun z => hc (by simp [z])) e⟩) (fun _ _ e => e) (fun _ _ _ e => e) (fun b ps e => ⟨#[], by rw [e]; simp⟩) (fun m hm => ?_) (fun b u e => ?_) I.bare
 · have e : b = it := by simpa using hb
   subst e
   exact ⟨h1, hL, h2, h3⟩
 · obtain ⟨o, es, ep, ho, r⟩ := hm
   exact ⟨o, es, ep, k _ o (Ne.symm hL) ho, r⟩
 · refine (I.hok b u e).stay (fun c v hc q => k c v ?_ q) (fun _ q => q) fun _ _ q => q
   rcases hc with z | z
   · rw [z]; exact nit b u e
   · exact nit c _ z
theorem Inv.tok (I : Inv X pins σ H s) (t : Nat) : Inv X pins σ H { s with toks := t } := I.un (h' := s.heap) (t' := t) Un.refl I.hok
theorem Inv.kept {t' : Nat} (I : Inv X pins σ H s) (k : ∀ b u, s.heap.get? b = some u → h'.get? b = some u) : Inv X pins σ H { s with heap := h', toks := t' } := I.un (Un.kept k) (I.hok.kept k)
theorem Inv.laid {a : Addr} {o : HO} {t' : Nat} (I : Inv X pins σ H s) (k : ∀ b u, s.heap.get? b = some u → h'.get? b = some u) (hp : s.heap.objs.size ≤ a) (new : ObjOk X.prog X.w (upd H a o) h' a o) :
   Inv X pins σ (upd H a o) { s with heap := h', toks := t' } := I.un (Un.laid k hp (I.hok.fresh hp)) (I.hok.laid k hp new)
theorem Inv.write {x e : Addr} {o : HO} {t' : Nat} (I : Inv X pins σ H s) (mu : Mut (H x)) (he : e = x ∨ H e = some (.own x)) (k : ∀ b u, b ≠ e → s.heap.get? b = some u → h'.get? b = some u) (heo : ∃ u, h'.get? e = some u)
   (new : ObjOk X.prog X.w (upd H x o) h' x o) : Inv X pins σ (upd H x o) { s with heap := h', toks := t' } := I.un (Un.write mu he k heo) (I.hok.write mu he k heo new)
theorem Inv.weak {σ' : List (Option V)} (I : Inv X pins σ H s) (hl : σ'.length = σ.length) (w : ∀ (i : Nat) v, σ'[i]? = some (some v) → σ[i]? = some (some v)) : Inv X pins σ' H s :=
 ⟨I.ok, I.os, I.bare, I.base, let ⟨m, hn, hl'⟩ := I.loc; ⟨m, hn, fun i x v e1 e2 e3 => hl' i x v e1 (w i v e2) e3⟩, I.cell, I.free, I.freeC, I.pin, I.hok, hl.trans I.len⟩
theorem Inv.pins_of {pins' : List (Addr × Obj)} (I : Inv X pins σ H s) (h : ∀ p ∈ pins', s.heap.get? p.1 = some p.2 ∧ H p.1 = none ∧ p.1 ≠ X.env.locals ∧ p.1 ∉ X.fs ∧ ∀ v, p.2.data ≠ .cell v) : Inv X pins' σ H s :=
 ⟨I.ok, I.os, I.bare, I.base, I.loc, I.cell, I.free, I.freeC, fun p hp => (List.mem_append.mp hp).elim (fun z => I.pin p (List.mem_append_left _ z)) (h p), I.hok, I.len⟩
theorem nodup_ix {N : List Str} (hN : N.Nodup) {i j : Nat} {x : Str} (a : N[i]? = some x) (b : N[j]? = some x) : i = j := by
 obtain ⟨h1, e1⟩ := List.getElem?_eq_some_iff.mp a
 obtain ⟨h2, e2⟩ := List.getElem?_eq_some_iff.mp b
 exact (List.getElem_inj hN).mp (e1.trans e2.symm)
theorem store_ok2 {M : Model} {A : Around} {E : Value → Shared → Prop} {i : Nat} {x : Str} {v : V} {u : Value} {Q : Unit → Shared → Prop} (I : Inv X pins σ H s) (hN : X.N.Nodup) (hi : X.N[i]? = some x) (hx : Loc X.env.scope x) (r : RelV v u)
   (h : ∀ s', Inv X pins (σ.set i (some v)) H s' → (∃ a, Heap.SameBut a s.heap s'.heap ∧ (a = X.env.locals ∨ X.env.cells.lookup x = some a)) → Q () s') (hf : X.fn x = true ∨ X.env.scope.names.lookup x = some .local := by first | exact .inl rfl | exact .inr rfl | assumption) : wpAny M A (storeName X.env x u) Q E s := by
 obtain ⟨m, hn, hl⟩ := id I.loc
 have hcls : (X.env.scope.kind == .class || (X.env.scope.kind == .module && X.env.locals != X.env.globals)) = false := by rw [I.ok.kind]; rfl
 have hiσ : i < σ.length := by rw [I.len]; exact (List.getElem?_eq_some_iff.mp hi).1
 have cne := I.cne
 have tracked : ∀ {a : Addr} {h' : Heap}, (∃ o, s.heap.get? a = some o ∧ H a = none) → Heap.SameBut a s.heap h' → HOk X.prog X.w H h' := fun {a h'} ha hs b ob e => by
   obtain ⟨_, _, hfree⟩ := ha
   refine (I.hok b ob e).stay (fun c w' hc q => (hs.2 c ?_).trans q) (fun _ q => q) fun _ _ q => q
   rintro rfl
   rcases hc with rfl | hc
   · rw [hfree] at e; cases e
   · rw [hfree] at hc; cases hc
 rcases hx with hk | hk
 · refine wpAny_storeName_local hk hn (fun h' hn' hs => ?_) hcls
   obtain ⟨oL, _, _, hoL, _⟩ := id hn
   refine h _ ⟨I.ok, I.os, I.bare, ⟨fun b o e n hb hx => ?_, fun b o e n hb hx => ?_, I.base.free, fun b o e hx => ?_, I.base.tups, I.base.frzs, I.base.tbls⟩, ⟨_, hn', fun j y v' e1 e2 e3 => ?_⟩, fun y c e => ?_, I.free, I.freeC, fun p hp => ?_, tracked ⟨oL, hoL, I.free⟩ hs, by simpa using I.len⟩ ⟨_, hs, .inl rfl⟩
   · exact (hs.2 b (Nat.ne_of_lt (Nat.lt_of_lt_of_le (Heap.lt_size e) I.ok.above))).trans (I.base.keep b o e n hb hx)
   · obtain ⟨sl, e1⟩ := I.base.slot b o e n hb hx
     exact ⟨sl, (hs.2 b (Nat.ne_of_lt (Nat.lt_of_lt_of_le (Heap.lt_size e) I.ok.above))).trans e1⟩
   · obtain ⟨o', e1⟩ := I.base.there b o e hx
     exact ⟨o', (hs.2 b (Nat.ne_of_lt (Nat.lt_of_lt_of_le (Heap.lt_size e) I.ok.above))).trans e1⟩
   · by_cases hj : j = i
     · subst hj
       rw [hi] at e1; cases e1
       rw [List.getElem?_set_self hiσ] at e2
       cases e2
       exact ⟨u, r, .inl ⟨hk, by simp⟩⟩
     · rw [List.getElem?_set_ne (Ne.symm hj)] at e2
       obtain ⟨u', r', q⟩ := hl j y v' e1 e2 e3
       refine ⟨u', r', ?_⟩
       rcases q with ⟨k, e⟩ | ⟨k, c, e, z⟩
       · refine .inl ⟨k, ?_⟩
         have : y ≠ x := fun e => hj (nodup_ix hN e1 (e ▸ hi))
         simp [this, e]
       · exact .inr ⟨k, c, e, z.sameBut hs (cne y c e)⟩
   · obtain ⟨w', z⟩ := I.cell y c e
     exact ⟨w', z.sameBut hs (cne y c e)⟩
   · obtain ⟨e, n, ne, nf, d⟩ := I.pin p hp
     exact ⟨(hs.2 p.1 ne).trans e, n, ne, nf, d⟩
 · have hfn : X.fn x = true := by
     rcases hf with z | z
     · exact z
     · rw [z] at hk; cases hk
   obtain ⟨c, hc⟩ := I.ok.has x (.inl hk)
   obtain ⟨w', z⟩ := I.cell x c hc
   refine wpAny_storeName_cell I.ok.kind hk hc z (fun h' hc' hs => ?_)
   obtain ⟨oc, hoc, hocd⟩ := id z
   refine h { s with heap := h' } ⟨I.ok, I.os, I.bare, ⟨fun b o e n hb hx => ?_, fun b o e n hb hx => ?_, I.base.free, fun b o e hx => ?_, I.base.tups, I.base.frzs, I.base.tbls⟩, ⟨m, hn.sameBut hs (Ne.symm (cne x c hc)), fun j y v' e1 e2 e3 => ?_⟩, fun y c' e => ?_, I.free, I.freeC, fun p hp => ?_, tracked ⟨oc, hoc, I.freeC x c hc⟩ hs, by simpa using I.len⟩ ⟨c, hs, .inr hc⟩
   · exact (hs.2 b (Nat.ne_of_lt (Nat.lt_of_lt_of_le (Heap.lt_size e) (I.ok.cab x c hfn hc)))).trans (I.base.keep b o e n hb hx)
   · obtain ⟨sl, e1⟩ := I.base.slot b o e n hb hx
     exact ⟨sl, (hs.2 b (Nat.ne_of_lt (Nat.lt_of_lt_of_le (Heap.lt_size e) (I.ok.cab x c hfn hc)))).trans e1⟩
   · obtain ⟨o', e1⟩ := I.base.there b o e hx
     exact ⟨o', (hs.2 b (Nat.ne_of_lt (Nat.lt_of_lt_of_le (Heap.lt_size e) (I.ok.cab x c hfn hc)))).trans e1⟩
   · by_cases hj : j = i
     · subst hj
       rw [hi] at e1; cases e1
       rw [List.getElem?_set_self hiσ] at e2
       cases e2
       exact ⟨u, r, .inr ⟨.inl hk, c, hc, hc'⟩⟩
     · rw [List.getElem?_set_ne (Ne.symm hj)] at e2
       obtain ⟨u', r', q⟩ := hl j y v' e1 e2 e3
       refine ⟨u', r', ?_⟩
       rcases q with q | ⟨k, c', e, z'⟩
       · exact .inl q
       · refine .inr ⟨k, c', e, z'.sameBut hs ?_⟩
         rintro rfl
         exact hj (nodup_ix hN e1 (I.ok.inj _ _ _ e hc ▸ hi))
   · by_cases hcc : c' = c
     · subst hcc; exact ⟨_, hc'⟩
     · obtain ⟨w2, z2⟩ := I.cell y c' e
       exact ⟨w2, z2.sameBut hs hcc⟩
   · obtain ⟨e, n, ne, nf, d⟩ := I.pin p hp
     refine ⟨(hs.2 p.1 ?_).trans e, n, ne, nf, d⟩
     intro q
     rw [q, hoc] at e
     have q' : oc = p.2 := Option.some.inj e
     exact d w' (by rw [← q']; exact hocd)
theorem store_ok {M : Model} {A : Around} {E : Value → Shared → Prop} {i : Nat} {x : Str} {v : V} {u : Value} {Q : Unit → Shared → Prop} (I : Inv X pins σ H s) (hN : X.N.Nodup) (hi : X.N[i]? = some x) (hx : Loc X.env.scope x) (r : RelV v u)
   (h : ∀ s', Inv X pins (σ.set i (some v)) H s' → Q () s') (hf : X.fn x = true ∨ X.env.scope.names.lookup x = some .local := by first | exact .inl rfl | exact .inr rfl | assumption) : wpAny M A (storeName X.env x u) Q E s :=
 store_ok2 I hN hi hx r (fun s' I' _ => h s' I') hf
theorem Inv.call' {s' : Shared} {ch : List Addr} (I : Inv X pins σ H s) (ho : s'.os = s.os) (u : Un (frs X.stack) ch H H' s.heap s'.heap) (hok : HOk X.prog X.w H' s'.heap) (hg : AllBare s'.gens)
   (hch : ∀ b ∈ ch, (b ∈ X.ex ∨ X.s₀.heap.objs.size ≤ b) ∧ b ≠ X.env.locals ∧ (∀ x c, X.env.cells.lookup x = some c → c ≠ b) ∧ ∀ p ∈ X.pn ++ pins, p.1 ≠ b) : Inv X pins σ H' s' := by
 obtain ⟨h', g', d', t', o'⟩ := s'
 have e : o' = s.os := ho
 subst e
 exact I.call (g' := g') (t' := t') (d' := d') u hok hg hch
end
abbrev XK := Value → Option Addr → Hp → Prop
abbrev St := List (Option V)
abbrev VK := V → Hp → Prop
abbrev TE := St → Hp → VK → Prop
abbrev TT := St → Hp → (Bool → Hp → Prop) → Prop
abbrev TA := St → Hp → (List V → Hp → Prop) → Prop
structure Ends where
 nx : St → Hp → Prop
 rt : VK
 bk : St → Hp → Prop := fun _ _ => False
 ct : St → Hp → Prop := fun _ _ => False
abbrev TS := Ends → St → Hp → Prop
def EP (X : Cx) (pins : List (Addr × Obj)) (σ : St) (Q : VK) (u : Value) (s' : Shared) : Prop := ∃ v H', Inv X pins σ H' s' ∧ RelV v u ∧ Q v H'
def TP (X : Cx) (pins : List (Addr × Obj)) (σ : St) (Q : Bool → Hp → Prop) (b : Bool) (s' : Shared) : Prop := ∃ H', Inv X pins σ H' s' ∧ Q b H'
def AP (X : Cx) (pins : List (Addr × Obj)) (σ : St) (Q : List V → Hp → Prop) (us : List Value) (s' : Shared) : Prop := ∃ vs H', Inv X pins σ H' s' ∧ Vals vs us ∧ Q vs H'
def SP (X : Cx) (pins : List (Addr × Obj)) (D : Ends) (f : Flow) (s' : Shared) : Prop :=
 match f with
 | .next => ∃ σ' H', Inv X pins σ' H' s' ∧ D.nx σ' H'
 | .brk => ∃ σ' H', Inv X pins σ' H' s' ∧ D.bk σ' H'
 | .cont => ∃ σ' H', Inv X pins σ' H' s' ∧ D.ct σ' H'
 | .ret u => ∃ v σ' H', Inv X pins σ' H' s' ∧ RelV v u ∧ D.rt v H'
def PE (X : Cx) (e : Expr) (t : TE) : Prop :=
 ∀ (pins : List (Addr × Obj)) (s : Shared) (σ : St) (H : Hp) (Q : VK), Inv X pins σ H s → t σ H Q → wpAny (model X.prog X.w) X.A (eval e X.env) (EP X pins σ Q) X.xe s
def PT (X : Cx) (e : Expr) (t : TT) : Prop :=
 ∀ (pins : List (Addr × Obj)) (s : Shared) (σ : St) (H : Hp) (Q : Bool → Hp → Prop), Inv X pins σ H s → t σ H Q → wpAny (model X.prog X.w) X.A (isTrue e X.env (eval e X.env)) (TP X pins σ Q) X.xe s
def PW (X : Cx) (e : Expr) (t : TT) : Prop :=
 ∀ (whole : Sem Value) (pins : List (Addr × Obj)) (s : Shared) (σ : St) (H : Hp) (Q : Bool → Hp → Prop), Inv X pins σ H s → t σ H Q → wpAny (model X.prog X.w) X.A (isTrue e X.env whole) (TP X pins σ Q) X.xe s
theorem PW.pt {X : Cx} {e : Expr} {t : TT} (h : PW X e t) : PT X e t := h _
def PA (X : Cx) (es : List Expr) (t : TA) : Prop :=
 ∀ (pos : Pos) (pins : List (Addr × Obj)) (s : Shared) (σ : St) (H : Hp) (Q : List V → Hp → Prop), Inv X pins σ H s → t σ H Q → wpAny (model X.prog X.w) X.A (spliced (backTo pos (starEach es X.env))) (AP X pins σ Q) X.xe s
def PS (X : Cx) (st : Stmt) (t : TS) : Prop :=
 ∀ (pins : List (Addr × Obj)) (s : Shared) (σ : St) (H : Hp) (D : Ends), Inv X pins σ H s → t D σ H → wpAny (model X.prog X.w) X.A (exec st X.env) (SP X pins D) X.xe s
def PSs (X : Cx) (st : List Stmt) (t : TS) : Prop :=
 ∀ (pins : List (Addr × Obj)) (s : Shared) (σ : St) (H : Hp) (D : Ends), Inv X pins σ H s → t D σ H → wpAny (model X.prog X.w) X.A (execs st X.env) (SP X pins D) X.xe s
theorem thn {α : Type} {t : Sem α} {Q Q' : α → Shared → Prop} {M : Model} {A : Around} {E : Value → Shared → Prop} {s : Shared} (h : wpAny M A t Q E s) (hQ : ∀ a s, Q a s → Q' a s) : wpAny M A t Q' E s := wpAny_mono h hQ fun _ _ x => x
end L2
namespace L2
open PySem PySem.Spec PyProof.Rows
section
variable {X : Cx}
def tVar (i : Nat) : TE := fun σ H Q => ∃ v, σ[i]? = some (some v) ∧ Q v H
def tC (v : V) : TE := fun _ H Q => Q v H
theorem pe_var {i : Nat} {x : Str} {pos : Pos} (hN : X.N[i]? = some x) (hv : Vis X.env.scope x) (hd : (x == ("__debug__" : Str)) = false := by decide) (hcd : (x == ("__classdict__" : Str)) = false := by decide) : PE X (.Name x pos) (tVar i) := by
 intro pins s σ H Q I h
 obtain ⟨v, e, h⟩ := h
 obtain ⟨m, hn, hl⟩ := I.loc
 obtain ⟨u, r, l⟩ := hl i x v hN e hv
 have fin : EP X pins σ Q u s := ⟨v, H, I, r, h⟩
 rcases l with ⟨hk, hm⟩ | ⟨hk, c, hc, hcell⟩
 · exact wpAny_Name (wpAny_loadName_local I.ok.kind hk hn hm fin) hd
 · rcases hk with hk | hk
   · exact wpAny_Name (wpAny_loadName_cell I.ok.kind hk hc hcell fin) hd
   · exact wpAny_Name (wpAny_loadName_free I.ok.kind hk hc hcell fin hcd) hd
theorem zJ {i j pos} : PE X (.Constant (.int i) j pos) (tC (.int i)) := fun _ _ _ H _ I h => wpAny_Constant_int ⟨.int i, H, I.tok _, ⟨_, rfl⟩, h⟩
theorem pe_bl {b j pos} : PE X (.Constant (.bool b) j pos) (tC (.bl b)) := fun _ _ _ H _ I h => Constant_bool ⟨.bl b, H, I, rfl, h⟩
theorem xC {j pos} : PE X (.Constant .none j pos) (tC .non) := fun _ _ _ H _ I h => Constant_none ⟨.non, H, I, rfl, h⟩
theorem zN {x j pos} : PE X (.Constant (.str x) j pos) (tC (.str x)) := fun _ _ _ H _ I h => Calls.Constant_str ⟨.str x, H, I.tok _, ⟨_, rfl⟩, h⟩
def Gl (X : Cx) (x : Str) : Prop := X.env.kindOf x = some .globalImplicit
theorem ld_glob {E : Value → Shared → Prop} {pins : List (Addr × Obj)} {s : Shared} {σ : St} {H : Hp} {x : Str} {u : Value} {pos : Pos} {Q : Value → Shared → Prop} (I : Inv X pins σ H s) (hg : Gl X x) (hm : X.mg x = some u) (h : Q u s)
   (hd : (x == ("__debug__" : Str)) = false := by decide) : wpAny (model X.prog X.w) X.A (eval (.Name x pos) X.env) Q E s :=
 Calls.Name_function_global I.ok.kind hg (Calls.loadGlobal_global (by rw [I.ok.glob]; exact I.mod.glob.keeps I.bk) hm h) hd
theorem ld_blt {E : Value → Shared → Prop} {pins : List (Addr × Obj)} {s : Shared} {σ : St} {H : Hp} {x : Str} {u : Value} {pos : Pos} {Q : Value → Shared → Prop} (I : Inv X pins σ H s) (hg : Gl X x) (hm : X.mg x = none) (hv : bootBuiltins x = some u) (h : Q u s)
   (hn : x ≠ "__name__" := by decide) (hd : (x == ("__debug__" : Str)) = false := by decide) : wpAny (model X.prog X.w) X.A (eval (.Name x pos) X.env) Q E s := by
 obtain ⟨mb, h1, h2⟩ := I.mod.blt
 exact Calls.Name_function_global I.ok.kind hg (Calls.loadGlobal_builtin (by rw [I.ok.glob]; exact I.mod.glob.keeps I.bk) hm (by rw [I.ok.blt]; exact h1.keeps I.bk) ((h2 x hn).trans hv) h) hd
theorem pe_glob {x : Str} {v : V} {u : Value} {pos : Pos} (hg : Gl X x) (hm : X.mg x = some u) (r : RelV v u) (hd : (x == ("__debug__" : Str)) = false := by decide) : PE X (.Name x pos) (tC v) :=
 fun _ _ _ H _ I h => ld_glob I hg hm ⟨v, H, I, r, h⟩ hd
theorem pe_bltn {x : Str} {v : V} {u : Value} {pos : Pos} (hg : Gl X x) (hm : X.mg x = none) (hv : bootBuiltins x = some u) (r : RelV v u) (hn : x ≠ "__name__" := by decide) (hd : (x == ("__debug__" : Str)) = false := by decide) : PE X (.Name x pos) (tC v) :=
 fun _ _ _ H _ I h => ld_blt I hg hm hv ⟨v, H, I, r, h⟩ hn hd
variable {a b : Expr} {ta tb : TE} {pos : Pos}
def PC (X : Cx) (op : CmpOp) (a b : Expr) (t : TE) : Prop :=
 ∀ (pins : List (Addr × Obj)) (s : Shared) (σ : St) (H : Hp) (Q : VK), Inv X pins σ H s → t σ H Q →
   wpAny (model X.prog X.w) X.A (eval a X.env) (fun v s₁ => wpAny (model X.prog X.w) X.A (eval b X.env) (fun u s₂ => wpAny (model X.prog X.w) X.A (compareOp op v u) (EP X pins σ Q) X.xe s₂) X.xe s₁) X.xe s
def tB (t : TE) : TT := fun σ H Q => t σ H fun x H1 => ∃ c, x = .bl c ∧ Q c H1
theorem pt_val {e : Expr} {t : TE} (h : PE X e t) (he : ∀ whole, isTrue e X.env whole = (do let v ← whole; standAt e.pos; holding [v] (truthy v)) := by intro _; rfl) : PT X e (tB t) := by
 intro pins s σ H Q I hw
 refine isTrue_plain (thn (h pins s σ H _ I hw) fun v s1 ⟨x, H1, I1, r1, q1⟩ => ?_) (he _)
 obtain ⟨d, rfl, q⟩ := q1
 cases r1
 exact wpAny_truthy_bool ⟨H1, I1, q⟩
variable {tA tB' : TT} {rest : List Expr}
def tAnd (t u : TT) : TT := fun σ H Q => t σ H fun c H1 => if c = true then u σ H1 Q else Q false H1
def tOr (t u : TT) : TT := fun σ H Q => t σ H fun c H1 => if c = true then Q true H1 else u σ H1 Q
def tNot (t : TT) : TT := fun σ H Q => t σ H fun c H1 => Q (!c) H1
theorem pw_and1 (ha : PT X a tA) : PW X (.BoolOp .And [a] pos) tA := by
 intro wh pins s σ H Q I h
 refine isTrue_and (thn (ha pins s σ H Q I h) fun c s1 e => ?_)
 cases c with
 | true => exact isTrue_and_nil e
 | false => exact e
theorem pw_or1 (ha : PT X a tA) : PW X (.BoolOp .Or [a] pos) tA := by
 intro wh pins s σ H Q I h
 refine isTrue_or (thn (ha pins s σ H Q I h) fun c s1 e => ?_)
 cases c with
 | false => exact isTrue_or_nil e
 | true => exact e
theorem pw_and (ha : PT X a tA) (hb : PW X (.BoolOp .And (b :: rest) pos) tB') : PW X (.BoolOp .And (a :: b :: rest) pos) (tAnd tA tB') := by
 intro wh pins s σ H Q I h
 refine isTrue_and (thn (ha pins s σ H _ I h) fun c s1 ⟨H1, I1, q1⟩ => ?_)
 cases c with
 | true => exact hb wh pins s1 σ H1 Q I1 q1
 | false => exact ⟨H1, I1, q1⟩
theorem pw_or (ha : PT X a tA) (hb : PW X (.BoolOp .Or (b :: rest) pos) tB') : PW X (.BoolOp .Or (a :: b :: rest) pos) (tOr tA tB') := by
 intro wh pins s σ H Q I h
 refine isTrue_or (thn (ha pins s σ H _ I h) fun c s1 ⟨H1, I1, q1⟩ => ?_)
 cases c with
 | true => exact ⟨H1, I1, q1⟩
 | false => exact hb wh pins s1 σ H1 Q I1 q1
theorem pt_not (ha : PT X a tA) : PT X (.UnaryOp .Not a pos) (tNot tA) := by
 intro pins s σ H Q I h
 exact isTrue_not (ha pins s σ H (fun c H1 => Q (!c) H1) I h)
def tAndV (ta tb : TE) : TE := fun σ H Q => ta σ H fun x H1 => ∃ c, x = .bl c ∧ if c = true then tb σ H1 Q else Q (.bl false) H1
def tNotV (ta : TE) : TE := fun σ H Q => ta σ H fun x H1 => ∃ c, x = .bl c ∧ Q (.bl (!c)) H1
theorem pe_one {op} {t : TE} (h : PE X a t) : PE X (.BoolOp op [a] pos) t := fun pins s σ H Q I hw => BoolOp_one (h pins s σ H Q I hw)
theorem pe_and (ha : PE X a ta) (hb : PE X (.BoolOp .And (b :: rest) pos) tb) : PE X (.BoolOp .And (a :: b :: rest) pos) (tAndV ta tb) := by
 intro pins s σ H Q I h
 refine BoolOp_and (thn (ha pins s σ H _ I h) fun v s1 ⟨x, H1, I1, r1, q1⟩ => ?_)
 obtain ⟨c, rfl, q1⟩ := q1
 cases r1
 refine wpAny_truthy_bool ?_
 cases c with
 | true => exact hb pins s1 σ H1 Q I1 q1
 | false => exact ⟨.bl false, H1, I1, rfl, q1⟩
theorem pe_not (ha : PE X a ta) : PE X (.UnaryOp .Not a pos) (tNotV ta) := by
 intro pins s σ H Q I h
 refine UnaryOp_ (thn (ha pins s σ H _ I h) fun v s1 ⟨x, H1, I1, r1, q1⟩ => ?_)
 obtain ⟨c, rfl, q1⟩ := q1
 cases r1
 exact not_of (wpAny_truthy_bool ⟨.bl (!c), H1, I1, rfl, q1⟩)
def tIf (t : TT) (ta tb : TE) : TE := fun σ H Q => t σ H fun c H1 => if c = true then ta σ H1 Q else tb σ H1 Q
theorem pe_ifExp {c : Expr} (hc : PT X c tA) (ha : PE X a ta) (hb : PE X b tb) : PE X (.IfExp c a b pos) (tIf tA ta tb) := by
 intro pins s σ H Q I h
 refine wpAny_IfExp (thn (hc pins s σ H _ I h) fun d s1 ⟨H1, I1, q1⟩ => ?_)
 cases d with
 | true => exact ha pins s1 σ H1 Q I1 q1
 | false => exact hb pins s1 σ H1 Q I1 q1
end
end L2
namespace L2
open PySem PySem.Spec PyProof.Rows
def SqL (K : PySem.W.Frag) (H : Hp) (a : Addr) (xs : List V) : Prop :=
 Rd H a (.lst xs) ∨
   ∃ (o : Obj) (its : Array Value) (n : Nat), K.lookup a = some o ∧ o.cls = .type "list" ∧ o.dict = none ∧ o.data = .seq its n ∧ its.size ≤ sizeLine ∧ Vals xs its.toList
def SqT (K : PySem.W.Frag) (H : Hp) (a : Addr) (xs : List V) : Prop :=
 Rd H a (.tup xs) ∨
   ∃ (o : Obj) (its : Array Value) (n : Nat), K.lookup a = some o ∧ o.cls = .type "tuple" ∧ o.data = .seq its n ∧ its.size ≤ sizeLine ∧ Vals xs its.toList
def absV : Value → Option V
 | .none => some .non
 | .bool b => some (.bl b)
 | .int i _ => some (.int i)
 | .str x _ => some (.str x)
 | .bytes b _ => some (.byt b)
 | .float b _ => some (.flt b)
 | .ref a => some (.ref a)
 | .type n => some (.ty n)
 | _ => none
theorem RelV.abs {x : V} {u : Value} (r : RelV x u) : absV u = some x := by
 cases x with
 | non => cases r; rfl
 | bl _ => cases r; rfl
 | int _ => obtain ⟨t, rfl⟩ := r; rfl
 | str _ => obtain ⟨t, rfl⟩ := r; rfl
 | byt _ => obtain ⟨t, rfl⟩ := r; rfl
 | flt _ => obtain ⟨t, rfl⟩ := r; rfl
 | ref _ => cases r; rfl
 | ty _ => cases r; rfl
theorem RelV.inj {x y : V} {u : Value} (r : RelV x u) (q : RelV y u) : x = y := Option.some.inj (r.abs.symm.trans q.abs)
theorem Vals.inj : ∀ {xs ys : List V} {us : List Value}, Vals xs us → Vals ys us → xs = ys
 | _, _, _, .nil, .nil => rfl
 | _, _, _, .cons r t, .cons r' t' => by rw [r.inj r', Vals.inj t t']
section
variable {X : Cx} {pins : List (Addr × Obj)} {σ : St} {H : Hp} {s : Shared} {a : Addr} {xs ys : List V}
theorem SqL.of {K : PySem.W.Frag} (h : H a = some (.lst xs)) : SqL K H a xs := .inl (.inl h)
theorem SqT.of {K : PySem.W.Frag} (h : H a = some (.tup xs)) : SqT K H a xs := .inl (.inl h)
theorem Inv.list (I : Inv X pins σ H s) (h : SqL X.K H a xs) : ∃ its : List Value, Vals xs its ∧ PlainL s.heap a its.toArray ∧ xs.length ≤ sizeLine := by
 rcases h with h | ⟨o, its, n, hk, hc, hd, hs, hz, r⟩
 · obtain ⟨z, its, n, r, e⟩ := h.ok I.hok
   exact ⟨its, r, ⟨_, n, e, rfl, rfl, rfl⟩, z⟩
 · refine ⟨its.toList, r, ⟨o, n, I.kIn a o hk, hc, hd, by simpa using hs⟩, ?_⟩
   have e := r.length
   simp only [Array.length_toList] at e
   omega
theorem Inv.tuple (I : Inv X pins σ H s) (h : SqT X.K H a xs) : ∃ its : List Value, Vals xs its ∧ IsTup s.heap a its.toArray ∧ xs.length ≤ sizeLine := by
 rcases h with h | ⟨o, its, n, hk, hc, hs, hz, r⟩
 · obtain ⟨z, its, r, p⟩ := h.ok I.hok
   exact ⟨its, r, p, z⟩
 · refine ⟨its.toList, r, ⟨o, I.kIn a o hk, hc, n, by simpa using hs⟩, ?_⟩
   have e := r.length
   simp only [Array.length_toList] at e
   omega
theorem Inv.list_inj (I : Inv X pins σ H s) (h : SqL X.K H a xs) (h' : SqL X.K H a ys) : xs = ys := by
 obtain ⟨its, r, ⟨o, n, e, _, _, d⟩, _⟩ := I.list h
 obtain ⟨its', r', ⟨o', n', e', _, _, d'⟩, _⟩ := I.list h'
 rw [e] at e'; cases e'
 rw [d] at d'
 injection d' with d1 _
 have : its = its' := by simpa using congrArg Array.toList d1
 subst this
 exact r.inj r'
theorem Inv.tuple_inj (I : Inv X pins σ H s) (h : SqT X.K H a xs) (h' : SqT X.K H a ys) : xs = ys := by
 obtain ⟨its, r, ⟨o, e, _, n, d⟩, _⟩ := I.tuple h
 obtain ⟨its', r', ⟨o', e', _, n', d'⟩, _⟩ := I.tuple h'
 rw [e] at e'; cases e'
 rw [d] at d'
 injection d' with d1 _
 have : its = its' := by simpa using congrArg Array.toList d1
 subst this
 exact r.inj r'
end
abbrev Cx.wish (X : Cx) (E : Value → Shared → Prop) : Cx := { X with xe := E }
abbrev Cx.nox (X : Cx) : Cx := X.wish fun _ _ => False
theorem Cx.Ok.wish {X : Cx} (ok : X.Ok) (E : Value → Shared → Prop) : (X.wish E).Ok :=
 ⟨ok.mod, ok.kind, ok.glob, ok.blt, ok.above, ok.inj, ok.has, ok.cab, ok.hd, ok.frames, ok.stk, ok.exf, ok.bs, ok.bsz, ok.noex, ok.exfs, ok.funs, ok.frf⟩
theorem Cx.Ok.unwish {X : Cx} {E : Value → Shared → Prop} (ok : (X.wish E).Ok) : X.Ok :=
 ⟨ok.mod, ok.kind, ok.glob, ok.blt, ok.above, ok.inj, ok.has, ok.cab, ok.hd, ok.frames, ok.stk, ok.exf, ok.bs, ok.bsz, ok.noex, ok.exfs, ok.funs, ok.frf⟩
section
variable {X : Cx} {pins : List (Addr × Obj)} {σ : St} {H : Hp} {s : Shared} {E : Value → Shared → Prop}
theorem Inv.wish (I : Inv X pins σ H s) (E : Value → Shared → Prop) : Inv (X.wish E) pins σ H s := ⟨I.ok.wish E, I.os, I.bare, I.base, I.loc, I.cell, I.free, I.freeC, I.pin, I.hok, I.len⟩
theorem Inv.unwish (I : Inv (X.wish E) pins σ H s) : Inv X pins σ H s := ⟨I.ok.unwish, I.os, I.bare, I.base, I.loc, I.cell, I.free, I.freeC, I.pin, I.hok, I.len⟩
theorem SP.unwish {D : Ends} {f : Flow} {s' : Shared} (h : SP (X.wish E) pins D f s') : SP X pins D f s' := by
 cases f with
 | next => obtain ⟨σ', H', I, q⟩ := h; exact ⟨σ', H', I.unwish, q⟩
 | brk => obtain ⟨σ', H', I, q⟩ := h; exact ⟨σ', H', I.unwish, q⟩
 | cont => obtain ⟨σ', H', I, q⟩ := h; exact ⟨σ', H', I.unwish, q⟩
 | ret u => obtain ⟨v, σ', H', I, r, q⟩ := h; exact ⟨v, σ', H', I.unwish, r, q⟩
theorem PE.nox {e : Expr} {t : TE} (h : PE X.nox e t) : PE X e t := fun pins s σ H Q I hw =>
 wpAny_mono (h pins s σ H Q (I.wish _) hw) (fun _ _ ⟨v, H', I', r, q⟩ => ⟨v, H', I'.unwish, r, q⟩) fun _ _ z => False.elim z
theorem PT.nox {e : Expr} {t : TT} (h : PT X.nox e t) : PT X e t := fun pins s σ H Q I hw =>
 wpAny_mono (h pins s σ H Q (I.wish _) hw) (fun _ _ ⟨H', I', q⟩ => ⟨H', I'.unwish, q⟩) fun _ _ z => False.elim z
theorem PSs.nox {st : List Stmt} {t : TS} (h : PSs X.nox st t) : PSs X st t := fun pins s σ H D I hw =>
 wpAny_mono (h pins s σ H D (I.wish _) hw) (fun _ _ q => q.unwish) fun _ _ z => False.elim z
end
section
variable {X : Cx} {st : Stmt} {rest : List Stmt} {t u : TS} {e : Expr} {te : TE} {pos : Pos}
def tNext : TS := fun D σ H => D.nx σ H
def tSeq (t u : TS) : TS := fun D σ H => t { D with nx := u D } σ H
theorem zW : PSs X [] tNext := fun _ _ σ H _ I h => wpAny_execs_nil ⟨σ, H, I, h⟩
theorem zC (h1 : PS X st t) (h2 : PSs X rest u) : PSs X (st :: rest) (tSeq t u) := by
 intro pins s σ H D I h
 refine wpAny_execs_cons (thn (h1 pins s σ H { D with nx := u D } I h) fun f s1 q => ?_)
 cases f with
 | next =>
   obtain ⟨σ', H', I', q⟩ := q
   exact h2 pins s1 σ' H' D I' q
 | ret v => exact q
 | brk => exact q
 | cont => exact q
theorem zF (h1 : PS X st t) : PSs X [st] t := by
 intro pins s σ H D I h
 refine wpAny_execs_cons (thn (h1 pins s σ H D I h) fun f s1 q => ?_)
 cases f with
 | next => exact wpAny_execs_nil q
 | ret v => exact q
 | brk => exact q
 | cont => exact q
theorem Inv.quiet {pins : List (Addr × Obj)} {σ : St} {H : Hp} {s : Shared} (I : Inv X pins σ H s) : interactive X.env = false := by simp [interactive, I.ok.kind]
def tDrop (te : TE) : TS := fun D σ H => te σ H fun _ H1 => D.nx σ H1
theorem yU (he : PE X e te) (hs : swapsWith e none pos.line X.env = pure false := by rfl) : PS X (.Expr e pos) (tDrop te) := by
 intro pins s σ H D I h
 exact wpAny_Expr_any (thn (he pins s σ H _ I h) fun v s1 ⟨x, H1, I1, r1, q1⟩ => ⟨σ, H1, I1, q1⟩) I.quiet hs
def tRet (te : TE) : TS := fun D σ H => te σ H D.rt
theorem zO (he : PE X e te) : PS X (.Return (some e) pos) (tRet te) := by
 intro pins s σ H D I h
 exact wpAny_Return_some (thn (he pins s σ H _ I h) fun v s1 ⟨x, H1, I1, r1, q1⟩ => ⟨x, σ, H1, I1, r1, q1⟩)
def tIfS (c : TT) (t u : TS) : TS := fun D σ H => c σ H fun b H1 => if b = true then t D σ H1 else u D σ H1
theorem yK {c : Expr} {a b : List Stmt} {tc : TT} (hc : PT X c tc) (ha : PSs X a t) (hb : PSs X b u) : PS X (.If c a b pos) (tIfS tc t u) := by
 intro pins s σ H D I h
 refine wpAny_If (thn (hc pins s σ H _ I h) fun d s1 ⟨H1, I1, q1⟩ => ?_)
 cases d with
 | true => exact ha pins s1 σ H1 D I1 q1
 | false => exact hb pins s1 σ H1 D I1 q1
end
abbrev TG := V → St → Hp → (St → Hp → Prop) → Prop
abbrev TGs := List V → St → Hp → (St → Hp → Prop) → Prop
def PG (X : Cx) (target : Expr) (t : TG) : Prop :=
 ∀ (pins : List (Addr × Obj)) (s : Shared) (σ : St) (H : Hp) (v : V) (u : Value) (Q : St → Hp → Prop), Inv X pins σ H s → RelV v u → t v σ H Q →
   wpAny (model X.prog X.w) X.A (assign target X.env u) (fun _ s' => ∃ σ' H', Inv X pins σ' H' s' ∧ Q σ' H') X.xe s
def PGs (X : Cx) (ts : List Expr) (t : TGs) : Prop :=
 ∀ (pins : List (Addr × Obj)) (s : Shared) (σ : St) (H : Hp) (vs : List V) (us : List Value) (Q : St → Hp → Prop), Inv X pins σ H s → Vals vs us → t vs σ H Q →
   wpAny (model X.prog X.w) X.A (assignInOrder ((assignEach ts X.env).map (·.2)) us) (fun _ s' => ∃ σ' H', Inv X pins σ' H' s' ∧ Q σ' H') X.xe s
abbrev TSet := V → V → V → Hp → (Hp → Prop) → Prop
def PSet (X : Cx) (t : TSet) : Prop :=
 ∀ (pins : List (Addr × Obj)) (s : Shared) (σ : St) (H : Hp) (o i v : V) (ov iv u : Value) (Q : Hp → Prop), Inv X pins σ H s → RelV o ov → RelV i iv → RelV v u → t o i v H Q →
   wpAny (model X.prog X.w) X.A (setItem ov iv u) (fun _ s' => ∃ H', Inv X pins σ H' s' ∧ Q H') X.xe s
abbrev TIp := V → V → Hp → VK → Prop
def PIp (X : Cx) (op : Operator) (t : TIp) : Prop :=
 ∀ (pins : List (Addr × Obj)) (s : Shared) (σ : St) (H : Hp) (x y : V) (v u : Value) (Q : VK), Inv X pins σ H s → RelV x v → RelV y u → t x y H Q →
   wpAny (model X.prog X.w) X.A (inplaceOp op v u) (EP X pins σ Q) X.xe s
section
variable {X : Cx} {pos : Pos}
def gName (i : Nat) : TG := fun v σ H Q => Q (σ.set i (some v)) H
theorem yH {i : Nat} {x : Str} (hN : X.N.Nodup) (hi : X.N[i]? = some x) (hx : Loc X.env.scope x) (hf : X.fn x = true ∨ X.env.scope.names.lookup x = some .local := by first | exact .inl rfl | exact .inr rfl | assumption) : PG X (.Name x pos) (gName i) := by
 intro pins s σ H v u Q I r h
 exact wpAny_assign_Name (store_ok I hN hi hx r (fun s' I' => ⟨_, H, I', h⟩) hf)
def gNil : TGs := fun vs σ H Q => vs = [] ∧ Q σ H
def gCons (t : TG) (u : TGs) : TGs := fun vs σ H Q => ∃ v r, vs = v :: r ∧ t v σ H fun σ' H' => u r σ' H' Q
theorem pgs_nil : PGs X [] gNil := by
 intro pins s σ H vs us Q I r h
 obtain ⟨e, h⟩ := h
 subst e
 cases r
 exact assignInOrder_nil ⟨σ, H, I, h⟩
theorem pgs_cons {e : Expr} {es : List Expr} {t : TG} {u : TGs} (h1 : PG X e t) (h2 : PGs X es u)
   (hs : (assignEach (e :: es) X.env).map (·.2) = assign e X.env :: (assignEach es X.env).map (·.2) := by rfl) : PGs X (e :: es) (gCons t u) := by
 intro pins s σ H vs us Q I r h
 obtain ⟨v, vr, e1, h⟩ := h
 subst e1
 cases r with
 | cons r rr =>
   rw [hs]
   refine assignInOrder_cons (thn (h1 pins s σ H _ _ _ I r h) fun _ s1 ⟨σ1, H1, I1, q1⟩ => ?_)
   exact h2 pins s1 σ1 H1 _ _ Q I1 rr q1
def gTup (K : PySem.W.Frag) (n : Nat) (t : TGs) : TG := fun v σ H Q => ∃ a xs, v = .ref a ∧ SqT K H a xs ∧ xs.length = n ∧ t xs σ H Q
theorem pg_tup {es : List Expr} {k : Nat} {t : TGs} {n : Nat} (hc : X.calm = true) (h : PGs X es t)
   (hn : (assignEach es X.env).length = n := by rfl) (hst : (assignEach es X.env).findIdx? (·.1) = none := by rfl) : PG X (.Tuple es k pos) (gTup X.K n t) := by
 intro pins s σ H v u Q I r hw
 obtain ⟨a, xs, e1, hq, hl, hw⟩ := hw
 subst e1
 cases r
 obtain ⟨its, rv, ht, hz⟩ := I.tuple hq
 refine assign_Tuple_tuple (I.ok.hd hc) ht (by simp [hn, ← hl, rv.length]) hst fun h' hx => ?_
 have I1 : Inv X pins σ H { s with heap := h' } := I.kept (t' := s.toks) fun b o e => hx b o (Nat.ne_of_lt (Heap.lt_size e)) e
 exact h pins _ σ H xs _ Q I1 (by simpa using rv) hw
def tAsg (te : TE) (g : TG) : TS := fun D σ H => te σ H fun x H1 => g x σ H1 D.nx
theorem zK {i : Nat} {x : Str} {e : Expr} {te : TE} {pos' : Pos} (hN : X.N.Nodup) (hi : X.N[i]? = some x) (hx : Loc X.env.scope x) (he : PE X e te) (hs : swapsWith e (some (.Name x pos')) pos.line X.env = pure false := by rfl) (hf : X.fn x = true ∨ X.env.scope.names.lookup x = some .local := by first | exact .inl rfl | exact .inr rfl | assumption) :
   PS X (.Assign [.Name x pos'] e pos) (tAsg te (gName i)) := by
 intro pins s σ H D I h
 refine wpAny_Assign_Name (thn (he pins s σ H _ I h) fun v s1 ⟨y, H1, I1, r1, q1⟩ => ?_) hs
 exact store_ok I1 hN hi hx r1 (fun s2 I2 => ⟨_, H1, I2, q1⟩) hf
def tAug (i : Nat) (te : TE) (ti : TIp) : TS := fun D σ H => ∃ x, σ[i]? = some (some x) ∧ te σ H fun y H1 => ti x y H1 fun z H2 => D.nx (σ.set i (some z)) H2
theorem ps_aug {i : Nat} {x : Str} {e : Expr} {te : TE} {op : Operator} {ti : TIp} {pos' : Pos} (hN : X.N.Nodup) (hi : X.N[i]? = some x) (hx : Loc X.env.scope x) (he : PE X e te) (ho : PIp X op ti) (hf : X.fn x = true ∨ X.env.scope.names.lookup x = some .local := by first | exact .inl rfl | exact .inr rfl | assumption) :
   PS X (.AugAssign (.Name x pos') op e pos) (tAug i te ti) := by
 intro pins s σ H D I h
 obtain ⟨v, e1, h⟩ := h
 obtain ⟨m, hn, hl⟩ := I.loc
 have vis : Vis X.env.scope x := by rcases hx with k | k; exact .inl k; exact .inr (.inl k)
 obtain ⟨u, r, l⟩ := hl i x v hi e1 vis
 refine wpAny_AugAssign_Name ?_
 have go : wpAny (model X.prog X.w) X.A (eval e X.env) (fun w s₂ => wpAny (model X.prog X.w) X.A (inplaceOp op u w) (fun r s₃ => wpAny (model X.prog X.w) X.A (storeName X.env x r) (fun _ => SP X pins D .next) X.xe s₃) X.xe s₂) X.xe s := by
   refine thn (he pins s σ H _ I h) fun w s1 ⟨y, H1, I1, r1, q1⟩ => ?_
   refine thn (ho pins s1 σ H1 v y u w _ I1 r r1 q1) fun z s2 ⟨zv, H2, I2, r2, q2⟩ => ?_
   exact store_ok I2 hN hi hx r2 (fun s3 I3 => ⟨_, H2, I3, q2⟩) hf
 rcases l with ⟨hk, hm⟩ | ⟨hk, c, hc, hcell⟩
 · exact wpAny_loadName_local I.ok.kind hk hn hm go
 · rcases hk with hk | hk
   · exact wpAny_loadName_cell I.ok.kind hk hc hcell go
   · rcases hx with k | k
     · have : X.env.scope.names.lookup x = some .free := hk
       rw [k] at this; cases this
     · have : X.env.scope.names.lookup x = some .free := hk
       rw [k] at this; cases this
end
section
variable {X : Cx} {pos : Pos}
def tWhile (c : TT) (tb : TS) : TS := fun D σ H => ∃ W : Nat → St → Hp → Prop, (∃ m, W m σ H) ∧ ∀ m σ H, W m σ H →
 c σ H fun b H1 => if b = true then ∃ N : St → Hp → Prop, (∀ σ' H', N σ' H' → ∃ m', m' < m ∧ W m' σ' H') ∧ tb { D with nx := N, ct := N, bk := D.nx } σ H1 else D.nx σ H1
theorem ps_while {c : Expr} {body : List Stmt} {tc : TT} {tb : TS} (hp : PassesOwn (model X.prog X.w) X.A X.env X.xe) (hc : PT X c tc) (hb : PSs X body tb) : PS X (.While c body [] pos) (tWhile tc tb) := by
 intro pins s σ H D I h
 obtain ⟨W, ⟨m0, w0⟩, turn⟩ := h
 refine wpAny_While (codeAny_whileLoop (fun n s' => ∃ σ' H', Inv X pins σ' H' s' ∧ W n σ' H') ?_ m0 ⟨σ, H, I, w0⟩)
 rintro n s1 ⟨σ1, H1, I1, w1⟩
 refine wpAny_passesOwn hp (thn (hc pins s1 σ1 H1 _ I1 (turn n σ1 H1 w1)) fun b s2 ⟨H2, I2, q2⟩ => ?_)
 cases b with
 | true =>
   obtain ⟨N, hN, q2⟩ := q2
   rw [if_pos rfl]
   refine wpAny_passesOwn hp (thn (hb pins s2 σ1 H2 _ I2 q2) fun f s3 q3 => ?_)
   cases f with
   | next =>
     obtain ⟨σ3, H3, I3, n3⟩ := q3
     obtain ⟨m', hm, w3⟩ := hN σ3 H3 n3
     exact ⟨m', hm, σ3, H3, I3, w3⟩
   | cont =>
     obtain ⟨σ3, H3, I3, n3⟩ := q3
     obtain ⟨m', hm, w3⟩ := hN σ3 H3 n3
     exact ⟨m', hm, σ3, H3, I3, w3⟩
   | brk => exact q3
   | ret v => exact q3
 | false =>
   rw [if_neg Bool.false_ne_true]
   exact wpAny_execs_nil ⟨σ1, H2, I2, q2⟩
end
structure It where
 go : Nat → Hp → Prop
 yld : Nat → Hp → V → Hp → Prop
 stop : Nat → Hp → Prop
def FpOk (X : Cx) (pins : List (Addr × Obj)) (H : Hp) (b : Addr) : Prop :=
 H b = none ∧ b ≠ X.env.locals ∧ b ∉ X.fs ∧ (b ∈ X.ex ∨ X.s₀.heap.objs.size ≤ b) ∧ (∀ x c, X.env.cells.lookup x = some c → c ≠ b) ∧ ∀ p ∈ X.pn ++ pins, p.1 ≠ b
theorem Inv.fpOk {X : Cx} {pins : List (Addr × Obj)} {σ : St} {H H' : Hp} {s : Shared} {b : Addr} (I : Inv X pins σ H s) (hb : s.heap.objs.size ≤ b) (hn : H' b = none) : FpOk X pins H' b := by
 refine ⟨hn, Nat.ne_of_gt (Nat.lt_of_lt_of_le I.lt hb), I.nofs hb, .inr (Nat.le_trans I.sz hb), fun x c e z => ?_, fun p hp z => ?_⟩
 · obtain ⟨v, q⟩ := I.cell x c e
   exact absurd (Nat.lt_of_lt_of_le q.lt (by rw [z]; exact hb)) (Nat.lt_irrefl _)
 · exact absurd (Nat.lt_of_lt_of_le (Heap.lt_size (I.pin p hp).1) (by rw [z]; exact hb)) (Nat.lt_irrefl _)
structure Turn (P : Program) (w : World) (K : PySem.W.Frag) (tg : Expr) (J : It) (fp : List Addr) (it : Addr) (tn : Nat → Heap → Prop) : Prop where
 mem : it ∈ fp
 obj : ∀ i h, tn i h → ∀ b ∈ fp, ∃ o, h.get? b = some o ∧ ∀ v, o.data ≠ .cell v
 keep : ∀ i h h', tn i h → (∀ b ∈ fp, ∀ o, h.get? b = some o → h'.get? b = some o) → tn i h'
 item : ∀ (X : Cx), X.prog = P → X.w = w → X.K = K → X.calm = true → ∀ (i : Nat) (pins : List (Addr × Obj)) (s : Shared) (σ : St) (H : Hp) (E : Value → Shared → Prop), Inv X pins σ H s → (∀ b ∈ fp, FpOk X pins H b) → tn i s.heap → J.go i H →
   wpAny (model P w) X.A (pyNext (.ref it)) (fun r s1 => ∃ u, r = some u ∧
     wpAny (model P w) X.A (letOwnedTupleGo tg (.ref it) u) (fun _ s2 => ∃ x H', Inv X pins σ H' s2 ∧ RelV x u ∧ J.yld i H x H' ∧ tn (i + 1) s2.heap ∧ ∀ b ∈ fp, H' b = none) E s1) E s
 done : ∀ (X : Cx), X.prog = P → X.w = w → X.K = K → X.calm = true → ∀ (i : Nat) (pins : List (Addr × Obj)) (s : Shared) (σ : St) (H : Hp) (E : Value → Shared → Prop), Inv X pins σ H s → (∀ b ∈ fp, FpOk X pins H b) → tn i s.heap → J.stop i H →
   wpAny (model P w) X.A (pyNext (.ref it)) (fun r s1 => r = none ∧ Inv X pins σ H s1) E s
 self : ∀ (A : Around) (i : Nat) (s : Shared) (Q : Value → Shared → Prop) (E : Value → Shared → Prop), tn i s.heap → Q (.ref it) s → wpAny (model P w) A (pyIter (.ref it)) Q E s
abbrev TI := St → Hp → (It → Hp → Prop) → Prop
def PIE (X : Cx) (pins : List (Addr × Obj)) (σ : St) (tg : Expr) (R : It → Hp → Prop) (itv : Value) (s2 : Shared) : Prop :=
 ∃ (it : Addr) (fp : List Addr) (tn : Nat → Heap → Prop) (J : It) (H' : Hp), itv = .ref it ∧ Inv X pins σ H' s2 ∧ Turn X.prog X.w X.K tg J fp it tn ∧ tn 0 s2.heap ∧ (∀ b ∈ fp, FpOk X pins H' b) ∧ R J H'
def PI (X : Cx) (tg iter : Expr) (wi : TI) : Prop :=
 ∀ (pins : List (Addr × Obj)) (s : Shared) (σ : St) (H : Hp) (R : It → Hp → Prop), Inv X pins σ H s → wi σ H R →
   wpAny (model X.prog X.w) X.A (eval iter X.env) (fun v s1 => wpAny (model X.prog X.w) X.A (pyIter v) (PIE X pins σ tg R) X.xe s1) X.xe s
theorem go_of {M : Model} {A : Around} {E : Value → Shared → Prop} {s : Shared} {tg : Expr} {it : Addr} {u : Value} {o : Obj} {n : String} {vs : Array Value} {Q : Unit → Shared → Prop} (ho : s.heap.get? it = some o) (hc : o.cls = .type n) (hd : o.data = .fields vs)
   (hn : ["enumerate", "zip", "dict_itemiterator", "dict_reverseitemiterator", "odict_iterator", "itertools.zip_longest", "itertools.pairwise"].contains n = false) (hQ : Q () s) : wpAny M A (letOwnedTupleGo tg (.ref it) u) Q E s := by
 unfold letOwnedTupleGo
 cases tg <;> first
   | exact wpAny_pure hQ
   | (cases u <;> first
       | exact wpAny_pure hQ
       | (refine wpAny_bind (wpAny_load ho ?_)
          rw [hc, hd]
          show wpAny M A (if (["enumerate", "zip", "dict_itemiterator", "dict_reverseitemiterator", "odict_iterator", "itertools.zip_longest", "itertools.pairwise"].contains n && vs[0]? == some (rawInt _)) = true then _ else _) Q E s
          rw [if_neg (by intro h; rw [hn, Bool.false_and] at h; cases h)]
          exact wpAny_pure hQ))
def Itl (K : PySem.W.Frag) (a : Addr) : It :=
 ⟨fun i H => ∃ xs x, SqL K H a xs ∧ xs[i]? = some x, fun i H x H' => H' = H ∧ ∀ xs, SqL K H a xs → xs[i]? = some x, fun i H => ∃ xs, SqL K H a xs ∧ xs.length ≤ i⟩
def Itt (K : PySem.W.Frag) (a : Addr) : It :=
 ⟨fun i H => ∃ xs x, SqT K H a xs ∧ xs[i]? = some x, fun i H x H' => H' = H ∧ ∀ xs, SqT K H a xs → xs[i]? = some x, fun i H => ∃ xs, SqT K H a xs ∧ xs.length ≤ i⟩
def Itr (lo : Int) (n : Nat) : It := ⟨fun i _ => i < n, fun i H x H' => H' = H ∧ x = .int (lo + i), fun i _ => n ≤ i⟩
theorem turn_list {P : Program} {w : World} {K : PySem.W.Frag} {tg : Expr} (a it : Addr) : Turn P w K tg (Itl K a) [it] it (fun i h => h.IsListIter it a i) where
 mem := by simp
 obj := fun i h st b hb => by
   have e : b = it := by simpa using hb
   subst e
   obtain ⟨o, e, c, d⟩ := st
   exact ⟨o, e, fun v z => by rw [d] at z; cases z⟩
 keep := fun i h h' st k => st.at fun o e => k it (by simp) o e
 item := by
   intro X hP hw hK hc i pins s σ H E I hf st hg
   subst hP hw hK
   obtain ⟨xs, x, hq, hx⟩ := hg
   obtain ⟨its, rv, p, hz⟩ := I.list hq
   obtain ⟨u, hu, ru⟩ := rv.get hx
   obtain ⟨f0, f1, f2, f3, f4, f5⟩ := hf it (by simp)
   refine wpAny_pyNext_list_item st p.isList (x := u) (by simpa using hu) fun h' st' sb => ?_
   have I1 : Inv X pins σ H { s with heap := h' } := I.turned (t' := s.toks) (fun b o hb e => (sb.2 b hb).trans e) f0 f1 f3 f4 f5
   obtain ⟨o, e, c, d⟩ := id st'
   exact ⟨u, rfl, go_of (s := { s with heap := h' }) e c d (by decide) ⟨x, H, I1, ru, ⟨rfl, fun ys hy => by rw [I.list_inj hy hq]; exact hx⟩, st', fun b hb => (hf b hb).1⟩⟩
 done := by
   intro X hP hw hK hc i pins s σ H E I hf st hg
   subst hP hw hK
   obtain ⟨xs, hq, hx⟩ := hg
   obtain ⟨its, rv, p, hz⟩ := I.list hq
   obtain ⟨f0, f1, f2, f3, f4, f5⟩ := hf it (by simp)
   have hl := rv.length
   exact wpAny_pyNext_list_end (I.ok.hd hc) st p.isList (by simp; omega) fun h' eb => ⟨rfl, I.turned (t' := s.toks) (fun b o hb e => eb b o hb e) f0 f1 f3 f4 f5⟩
 self := fun _ _ _ _ _ st h => wpAny_pyIter_listiter st h
theorem turn_tuple {P : Program} {w : World} {K : PySem.W.Frag} {tg : Expr} (a it : Addr) : Turn P w K tg (Itt K a) [it] it (fun i h => h.IsTupleIter it a i) where
 mem := by simp
 obj := fun i h st b hb => by
   have e : b = it := by simpa using hb
   subst e
   obtain ⟨o, e, c, d⟩ := st
   exact ⟨o, e, fun v z => by rw [d] at z; cases z⟩
 keep := fun i h h' st k => st.at fun o e => k it (by simp) o e
 item := by
   intro X hP hw hK hc i pins s σ H E I hf st hg
   subst hP hw hK
   obtain ⟨xs, x, hq, hx⟩ := hg
   obtain ⟨its, rv, p, hz⟩ := I.tuple hq
   obtain ⟨u, hu, ru⟩ := rv.get hx
   obtain ⟨f0, f1, f2, f3, f4, f5⟩ := hf it (by simp)
   refine wpAny_pyNext_tuple_item st (show s.heap.IsTuple a its.toArray from p) (x := u) (by simpa using hu) fun h' st' sb => ?_
   have I1 : Inv X pins σ H { s with heap := h' } := I.turned (t' := s.toks) (fun b o hb e => (sb.2 b hb).trans e) f0 f1 f3 f4 f5
   obtain ⟨o, e, c, d⟩ := id st'
   exact ⟨u, rfl, go_of (s := { s with heap := h' }) e c d (by decide) ⟨x, H, I1, ru, ⟨rfl, fun ys hy => by rw [I.tuple_inj hy hq]; exact hx⟩, st', fun b hb => (hf b hb).1⟩⟩
 done := by
   intro X hP hw hK hc i pins s σ H E I hf st hg
   subst hP hw hK
   obtain ⟨xs, hq, hx⟩ := hg
   obtain ⟨its, rv, p, hz⟩ := I.tuple hq
   obtain ⟨f0, f1, f2, f3, f4, f5⟩ := hf it (by simp)
   have hl := rv.length
   exact wpAny_pyNext_tuple_end (I.ok.hd hc) st (show s.heap.IsTuple a its.toArray from p) (by simp; omega) fun h' eb => ⟨rfl, I.turned (t' := s.toks) (fun b o hb e => eb b o hb e) f0 f1 f3 f4 f5⟩
 self := fun _ _ _ _ _ st h => wpAny_pyIter_tupleiter st h
theorem turn_range {P : Program} {w : World} {K : PySem.W.Frag} {tg : Expr} (it : Addr) (lo : Int) (n : Nat) : Turn P w K tg (Itr lo n) [it] it (fun i h => IsRangeIter h it (lo + (i : Nat) * 1) ((n : Int) - (i : Nat)) 1) where
 mem := by simp
 obj := fun i h st b hb => by
   have e : b = it := by simpa using hb
   subst e
   exact ⟨_, st, fun v z => by
     have z' : Data.fields _ = Data.cell v := z
     cases z'⟩
 keep := fun i h h' st k => k it (by simp) _ st
 item := by
   intro X hP hw hK hc i pins s σ H E I hf st hg
   subst hP hw hK
   obtain ⟨f0, f1, f2, f3, f4, f5⟩ := hf it (by simp)
   have W := Walks.range (prog := X.prog) (w := X.w) (I.ok.hd hc) it lo 1 n
   refine W.item i s _ _ hg st fun v h' tk hv st' kk => ?_
   obtain ⟨t, rfl⟩ := hv
   have I1 : Inv X pins σ H { s with heap := h', toks := tk } := I.turned (fun b o hb e => kk b o (by simpa using hb) e) f0 f1 f3 f4 f5
   refine ⟨_, rfl, go_of (s := { s with heap := h', toks := tk }) (n := "range_iterator") st' rfl rfl (by decide) ⟨.int (lo + i), H, I1, ⟨t, ?_⟩, ⟨rfl, rfl⟩, st', fun b hb => (hf b hb).1⟩⟩
   rw [Int.mul_one]
 done := by
   intro X hP hw hK hc i pins s σ H E I hf st hg
   subst hP hw hK
   obtain ⟨f0, f1, f2, f3, f4, f5⟩ := hf it (by simp)
   exact wpAny_pyNext_range_end (I.ok.hd hc) st (by have : n ≤ i := hg; omega) fun h' eb => ⟨rfl, I.turned (t' := s.toks) (fun b o hb e => eb b o hb e) f0 f1 f3 f4 f5⟩
 self := fun _ _ _ _ _ st h => wpAny_pyIter_rangeiter st h
end L2
namespace L2
open PySem PySem.Spec PyProof.Rows
section
variable {X : Cx} {tg : Expr}
def iList (K : PySem.W.Frag) (tl : TE) : TI := fun σ H R => tl σ H fun x H1 => ∃ a, x = .ref a ∧ (∃ xs, SqL K H1 a xs) ∧ R (Itl K a) H1
def iTup (K : PySem.W.Frag) (tl : TE) : TI := fun σ H R => tl σ H fun x H1 => ∃ a, x = .ref a ∧ (∃ xs, SqT K H1 a xs) ∧ R (Itt K a) H1
theorem pi_list {l : Expr} {tl : TE} (hl : PE X l tl) : PI X tg l (iList X.K tl) := by
 intro pins s σ H R I h
 refine thn (hl pins s σ H _ I h) fun v s1 ⟨x, H1, I1, r1, q1⟩ => ?_
 obtain ⟨a, e, ⟨xs, hq⟩, q⟩ := q1
 subst e
 cases r1
 obtain ⟨its, rv, p, hz⟩ := I1.list hq
 refine wpAny_pyIter_list p.isList ?_
 refine ⟨s1.heap.objs.size, [s1.heap.objs.size], _, _, H1, rfl, I1.kept (t' := s1.toks) fun b o e => Heap.get?_push_of_some _ e, turn_list a _, ⟨_, Heap.get?_push_size _ rfl, rfl, rfl⟩, fun b hb => ?_, q⟩
 have e : b = s1.heap.objs.size := by simpa using hb
 subst e
 exact I1.fpOk (Nat.le_refl _) (I1.hok.fresh (Nat.le_refl _))
theorem pi_tup {l : Expr} {tl : TE} (hl : PE X l tl) : PI X tg l (iTup X.K tl) := by
 intro pins s σ H R I h
 refine thn (hl pins s σ H _ I h) fun v s1 ⟨x, H1, I1, r1, q1⟩ => ?_
 obtain ⟨a, e, ⟨xs, hq⟩, q⟩ := q1
 subst e
 cases r1
 obtain ⟨its, rv, p, hz⟩ := I1.tuple hq
 refine wpAny_pyIter_tuple (show s1.heap.IsTuple a its.toArray from p) ?_
 refine ⟨s1.heap.objs.size, [s1.heap.objs.size], _, _, H1, rfl, I1.kept (t' := s1.toks) fun b o e => Heap.get?_push_of_some _ e, turn_tuple a _, ⟨_, Heap.get?_push_size _ rfl, rfl, rfl⟩, fun b hb => ?_, q⟩
 have e : b = s1.heap.objs.size := by simpa using hb
 subst e
 exact I1.fpOk (Nat.le_refl _) (I1.hok.fresh (Nat.le_refl _))
theorem range_it {pins : List (Addr × Obj)} {σ : St} {H : Hp} {s : Shared} {R : It → Hp → Prop} {E : Value → Shared → Prop} {lo hi : Int} {t u v : Tok} {tk : Nat} (I : Inv X pins σ H s) (h1 : -(2 ^ 62) ≤ lo) (h2 : lo < 2 ^ 62) (h3 : -(2 ^ 62) ≤ hi) (h4 : hi < 2 ^ 62)
   (q : R (Itr lo (hi - lo).toNat) H) : wpAny (model X.prog X.w) X.A (pyIter (.ref s.heap.objs.size)) (PIE X pins σ tg R) E { s with heap := s.heap.push { cls := .type "range", data := .fields #[.int lo t, .int hi u, .int 1 v] }, toks := tk } := by
 refine wpAny_pyIter_range (IsRange.new ..) (small_one h1 h2 h3 h4) ?_
 have I1 : Inv X pins σ H { s with heap := s.heap.push { cls := .type "range", data := .fields #[.int lo t, .int hi u, .int 1 v] }, toks := tk } := I.kept fun b o e => Heap.get?_push_of_some _ e
 refine ⟨(s.heap.push { cls := .type "range", data := .fields #[.int lo t, .int hi u, .int 1 v] }).objs.size, [(s.heap.push { cls := .type "range", data := .fields #[.int lo t, .int hi u, .int 1 v] }).objs.size], _, _, H, rfl,
   I1.kept (t' := tk) fun b o e => Heap.get?_push_of_some _ e, turn_range _ lo (hi - lo).toNat, ?_, fun b hb => ?_, q⟩
 · have e1 : lo + ((0 : Nat) : Int) * 1 = lo := by simp
   have e2 : (((hi - lo).toNat : Nat) : Int) - ((0 : Nat) : Int) = Builtin.Range.rangeSize lo hi 1 := by rw [rangeSize_one]; split <;> omega
   show IsRangeIter _ _ (lo + ((0 : Nat) : Int) * 1) ((((hi - lo).toNat : Nat) : Int) - ((0 : Nat) : Int)) 1
   rw [e1, e2]
   exact Heap.get?_push_size _ rfl
 · have e : b = (s.heap.push { cls := .type "range", data := .fields #[.int lo t, .int hi u, .int 1 v] }).objs.size := by simpa using hb
   subst e
   exact I1.fpOk (Nat.le_refl _) (I1.hok.fresh (Nat.le_refl _))
def iRng1 (ta : TA) : TI := fun σ H R => ta σ H fun vs H1 => ∃ j : Int, vs = [.int j] ∧ -(2 ^ 62) ≤ j ∧ j < 2 ^ 62 ∧ R (Itr 0 j.toNat) H1
theorem pi_range1 {a : Expr} {ta : TA} {p pos : Pos} (hg : Gl X "range") (hm : X.mg "range" = none) (ha : PA X [a] ta) (hs : starEach [a] X.env = [(false, eval a X.env)] := by rfl) : PI X tg (.Call (.Name "range" p) [a] [] pos) (iRng1 ta) := by
 intro pins s σ H R I h
 refine Call_ (ld_blt I hg hm boot_range (PyProof.Rows.callWith_type1 (thn (ha pos pins s σ H _ I h) fun us s1 ⟨vs, H1, I1, r1, q1⟩ => ?_) hs rfl))
 obtain ⟨j, e, q1, q2, q⟩ := q1
 subst e
 cases r1 with
 | cons r rr =>
   cases rr
   obtain ⟨t, rfl⟩ := r
   exact call_range_1 (range_it I1 (by omega) (by omega) q1 q2 (by simpa using q))
def tFor (wi : TI) (g : TG) (tb : TS) : TS := fun D σ H => wi σ H fun J H1 => ∃ W : Nat → Nat → St → Hp → Prop, (∃ m, W 0 m σ H1) ∧ ∀ i m σ H, W i m σ H →
 (J.stop i H ∧ D.nx σ H) ∨ (J.go i H ∧ ∃ N : St → Hp → Prop, (∀ σ' H', N σ' H' → ∃ m', m' < m ∧ W (i + 1) m' σ' H') ∧ ∀ x H', J.yld i H x H' → g x σ H' fun σ2 H2 => tb { D with nx := N, ct := N, bk := D.nx } σ2 H2)
def pinsAt (fp : List Addr) (h : Heap) : List (Addr × Obj) := fp.filterMap fun b => (h.get? b).map fun o => (b, o)
theorem yW {fp : List Addr} {h : Heap} {b : Addr} {o : Obj} (hb : b ∈ fp) (e : h.get? b = some o) : (b, o) ∈ pinsAt fp h := List.mem_filterMap.mpr ⟨b, hb, by rw [e]; rfl⟩
theorem of_pinsAt {fp : List Addr} {h : Heap} {p : Addr × Obj} (hp : p ∈ pinsAt fp h) : p.1 ∈ fp ∧ h.get? p.1 = some p.2 := by
 obtain ⟨b, hb, e⟩ := List.mem_filterMap.mp hp
 cases q : h.get? b with
 | none => rw [q] at e; cases e
 | some o =>
   rw [q] at e
   have e' : (b, o) = p := Option.some.inj e
   subst e'
   exact ⟨hb, q⟩
theorem Inv.pinned {pins : List (Addr × Obj)} {σ : St} {H : Hp} {s : Shared} {fp : List Addr} (I : Inv X pins σ H s) (hf : ∀ b ∈ fp, FpOk X pins H b) (ho : ∀ b ∈ fp, ∃ o, s.heap.get? b = some o ∧ ∀ v, o.data ≠ .cell v) : Inv X (pins ++ pinsAt fp s.heap) σ H s :=
 I.pins_of fun p hp => (List.mem_append.mp hp).elim (fun z => I.pin p (List.mem_append_right _ z)) fun z => by
   obtain ⟨hb, e⟩ := of_pinsAt z
   obtain ⟨f0, f1, f2, _⟩ := hf p.1 hb
   obtain ⟨o, e', d⟩ := ho p.1 hb
   rw [e] at e'; cases e'
   exact ⟨e, f0, f1, f2, d⟩
theorem Inv.unpinned {pins pl : List (Addr × Obj)} {σ : St} {H : Hp} {s : Shared} (I : Inv X (pins ++ pl) σ H s) : Inv X pins σ H s := I.pins_of fun p hp => I.pin p (List.mem_append_right _ (List.mem_append_left _ hp))
theorem ps_for {iter : Expr} {body : List Stmt} {wi : TI} {g : TG} {tb : TS} {pos : Pos} (hp : PassesOwn (model X.prog X.w) X.A X.env X.xe) (hc : X.calm = true) (hi : PI X tg iter wi) (hg : PG X tg g) (hb : PSs X body tb)
   (hs : ∀ x, foldedSetIterable iter X.env x = pure x := by intro _; rfl) : PS X (.For tg iter body [] pos) (tFor wi g tb) := by
 intro pins s σ H D I h
 refine wpAny_For (thn (hi pins s σ H _ I h) fun v s1 h1 => thn h1 fun itv s2 h2 => ?_) hs
 obtain ⟨it, fp, tn, J, H2, e, I2, T, st2, f2, W, ⟨m0, w0⟩, turn⟩ := h2
 subst e
 have stat : ∀ {H' : Hp}, (∀ b ∈ fp, H' b = none) → ∀ b ∈ fp, FpOk X pins H' b := fun hn b hb => ⟨hn b hb, (f2 b hb).2⟩
 refine codeAny_forLoop_any (fun n s' => ∃ i σ' H', Inv X pins σ' H' s' ∧ tn i s'.heap ∧ (∀ b ∈ fp, H' b = none) ∧ W i n σ' H') ?_ m0 ⟨0, σ, H2, I2, st2, fun b hb => (f2 b hb).1, w0⟩
 rintro n s3 ⟨i, σ3, H3, I3, st3, fr3, w3⟩
 rcases turn i n σ3 H3 w3 with ⟨stop, qn⟩ | ⟨go, N, hN, step⟩
 · refine wpAny_passesOwn hp (thn (T.done X rfl rfl rfl hc i pins s3 σ3 H3 X.xe I3 (stat fr3) st3 stop) fun r s4 ⟨hr, I4⟩ => ?_)
   subst hr
   exact wpAny_execs_nil ⟨σ3, H3, I4, qn⟩
 · refine wpAny_passesOwn hp (thn (T.item X rfl rfl rfl hc i pins s3 σ3 H3 X.xe I3 (stat fr3) st3 go) fun r s4 ⟨u, hr, h4⟩ => ?_)
   subst hr
   refine wpAny_passesOwn hp (thn h4 fun _ s5 ⟨x, H5, I5, r5, y5, st5, fr5⟩ => ?_)
   have I5' := I5.pinned (stat fr5) (T.obj _ _ st5)
   refine wpAny_passesOwn hp (thn (hg _ s5 σ3 H5 x u _ I5' r5 (step x H5 y5)) fun _ s6 ⟨σ6, H6, I6, q6⟩ => ?_)
   refine wpAny_passesOwn hp (thn (hb _ s6 σ6 H6 _ I6 q6) fun f s7 q7 => ?_)
   have again : ∀ {σ7 : St} {H7 : Hp}, Inv X (pins ++ pinsAt fp s5.heap) σ7 H7 s7 → N σ7 H7 → ∃ m, m < n ∧ ∃ i σ' H', Inv X pins σ' H' s7 ∧ tn i s7.heap ∧ (∀ b ∈ fp, H' b = none) ∧ W i m σ' H' := fun {σ7 H7} I7 n7 => by
     obtain ⟨m', hm, w7⟩ := hN σ7 H7 n7
     refine ⟨m', hm, i + 1, σ7, H7, I7.unpinned, T.keep _ _ _ st5 fun b hb o e => (I7.pin (b, o) (List.mem_append_right _ (List.mem_append_right _ (yW hb e)))).1, fun b hb => ?_, w7⟩
     obtain ⟨o, e, d⟩ := T.obj _ _ st5 b hb
     exact (I7.pin (b, o) (List.mem_append_right _ (List.mem_append_right _ (yW hb e)))).2.1
   cases f with
   | next => obtain ⟨σ7, H7, I7, n7⟩ := q7; exact again I7 n7
   | cont => obtain ⟨σ7, H7, I7, n7⟩ := q7; exact again I7 n7
   | brk => obtain ⟨σ7, H7, I7, q7⟩ := q7; exact ⟨σ7, H7, I7.unpinned, q7⟩
   | ret v => obtain ⟨x7, σ7, H7, I7, r7, q7⟩ := q7; exact ⟨x7, σ7, H7, I7.unpinned, r7, q7⟩
end
theorem for_list {K : PySem.W.Frag} {a : Addr} {xs : List V} {g : TG} {tb : TS} {D : Ends} {σ : St} {H : Hp} (Pv : Nat → St → Hp → Prop) (h0 : Pv 0 σ H) (hl : ∀ i σ H, i ≤ xs.length → Pv i σ H → SqL K H a xs)
   (hs : ∀ i x σ H, xs[i]? = some x → Pv i σ H → g x σ H fun σ2 H2 => tb { D with nx := Pv (i + 1), ct := Pv (i + 1), bk := D.nx } σ2 H2) (hd : ∀ σ H, Pv xs.length σ H → D.nx σ H) :
   ∃ W : Nat → Nat → St → Hp → Prop, (∃ m, W 0 m σ H) ∧ ∀ i m σ H, W i m σ H →
     ((Itl K a).stop i H ∧ D.nx σ H) ∨ ((Itl K a).go i H ∧ ∃ N : St → Hp → Prop, (∀ σ' H', N σ' H' → ∃ m', m' < m ∧ W (i + 1) m' σ' H') ∧ ∀ x H', (Itl K a).yld i H x H' → g x σ H' fun σ2 H2 => tb { D with nx := N, ct := N, bk := D.nx } σ2 H2) := by
 refine ⟨fun i m σ H => m = xs.length - i ∧ i ≤ xs.length ∧ Pv i σ H, ⟨xs.length, by simp, Nat.zero_le _, h0⟩, ?_⟩
 rintro i m σ H ⟨rfl, hi, p⟩
 have q := hl i σ H hi p
 by_cases hlt : i < xs.length
 · refine .inr ⟨⟨xs, xs[i], q, by simp [hlt]⟩, Pv (i + 1), fun σ' H' p' => ⟨xs.length - (i + 1), by omega, rfl, hlt, p'⟩, fun x H' y => ?_⟩
   obtain ⟨e, y⟩ := y
   subst e
   exact hs i x σ _ (y xs q) p
 · have e : i = xs.length := by omega
   subst e
   exact .inl ⟨⟨xs, q, Nat.le_refl _⟩, hd σ H p⟩
theorem for_tup {K : PySem.W.Frag} {a : Addr} {xs : List V} {g : TG} {tb : TS} {D : Ends} {σ : St} {H : Hp} (Pv : Nat → St → Hp → Prop) (h0 : Pv 0 σ H) (hl : ∀ i σ H, i ≤ xs.length → Pv i σ H → SqT K H a xs)
   (hs : ∀ i x σ H, xs[i]? = some x → Pv i σ H → g x σ H fun σ2 H2 => tb { D with nx := Pv (i + 1), ct := Pv (i + 1), bk := D.nx } σ2 H2) (hd : ∀ σ H, Pv xs.length σ H → D.nx σ H) :
   ∃ W : Nat → Nat → St → Hp → Prop, (∃ m, W 0 m σ H) ∧ ∀ i m σ H, W i m σ H →
     ((Itt K a).stop i H ∧ D.nx σ H) ∨ ((Itt K a).go i H ∧ ∃ N : St → Hp → Prop, (∀ σ' H', N σ' H' → ∃ m', m' < m ∧ W (i + 1) m' σ' H') ∧ ∀ x H', (Itt K a).yld i H x H' → g x σ H' fun σ2 H2 => tb { D with nx := N, ct := N, bk := D.nx } σ2 H2) := by
 refine ⟨fun i m σ H => m = xs.length - i ∧ i ≤ xs.length ∧ Pv i σ H, ⟨xs.length, by simp, Nat.zero_le _, h0⟩, ?_⟩
 rintro i m σ H ⟨rfl, hi, p⟩
 have q := hl i σ H hi p
 by_cases hlt : i < xs.length
 · refine .inr ⟨⟨xs, xs[i], q, by simp [hlt]⟩, Pv (i + 1), fun σ' H' p' => ⟨xs.length - (i + 1), by omega, rfl, hlt, p'⟩, fun x H' y => ?_⟩
   obtain ⟨e, y⟩ := y
   subst e
   exact hs i x σ _ (y xs q) p
 · have e : i = xs.length := by omega
   subst e
   exact .inl ⟨⟨xs, q, Nat.le_refl _⟩, hd σ H p⟩
theorem for_range {lo : Int} {n : Nat} {g : TG} {tb : TS} {D : Ends} {σ : St} {H : Hp} (Pv : Nat → St → Hp → Prop) (h0 : Pv 0 σ H)
   (hs : ∀ i σ H, i < n → Pv i σ H → g (.int (lo + i)) σ H fun σ2 H2 => tb { D with nx := Pv (i + 1), ct := Pv (i + 1), bk := D.nx } σ2 H2) (hd : ∀ σ H, Pv n σ H → D.nx σ H) :
   ∃ W : Nat → Nat → St → Hp → Prop, (∃ m, W 0 m σ H) ∧ ∀ i m σ H, W i m σ H →
     ((Itr lo n).stop i H ∧ D.nx σ H) ∨ ((Itr lo n).go i H ∧ ∃ N : St → Hp → Prop, (∀ σ' H', N σ' H' → ∃ m', m' < m ∧ W (i + 1) m' σ' H') ∧ ∀ x H', (Itr lo n).yld i H x H' → g x σ H' fun σ2 H2 => tb { D with nx := N, ct := N, bk := D.nx } σ2 H2) := by
 refine ⟨fun i m σ H => m = n - i ∧ i ≤ n ∧ Pv i σ H, ⟨n, by simp, Nat.zero_le _, h0⟩, ?_⟩
 rintro i m σ H ⟨rfl, hi, p⟩
 by_cases hlt : i < n
 · refine .inr ⟨hlt, Pv (i + 1), fun σ' H' p' => ⟨n - (i + 1), by omega, rfl, hlt, p'⟩, fun x H' y => ?_⟩
   obtain ⟨e, y⟩ := y
   subst e y
   exact hs i σ _ hlt p
 · have e : i = n := by omega
   subst e
   exact .inl ⟨Nat.le_refl _, hd σ H p⟩
end L2
namespace L2
open PySem PySem.Spec PyProof.Rows
abbrev R2 := V → V → Hp → VK → Prop
def OpR (X : Cx) (f : Value → Value → Sem Value) (r : R2) : Prop :=
 ∀ (pins : List (Addr × Obj)) (s : Shared) (σ : St) (H : Hp) (x y : V) (v u : Value) (Q : VK), Inv X pins σ H s → RelV x v → RelV y u → r x y H Q →
   wpAny (model X.prog X.w) X.A (f v u) (EP X pins σ Q) X.xe s
def UnR (X : Cx) (f : Value → Sem Value) (r : V → Hp → VK → Prop) : Prop :=
 ∀ (pins : List (Addr × Obj)) (s : Shared) (σ : St) (H : Hp) (x : V) (v : Value) (Q : VK), Inv X pins σ H s → RelV x v → r x H Q →
   wpAny (model X.prog X.w) X.A (f v) (EP X pins σ Q) X.xe s
def CallR (X : Cx) (f : Value) (r : List V → Hp → VK → Prop) : Prop :=
 ∀ (pins : List (Addr × Obj)) (s : Shared) (σ : St) (H : Hp) (xs : List V) (us : List Value) (Q : VK), Inv X pins σ H s → Vals xs us → r xs H Q →
   wpAny (model X.prog X.w) X.A (call f us) (EP X pins σ Q) X.xe s
def TruR (X : Cx) (r : V → Hp → (Bool → Hp → Prop) → Prop) : Prop :=
 ∀ (pins : List (Addr × Obj)) (s : Shared) (σ : St) (H : Hp) (x : V) (v : Value) (Q : Bool → Hp → Prop), Inv X pins σ H s → RelV x v → r x H Q →
   wpAny (model X.prog X.w) X.A (truthy v) (TP X pins σ Q) X.xe s
def tOp (r : R2) (ta tb : TE) : TE := fun σ H Q => ta σ H fun x H1 => tb σ H1 fun y H2 => r x y H2 Q
def tUn (r : V → Hp → VK → Prop) (ta : TE) : TE := fun σ H Q => ta σ H fun x H1 => r x H1 Q
def rI (C : Int → Int → Prop) (g : Int → Int → V) : R2 := fun x y H Q => ∃ i j, x = .int i ∧ y = .int j ∧ C i j ∧ Q (g i j) H
def rI0 (g : Int → Int → V) : R2 := fun x y H Q => ∃ i j, x = .int i ∧ y = .int j ∧ Q (g i j) H
def rU (g : Int → V) : V → Hp → VK → Prop := fun x H Q => ∃ i, x = .int i ∧ Q (g i) H
section
variable {X : Cx} {a b c : Expr} {ta tb tc : TE} {pos : Pos}
theorem binT (ha : PE X a ta) (hb : PE X b tb) {pins : List (Addr × Obj)} {s : Shared} {σ : St} {H : Hp} {R : V → V → Hp → Prop} (I : Inv X pins σ H s)
   (h : ta σ H fun x H1 => tb σ H1 fun y H2 => R x y H2) {Q : Value → Shared → Prop} {f : Value → Value → Sem Value}
   (hf : ∀ v u s2 x y H2, Inv X pins σ H2 s2 → RelV x v → RelV y u → R x y H2 → wpAny (model X.prog X.w) X.A (f v u) Q X.xe s2) :
   wpAny (model X.prog X.w) X.A (eval a X.env) (fun v s₁ => wpAny (model X.prog X.w) X.A (eval b X.env) (fun u s₂ => wpAny (model X.prog X.w) X.A (f v u) Q X.xe s₂) X.xe s₁) X.xe s := by
 refine thn (ha pins s σ H _ I h) fun v s1 ⟨x, H1, I1, r1, q1⟩ => ?_
 refine thn (hb pins s1 σ H1 _ I1 q1) fun u s2 ⟨y, H2, I2, r2, q2⟩ => ?_
 exact hf v u s2 x y H2 I2 r1 r2 q2
theorem zM {op : Operator} {r : R2} (ho : OpR X (binaryOp op) r) (ha : PE X a ta) (hb : PE X b tb) : PE X (.BinOp a op b pos) (tOp r ta tb) := by
 intro pins s σ H Q I h
 exact wpAny_BinOp (binT ha hb I h fun v u s2 x y H2 I2 rx ry q => ho pins s2 σ H2 x y v u Q I2 rx ry q)
theorem pe_un {op : UnaryOp} {r : V → Hp → VK → Prop} (ho : UnR X (unaryOp op) r) (ha : PE X a ta) : PE X (.UnaryOp op a pos) (tUn r ta) := by
 intro pins s σ H Q I h
 exact UnaryOp_ (thn (ha pins s σ H _ I h) fun v s1 ⟨x, H1, I1, r1, q1⟩ => ho pins s1 σ H1 x v Q I1 r1 q1)
theorem opI {f : Value → Value → Sem Value} {C : Int → Int → Prop} {g : Int → Int → Int}
   (rule : ∀ (i j : Int) (t u : Tok) (s : Shared) (Q : Value → Shared → Prop) (E : Value → Shared → Prop), C i j → Q (.int (g i j) s.toks) { s with toks := s.toks + 1 } → wpAny (model X.prog X.w) X.A (f (.int i t) (.int j u)) Q E s) :
   OpR X f (rI C fun i j => .int (g i j)) := by
 intro pins s σ H x y v u Q I rx ry h
 obtain ⟨i, j, rfl, rfl, hc, q⟩ := h
 obtain ⟨t, rfl⟩ := rx
 obtain ⟨t', rfl⟩ := ry
 exact rule i j t t' s _ _ hc ⟨.int (g i j), H, I.tok _, ⟨_, rfl⟩, q⟩
theorem opI0 {f : Value → Value → Sem Value} {g : Int → Int → Int}
   (rule : ∀ (i j : Int) (t u : Tok) (s : Shared) (Q : Value → Shared → Prop) (E : Value → Shared → Prop), Q (.int (g i j) s.toks) { s with toks := s.toks + 1 } → wpAny (model X.prog X.w) X.A (f (.int i t) (.int j u)) Q E s) :
   OpR X f (rI0 fun i j => .int (g i j)) := by
 intro pins s σ H x y v u Q I rx ry h
 obtain ⟨i, j, rfl, rfl, q⟩ := h
 obtain ⟨t, rfl⟩ := rx
 obtain ⟨t', rfl⟩ := ry
 exact rule i j t t' s _ _ ⟨.int (g i j), H, I.tok _, ⟨_, rfl⟩, q⟩
theorem opB0 {f : Value → Value → Sem Value} {g : Int → Int → Bool}
   (rule : ∀ (i j : Int) (t u : Tok) (s : Shared) (Q : Value → Shared → Prop) (E : Value → Shared → Prop), Q (.bool (g i j)) s → wpAny (model X.prog X.w) X.A (f (.int i t) (.int j u)) Q E s) :
   OpR X f (rI0 fun i j => .bl (g i j)) := by
 intro pins s σ H x y v u Q I rx ry h
 obtain ⟨i, j, rfl, rfl, q⟩ := h
 obtain ⟨t, rfl⟩ := rx
 obtain ⟨t', rfl⟩ := ry
 exact rule i j t t' s _ _ ⟨.bl (g i j), H, I, rfl, q⟩
def CDiv (i j : Int) : Prop := 0 < j ∧ j < 1073741824
def CPow (i j : Int) : Prop := 0 ≤ j ∧ j ≤ 1000000 ∧ i.natAbs < 2 ^ 64
def CMul (i j : Int) : Prop := (-(2 ^ 64) < i ∧ i < 2 ^ 64) ∨ (-(2 ^ 64) < j ∧ j < 2 ^ 64)
theorem CMul.ok {i j : Int} (h : CMul i j) : IntMulOk i j := by
 rcases h with ⟨h1, h2⟩ | ⟨h1, h2⟩
 · exact .of_left (intBits_le_64 h1 h2)
 · exact .of_right (intBits_le_64 h1 h2)
theorem op_add : OpR X (binaryOp .Add) (rI0 fun i j => .int (i + j)) := opI0 fun _ _ _ _ _ _ _ q => add_int q
theorem op_sub : OpR X (binaryOp .Sub) (rI0 fun i j => .int (i - j)) := opI0 fun _ _ _ _ _ _ _ q => sub_int q
theorem op_fdiv : OpR X (binaryOp .FloorDiv) (rI CDiv fun i j => .int (i / j)) := opI fun i j _ _ _ _ _ hc q => by
 have h1 : (0 : Int) < j := hc.1
 have h2 : j < 1073741824 := hc.2
 exact floordiv_int (by omega) (by rw [Int.fdiv_eq_ediv_of_nonneg i (by omega)]; exact q) (.inl (PyProof.noPylong_small (by omega)))
theorem xD : OpR X (binaryOp .Mod) (rI (fun _ j => 0 < j) fun i j => .int (i % j)) := opI fun i j _ _ _ _ _ hc q => by
 have h1 : (0 : Int) < j := hc
 exact mod_int' (by omega) (by rw [Int.fmod_eq_emod_of_nonneg i (by omega)]; exact q)
theorem op_pow : OpR X (binaryOp .Pow) (rI CPow fun i j => .int (i ^ j.toNat)) := opI fun _ _ _ _ _ _ _ hc q => pow_int_small hc.1 hc.2.1 hc.2.2 q
theorem unI {f : Value → Sem Value} {g : Int → Int}
   (rule : ∀ (i : Int) (t : Tok) (s : Shared) (Q : Value → Shared → Prop) (E : Value → Shared → Prop), Q (.int (g i) s.toks) { s with toks := s.toks + 1 } → wpAny (model X.prog X.w) X.A (f (.int i t)) Q E s) :
   UnR X f (rU fun i => .int (g i)) := by
 intro pins s σ H x v Q I rx h
 obtain ⟨i, rfl, q⟩ := h
 obtain ⟨t, rfl⟩ := rx
 exact rule i t s _ _ ⟨.int (g i), H, I.tok _, ⟨_, rfl⟩, q⟩
theorem un_neg : UnR X (unaryOp .USub) (rU fun i => .int (-i)) := unI fun _ _ _ _ _ q => neg_int q
end
def scal : V → V → Bool
 | .non, .non => true | .non, .int _ => true | .int _, .non => true | .non, .bl _ => true | .bl _, .non => true | .non, .str _ => true | .str _, .non => true
 | .int _, .int _ => true | .bl _, .bl _ => true | .str _, .str _ => true | .byt _, .byt _ => true
 | .int _, .str _ => true | .str _, .int _ => true | .bl _, .str _ => true | .str _, .bl _ => true
 | _, _ => false
def rEq : R2 := fun x y H Q => scal x y = true ∧ Q (.bl (decide (x = y))) H
def rNe : R2 := fun x y H Q => scal x y = true ∧ Q (.bl (!decide (x = y))) H
theorem dec_int {i j : Int} : decide (V.int i = V.int j) = (i == j) := by
 rw [Bool.eq_iff_iff]
 simp
theorem dec_bl {i j : Bool} : decide (V.bl i = V.bl j) = (i == j) := by
 rw [Bool.eq_iff_iff]
 simp
theorem dec_str {i j : Str} : decide (V.str i = V.str j) = (i == j) := by
 rw [Bool.eq_iff_iff]
 simp
theorem dec_byt {i j : Array UInt8} : decide (V.byt i = V.byt j) = (i.toList == j.toList) := by
 rw [Bool.eq_iff_iff]
 cases i
 cases j
 simp
section
variable {X : Cx} {a b c : Expr} {ta tb tc : TE} {pos : Pos}
theorem yA {pins : List (Addr × Obj)} {σ : St} {H : Hp} {s : Shared} {Q : VK} {k k' : Bool} (I : Inv X pins σ H s) (q : Q (.bl k) H) (e : k = k') : EP X pins σ Q (.bool k') s := by
 subst e
 exact ⟨.bl k, H, I, rfl, q⟩
theorem op_eq : OpR X (compareOp .Eq) rEq := by
 intro pins s σ H x y v u Q I rx ry h
 obtain ⟨hs, q⟩ := h
 cases x with
 | non =>
   cases rx
   cases y with
   | non => cases ry; exact PySem.EqNone.eq_none_none (yA I q (by simp))
   | bl j => cases ry; exact PySem.EqNone.eq_none_bool (yA I q (by simp))
   | int j => obtain ⟨t', rfl⟩ := ry; exact PySem.EqNone.eq_none_int (yA I q (by simp))
   | str j => obtain ⟨t', rfl⟩ := ry; exact PySem.EqNone.eq_none_str (yA I q (by simp))
   | _ => exact absurd (show false = true from hs) Bool.false_ne_true
 | bl i =>
   cases rx
   cases y with
   | non => cases ry; exact PySem.EqNone.eq_bool_none (yA I q (by simp))
   | bl j => cases ry; exact eq_bool (yA I q dec_bl)
   | str j => obtain ⟨t', rfl⟩ := ry; exact PySem.EqMixed.eq_bool_str (yA I q (by simp))
   | _ => exact absurd (show false = true from hs) Bool.false_ne_true
 | int i =>
   obtain ⟨t, rfl⟩ := rx
   cases y with
   | non => cases ry; exact PySem.EqNone.eq_int_none (yA I q (by simp))
   | int j => obtain ⟨t', rfl⟩ := ry; exact eq_int (yA I q dec_int)
   | str j => obtain ⟨t', rfl⟩ := ry; exact PySem.EqMixed.eq_int_str (yA I q (by simp))
   | _ => exact absurd (show false = true from hs) Bool.false_ne_true
 | str i =>
   obtain ⟨t, rfl⟩ := rx
   cases y with
   | non => cases ry; exact PySem.EqNone.eq_str_none (yA I q (by simp))
   | bl j => cases ry; exact PySem.EqMixed.eq_str_bool (yA I q (by simp))
   | int j => obtain ⟨t', rfl⟩ := ry; exact PySem.EqMixed.eq_str_int (yA I q (by simp))
   | str j => obtain ⟨t', rfl⟩ := ry; exact eq_str (yA I q dec_str)
   | _ => exact absurd (show false = true from hs) Bool.false_ne_true
 | byt i =>
   obtain ⟨t, rfl⟩ := rx
   cases y with
   | byt j => obtain ⟨t', rfl⟩ := ry; exact PySem.W.eq_bytes (yA I q dec_byt)
   | _ => exact absurd (show false = true from hs) Bool.false_ne_true
 | _ => cases y <;> exact absurd (show false = true from hs) Bool.false_ne_true
theorem op_ne : OpR X (compareOp .NotEq) rNe := by
 intro pins s σ H x y v u Q I rx ry h
 obtain ⟨hs, q⟩ := h
 cases x with
 | non =>
   cases rx
   cases y with
   | non => cases ry; exact PySem.EqNone.ne_none_none (yA I q (by simp))
   | bl j => cases ry; exact PySem.EqNone.ne_none_bool (yA I q (by simp))
   | int j => obtain ⟨t', rfl⟩ := ry; exact PySem.EqNone.ne_none_int (yA I q (by simp))
   | str j => obtain ⟨t', rfl⟩ := ry; exact PySem.EqNone.ne_none_str (yA I q (by simp))
   | _ => exact absurd (show false = true from hs) Bool.false_ne_true
 | bl i =>
   cases rx
   cases y with
   | non => cases ry; exact PySem.EqNone.ne_bool_none (yA I q (by simp))
   | bl j => cases ry; exact ne_bool (yA I q (congrArg not dec_bl))
   | str j => obtain ⟨t', rfl⟩ := ry; exact PySem.EqMixed.ne_bool_str (yA I q (by simp))
   | _ => exact absurd (show false = true from hs) Bool.false_ne_true
 | int i =>
   obtain ⟨t, rfl⟩ := rx
   cases y with
   | non => cases ry; exact PySem.EqNone.ne_int_none (yA I q (by simp))
   | int j => obtain ⟨t', rfl⟩ := ry; exact ne_int (yA I q (congrArg not dec_int))
   | str j => obtain ⟨t', rfl⟩ := ry; exact PySem.EqMixed.ne_int_str (yA I q (by simp))
   | _ => exact absurd (show false = true from hs) Bool.false_ne_true
 | str i =>
   obtain ⟨t, rfl⟩ := rx
   cases y with
   | non => cases ry; exact PySem.EqNone.ne_str_none (yA I q (by simp))
   | bl j => cases ry; exact PySem.EqMixed.ne_str_bool (yA I q (by simp))
   | int j => obtain ⟨t', rfl⟩ := ry; exact PySem.EqMixed.ne_str_int (yA I q (by simp))
   | str j => obtain ⟨t', rfl⟩ := ry; exact ne_str (yA I q (congrArg not dec_str))
   | _ => exact absurd (show false = true from hs) Bool.false_ne_true
 | byt i =>
   obtain ⟨t, rfl⟩ := rx
   cases y with
   | byt j => obtain ⟨t', rfl⟩ := ry; exact PySem.W.ne_bytes (yA I q (congrArg not dec_byt))
   | _ => exact absurd (show false = true from hs) Bool.false_ne_true
 | _ => cases y <;> exact absurd (show false = true from hs) Bool.false_ne_true
theorem op_lt : OpR X (compareOp .Lt) (rI0 fun i j => .bl (decide (i < j))) := opB0 fun _ _ _ _ _ _ _ q => lt_int q
theorem op_le : OpR X (compareOp .LtE) (rI0 fun i j => .bl (decide (i ≤ j))) := opB0 fun _ _ _ _ _ _ _ q => le_int q
theorem op_gt : OpR X (compareOp .Gt) (rI0 fun i j => .bl (decide (j < i))) := opB0 fun _ _ _ _ _ _ _ q => gt_int q
theorem op_in_str : OpR X (compareOp .In) (fun x y H Q => ∃ i j, x = .str i ∧ y = .str j ∧ Q (.bl (!(Builtin.Str.occurrences j i 0 j.length 1).isEmpty)) H) := by
 intro pins s σ H x y v u Q I rx ry h
 obtain ⟨i, j, rfl, rfl, q⟩ := h
 obtain ⟨t, rfl⟩ := rx
 obtain ⟨t', rfl⟩ := ry
 exact in_str (yA I q rfl)
theorem op_isN : OpR X (compareOp .Is) (fun x y H Q => y = .non ∧ Q (.bl (decide (x = .non))) H) := by
 intro pins s σ H x y v u Q I rx ry h
 obtain ⟨rfl, q⟩ := h
 cases ry
 refine is_none_gen (yA I q ?_)
 cases x <;> first
   | (cases rx; rfl)
   | (obtain ⟨t, rfl⟩ := rx; rfl)
theorem op_notN : OpR X (compareOp .IsNot) (fun x y H Q => y = .non ∧ Q (.bl (!decide (x = .non))) H) := by
 intro pins s σ H x y v u Q I rx ry h
 obtain ⟨rfl, q⟩ := h
 cases ry
 refine isnot_none_gen (yA I q ?_)
 cases x <;> first
   | (cases rx; rfl)
   | (obtain ⟨t, rfl⟩ := rx; rfl)
theorem zX (b : Expr) {op : CmpOp} (h : op ≠ .In := by decide) (h2 : op ≠ .NotIn := by decide) : behindInMarks op b = false := by
 have e1 : (op == CmpOp.In) = false := by cases op <;> first | rfl | exact absurd rfl h
 have e2 : (op == CmpOp.NotIn) = false := by cases op <;> first | rfl | exact absurd rfl h2
 cases b <;> simp [behindInMarks, e1, e2]
theorem pe_cmpR {op : CmpOp} {r : R2} (ho : OpR X (compareOp op) r) (ha : PE X a ta) (hb : PE X b tb) (hm : behindInMarks op b = false) : PE X (.Compare a [op] [b] pos) (tOp r ta tb) := by
 intro pins s σ H Q I h
 exact wpAny_Compare1 (binT ha hb I h fun v u s2 x y H2 I2 rx ry q => ho pins s2 σ H2 x y v u Q I2 rx ry q) hm
def tTest (t : TE) : TT := fun σ H Q => t σ H fun x H' => ∃ k, x = .bl k ∧ Q k H'
theorem zR {op : CmpOp} {r : R2} (ho : OpR X (compareOp op) r) (ha : PE X a ta) (hb : PE X b tb) (hm : behindInMarks op b = false) : PT X (.Compare a [op] [b] pos) (tTest (tOp r ta tb)) := by
 intro pins s σ H Q I h
 refine wpAny_isTrue_Compare1 (thn (ha pins s σ H _ I h) fun v s1 ⟨x, H1, I1, r1, q1⟩ => thn (hb pins s1 σ H1 _ I1 q1) fun u s2 ⟨y, H2, I2, r2, q2⟩ =>
   thn (ho pins s2 σ H2 x y v u _ I2 r1 r2 q2) fun c s3 ⟨z, H3, I3, r3, k, e, q3⟩ => ?_) hm
 subst e
 cases r3
 exact wpAny_truthy_bool ⟨H3, I3, q3⟩
def tChain (r r' : R2) (ta tb tc : TE) : TE := fun σ H Q => ta σ H fun x H1 => tb σ H1 fun y H2 => r x y H2 fun z H3 => ∃ k, z = .bl k ∧
 (if k = true then tc σ H3 fun w' H4 => r' y w' H4 Q else Q (.bl false) H3)
theorem pe_chain {op op' : CmpOp} {r r' : R2} (ho : OpR X (compareOp op) r) (ho' : OpR X (compareOp op') r') (ha : PE X a ta) (hb : PE X b tb) (hc : PE X c tc)
   (hm : lastMarks [op, op'] [b, c] = false := by with_unfolding_all rfl) : PE X (.Compare a [op, op'] [b, c] pos) (tChain r r' ta tb tc) := by
 intro pins s σ H Q I h
 refine Compare_chain (thn (ha pins s σ H _ I h) fun v s1 ⟨x, H1, I1, r1, q1⟩ => chain_link (thn (hb pins s1 σ H1 _ I1 q1) fun u s2 ⟨y, H2, I2, r2, q2⟩ =>
   thn (ho pins s2 σ H2 x y v u _ I2 r1 r2 q2) fun d s3 ⟨z, H3, I3, r3, k, e, q3⟩ => ?_)) hm
 subst e
 cases r3
 refine wpAny_truthy_bool ?_
 cases k with
 | false => exact ite_ff ⟨.bl false, H3, I3, rfl, q3⟩
 | true => exact ite_tt (chain_last (thn (hc pins s3 σ H3 _ I3 q3) fun w' s4 ⟨z', H4, I4, r4, q4⟩ => ho' pins s4 σ H4 y z' u w' Q I4 r2 r4 q4))
theorem line63 : (sizeLine : Nat) < 2 ^ 63 := by rw [sizeLine_eq]; decide
theorem yN : OpR X (binaryOp .Add) (fun x y H Q => ∃ i j, x = .str i ∧ y = .str j ∧ i.length + j.length ≤ sizeLine ∧ Q (.str (i ++ j)) H) := by
 intro pins s σ H x y v u Q I rx ry h
 obtain ⟨i, j, rfl, rfl, hz, q⟩ := h
 obtain ⟨t, rfl⟩ := rx
 obtain ⟨t', rfl⟩ := ry
 exact add_str (fun t' tk => ⟨.str (i ++ j), H, I.tok _, ⟨_, rfl⟩, q⟩) hz
theorem vals1 {x : V} {us : List Value} (r : Vals [x] us) : ∃ u, us = [u] ∧ RelV x u := by
 cases r with
 | cons r1 r2 => cases r2; exact ⟨_, rfl, r1⟩
theorem vals2 {x y : V} {us : List Value} (r : Vals [x, y] us) : ∃ u w', us = [u, w'] ∧ RelV x u ∧ RelV y w' := by
 cases r with
 | cons r1 r2 =>
   cases r2 with
   | cons r3 r4 => cases r4; exact ⟨_, _, rfl, r1, r3⟩
theorem call_str_int : CallR X (.type "str") (fun xs H Q => ∃ i, xs = [.int i] ∧ i.natAbs.log2 < 1920 ∧ Q (.str (toString i)) H) := by
 intro pins s σ H xs us Q I r h
 obtain ⟨i, rfl, hz, q⟩ := h
 obtain ⟨u, rfl, t, rfl⟩ := vals1 r
 exact PySem.P.str_of_int hz ⟨.str _, H, I.tok _, ⟨_, rfl⟩, q⟩
end
end L2
namespace L2
open PySem PySem.Spec PyProof.Rows
structure ObjM (h : Heap) (x dx C : Addr) (mA : Str → Option Value) : Prop where
 obj : h.get? x = some (PySem.W.instObj C dx)
 ns : h.Ns1 dx mA
 ne : dx ≠ x
theorem lookIn_ns {h : Heap} {dx : Addr} {mA : Str → Option Value} (n : h.Ns1 dx mA) : ∃ od, h.get? dx = some od ∧ ∀ name, PySem.W.lookIn name od = some (mA name) := by
 obtain ⟨o, es, ep, ho, hd, hk, _, hm⟩ := n
 refine ⟨o, ho, fun name => ?_⟩
 have e := hm name
 unfold nsFind findBy at e
 rw [← Array.find?_toList] at e
 unfold PySem.W.lookIn
 rw [hd]
 dsimp only
 split
 · rename_i y q
   rw [q] at e
   exact congrArg some e
 · rename_i q
   rw [q] at e
   have a : es.toList.any (·.refKey) = false := by
     rw [List.any_eq_false]
     intro y hy
     obtain ⟨z, t, hkey⟩ := hk y (Array.mem_toList_iff.mp hy)
     simp [DictEntry.refKey, hkey]
   have a' : ¬ es.toList.any (·.refKey) = true := by rw [a]; exact Bool.false_ne_true
   rw [if_neg a']
   exact congrArg some e
theorem ObjM.look {h : Heap} {x dx C : Addr} {mA : Str → Option Value} (I : ObjM h x dx C mA) : ∃ od, PySem.W.InstAt h x (PySem.W.instObj C dx) C (some od) ∧ ∀ name, PySem.W.lookIn name od = some (mA name) :=
 let ⟨od, ho, hl⟩ := lookIn_ns I.ns
 ⟨od, ⟨I.obj, rfl, rfl, ho⟩, hl⟩
section
variable {prog : Program} {w : World} {A : Around} {E : Value → Shared → Prop} {s : Shared} {K : PySem.W.Frag} {x dx C f : Addr} {mA : Str → Option Value} {name : Str} {v : Value}
theorem get_map {expr : Bool} {Q : Value → Shared → Prop} (X : K.In s.heap) (I : ObjM s.heap x dx C mA) (hg : PySem.W.plainGet K C name = true) (hh : PySem.W.hasDictIn K C = true)
   (ha : PySem.W.findIn K (.ref C) name = some none) (hv : mA name = some v) (hv' : PySem.W.handedIn v = true) (h : Q v { s with toks := s.toks + 1 }) :
   wpAny (model prog w) A (getAttr (.ref x) name expr) Q E s := by
 obtain ⟨od, J, hl⟩ := I.look
 exact PySem.W.get_value X J (PySem.W.plainGet_of hg).1 (PySem.W.findObj_own hh ha rfl (by rw [hl, hv])) hv' h
theorem get_meth {pl : Sem Bool} {Q : Value × List Value → Shared → Prop} (X : K.In s.heap) (I : ObjM s.heap x dx C mA) (hg : PySem.W.plainGet K C name = true)
   (hf : PySem.W.findIn K (.ref C) name = some (some (.ref f))) (ht : PySem.W.isFn K (.ref f) = true) (hv : mA name = none) (h : Q (.ref f, [.ref x]) s) :
   wpAny (model prog w) A (getMethod (.ref x) name pl) Q E s := by
 obtain ⟨od, J, hl⟩ := I.look
 exact PySem.W.method_fn X J (PySem.W.plainGet_of hg).1 (PySem.W.plainGet_of hg).2 hf (beq_iff_eq.mp ht) (by show (PySem.W.lookIn name od).map (·.isSome) = some false; rw [hl, hv]; rfl) h
theorem set_map {ns : List Str} {Q : Unit → Shared → Prop} (X : K.In s.heap) (I : ObjM s.heap x dx C mA)
   (hs : PySem.W.findIn K (.ref C) "__setattr__" = some (some (.builtin "object.__setattr__"))) (hp : PySem.W.plainOver K C = true) (ht : PySem.W.takerIn K C name = some none) (hh : PySem.W.hasDictIn K C = true)
   (hw : PySem.Within mA ns) (hsz : ns.length ≤ sizeLine)
   (h : ∀ h', ObjM h' x dx C (fun y => if y = name then some v else mA y) → Heap.SameBut dx s.heap h' → Q () { s with heap := h', toks := s.toks + 2 }) :
   wpAny (model prog w) A (setAttr (.ref x) name v) Q E s := by
 obtain ⟨od, J, hl⟩ := I.look
 refine PySem.W.set_plain X J hs (PySem.W.osa_open (s := { s with toks := s.toks + 1 }) (r := none) X J hp ht fun b => ?_)
 obtain ⟨cd, hc, hd'⟩ := PySem.W.any_some hh
 have hx : s.heap.get? x = some ⟨.ref C, some dx, .plain, #[]⟩ := I.obj
 refine wpAny_bind (wpAny_pure (wpAny_bind (wpAny_bind (wpAny_loadPart hx (wpAny_bind (PySem.W.Looks.here (s := { s with toks := s.toks + 1 }) (PySem.W.looks_clsIn X hc) ?_))))))
 rw [hd']
 refine wpAny_pure (a := some dx) (wpAny_bind (wpAny_pure (wpAny_bind ?_)))
 refine wpAny_nsSet1 (s := { s with toks := s.toks + 1 }) I.ns fun h' hn2 hs2 => ?_
 obtain ⟨oD, esD, epD, hoD, hdD, hcD⟩ := hn2.count (PySem.Within.cons name v hw)
 refine wpAny_bind (wpAny_lookBehind hoD (by rw [hdD]; exact pastItsLine_dict (Nat.le_trans hcD (by rw [List.length_cons]; omega))) ?_)
 exact wpAny_pure (h _ ⟨(hs2.2 _ (Ne.symm I.ne)).trans I.obj, hn2, I.ne⟩ hs2)
theorem make_map {R : Result → Shared → Prop} {vs : List Value} {kw : List (Str × Value)} (X : K.In s.heap) (hm : PySem.W.makesIn K C = true)
   (hi : PySem.W.findIn K (.ref C) "__init__" = some (some (.ref f))) (hf : PySem.W.typeIn K (.ref f) = some (.type "function"))
   (h : codeAny (model prog w) (A.under (.builtin "type.__call__" ⟨.ref C :: vs, kw⟩)) (.call (.ref f) ⟨.ref (s.heap.objs.size + 1) :: vs, kw⟩) (PySem.W.InitBack (s.heap.objs.size + 1) R)
     { s with heap := (s.heap.push PySem.W.emptyDict).push (PySem.W.instObj C s.heap.objs.size) }) :
   codeAny (model prog w) A (.call (.ref C) ⟨vs, kw⟩) R s := by
 obtain ⟨hh, g, d, t, os⟩ := s
 exact PySem.W.make_core (PySem.W.makes_of X hm) (PySem.W.looks_findIn X hi) (fun self => PySem.W.bind_fn X self hf) (.inl rfl) h
end
def putF (f : Str) (v : V) : List (Str × V) → List (Str × V)
 | [] => [(f, v)]
 | (g, x) :: r => if g = f then (g, v) :: r else (g, x) :: putF f v r
theorem lookup_putF (f g : Str) (v : V) : ∀ fs : List (Str × V), (putF f v fs).lookup g = if g = f then some v else fs.lookup g
 | [] => by
   show List.lookup g [(f, v)] = _
   by_cases h : g = f
   · have hb : (g == f) = true := beq_iff_eq.mpr h
     simp only [List.lookup, hb, if_pos h]
   · have hb : (g == f) = false := beq_eq_false_iff_ne.mpr h
     simp only [List.lookup, hb, if_neg h]
 | (k, x) :: r => by
   have ih := lookup_putF f g v r
   rw [show putF f v ((k, x) :: r) = (if k = f then (k, v) :: r else (k, x) :: putF f v r) from rfl]
   by_cases hk : k = f
   · rw [if_pos hk]
     by_cases h : g = k
     · have hb : (g == k) = true := beq_iff_eq.mpr h
       simp only [List.lookup, hb, if_pos (h.trans hk)]
     · have hb : (g == k) = false := beq_eq_false_iff_ne.mpr h
       simp only [List.lookup, hb, if_neg (fun e : g = f => h (e.trans hk.symm))]
   · rw [if_neg hk]
     by_cases h : g = k
     · have hb : (g == k) = true := beq_iff_eq.mpr h
       simp only [List.lookup, hb, if_neg (fun e : g = f => hk (h.symm.trans e))]
     · have hb : (g == k) = false := beq_eq_false_iff_ne.mpr h
       simp only [List.lookup, hb]
       exact ih
theorem keys_putF (f : Str) (v : V) : ∀ fs : List (Str × V), f ∈ (putF f v fs).map (·.1) ∧ ∀ g, g ∈ fs.map (·.1) → g ∈ (putF f v fs).map (·.1)
 | [] => ⟨by simp [putF], fun g h => by simp at h⟩
 | (k, x) :: r => by
   obtain ⟨i1, i2⟩ := keys_putF f v r
   rw [show putF f v ((k, x) :: r) = (if k = f then (k, v) :: r else (k, x) :: putF f v r) from rfl]
   by_cases hk : k = f
   · rw [if_pos hk]
     subst hk
     exact ⟨by simp, fun g h => by simpa using h⟩
   · rw [if_neg hk]
     refine ⟨?_, fun g h => ?_⟩
     · rw [List.map_cons]
       exact List.mem_cons_of_mem _ i1
     · rw [List.map_cons] at h ⊢
       rcases List.mem_cons.mp h with e | e
       · exact List.mem_cons.mpr (.inl e)
       · exact List.mem_cons_of_mem _ (i2 g e)
theorem length_putF (f : Str) (v : V) : ∀ fs : List (Str × V), (putF f v fs).length ≤ fs.length + 1
 | [] => by simp [putF]
 | (k, x) :: r => by
   have ih := length_putF f v r
   rw [show putF f v ((k, x) :: r) = (if k = f then (k, v) :: r else (k, x) :: putF f v r) from rfl]
   by_cases hk : k = f
   · rw [if_pos hk, List.length_cons, List.length_cons]; omega
   · rw [if_neg hk, List.length_cons, List.length_cons]; omega
theorem RelO.some_of {v : V} {o : Option Value} (r : RelO (some v) o) : ∃ u, o = some u ∧ RelV v u := by
 cases o with
 | none => exact (show False from r).elim
 | some u => exact ⟨u, rfl, r⟩
theorem RelO.none_of {o : Option Value} (r : RelO none o) : o = none := by
 cases o with
 | none => rfl
 | some u => exact (show False from r).elim
theorem handed_of {v : V} {u : Value} (r : RelV v u) : PySem.W.handedIn u = true := by
 cases v with
 | non => cases (show u = Value.none from r); rfl
 | bl b => cases (show u = Value.bool b from r); rfl
 | int i => obtain ⟨t, e⟩ := (show ∃ t, u = Value.int i t from r); cases e; rfl
 | str x => obtain ⟨t, e⟩ := (show ∃ t, u = Value.str x t from r); cases e; rfl
 | byt b => obtain ⟨t, e⟩ := (show ∃ t, u = Value.bytes b t from r); cases e; rfl
 | flt b => obtain ⟨t, e⟩ := (show ∃ t, u = Value.float b t from r); cases e; rfl
 | ref a => cases (show u = Value.ref a from r); rfl
 | ty n => cases (show u = Value.type n from r); rfl
section
variable {P : Program} {w : World} {H H' : Hp} {h h' : Heap} {a C dx : Addr} {fs fs' : List (Str × V)}
theorem ins_get (hok : HOk P w H h) (e : H a = some (.ins C dx fs)) : ∃ mA, ObjM h a dx C mA ∧ (∀ f, RelO (fs.lookup f) (mA f)) ∧ PySem.Within mA (fs.map (·.1)) ∧ fs.length ≤ 1000 ∧ H dx = some (.own a) := by
 obtain ⟨d, z, ne, ob, mA, n, r, q⟩ := (show ObjOk P w H h a (.ins C dx fs) from hok a _ e)
 exact ⟨mA, ⟨ob, n, ne⟩, r, q, z, d⟩
end
structure Cls (K : PySem.W.Frag) (C : Addr) : Prop where
 pg : PySem.W.plainGet K C Str.empty = true
 hd : PySem.W.hasDictIn K C = true
 po : PySem.W.plainOver K C = true
 sa : PySem.W.findIn K (.ref C) "__setattr__" = some (some (.builtin "object.__setattr__"))
theorem Cls.get {K : PySem.W.Frag} {C : Addr} (c : Cls K C) (f : Str) : PySem.W.plainGet K C f = true := c.pg
def NoAttr (K : PySem.W.Frag) (C : Addr) (f : Str) : Prop := PySem.W.findIn K (.ref C) f = some none
theorem NoAttr.taker {K : PySem.W.Frag} {C : Addr} {f : Str} (n : NoAttr K C f) : PySem.W.takerIn K C f = some none := by
 unfold PySem.W.takerIn
 rw [show PySem.W.findIn K (.ref C) f = some none from n]
 rfl
structure Con (K : PySem.W.Frag) (C : Addr) (f : Str) (v : V) (u : Value) : Prop where
 at_ : PySem.W.findIn K (.ref C) f = some (some u)
 rel : RelV v u
 get : PySem.W.specialIn K u "__get__" = some none
 cp : PySem.W.copiedNames.contains f = false
structure Meth (K : PySem.W.Frag) (C : Addr) (m : Str) (f : Addr) : Prop where
 at_ : PySem.W.findIn K (.ref C) m = some (some (.ref f))
 fn : PySem.W.isFn K (.ref f) = true
 kp : PySem.W.keepIn K (.ref f) = true
section
variable {X : Cx} {pins : List (Addr × Obj)} {σ : St} {H : Hp} {s : Shared} {a C dx : Addr} {fs : List (Str × V)} {f : Str} {v : V} {A : Around} {E : Value → Shared → Prop}
theorem getattr_ok {b : Bool} {Q : Value → Shared → Prop} (I : Inv X pins σ H s) (e : H a = some (.ins C dx fs)) (c : Cls X.K C) (n : NoAttr X.K C f) (l : fs.lookup f = some v)
   (h : ∀ u s', Inv X pins σ H s' → RelV v u → Q u s') : wpAny (model X.prog X.w) A (getAttr (.ref a) f b) Q E s := by
 obtain ⟨mA, O, r, _, _, _⟩ := ins_get I.hok e
 obtain ⟨u, hu, ru⟩ := RelO.some_of (v := v) (o := mA f) (by rw [← l]; exact r f)
 exact get_map I.kIn O (c.get f) c.hd n hu (handed_of ru) (h u _ (I.tok _) ru)
theorem getmeth_ok {m : Str} {g : Addr} {pl : Sem Bool} {Q : Value × List Value → Shared → Prop} (I : Inv X pins σ H s) (e : H a = some (.ins C dx fs)) (c : Cls X.K C) (k : Meth X.K C m g) (l : fs.lookup m = none)
   (h : Q (.ref g, [.ref a]) s) : wpAny (model X.prog X.w) A (getMethod (.ref a) m pl) Q E s := by
 obtain ⟨mA, O, r, _, _, _⟩ := ins_get I.hok e
 have hn : mA m = none := RelO.none_of (by rw [← l]; exact r m)
 exact get_meth I.kIn O (c.get m) k.at_ k.fn hn h
theorem setattr_ok {y : V} {u : Value} {Q : Unit → Shared → Prop} (I : Inv X pins σ H s) (e : H a = some (.ins C dx fs)) (c : Cls X.K C) (n : NoAttr X.K C f) (hl : fs.length < 1000) (ry : RelV y u)
   (h : ∀ s', Inv X pins σ (upd H a (.ins C dx (putF f y fs))) s' → Q () s') : wpAny (model X.prog X.w) A (setAttr (.ref a) f u) Q E s := by
 obtain ⟨mA, O, r, wi, _, ho⟩ := ins_get I.hok e
 have hz : (fs.map (·.1)).length ≤ sizeLine := by rw [List.length_map, sizeLine_eq]; omega
 refine set_map I.kIn O c.sa c.po n.taker c.hd wi hz fun h' O' sb => h _ ?_
 have hd : ∃ o, h'.get? dx = some o := let ⟨o, _, _, e', _⟩ := O'.ns; ⟨o, e'⟩
 refine I.write (x := a) (e := dx) (by rw [e]; exact True.intro) (.inr ho) (fun b q hb z => (sb.2 b hb).trans z) hd ?_
 refine ⟨by rw [zI O.ne]; exact ho, ?_, O.ne, O'.obj, _, O'.ns, fun g => ?_, fun g hg => ?_⟩
 · have := length_putF f y fs; omega
 · show RelO ((putF f y fs).lookup g) (if g = f then some u else mA g)
   rw [lookup_putF]
   by_cases q : g = f
   · rw [if_pos q, if_pos q]; exact ry
   · rw [if_neg q, if_neg q]; exact r g
 · by_cases q : g = f
   · rw [q]; exact (keys_putF f y fs).1
   · refine (keys_putF f y fs).2 g (wi g fun z => hg ?_)
     show (if g = f then some u else mA g) = none
     rw [if_neg q]; exact z
theorem Inv.made (I : Inv X pins σ H s) : Inv X pins σ (upd (upd H s.heap.objs.size (.own (s.heap.objs.size + 1))) (s.heap.objs.size + 1) (.ins C s.heap.objs.size []))
   { s with heap := (s.heap.push PySem.W.emptyDict).push (PySem.W.instObj C s.heap.objs.size) } := by
 have e1 : (s.heap.push PySem.W.emptyDict).get? s.heap.objs.size = some PySem.W.emptyDict := Heap.get?_push_size s.heap rfl
 have e2 : ((s.heap.push PySem.W.emptyDict).push (PySem.W.instObj C s.heap.objs.size)).get? (s.heap.objs.size + 1) = some (PySem.W.instObj C s.heap.objs.size) := by
   have := Heap.get?_push_size (s.heap.push PySem.W.emptyDict) (o := PySem.W.instObj C s.heap.objs.size) rfl
   rwa [Heap.size_push] at this
 have e3 : (s.heap.push PySem.W.emptyDict).Ns s.heap.objs.size (fun _ => none) := ⟨PySem.W.emptyDict, #[], _, e1, rfl, (fun e he => absurd he (by simp)), fun _ => rfl⟩
 have I1 := I.laid (a := s.heap.objs.size) (o := .own (s.heap.objs.size + 1)) (h' := s.heap.push PySem.W.emptyDict) (t' := s.toks) (fun b u q => Heap.get?_push_of_some _ q) (Nat.le_refl _) ⟨_, e1⟩
 refine I1.laid (a := s.heap.objs.size + 1) (o := .ins C s.heap.objs.size []) (t' := s.toks) (fun b u q => Heap.get?_push_of_some _ q) (Nat.le_of_eq (Heap.size_push _ _)) ?_
 have ne : s.heap.objs.size ≠ s.heap.objs.size + 1 := Nat.ne_of_lt (Nat.lt_succ_self _)
 refine ⟨by rw [zI ne, zB], Nat.zero_le _, ne, e2, fun _ => none, (Heap.Ns1.of_empty e3).at fun o q => Heap.get?_push_of_some _ q, fun _ => True.intro, fun y hy => absurd rfl hy⟩
theorem attr_of {prog : Program} {w : World} {env : Env} {e : Expr} {f : Str} {pos : Pos} {s : Shared} {Q : Value → Shared → Prop} (hb : attributeBase e f env (eval e env) = eval e env)
   (h : wpAny (model prog w) A (eval e env) (fun o s₁ => wpAny (model prog w) A (getAttr o f true) Q E s₁) E s) : wpAny (model prog w) A (eval (.Attribute e f pos) env) Q E s :=
 Attribute_any_ h (by rw [arm_eval_Attribute, hb])
end
def tFld (K : PySem.W.Frag) (ta : TE) (f : Str) : TE := fun σ H Q => ta σ H fun x H1 => ∃ a C dx fs v, x = .ref a ∧ H1 a = some (.ins C dx fs) ∧ Cls K C ∧ NoAttr K C f ∧ fs.lookup f = some v ∧ Q v H1
def sFld (K : PySem.W.Frag) (ta tv : TE) (f : Str) : TS := fun D σ H => tv σ H fun y H1 => ta σ H1 fun x H2 => ∃ a C dx fs, x = .ref a ∧ H2 a = some (.ins C dx fs) ∧ Cls K C ∧ NoAttr K C f ∧ fs.length < 1000 ∧
 D.nx σ (upd H2 a (.ins C dx (putF f y fs)))
def InOp (X : Cx) (op : Operator) (rd : V → V → Hp → VK → Prop) : Prop :=
 ∀ (pins : List (Addr × Obj)) (s : Shared) (σ : St) (H : Hp) (x y : V) (u v : Value) (Q : VK), Inv X pins σ H s → RelV x u → RelV y v → rd x y H Q → wpAny (model X.prog X.w) X.A (inplaceOp op u v) (EP X pins σ Q) X.xe s
section
variable {X : Cx} {o e value : Expr} {f : Str} {pos pos' tpos : Pos} {ta tv : TE}
theorem zY (he : PE X e ta) (hb : attributeBase e f X.env (eval e X.env) = eval e X.env) : PE X (.Attribute e f pos) (tFld X.K ta f) := by
 intro pins s σ H Q I h
 refine attr_of hb (thn (he pins s σ H _ I h) fun u s1 ⟨x, H1, I1, rx, a, C, dx, fs, v, ex, ea, c, n, l, q⟩ => ?_)
 subst ex
 obtain rfl : u = Value.ref a := rx
 exact getattr_ok I1 ea c n l fun u' s2 I2 ru => ⟨v, H1, I2, ru, q⟩
theorem yO (ha : PE X o ta) (hv : PE X value tv) (hs : swapsWith value (some (.Attribute o f pos')) pos.line X.env = pure false) : PS X (.Assign [.Attribute o f pos'] value pos) (sFld X.K ta tv f) := by
 intro pins s σ H D I h
 refine plainObj_wpAny_Assign_Attribute (thn (hv pins s σ H _ I h) fun u s1 ⟨y, H1, I1, ry, q⟩ => thn (ha pins s1 σ H1 _ I1 q) fun ov s2 ⟨x, H2, I2, rx, a, C, dx, fs, ex, ea, c, n, l, q2⟩ => ?_) hs
 subst ex
 obtain rfl : ov = Value.ref a := rx
 exact setattr_ok I2 ea c n l ry fun s3 I3 => ⟨σ, _, I3, q2⟩
def rAdd : V → V → Hp → VK → Prop := fun x y H Q => ∃ i j, x = .int i ∧ y = .int j ∧ Q (.int (i + j)) H
theorem in_add : InOp X .Add rAdd := by
 rintro pins s σ H x y u v Q I rx ry ⟨i, j, rfl, rfl, q⟩
 obtain ⟨t, rfl⟩ := (show ∃ t, u = Value.int i t from rx)
 obtain ⟨t', rfl⟩ := (show ∃ t', v = Value.int j t' from ry)
 exact PyProof.Rows.iadd_int ⟨.int (i + j), H, I.tok _, ⟨_, rfl⟩, q⟩
end
section
variable {X : Cx} {pins : List (Addr × Obj)} {σ : St} {H : Hp} {s : Shared} {A : Around} {E : Value → Shared → Prop} {Q : Value → Shared → Prop} {c : Value} {b : Bool}
inductive TyOf (K : PySem.W.Frag) (H : Hp) : V → Value → Prop where
 | non : TyOf K H .non (.type "NoneType")
 | bl (x : Bool) : TyOf K H (.bl x) (.type "bool")
 | int (i : Int) : TyOf K H (.int i) (.type "int")
 | str (x : Str) : TyOf K H (.str x) (.type "str")
 | flt (x : UInt64) : TyOf K H (.flt x) (.type "float")
 | lst {a : Addr} {xs : List V} (e : H a = some (.lst xs)) : TyOf K H (.ref a) (.type "list")
 | frz {a : Addr} {o : Obj} {xs : List V} (e : H a = some (.frz o (.lst xs))) : TyOf K H (.ref a) (.type "list")
 | tup {a : Addr} {xs : List V} (e : H a = some (.tup xs)) : TyOf K H (.ref a) (.type "tuple")
 | dK {a : Addr} {kvs : List (Key × V)} (e : H a = some (.dK kvs)) : TyOf K H (.ref a) (.type "dict")
 | dT {a : Addr} {kvs : List (List Key × V)} (e : H a = some (.dT kvs)) : TyOf K H (.ref a) (.type "dict")
 | ins {a C dx : Addr} {fs : List (Str × V)} (e : H a = some (.ins C dx fs)) (cl : Cls K C) (ha : PySem.W.findIn K (.ref C) "__class__" = some (some (.builtin "object.__class__")))
     (hn : PySem.W.specialIn K (.builtin "object.__class__") "__get__" = some (some (.builtin "getset_descriptor.__get__"))) (htk : PySem.W.takesIn K (.builtin "object.__class__") = some true)
     (hm : PySem.W.mroIn K C (.type "object") = some true) : TyOf K H (.ref a) (.ref C)
end
end L2
namespace L2
open PySem PySem.Spec PyProof.Rows
structure Room (k : Nat) (A : Around) : Prop where
 hd : A.handled = none
 dp : A.depth + 3 * k + 5 < recursionLimit
 un : A.units + 16 * k + 200 < cLine
theorem Room.mono {j k : Nat} {A : Around} (r : Room k A) (h : j ≤ k) : Room j A := ⟨r.hd, by have := r.dp; omega, by have := r.un; omega⟩
theorem Room.deeper {k : Nat} {A : Around} (r : Room (k + 1) A) (env : Env) : Room k (A.deeper env) :=
 ⟨r.hd, by have := r.dp; show A.depth + 1 + 3 * k + 5 < _; omega, by have := r.un; show A.units + 3 + 16 * k + 200 < _; omega⟩
theorem Room.in1 {k : Nat} {A : Around} (r : Room (k + 1) A) : Room k A.in1 :=
 ⟨r.hd, by have := r.dp; show A.depth + 3 * k + 5 < _; omega, by have := r.un; show A.units + 1 + 16 * k + 200 < _; omega⟩
theorem make_depth {A : Around} {C : Addr} {us : List Value} {kw : List (Str × Value)} : (A.under (.builtin "type.__call__" ⟨.ref C :: us, kw⟩)).depth = A.depth + 1 := by
 first | rfl | simp [Around.under, Code.weight, Code.isCreation, Code.isGuard, Code.isCaller, Code.frames, Code.isFrame, guardIds]
theorem make_units {A : Around} {C : Addr} {us : List Value} {kw : List (Str × Value)} : (A.under (.builtin "type.__call__" ⟨.ref C :: us, kw⟩)).units = A.units + 1 := by
 first | rfl | simp [Around.under, Code.cUnits, Code.frames, Code.isFrame]
theorem Room.make {k : Nat} {A : Around} (r : Room (k + 1) A) (C : Addr) (us : List Value) (kw : List (Str × Value)) : Room k (A.under (.builtin "type.__call__" ⟨.ref C :: us, kw⟩)) :=
 ⟨r.hd, by have := r.dp; rw [make_depth]; omega, by have := r.un; rw [make_units]; omega⟩
theorem Room.depth {k : Nat} {A : Around} (r : Room k A) : A.depth < recursionLimit := by have := r.dp; omega
theorem Room.units {k : Nat} {A : Around} (r : Room k A) : A.units + 64 < cLine := by have := r.un; omega
def tNil : TA := fun _ H Q => Q [] H
def tCons (ta : TE) (tr : TA) : TA := fun σ H Q => ta σ H fun x H1 => tr σ H1 fun xs H2 => Q (x :: xs) H2
section
variable {X : Cx} {e : Expr} {es : List Expr} {te : TE} {t : TA} {pos : Pos}
theorem zD : PA X [] tNil := fun _ _ _ _ H Q I h => Calls.spliced_nil ⟨[], H, I, .nil, h⟩
theorem zA (ha : PE X e te) (hr : PA X es t) (hs : starEach (e :: es) X.env = (false, eval e X.env) :: starEach es X.env := by rfl) : PA X (e :: es) (tCons te t) := by
 intro pos pins s σ H Q I h
 rw [hs]
 show wpAny _ _ (spliced ((false, eval e X.env) :: backTo pos (starEach es X.env))) _ _ s
 refine Calls.spliced_cons (thn (ha pins s σ H _ I h) fun u s1 ⟨x, H1, I1, r1, q1⟩ => ?_)
 exact thn (hr pos pins s1 σ H1 _ I1 q1) fun us s2 ⟨xs, H2, I2, r2, q2⟩ => ⟨x :: xs, H2, I2, .cons r1 r2, q2⟩
def tTup (t : TA) : TE := fun σ H Q => t σ H fun xs H1 => xs.length ≤ sizeLine ∧ ∀ p, H1 p = none → Q (.ref p) (upd H1 p (.tup xs))
def tLst (t : TA) : TE := fun σ H Q => t σ H fun xs H1 => xs.length ≤ sizeLine ∧ ∀ p, H1 p = none → Q (.ref p) (upd H1 p (.lst xs))
theorem yQ {x1} (h : PA X es t) : PE X (.Tuple es x1 pos) (tTup t) := by
 intro pins s σ H Q I hq
 refine wpAny_Tuple_spliced (thn (h pos pins s σ H _ I hq) fun us s1 ⟨xs, H1, I1, r, z, q⟩ => ⟨by rw [← r.length]; exact z, ?_⟩)
 have hf : H1 s1.heap.objs.size = none := I1.hok.fresh (Nat.le_refl _)
 refine ⟨.ref s1.heap.objs.size, upd H1 s1.heap.objs.size (.tup xs), I1.laid (t' := s1.toks) (fun b u e => Heap.get?_push_of_some _ e) (Nat.le_refl _) ?_, rfl, q _ hf⟩
 exact ⟨z, us, r, ⟨_, Heap.get?_push_size _ rfl, rfl, _, rfl⟩⟩
theorem pe_lst (h : PA X es t) : PE X (.List es pos) (tLst t) := by
 intro pins s σ H Q I hq
 refine wpAny_List_spliced (thn (h pos pins s σ H _ I hq) fun us s1 ⟨xs, H1, I1, r, z, q⟩ => ⟨by rw [← r.length]; exact z, ?_⟩)
 have hf : H1 s1.heap.objs.size = none := I1.hok.fresh (Nat.le_refl _)
 refine ⟨.ref s1.heap.objs.size, upd H1 s1.heap.objs.size (.lst xs), I1.laid (t' := s1.toks) (fun b u e => Heap.get?_push_of_some _ e) (Nat.le_refl _) ?_, rfl, q _ hf⟩
 exact ⟨z, us, 0, r, Heap.get?_push_size _ rfl⟩
end
abbrev Sp := List V → Hp → VK → XK → Prop
abbrev CXT := List Env → Hp → Shared → XK → Value → Shared → Prop
structure Env0 (P : Program) (w : World) (K : PySem.W.Frag) (mg : Str → Option Value) (base : Heap) (A : Around) (outer : List Env) (s : Shared) (H : Hp) : Prop where
 frames : A.frames = some outer
 mod : Mod K mg base
 bs : ∀ b o, base.get? b = some o → s.heap.get? b = some o ∧ H b = none
 bsz : base.objs.size ≤ s.heap.objs.size
 funs : s.heap.FunFrames base outer
 frf : ∀ b ∈ frs outer, H b = none
 hok : HOk P w H s.heap
 bare : AllBare s.gens
def CE (outer : List Env) (P : Program) (w : World) (H : Hp) (s : Shared) (Q : VK) (u : Value) (s' : Shared) : Prop :=
 ∃ v H', s'.os = s.os ∧ AllBare s'.gens ∧ Un (frs outer) [] H H' s.heap s'.heap ∧ HOk P w H' s'.heap ∧ RelV v u ∧ Q v H'
def CR (CX : CXT) (outer : List Env) (P : Program) (w : World) (H : Hp) (s : Shared) (Q : VK) (E : XK) (r : Result) (s' : Shared) : Prop :=
 match r with
 | .ok (.ret u) => CE outer P w H s Q u s'
 | .ok _ => False
 | .error e => CX outer H s E e s'
structure FnOk (P : Program) (w : World) (K : PySem.W.Frag) (mg : Str → Option Value) (base : Heap) (CX : CXT) (k : Nat) (f : Addr) (fd : FuncData) (ps : List Str) (sp : Sp) : Prop where
 len : ∀ vs H Q E, sp vs H Q E → vs.length = ps.length
 run : ∀ (A : Around) (outer : List Env) (s : Shared) (H : Hp) (args : Args) (us : List Value) (vs : List V) (Q : VK) (E : XK), Room k A → Env0 P w K mg base A outer s H → BindsTo s fd args (ps.zip us) → Vals vs us → sp vs H Q E →
   codeAny (model P w) A (.call (.ref f) args) (CR CX outer P w H s Q E) s
theorem FnOk.mono {P : Program} {w : World} {K : PySem.W.Frag} {mg : Str → Option Value} {base : Heap} {CX : CXT} {j k : Nat} {f : Addr} {fd : FuncData} {ps : List Str} {sp : Sp} (F : FnOk P w K mg base CX j f fd ps sp) (h : j ≤ k) :
   FnOk P w K mg base CX k f fd ps sp := ⟨F.len, fun A outer s H args us vs Q E hr => F.run A outer s H args us vs Q E (hr.mono h)⟩
theorem FnOk.imp {P : Program} {w : World} {K : PySem.W.Frag} {mg : Str → Option Value} {base : Heap} {CX : CXT} {k : Nat} {f : Addr} {fd : FuncData} {ps : List Str} {sp sp' : Sp} (F : FnOk P w K mg base CX k f fd ps sp)
   (h : ∀ vs H Q E, sp' vs H Q E → sp vs H Q E) : FnOk P w K mg base CX k f fd ps sp' :=
 ⟨fun vs H Q E q => F.len vs H Q E (h _ _ _ _ q), fun A outer s H args us vs Q E hr he hb hv hs => F.run A outer s H args us vs Q E hr he hb hv (h _ _ _ _ hs)⟩
theorem Env0.make {P : Program} {w : World} {K : PySem.W.Frag} {mg : Str → Option Value} {base : Heap} {A : Around} {outer : List Env} {s : Shared} {H : Hp} (e : Env0 P w K mg base A outer s H) (C : Addr) (us : List Value) (kw : List (Str × Value)) :
   Env0 P w K mg base (A.under (.builtin "type.__call__" ⟨.ref C :: us, kw⟩)) outer s H := ⟨by first | exact e.frames | (simpa [Around.under, Code.envs, Code.isFrame, pushEnvs] using e.frames), e.mod, e.bs, e.bsz, e.funs, e.frf, e.hok, e.bare⟩
theorem Env0.in1 {P : Program} {w : World} {K : PySem.W.Frag} {mg : Str → Option Value} {base : Heap} {A : Around} {outer : List Env} {s : Shared} {H : Hp} (e : Env0 P w K mg base A outer s H) :
   Env0 P w K mg base A.in1 outer s H := ⟨e.frames, e.mod, e.bs, e.bsz, e.funs, e.frf, e.hok, e.bare⟩
section
variable {X : Cx} {pins : List (Addr × Obj)} {σ : St} {H : Hp} {s s' : Shared}
theorem Inv.env0 (I : Inv X pins σ H s) : Env0 X.prog X.w X.K X.mg X.base X.A X.stack s H :=
 ⟨I.ok.frames, I.ok.mod, I.bs, Nat.le_trans I.ok.bsz I.sz, I.stack, I.stkFree, I.hok, I.bare⟩
theorem Inv.after {Q : VK} {u : Value} (I : Inv X pins σ H s) (h : CE X.stack X.prog X.w H s Q u s') : EP X pins σ Q u s' := by
 obtain ⟨v, H', os, bare, un, hok, r, q⟩ := h
 obtain ⟨hh, g, d, t, os'⟩ := s'
 obtain rfl : os' = s.os := os
 exact ⟨v, H', I.call (h' := hh) (g' := g) (d' := d) (t' := t) (ch := []) un hok bare (fun b z => absurd z (by simp)), r, q⟩
end
def tCall (sp : Sp) (dvs : List V) (E : XK) (t : TA) : TE := fun σ H Q => t σ H fun vs H1 => sp (vs ++ dvs) H1 Q E
def tMake (C : Addr) (sp : Sp) (dvs : List V) (E : XK) (t : TA) : TE := fun σ H Q => t σ H fun vs H1 => ∀ x dx, H1 x = none → H1 dx = none → dx ≠ x →
 sp (.ref x :: (vs ++ dvs)) (upd (upd H1 dx (.own x)) x (.ins C dx [])) (fun v H2 => v = .non ∧ Q (.ref x) H2) E
def Binds (K : PySem.W.Frag) (fd : FuncData) (ps : List Str) (ds : List Value) : Prop :=
 ∀ (s : Shared) (us : List Value), K.In s.heap → (us ++ ds).length = ps.length → BindsTo s fd ⟨us, []⟩ (ps.zip (us ++ ds))
theorem Binds.all {K : PySem.W.Frag} {fd : FuncData} {ps : List Str} (h : ∀ us : List Value, us.length = ps.length → bindArgs fd ⟨us, []⟩ = pure (ps.zip us)) : Binds K fd ps [] := fun s us _ hl => by
 rw [List.append_nil] at hl ⊢
 exact .of_eq (h us hl)
def Passes (CX : CXT) (X : Cx) (E : XK) : Prop := ∀ (pins : List (Addr × Obj)) (σ : St) (H : Hp) (s : Shared) (e : Value) (s' : Shared), Inv X pins σ H s → CX X.stack H s E e s' → X.xe e s'
section
variable {X : Cx} {CX : CXT} {k : Nat} {f C : Addr} {fd : FuncData} {ps : List Str} {sp : Sp} {dvs : List V} {ds : List Value} {E : XK} {x m : Str} {p pos apos : Pos} {e o : Expr} {es : List Expr} {ta : TE} {t : TA}
theorem run_fn {pins : List (Addr × Obj)} {σ : St} {H : Hp} {s : Shared} {Q : VK} {us : List Value} {vs : List V} (F : FnOk X.prog X.w X.K X.mg X.base CX k f fd ps sp) (hr : Room k X.A) (hb : Binds X.K fd ps ds) (hd : Vals dvs ds) (hx : Passes CX X E)
   (I : Inv X pins σ H s) (r : Vals vs us) (h : sp (vs ++ dvs) H Q E) : wpAny (model X.prog X.w) X.A (call (.ref f) us) (EP X pins σ Q) X.xe s := by
 have r2 : Vals (vs ++ dvs) (us ++ ds) := r.append hd
 have hl : (us ++ ds).length = ps.length := by rw [← r2.length]; exact F.len _ _ _ _ h
 refine wpAny_call (codeAny_mono (F.run X.A X.stack s H ⟨us, []⟩ (us ++ ds) (vs ++ dvs) Q E hr I.env0 (hb s us I.kIn hl) r2 h) fun r s' hq => ?_)
 cases r with
 | error e => exact hx pins σ H s e s' I hq
 | ok fl =>
   cases fl with
   | ret u => exact I.after hq
   | next => exact False.elim hq
   | brk => exact False.elim hq
   | cont => exact False.elim hq
theorem yB (F : FnOk X.prog X.w X.K X.mg X.base CX k f fd ps sp) (hr : Room k X.A) (hg : Gl X x) (hm : X.mg x = some (.ref f)) (hk : PySem.W.keepIn X.K (.ref f) = true) (hb : Binds X.K fd ps ds) (hd : Vals dvs ds) (hx : Passes CX X E)
   (ha : PA X (e :: es) t) (hdb : (x == ("__debug__" : Str)) = false := by decide) (he : starEach (e :: es) X.env = (false, eval e X.env) :: starEach es X.env := by rfl) (hpl : (backTo pos (starEach es X.env)).any (·.1) = false := by rfl) :
   PE X (.Call (.Name x p) (e :: es) [] pos) (tCall sp dvs E t) := by
 intro pins s σ H Q I h
 refine wpAny_Call_Name_kw (ld_glob I hg hm ?_ hdb)
 refine PySem.W.callWith_K (h₀ := X.base) I.ok.mod.kin hk (thn (ha pos pins s σ H _ I h) fun us s1 ⟨vs, H1, I1, r, q⟩ => ⟨I1.kIn, ?_⟩) he hpl
 exact run_fn F hr hb hd hx I1 r q
structure Mk (K : PySem.W.Frag) (C f : Addr) : Prop where
 makes : PySem.W.makesIn K C = true
 init : PySem.W.findIn K (.ref C) "__init__" = some (some (.ref f))
 fn : PySem.W.isFn K (.ref f) = true
 kp : PySem.W.keepIn K (.ref C) = true
theorem run_make {pins : List (Addr × Obj)} {σ : St} {H : Hp} {s : Shared} {Q : VK} {us : List Value} {vs : List V} (M : Mk X.K C f) (F : FnOk X.prog X.w X.K X.mg X.base CX k f fd ps sp) (hr : Room (k + 1) X.A) (hb : Binds X.K fd ps ds) (hd : Vals dvs ds)
   (hx : Passes CX X E) (I : Inv X pins σ H s) (r : Vals vs us)
   (h : ∀ x dx, H x = none → H dx = none → dx ≠ x → sp (.ref x :: (vs ++ dvs)) (upd (upd H dx (.own x)) x (.ins C dx [])) (fun v H2 => v = .non ∧ Q (.ref x) H2) E) :
   wpAny (model X.prog X.w) X.A (call (.ref C) us) (EP X pins σ Q) X.xe s := by
 have hq := h (s.heap.objs.size + 1) s.heap.objs.size (I.hok.fresh (Nat.le_succ _)) (I.hok.fresh (Nat.le_refl _)) (Nat.ne_of_lt (Nat.lt_succ_self _))
 have I2 := Inv.made (C := C) I
 have r2 : Vals (V.ref (s.heap.objs.size + 1) :: (vs ++ dvs)) (Value.ref (s.heap.objs.size + 1) :: (us ++ ds)) := .cons rfl (r.append hd)
 have hl : (Value.ref (s.heap.objs.size + 1) :: us ++ ds).length = ps.length := by
   have e := r2.length
   rw [F.len _ _ _ _ hq] at e
   exact e.symm
 refine wpAny_call (make_map (f := f) I.kIn M.makes M.init (beq_iff_eq.mp M.fn) (codeAny_mono (F.run _ X.stack _ _ ⟨Value.ref (s.heap.objs.size + 1) :: us, []⟩ (Value.ref (s.heap.objs.size + 1) :: (us ++ ds)) _ _ E (hr.make C us [])
   (I2.env0.make C us []) (hb _ (Value.ref (s.heap.objs.size + 1) :: us) I2.kIn hl) r2 hq) fun r s' hq' => ?_))
 cases r with
 | error e => exact hx pins σ _ _ e s' I2 hq'
 | ok fl =>
   cases fl with
   | ret u =>
     obtain ⟨v, H', I3, rv, ev, q3⟩ := I2.after hq'
     subst ev
     exact ⟨rv, ⟨V.ref (s.heap.objs.size + 1), H', I3, rfl, q3⟩⟩
   | next => exact False.elim hq'
   | brk => exact False.elim hq'
   | cont => exact False.elim hq'
theorem pe_make (M : Mk X.K C f) (F : FnOk X.prog X.w X.K X.mg X.base CX k f fd ps sp) (hr : Room (k + 1) X.A) (hg : Gl X x) (hm : X.mg x = some (.ref C)) (hb : Binds X.K fd ps ds) (hd : Vals dvs ds) (hx : Passes CX X E)
   (ha : PA X (e :: es) t) (hdb : (x == ("__debug__" : Str)) = false := by decide) (he : starEach (e :: es) X.env = (false, eval e X.env) :: starEach es X.env := by rfl) (hpl : (backTo pos (starEach es X.env)).any (·.1) = false := by rfl) :
   PE X (.Call (.Name x p) (e :: es) [] pos) (tMake C sp dvs E t) := by
 intro pins s σ H Q I h
 refine wpAny_Call_Name_kw (ld_glob I hg hm ?_ hdb)
 refine PySem.W.callWith_K (h₀ := X.base) I.ok.mod.kin M.kp (thn (ha pos pins s σ H _ I h) fun us s1 ⟨vs, H1, I1, r, q⟩ => ⟨I1.kIn, ?_⟩) he hpl
 exact run_make M F hr hb hd hx I1 r q
end
section
variable {X : Cx} {CX : CXT} {k : Nat} {f C : Addr} {fd : FuncData} {ps ks : List Str} {sp : Sp} {E : XK} {x m : Str} {p pos apos kpos : Pos} {e o : Expr} {es : List Expr} {kws : List Keyword} {te ta : TE} {t tk : TA} {nm : Option Str}
structure KBinds (K : PySem.W.Frag) (fd : FuncData) (ps ks : List Str) (g : List Value → List Value → List Value) (gV : List V → List V → List V) : Prop where
 to : ∀ (s : Shared) (us ws : List Value), K.In s.heap → (g us ws).length = ps.length → BindsTo s fd ⟨us, ks.zip ws⟩ (ps.zip (g us ws))
 rel : ∀ {vs : List V} {us : List Value} {zs : List V} {ws : List Value}, Vals vs us → Vals zs ws → Vals (gV vs zs) (g us ws)
variable {g : List Value → List Value → List Value} {gV : List V → List V → List V}
end
structure FnScope (N P : List Str) (sc : Scope) : Prop where
 kind : sc.kind = .function
 co : sc.isCoroutine = false
 gen : sc.isGenerator = false
 nd : N.Nodup
 pre : N.take P.length = P
 par : ∀ x ∈ P, sc.names.lookup x = some .local ∨ sc.names.lookup x = some .cell
 nofree : ∀ y ∈ sc.names, y.2 ≠ .free
theorem bindL_out {kindOf : Str → Option NameKind} {x : Str} : ∀ {binds : List (Str × Value)} {m : Str → Option Value}, (∀ v, (x, v) ∉ binds) → bindL kindOf binds m x = m x
 | [], _, _ => rfl
 | (n, v) :: r, m, h => by
   unfold bindL
   rw [bindL_out fun w hw => h w (List.mem_cons_of_mem _ hw)]
   split
   · have : x ≠ n := by rintro rfl; exact h v List.mem_cons_self
     simp [this]
   · rfl
theorem bindC_out {kindOf : Str → Option NameKind} {x : Str} : ∀ {binds : List (Str × Value)} {m : Str → Option Value}, (∀ v, (x, v) ∉ binds) → bindC kindOf binds m x = m x
 | [], _, _ => rfl
 | (n, v) :: r, m, h => by
   unfold bindC
   rw [bindC_out fun w hw => h w (List.mem_cons_of_mem _ hw)]
   split
   · rfl
   · have : x ≠ n := by rintro rfl; exact h v List.mem_cons_self
     simp [this]
theorem bindL_get {kindOf : Str → Option NameKind} {x : Str} {v : Value} : ∀ {P : List Str} {vs : List Value} {i : Nat} {m : Str → Option Value}, P.Nodup → P[i]? = some x → vs[i]? = some v → kindOf x = some .local →
   bindL kindOf (P.zip vs) m x = some v
 | [], _, _, _, _, h, _, _ => by simp at h
 | _ :: _, [], _, _, _, _, h, _ => by simp at h
 | p :: P, w :: vs, 0, m, nd, h1, h2, hk => by
   simp at h1 h2; subst h1; subst h2
   show bindL kindOf ((p, w) :: P.zip vs) m p = _
   unfold bindL
   rw [bindL_out fun v hv => (List.nodup_cons.mp nd).1 (List.of_mem_zip hv).1, if_pos hk]
   simp
 | p :: P, w :: vs, i + 1, m, nd, h1, h2, hk => by
   show bindL kindOf ((p, w) :: P.zip vs) m x = _
   unfold bindL
   exact bindL_get (i := i) (List.nodup_cons.mp nd).2 (by simpa using h1) (by simpa using h2) hk
theorem bindC_get {kindOf : Str → Option NameKind} {x : Str} {v : Value} : ∀ {P : List Str} {vs : List Value} {i : Nat} {m : Str → Option Value}, P.Nodup → P[i]? = some x → vs[i]? = some v → kindOf x ≠ some .local →
   bindC kindOf (P.zip vs) m x = some v
 | [], _, _, _, _, h, _, _ => by simp at h
 | _ :: _, [], _, _, _, _, h, _ => by simp at h
 | p :: P, w :: vs, 0, m, nd, h1, h2, hk => by
   simp at h1 h2; subst h1; subst h2
   show bindC kindOf ((p, w) :: P.zip vs) m p = _
   unfold bindC
   rw [bindC_out fun v hv => (List.nodup_cons.mp nd).1 (List.of_mem_zip hv).1, if_neg hk]
   simp
 | p :: P, w :: vs, i + 1, m, nd, h1, h2, hk => by
   show bindC kindOf ((p, w) :: P.zip vs) m x = _
   unfold bindC
   exact bindC_get (i := i) (List.nodup_cons.mp nd).2 (by simpa using h1) (by simpa using h2) hk
def start (N : List Str) (vs : List V) : St := vs.map some ++ List.replicate (N.length - vs.length) none
def cxOf (CX : CXT) (P : Program) (w : World) (K : PySem.W.Frag) (mg : Str → Option Value) (base : Heap) (N : List Str) (qual : Str) (scope : Scope) (f : Addr) (cd : Value) (A : Around) (outer : List Env) (s : Shared) (H : Hp) (E : XK) : Cx where
 prog := P
 w := w
 K := K
 mg := mg
 base := base
 A := A.deeper (envOfC qual scope s.heap.objs.size f cd)
 N := N
 s₀ := s
 H₀ := H
 env := envOfC qual scope s.heap.objs.size f cd
 outer := outer
 stack := envOfC qual scope s.heap.objs.size f cd :: outer
 ex := []
 calm := true
 fn := fun _ => true
 pn := []
 xe := fun e s' => wpAny (model P w) (A.deeper (envOfC qual scope s.heap.objs.size f cd)) (leaving (envOfC qual scope s.heap.objs.size f cd) e) (fun _ s'' => CX outer H s E e s'') (fun e' s'' => CX outer H s E e' s'') s'
theorem cell_has {sc : Scope} {n : Nat} {x : Str} (h : sc.names.lookup x = some .cell) : ∃ c, (cellsFrom n sc.names []).lookup x = some c := by
 have q := PySem.W.cellsFrom_some sc.names n [] (.inl h)
 exact Option.isSome_iff_exists.mp q
theorem inv_start {CX : CXT} {P : Program} {w : World} {K : PySem.W.Frag} {mg : Str → Option Value} {base : Heap} {N ps : List Str} {qual : Str} {scope : Scope} {f : Addr} {cd : Value} {A : Around} {outer : List Env} {s s1 : Shared} {H : Hp} {E : XK} {us : List Value} {vs : List V}
   (S : FnScope N ps scope) (hd : A.handled = none) (e0 : Env0 P w K mg base A outer s H) (hl : vs.length = ps.length) (r : Vals vs us)
   (x : InCallC s s.heap.objs.size (bindL (envOfC qual scope s.heap.objs.size f cd).kindOf (ps.zip us) fun _ => none) (cellsFrom (s.heap.objs.size + 1) scope.names []) (bindC (envOfC qual scope s.heap.objs.size f cd).kindOf (ps.zip us) fun _ => none) s1) :
   Inv (cxOf CX P w K mg base N qual scope f cd A outer s H E) [] (start N vs) H s1 := by
 have hpl : ps.length ≤ N.length := by have := congrArg List.length S.pre; rw [List.length_take] at this; omega
 obtain ⟨h1, tk, rfl, hk⟩ := x.done
 have noA : ∀ b : Addr, b ∉ (cxOf CX P w K mg base N qual scope f cd A outer s H E).ex := fun b z => absurd (show b ∈ ([] : List Addr) from z) (by simp)
 refine ⟨⟨e0.mod, S.kind, rfl, rfl, Nat.le_refl _, fun y z c h1 h2 => ?_, fun y hy => ?_, fun y c _ h => ?_, fun _ => hd, Around.frames_deeper e0.frames, .inr ⟨rfl, rfl⟩, fun b z => absurd z (noA b), e0.bs, e0.bsz, fun b _ _ => noA b, fun b z => absurd z (noA b), e0.funs, e0.frf⟩,
   rfl, e0.bare, Un.kept hk, ⟨_, x.toInCall.ns, fun i y v h1 h2 h3 => ?_⟩, fun y c h => ⟨_, x.cell y c h⟩, e0.hok.fresh (Nat.le_refl _), fun y c h => ?_, fun p hp => absurd (show p ∈ ([] : List (Addr × Obj)) from hp) (by simp), e0.hok.kept hk, ?_⟩
 · exact name_of_addr x.apart (PySem.mem_of_lookup h1) (PySem.mem_of_lookup h2)
 · have hy : scope.names.lookup y = some .cell ∨ scope.names.lookup y = some .free := hy
   rcases hy with hy | hy
   · exact cell_has hy
   · exact absurd rfl (S.nofree _ (PySem.mem_of_lookup hy))
 · exact Nat.le_of_lt (x.above y c (PySem.mem_of_lookup h))
 · have hi : i < vs.length := by
     unfold start at h2
     by_cases hi : i < vs.length
     · exact hi
     · rw [List.getElem?_append_right (by simpa using hi)] at h2
       rw [List.getElem?_replicate] at h2
       split at h2 <;> cases h2
   have ha : vs[i]? = some v := by
     unfold start at h2
     rw [List.getElem?_append_left (by simpa using hi), List.getElem?_map] at h2
     cases e : vs[i]? with
     | none => rw [e] at h2; cases h2
     | some a => rw [e] at h2; cases h2; rfl
   obtain ⟨u, hu, rv⟩ := r.get ha
   have hp : ps[i]? = some y := by
     rw [← S.pre, List.getElem?_take_of_lt (by omega)]; exact h1
   have ndP : ps.Nodup := by rw [← S.pre]; exact S.nd.sublist (List.take_sublist _ _)
   refine ⟨u, rv, ?_⟩
   rcases S.par y (List.mem_of_getElem? hp) with k | k
   · exact .inl ⟨k, bindL_get ndP hp hu k⟩
   · obtain ⟨c, e⟩ := cell_has (n := s.heap.objs.size + 1) k
     refine .inr ⟨.inl k, c, e, ?_⟩
     have q := x.cell y c e
     rw [bindC_get ndP hp hu (by show scope.names.lookup y ≠ _; rw [k]; decide)] at q
     exact q
 · exact e0.hok.fresh (Nat.le_of_lt (x.above y c (PySem.mem_of_lookup h)))
 · unfold start
   show _ = N.length
   rw [List.length_append, List.length_map, List.length_replicate]
   omega
theorem fn_of {CX : CXT} {P : Program} {w : World} {K : PySem.W.Frag} {mg : Str → Option Value} {base : Heap} {k : Nat} {f : Addr} {name qual : Str} {params : Arguments} {body : List Stmt} {scope : Scope} {dV kV doc pm cdv ct oc : Value} {an od : Option Addr}
   {osl : Array (Option Value)} {N ps : List Str} {sp : Sp} (lk : K.lookup f = some ⟨oc, od, .func (PySem.W.fnOf name qual params body scope dV kV doc pm an cdv ct), osl⟩) (hcd : PySem.W.codeIn K cdv qual = true) (S : FnScope N ps scope)
   (len : ∀ vs H Q E, sp vs H Q E → vs.length = ps.length)
   (hbody : ∀ (A : Around) (outer : List Env) (s : Shared) (H : Hp) (vs : List V) (Q : VK) (E : XK), Room k (A.deeper (envOfC qual scope s.heap.objs.size f cdv)) → sp vs H Q E →
     ∃ t, PSs (cxOf CX P w K mg base N qual scope f cdv A outer s H E) body t ∧ t { nx := fun _ H' => Q .non H', rt := Q } (start N vs) H) :
   FnOk P w K mg base CX (k + 1) f (PySem.W.fnOf name qual params body scope dV kV doc pm an cdv ct) ps sp := by
 refine ⟨len, fun A outer s H args us vs Q E hr e0 hb r hsp => ?_⟩
 have hl := len _ _ _ _ hsp
 have KX : K.In s.heap := e0.mod.kin.keeps fun b o e => (e0.bs b o e).1
 have lim : s.heap.NoLimit := e0.mod.nolimit.keeps fun b o e => (e0.bs b o e).1
 have hkind : ∀ y ∈ ps.zip us, scope.names.lookup y.1 = some .local ∨ (scope.names.lookup y.1 = some .cell ∧ ((cellsFrom (s.heap.objs.size + 1) scope.names []).lookup y.1).isSome = true) := fun ⟨n, v⟩ hy => by
   rcases S.par n (List.of_mem_zip hy).1 with q | q
   · exact .inl q
   · exact .inr ⟨q, PySem.W.cellsFrom_some _ _ _ (.inl q)⟩
 refine codeAny_call_function hr.depth (KX _ _ lk) rfl S.co S.gen rfl (PySem.W.codeRec_of KX hcd) (hb _ _ _ _ ?_)
 refine wpAny_newFunctionEnv_cells S.kind hkind fun env he s1 x => ?_
 subst he
 refine ⟨lim.keeps x.toInCall.keep, codeAny_func ?_⟩
 obtain ⟨t, ht, hq⟩ := hbody A outer s H vs Q E (hr.deeper _) hsp
 have I : Inv (cxOf CX P w K mg base N qual scope f cdv A outer s H E) [] (start N vs) H s1 := inv_start S hr.hd e0 hl r x
 refine wpAny_mono (ht [] s1 (start N vs) H _ I hq) (fun fl s' hs => ?_) fun e s' hs => hs
 have fin : ∀ {σ' : St} {H' : Hp} {v : V} {u : Value}, Inv (cxOf CX P w K mg base N qual scope f cdv A outer s H E) [] σ' H' s' → RelV v u → Q v H' → CE outer P w H s Q u s' :=
   fun {σ' H' v u} J rv q => ⟨v, H', J.os, J.bare, J.base, J.hok, rv, q⟩
 cases fl with
 | ret u =>
   obtain ⟨v, σ', H', J, rv, q⟩ := hs
   exact fin J rv q
 | next =>
   obtain ⟨σ', H', J, q⟩ := hs
   exact fin (v := V.non) (u := Value.none) J rfl q
 | brk =>
   obtain ⟨_, _, _, q⟩ := hs
   exact False.elim q
 | cont =>
   obtain ⟨_, _, _, q⟩ := hs
   exact False.elim q
end L2
namespace L2
open PySem PySem.Spec PyProof.Rows
section
variable {X : Cx} {x : Str} {p pos : Pos} {e : Expr} {es : List Expr} {t : TA} {id T : String} {r : List V → Hp → VK → Prop}
def tCB (r : List V → Hp → VK → Prop) (t : TA) : TE := fun σ H Q => t σ H fun vs H1 => r vs H1 Q
theorem zQ (hc : CallR X (.builtin id) r) (hg : Gl X x) (hm : X.mg x = none) (hv : bootBuiltins x = some (.builtin id)) (ha : PA X (e :: es) t) (hn : x ≠ "__name__" := by decide) (hdb : (x == ("__debug__" : Str)) = false := by decide)
   (he : starEach (e :: es) X.env = (false, eval e X.env) :: starEach es X.env := by rfl) (hpl : (backTo pos (starEach es X.env)).any (·.1) = false := by rfl) : PE X (.Call (.Name x p) (e :: es) [] pos) (tCB r t) := by
 intro pins s σ H Q I h
 refine wpAny_Call_Name_kw (ld_blt I hg hm hv ?_ hn hdb)
 exact PyProof.Rows.callWith_builtin1 (thn (ha pos pins s σ H _ I h) fun us s1 ⟨vs, H1, I1, r1, q1⟩ => hc pins s1 σ H1 vs us Q I1 r1 q1) he hpl
theorem yR (hc : CallR X (.type T) r) (hg : Gl X x) (hm : X.mg x = none) (hv : bootBuiltins x = some (.type T)) (ha : PA X (e :: es) t) (hn : x ≠ "__name__" := by decide) (hdb : (x == ("__debug__" : Str)) = false := by decide)
   (he : starEach (e :: es) X.env = (false, eval e X.env) :: starEach es X.env := by rfl) (hpl : (backTo pos (starEach es X.env)).any (·.1) = false := by rfl) : PE X (.Call (.Name x p) (e :: es) [] pos) (tCB r t) := by
 intro pins s σ H Q I h
 refine wpAny_Call_Name_kw (ld_blt I hg hm hv ?_ hn hdb)
 exact PyProof.Rows.callWith_type1 (thn (ha pos pins s σ H _ I h) fun us s1 ⟨vs, H1, I1, r1, q1⟩ => hc pins s1 σ H1 vs us Q I1 r1 q1) he hpl
end
end L2
namespace HT
open PySem PyProof.Rows
section
open PySem.SeqAt
open PySem.AutoSeq1 (wpAny_loadPart')
open PySem.MeetsSeq PySem.MeetsSeq2 PySem.MeetsSeq3
end
section
variable {prog : Program} {w : World} {A : Around} {E : Value → Shared → Prop} {s : Shared}
theorem cat_tup {t b : Addr} {vs ws : List Value} {Q : Value → Shared → Prop} (ht : IsTup s.heap t vs.toArray) (hb : IsTup s.heap b ws.toArray) (hv : vs ≠ [])
   (h1 : ws = [] → Q (.ref t) s) (h2 : ws ≠ [] → Q (.ref s.heap.objs.size) { s with heap := s.heap.push { cls := .type "tuple", data := .seq (vs ++ ws).toArray } })
   (hsz : vs.length + ws.length ≤ sizeLine) : wpAny (model prog w) A (binaryOp .Add (.ref t) (.ref b)) Q E s := by
 obtain ⟨⟨cls, dd, data, sl⟩, ho, hc, n, hd⟩ := id ht
 obtain ⟨⟨cls2, dd2, data2, sl2⟩, ho2, hc2, n2, hd2⟩ := id hb
 simp only at hc hd hc2 hd2
 subst hc hd hc2 hd2
 have e : vs.toArray ++ ws.toArray = (vs ++ ws).toArray := by simp
 by_cases hw : ws = []
 · exact concat_meets ⟨_, ho, rfl⟩ ⟨_, ho2, rfl⟩ noFill_tuple_add seq_tuple_add PySem.F.slot_tuple_add PySem.F.entry_tuple_add (PySem.F.args_tuple_add_2 _ _)
     (tuple_addW1 t b vs.toArray ws.toArray n n2 dd dd2 sl sl2 (by simpa using hv) (by simp [hw])) ⟨ho, ho2, h1 hw⟩
 · refine concat_meets ⟨_, ho, rfl⟩ ⟨_, ho2, rfl⟩ noFill_tuple_add seq_tuple_add PySem.F.slot_tuple_add PySem.F.entry_tuple_add (PySem.F.args_tuple_add_2 _ _)
     (tuple_addW2 t b vs.toArray ws.toArray n n2 dd dd2 sl sl2 (by simpa using hv) (by simpa using hw) (by rw [List.size_toArray, List.size_toArray]; exact hsz)) ⟨ho, ho2, ?_⟩
   rw [e]
   exact h2 hw
def sIx (n d : Nat) : Option Int → Nat
 | none => d
 | some v => if v < 0 then (v + (n : Int)).toNat else min v.toNat n
theorem sIx_nat (n d k : Nat) : sIx n d (some (k : Int)) = min k n := by
 show (if (k : Int) < 0 then ((k : Int) + (n : Int)).toNat else min (k : Int).toNat n) = min k n
 rw [if_neg (by omega), Int.toNat_natCast]
theorem sIx_le (n d : Nat) (hd : d ≤ n) (o : Option Int) : sIx n d o ≤ n := by
 cases o with
 | none => exact hd
 | some v =>
   show (if v < 0 then (v + (n : Int)).toNat else min v.toNat n) ≤ n
   by_cases hv : v < 0
   · rw [if_pos hv]; omega
   · rw [if_neg hv]; exact Nat.min_le_right _ _
theorem clip_eq (v : Int) (n d : Nat) : (if v < 0 then max (v + (n : Int)) 0 else min v (n : Int)) = ((sIx n d (some v) : Nat) : Int) := by
 show (if v < 0 then max (v + (n : Int)) 0 else min v (n : Int)) = (((if v < 0 then (v + (n : Int)).toNat else min v.toNat n) : Nat) : Int)
 by_cases hv : v < 0
 · simp only [if_pos hv]; omega
 · simp only [if_neg hv]; omega
theorem adjust_gen (lo hi : Option Int) (n : Nat) : Builtin.Slice.sliceAdjust lo hi 1 (n : Int) = (((sIx n 0 lo : Nat) : Int), ((sIx n n hi : Nat) : Int)) := by
 have h1 : ¬ ((1 : Int) < 0) := by omega
 unfold Builtin.Slice.sliceAdjust
 simp only [h1, if_false]
 refine Prod.ext ?_ ?_
 · cases lo with
   | none => rfl
   | some v => exact clip_eq v n 0
 · cases hi with
   | none => rfl
   | some v => exact clip_eq v n n
theorem places_gen (i j : Nat) : Builtin.Slice.slicePlaces (i : Int) (j : Int) 1 = j - i := by
 unfold Builtin.Slice.slicePlaces
 have h1 : (1 : Int) > 0 := by omega
 simp only [h1, if_true, Int.ediv_one]
 split <;> omega
theorem slicePart_ {v : Value} {o : Option Int} {Q : Option Int → Shared → Prop} (p : IsPart v o) (h : Q o s) : wpAny (model prog w) A (Builtin.Slice.slicePartIndex v) Q E s := by
 cases p with
 | none => exact slicePart_none h
 | int i t => exact slicePart_int h
theorem sliceApplied_gen {sl : Addr} {vl vu : Value} {lo hi : Option Int} {n : Nat} {Q : Int × Int × Nat → Shared → Prop} (hs : s.heap.IsSliceOf sl vl vu .none) (pl : IsPart vl lo) (pu : IsPart vu hi)
   (h : Q (((sIx n 0 lo : Nat) : Int), 1, sIx n n hi - sIx n 0 lo) s) : wpAny (model prog w) A (Builtin.Slice.sliceApplied (.ref sl) (pure (n : Int))) Q E s := by
 obtain ⟨os, hos, hcs, hds⟩ := id hs
 unfold Builtin.Slice.sliceApplied Builtin.Slice.sliceFields
 refine wpAny_bind (wpAny_bind (wpAny_field hos hds (x := vl) rfl (wpAny_bind (wpAny_field hos hds (x := vu) rfl (wpAny_bind (wpAny_field hos hds (x := .none) rfl (wpAny_pure ?_)))))))
 refine wpAny_bind (slicePart_none ?_)
 show wpAny _ _ (if ((1 : Int) == 0) = true then _ else _) _ _ s
 rw [if_neg (by decide)]
 refine wpAny_bind (slicePart_ pl (wpAny_bind (slicePart_ pu (wpAny_bind (wpAny_pure ?_)))))
 show wpAny _ _ (match Builtin.Slice.sliceAdjust lo hi 1 (n : Int) with | (lo, hi) => pure (lo, (1 : Int), Builtin.Slice.slicePlaces lo hi 1)) _ _ s
 rw [adjust_gen lo hi n]
 show wpAny _ _ (pure (((sIx n 0 lo : Nat) : Int), (1 : Int), Builtin.Slice.slicePlaces ((sIx n 0 lo : Nat) : Int) ((sIx n n hi : Nat) : Int) 1)) _ _ s
 rw [places_gen]
 exact wpAny_pure h
theorem pick_gen (xs : Array Value) (i k : Nat) : ((List.range k).filterMap fun (m : Nat) => xs[((i : Int) + (m : Int) * 1).toNat]?).toArray = ((xs.toList.drop i).take k).toArray := by
 have e : (fun (m : Nat) => xs[((i : Int) + (m : Int) * 1).toNat]?) = fun m => xs[i + m]? := by
   funext m
   have : ((i : Int) + (m : Int) * 1).toNat = i + m := by omega
   rw [this]
 rw [e]
 have := pick_run xs i k
 rw [List.filterMap_map] at this
 have e2 : ((fun x => xs[x]?) ∘ fun x => i + x) = fun m => xs[i + m]? := rfl
 rw [e2] at this
 rw [this]
theorem getItem_tuple_cut {t sl : Addr} {items : Array Value} {vl vu : Value} {lo hi : Option Int} {Q : Value → Shared → Prop} (ht : IsTup s.heap t items) (hs : s.heap.IsSliceOf sl vl vu .none) (pl : IsPart vl lo) (pu : IsPart vu hi)
   (hw : ¬ (sIx items.size 0 lo = 0 ∧ sIx items.size items.size hi = items.size))
   (h : Q (.ref s.heap.objs.size) { s with heap := s.heap.push { cls := .type "tuple", data := .seq ((items.toList.drop (sIx items.size 0 lo)).take (sIx items.size items.size hi - sIx items.size 0 lo)).toArray } })
   (hsz : items.size ≤ sizeLine) : wpAny (model prog w) A (getItem (.ref t) (.ref sl)) Q E s := by
 have htake : sizeOk (.seq ((items.toList.drop (sIx items.size 0 lo)).take (sIx items.size items.size hi - sIx items.size 0 lo)).toArray) := by
   show ((items.toList.drop (sIx items.size 0 lo)).take (sIx items.size items.size hi - sIx items.size 0 lo)).toArray.size ≤ sizeLine
   rw [List.size_toArray, List.length_take, List.length_drop, Array.length_toList]
   omega
 have hj : sIx items.size items.size hi ≤ items.size := sIx_le _ _ (Nat.le_refl _) hi
 obtain ⟨os, hos, hcs, hds⟩ := id hs
 have hTs : s.TypeIs (.ref sl) "slice" := ⟨os, hos, hcs⟩
 unfold getItem
 try with_reducible refine wpAny_holding ?_
 first | refine wpAny_bind (wpAny_pure ?_) | skip
 refine wpAny_bind (wpAny_sequenceKey ht.typeIs (by decide) ?_)
 refine wpAny_bind (wpAny_callSpecial?_slot (name := Str.ofString "__getitem__") ht.typeIs PyProof.Rows.slot_tuple_getitem
   (wpAny_call_entry PyProof.Rows.slot_tuple_getitem ht.typeIs entry_tuple_getitem ?_ (args_tuple_getitem _ _)))
 show wpAny _ _ (Builtin.Tuple.tupleItemsOf (.ref t) >>= _) _ _ s
 refine wpAny_bind (tupleItemsOf_ ht ?_)
 refine wpAny_bind (wpAny_typeOf hTs ?_)
 rw [if_pos (by decide)]
 refine wpAny_bind (sliceApplied_gen hs pl pu ?_)
 have hno : ¬ ((((sIx items.size 0 lo : Nat) : Int) == 0 && (1 : Int) == 1 && (sIx items.size items.size hi - sIx items.size 0 lo) == items.size) = true) := by
   intro q
   rw [Bool.and_eq_true, Bool.and_eq_true] at q
   have q1 : ((sIx items.size 0 lo : Nat) : Int) = 0 := eq_of_beq q.1.1
   have q2 : sIx items.size items.size hi - sIx items.size 0 lo = items.size := eq_of_beq q.2
   exact hw ⟨by omega, by omega⟩
 show wpAny _ _ (if (((sIx items.size 0 lo : Nat) : Int) == 0 && (1 : Int) == 1 && (sIx items.size items.size hi - sIx items.size 0 lo) == items.size) = true then _ else _) _ _ s
 rw [if_neg hno, pick_gen]
 first
   | exact wpAny_bind (m := Builtin.Tuple.tupleExact _) (wpAny_newObj_type (wpAny_pure ⟨_, rfl, wpAny_pure h⟩) htake)
   | exact wpAny_bind (m := Builtin.Tuple.tupleExact _) (wpAny_newObj_type (wpAny_bind (wpAny_pure (wpAny_pure ⟨_, rfl, wpAny_pure h⟩))) htake)
   | exact wpAny_bind (wpAny_bind (m := Builtin.Tuple.tupleExact _) (wpAny_newObj_type (wpAny_pure (wpAny_pure ⟨_, rfl, wpAny_pure h⟩)) htake))
   | exact wpAny_bind (wpAny_bind (m := Builtin.Tuple.tupleExact _) (wpAny_newObj_type (wpAny_pure ⟨_, rfl, wpAny_pure h⟩) htake))
end
end HT
namespace L2
open PySem PySem.Spec PyProof.Rows
abbrev TO := St → Hp → (Option Int → Hp → Prop) → Prop
def PO (X : Cx) (e : Option Expr) (t : TO) : Prop :=
 ∀ (pins : List (Addr × Obj)) (s : Shared) (σ : St) (H : Hp) (Q : Option Int → Hp → Prop), Inv X pins σ H s → t σ H Q →
   wpAny (model X.prog X.w) X.A (evalPart e X.env) (fun u s' => ∃ o H', Inv X pins σ H' s' ∧ IsPart u o ∧ Q o H') X.xe s
def tNoPart : TO := fun _ H Q => Q none H
def tPart (t : TE) : TO := fun σ H Q => t σ H fun x H1 => ∃ i, x = .int i ∧ Q (some i) H1
section
variable {X : Cx} {e : Expr} {te : TE} {lo hi : Option Expr} {tl th : TO} {pos p2 : Pos}
theorem po_none : PO X none tNoPart := by
 intro pins s σ H Q I h
 rw [evalPart_none]
 exact wpAny_pure ⟨none, H, I, .none, h⟩
theorem po_some (h : PE X e te) : PO X (some e) (tPart te) := by
 intro pins s σ H Q I hw
 rw [evalPart_some]
 refine thn (h pins s σ H _ I hw) fun u s1 ⟨x, H1, I1, r1, q1⟩ => ?_
 obtain ⟨i, rfl, q⟩ := q1
 obtain ⟨t, rfl⟩ := r1
 exact ⟨some i, H1, I1, .int i t, q⟩
def SlR (X : Cx) (r : V → Option Int → Option Int → Hp → VK → Prop) : Prop :=
 ∀ (pins : List (Addr × Obj)) (s : Shared) (σ : St) (H : Hp) (x : V) (v vl vu : Value) (lo hi : Option Int) (sl : Addr) (Q : VK), Inv X pins σ H s → RelV x v → s.heap.IsSliceOf sl vl vu .none → IsPart vl lo → IsPart vu hi → r x lo hi H Q →
   ∃ T id, typeLookup (.type T) "__getitem__" = pure (some (.builtin id)) ∧ s.TypeIs v T ∧ wpAny (model X.prog X.w) X.A (getItem v (.ref sl)) (EP X pins σ Q) X.xe s
def tSl (r : V → Option Int → Option Int → Hp → VK → Prop) (te : TE) (tl th : TO) : TE := fun σ H Q => te σ H fun x H1 => tl σ H1 fun l H2 => th σ H2 fun u H3 => r x l u H3 Q
theorem pe_slice {r : V → Option Int → Option Int → Hp → VK → Prop} (hr : SlR X r) (he : PE X e te) (hl : PO X lo tl) (hu : PO X hi th) : PE X (.Subscript e (.Slice lo hi none p2) pos) (tSl r te tl th) := by
 intro pins s σ H Q I h
 refine Subscript_ (thn (he pins s σ H _ I h) fun v s1 ⟨x, H1, I1, r1, q1⟩ => ?_)
 refine wpAny_Slice (thn (hl pins s1 σ H1 _ I1 q1) fun vl s2 ⟨l, H2, I2, pl, q2⟩ => thn (hu pins s2 σ H2 _ I2 q2) fun vu s3 ⟨u, H3, I3, pu, q3⟩ => ?_)
 rw [evalPart_none]
 refine wpAny_pure ?_
 have I4 : Inv X pins σ H3 { s3 with heap := s3.heap.push { cls := .type "slice", data := .fields #[vl, vu, .none] } } := I3.kept (t' := s3.toks) fun b ob q => Heap.get?_push_of_some _ q
 obtain ⟨T, id, hT, ht, hg⟩ := hr pins { s3 with heap := s3.heap.push { cls := .type "slice", data := .fields #[vl, vu, .none] } } σ H3 x v vl vu l u s3.heap.objs.size Q I4 r1 (Heap.IsSliceOf.new ..) pl pu q3
 show wpAny (model X.prog X.w) X.A (subscriptTail e (.Slice lo hi none p2) v (.ref s3.heap.objs.size)) (EP X pins σ Q) X.xe { s3 with heap := s3.heap.push { cls := .type "slice", data := .fields #[vl, vu, .none] } }
 exact tail_any (ops := [.ref s3.heap.objs.size, v]) ht hT hg (by with_unfolding_all rfl)
def cutV (xs : List V) (lo hi : Option Int) : List V := (xs.drop (HT.sIx xs.length 0 lo)).take (HT.sIx xs.length xs.length hi - HT.sIx xs.length 0 lo)
theorem cutV_length (xs : List V) (lo hi : Option Int) : (cutV xs lo hi).length ≤ xs.length := by
 unfold cutV
 rw [List.length_take, List.length_drop]
 omega
def rSlT (K : PySem.W.Frag) : V → Option Int → Option Int → Hp → VK → Prop := fun x lo hi H Q => ∃ a xs, x = .ref a ∧ SqT K H a xs ∧
 ¬ (HT.sIx xs.length 0 lo = 0 ∧ HT.sIx xs.length xs.length hi = xs.length) ∧ ∀ p, H p = none → Q (.ref p) (upd H p (.tup (cutV xs lo hi)))
theorem sl_tup : SlR X (rSlT X.K) := by
 intro pins s σ H x v vl vu lo hi sl Q I rx hs pl pu h
 obtain ⟨a, xs, rfl, hx, hw, q⟩ := h
 cases rx
 obtain ⟨its, r, ht, hz⟩ := I.tuple hx
 have hlen : its.toArray.size = xs.length := by rw [List.size_toArray]; exact r.length.symm
 refine ⟨"tuple", _, PyProof.Rows.slot_tuple_getitem.lookup, ht.typeIs, ?_⟩
 refine HT.getItem_tuple_cut ht hs pl pu (by rw [hlen]; exact hw) ?_ (by rw [hlen]; exact hz)
 rw [hlen]
 refine ⟨.ref s.heap.objs.size, _, I.laid (t' := s.toks) (o := .tup (cutV xs lo hi)) (fun b ob q => Heap.get?_push_of_some _ q) (Nat.le_refl _) ?_, rfl, q _ (I.hok.fresh (Nat.le_refl _))⟩
 exact ⟨Nat.le_trans (cutV_length xs lo hi) hz, _, (r.drop (HT.sIx xs.length 0 lo)).take (HT.sIx xs.length xs.length hi - HT.sIx xs.length 0 lo), IsTup.new _ _⟩
def rCatT (K : PySem.W.Frag) : R2 := fun x y H Q => ∃ a b xs ys, x = .ref a ∧ y = .ref b ∧ SqT K H a xs ∧ SqT K H b ys ∧ xs ≠ [] ∧ xs.length + ys.length ≤ sizeLine ∧
 (ys = [] → Q (.ref a) H) ∧ (ys ≠ [] → ∀ p, H p = none → Q (.ref p) (upd H p (.tup (xs ++ ys))))
theorem Vals.nil_iff {xs : List V} {us : List Value} (r : Vals xs us) : us = [] ↔ xs = [] := by
 cases r with
 | nil => simp
 | cons _ _ => simp
theorem op_catT : OpR X (binaryOp .Add) (rCatT X.K) := by
 intro pins s σ H x y v u Q I rx ry h
 obtain ⟨a, b, xs, ys, rfl, rfl, ha, hb, hx, hz, q1, q2⟩ := h
 cases rx
 cases ry
 obtain ⟨its, r1, p1, _⟩ := I.tuple ha
 obtain ⟨its2, r2, p2, _⟩ := I.tuple hb
 refine HT.cat_tup p1 p2 (fun z => hx (r1.nil_iff.mp z)) (fun z => ⟨.ref a, H, I, rfl, q1 (r2.nil_iff.mp z)⟩) (fun z => ?_) (by rw [← r1.length, ← r2.length]; exact hz)
 refine ⟨.ref s.heap.objs.size, _, I.laid (t' := s.toks) (o := .tup (xs ++ ys)) (fun b ob q => Heap.get?_push_of_some _ q) (Nat.le_refl _) ?_, rfl, q2 (fun w => z (r2.nil_iff.mpr w)) _ (I.hok.fresh (Nat.le_refl _))⟩
 exact ⟨by rw [List.length_append]; exact hz, _, r1.append r2, IsTup.new _ _⟩
end
end L2
namespace L2
open PySem PySem.Spec PyProof.Rows
def ixN (n : Nat) (i : Int) : Option Nat := if 0 ≤ i then (if i < n then some i.toNat else none) else if -(n : Int) ≤ i then some (i + n).toNat else none
def atI {α : Type} (xs : List α) (i : Int) : Option α := (ixN xs.length i).bind fun j => xs[j]?
theorem ixN_seq {n : Nat} {i : Int} {j : Nat} (h : ixN n i = some j) : seqIndex? i n = some j ∧ j < n ∧ -(n : Int) ≤ i ∧ i < n := by
 unfold ixN at h
 by_cases h0 : 0 ≤ i
 · rw [if_pos h0] at h
   by_cases h1 : i < n
   · rw [if_pos h1] at h
     have e : i.toNat = j := Option.some.inj h
     exact ⟨by rw [seqIndex_of h0 h1, e], by omega, by omega, h1⟩
   · rw [if_neg h1] at h; cases h
 · rw [if_neg h0] at h
   by_cases h1 : -(n : Int) ≤ i
   · rw [if_pos h1] at h
     have e : (i + n).toNat = j := Option.some.inj h
     exact ⟨by rw [seqIndex_neg (by omega) h1, e], by omega, h1, by omega⟩
   · rw [if_neg h1] at h; cases h
theorem atI_get {α : Type} {xs : List α} {i : Int} {v : α} (h : atI xs i = some v) : ∃ j, seqIndex? i xs.length = some j ∧ xs[j]? = some v ∧ j < xs.length ∧ -(xs.length : Int) ≤ i ∧ i < xs.length := by
 unfold atI at h
 cases e : ixN xs.length i with
 | none => rw [e] at h; cases h
 | some j =>
   rw [e] at h
   obtain ⟨h1, h2, h3, h4⟩ := ixN_seq e
   exact ⟨j, h1, h, h2, h3, h4⟩
theorem yC {α : Type} {xs : List α} {j : Nat} {v : α} (h : xs[j]? = some v) : atI xs (j : Int) = some v := by
 have hj : j < xs.length := (List.getElem?_eq_some_iff.mp h).1
 have e : ixN xs.length (j : Int) = some j := by
   unfold ixN
   rw [if_pos (by omega), if_pos (by omega)]; simp
 unfold atI; rw [e]; exact h
def PlainIx (b : Expr) : Prop := ∀ o i, subscripted b false o i = operate [o, i] (getItem o i)
def IxR (X : Cx) (r : R2) : Prop :=
 ∀ (value slice : Expr) (pins : List (Addr × Obj)) (s : Shared) (σ : St) (H : Hp) (x y : V) (v u : Value) (Q : VK), Inv X pins σ H s → RelV x v → RelV y u → r x y H Q →
   subscripted slice false v u = operate [v, u] (getItem v u) → wpAny (model X.prog X.w) X.A (subscriptTail value slice v u) (EP X pins σ Q) X.xe s
def MtR (X : Cx) (id : String) (r : V → List V → Hp → VK → Prop) : Prop :=
 ∀ (pins : List (Addr × Obj)) (s : Shared) (σ : St) (H : Hp) (x : V) (xs : List V) (v : Value) (us : List Value) (Q : VK), Inv X pins σ H s → RelV x v → Vals xs us → r x xs H Q →
   wpAny (model X.prog X.w) X.A (call (.builtin id) (v :: us)) (EP X pins σ Q) X.xe s
section
variable {X : Cx} {a b : Expr} {ta tb : TE} {pos : Pos}
theorem zV {r : R2} (hr : IxR X r) (ha : PE X a ta) (hb : PE X b tb) (hs : PlainIx b) : PE X (.Subscript a b pos) (tOp r ta tb) := by
 intro pins s σ H Q I h
 exact Subscript_ (binT ha hb I h fun v u s2 x y H2 I2 rx ry q => hr a b pins s2 σ H2 x y v u Q I2 rx ry q (hs _ _))
def rIxL (K : PySem.W.Frag) : R2 := fun x y H Q => ∃ p xs i v, x = .ref p ∧ y = .int i ∧ SqL K H p xs ∧ atI xs i = some v ∧ Q v H
def rIxT (K : PySem.W.Frag) : R2 := fun x y H Q => ∃ p xs i v, x = .ref p ∧ y = .int i ∧ SqT K H p xs ∧ atI xs i = some v ∧ Q v H
def rIxS : R2 := fun x y H Q => ∃ z i c, x = .str z ∧ y = .int i ∧ z.length ≤ sizeLine ∧ atI z.cps.toList i = some c ∧ Q (.str ⟨#[c]⟩) H
theorem yE : IxR X (rIxL X.K) := by
 intro value slice pins s σ H x y v u Q I rx ry h hs
 obtain ⟨p, xs, i, z, rfl, rfl, hq, he, q⟩ := h
 cases rx
 obtain ⟨t, rfl⟩ := ry
 obtain ⟨its, r, pl, hz⟩ := I.list hq
 obtain ⟨j, h1, h2, h3, h4, h5⟩ := atI_get he
 obtain ⟨w, ew, rw'⟩ := r.get h2
 have hl := r.length
 have hn := line63
 have fin : EP X pins σ Q w s := ⟨z, H, I, rw', q⟩
 by_cases h0 : 0 ≤ i
 · have hj : i.toNat = j := by
     rw [seqIndex_of h0 h5] at h1
     exact Option.some.inj h1
   exact item_listR pl.isList h0 (by omega) (by rw [hj]; simpa using ew) fin hs
 · have hj : (i + (its.toArray.size : Int)).toNat = j := by
     rw [seqIndex_neg (by omega) h4] at h1
     rw [List.size_toArray, ← hl]
     exact Option.some.inj h1
   exact subscriptTail_builtinR (x := w) pl.isList.typeIs slot_list_getitem.lookup
     (wpAny_getItem_list_neg (Q := fun r s' => r = w ∧ EP X pins σ Q r s') pl.isList (by omega) (by rw [List.size_toArray] <;> omega) (by omega) (by rw [hj]; simpa using ew) ⟨rfl, fin⟩) hs
theorem yD : IxR X (rIxT X.K) := by
 intro value slice pins s σ H x y v u Q I rx ry h hs
 obtain ⟨p, xs, i, z, rfl, rfl, hq, he, q⟩ := h
 cases rx
 obtain ⟨t, rfl⟩ := ry
 obtain ⟨its, r, pl, hz⟩ := I.tuple hq
 obtain ⟨j, h1, h2, h3, h4, h5⟩ := atI_get he
 obtain ⟨w, ew, rw'⟩ := r.get h2
 have hl := r.length
 have hn := line63
 have fin : EP X pins σ Q w s := ⟨z, H, I, rw', q⟩
 exact subscriptTail_builtinR (x := w) pl.typeIs slot_tuple_getitem.lookup
   (getItem_tuple (j := j) (Q := fun r s' => r = w ∧ EP X pins σ Q r s') pl (by omega) (by omega) (by rw [List.size_toArray, ← hl]; exact h1) (by simpa using ew) ⟨rfl, fin⟩) hs
theorem ix_str : IxR X rIxS := by
 intro value slice pins s σ H x y v u Q I rx ry h hs
 obtain ⟨z, i, c, rfl, rfl, hz, he, q⟩ := h
 obtain ⟨t, rfl⟩ := rx
 obtain ⟨t', rfl⟩ := ry
 obtain ⟨j, h1, h2, h3, h4, h5⟩ := atI_get he
 have hl : z.cps.toList.length = z.length := by simp [Str.length]
 rw [hl] at h1 h4 h5
 have hn := line63
 exact tail_any (typeIs_str s z t) slot_str_getitem.lookup (getItem_str (c := c) (by
   have e1 : decide (i < -(2 ^ 63 : Int)) = false := decide_eq_false (by omega)
   have e2 : decide (i ≥ 2 ^ 63) = false := decide_eq_false (by omega)
   rw [e1, e2, Bool.or_false]) (by rw [h1]; simpa using h2) ⟨.str ⟨#[c]⟩, H, I.tok _, ⟨_, rfl⟩, q⟩) hs
theorem Inv.lst {pins : List (Addr × Obj)} {σ : St} {H : Hp} {s : Shared} {p : Addr} {xs : List V} (I : Inv X pins σ H s) (h : H p = some (.lst xs)) :
   ∃ (its : List Value) (n : Nat), Vals xs its ∧ s.heap.get? p = some { cls := .type "list", data := .seq its.toArray n } ∧ xs.length ≤ sizeLine := by
 obtain ⟨z, its, n, r, e⟩ := I.hok p _ h
 exact ⟨its, n, r, e, z⟩
theorem slice_bounds (lo hi : Option Int) (n : Nat) : (sliceBounds lo hi none n).1 = ((HT.sIx n 0 lo : Nat) : Int) ∧ (sliceBounds lo hi none n).2.1 = ((HT.sIx n n hi : Nat) : Int) ∧ (sliceBounds lo hi none n).2.2 = 1 := by
 refine ⟨?_, ?_, rfl⟩
 · cases lo with
   | none => simp [sliceBounds, HT.sIx]
   | some i =>
     simp only [sliceBounds, HT.sIx, Option.getD_none, show (1 : Int) > 0 by decide, if_true]
     by_cases h : i < 0
     · simp only [h, if_true] <;> omega
     · simp only [h, if_false] <;> omega
 · cases hi with
   | none => simp [sliceBounds, HT.sIx]
   | some i =>
     simp only [sliceBounds, HT.sIx, Option.getD_none, show (1 : Int) > 0 by decide, if_true]
     by_cases h : i < 0
     · simp only [h, if_true] <;> omega
     · simp only [h, if_false] <;> omega
theorem slicePick_cut (its : List Value) (lo hi : Option Int) : slicePick its.toArray lo hi none = ((its.drop (HT.sIx its.length 0 lo)).take (HT.sIx its.length its.length hi - HT.sIx its.length 0 lo)).toArray := by
 obtain ⟨h1, h2, h3⟩ := slice_bounds lo hi its.toArray.size
 unfold slicePick
 rw [h1, h2, h3]
 simp only [sliceRange_one, pick_run, List.size_toArray] <;> rfl
def rSlL (K : PySem.W.Frag) : V → Option Int → Option Int → Hp → VK → Prop := fun x lo hi H Q => ∃ a xs, x = .ref a ∧ SqL K H a xs ∧ ∀ p, H p = none → Q (.ref p) (upd H p (.lst (cutV xs lo hi)))
theorem sl_list : SlR X (rSlL X.K) := by
 intro pins s σ H x v vl vu lo hi sl Q I rx hs pl pu h
 obtain ⟨a, xs, rfl, hx, q⟩ := h
 cases rx
 obtain ⟨its, r, ht, hz⟩ := I.list hx
 have hlen := r.length
 refine ⟨"list", _, slot_list_getitem.lookup, ht.isList.typeIs, ?_⟩
 refine wpAny_getItem_list_slice ht.isList hs pl pu .none (by simp) ?_ (by rw [List.size_toArray] <;> omega)
 rw [slicePick_cut, ← hlen]
 refine ⟨.ref s.heap.objs.size, _, I.laid (t' := s.toks) (o := .lst (cutV xs lo hi)) (fun b ob q => Heap.get?_push_of_some _ q) (Nat.le_refl _) ?_, rfl, q _ (I.hok.fresh (Nat.le_refl _))⟩
 exact ⟨Nat.le_trans (cutV_length xs lo hi) hz, _, 0, (r.drop (HT.sIx xs.length 0 lo)).take (HT.sIx xs.length xs.length hi - HT.sIx xs.length 0 lo), Heap.get?_push_size _ rfl⟩
def flatV : V → Bool
 | .non => true
 | .bl _ => true
 | .int _ => true
 | .str _ => true
 | _ => false
def eqV : V → V → Bool
 | .non, .non => true
 | .bl a, .bl b => a == b
 | .bl a, .int b => (if a then 1 else 0) == b
 | .int a, .bl b => a == (if b then 1 else 0)
 | .int a, .int b => a == b
 | .str a, .str b => a == b
 | _, _ => false
theorem eqAt_V {A : Around} {s : Shared} {y x : V} {u v : Value} (ry : RelV y u) (rx : RelV x v) (fy : flatV y = true) (fx : flatV x = true) : SeqAt.EqAt A s u v (eqV y x) := by
 cases y with
 | non =>
   cases ry
   cases x with
   | non => cases rx; exact SeqAt.EqAt.same _
   | bl b => cases rx; exact SeqAt.EqAt.none_bool b
   | int b => obtain ⟨t, rfl⟩ := rx; exact SeqAt.EqAt.none_int b t
   | str b => obtain ⟨t, rfl⟩ := rx; exact SeqAt.EqAt.none_str b t
   | _ => exact absurd (show false = true from fx) Bool.false_ne_true
 | bl a =>
   cases ry
   cases x with
   | non => cases rx; exact SeqAt.EqAt.bool_none a
   | bl b => cases rx; exact SeqAt.EqAt.bool_bool a b
   | int b => obtain ⟨t, rfl⟩ := rx; exact SeqAt.EqAt.bool_int a b t
   | str b => obtain ⟨t, rfl⟩ := rx; exact SeqAt.EqAt.bool_str a b t
   | _ => exact absurd (show false = true from fx) Bool.false_ne_true
 | int a =>
   obtain ⟨t', rfl⟩ := ry
   cases x with
   | non => cases rx; exact SeqAt.EqAt.int_none a t'
   | bl b => cases rx; exact SeqAt.EqAt.int_bool a t' b
   | int b => obtain ⟨t, rfl⟩ := rx; exact SeqAt.EqAt.int_int a t' b t
   | str b => obtain ⟨t, rfl⟩ := rx; exact SeqAt.EqAt.int_str a t' b t
   | _ => exact absurd (show false = true from fx) Bool.false_ne_true
 | str a =>
   obtain ⟨t', rfl⟩ := ry
   cases x with
   | non => cases rx; exact SeqAt.EqAt.str_none a t'
   | bl b => cases rx; exact SeqAt.EqAt.str_bool a t' b
   | int b => obtain ⟨t, rfl⟩ := rx; exact SeqAt.EqAt.str_int a t' b t
   | str b => obtain ⟨t, rfl⟩ := rx; exact SeqAt.EqAt.str_str a t' b t
   | _ => exact absurd (show false = true from fx) Bool.false_ne_true
 | _ => exact absurd (show false = true from fy) Bool.false_ne_true
def eqU (x : V) (u : Value) : Bool := match u with
 | .none => eqV .non x
 | .bool b => eqV (.bl b) x
 | .int i _ => eqV (.int i) x
 | .str z _ => eqV (.str z) x
 | _ => false
theorem eqU_of {x y : V} {u : Value} (r : RelV y u) (f : flatV y = true) : eqU x u = eqV y x := by
 cases y with
 | non => cases r; rfl
 | bl b => cases r; rfl
 | int i => obtain ⟨t, rfl⟩ := r; rfl
 | str z => obtain ⟨t, rfl⟩ := r; rfl
 | _ => exact absurd (show false = true from f) Bool.false_ne_true
theorem any_eqU {x : V} : ∀ {xs : List V} {us : List Value}, Vals xs us → xs.all flatV = true → us.any (eqU x) = xs.any fun y => eqV y x
 | _, _, .nil, _ => rfl
 | y :: xs, u :: us, .cons r t, f => by
   rw [List.all_cons, Bool.and_eq_true] at f
   rw [List.any_cons, List.any_cons, eqU_of r f.1, any_eqU t f.2]
theorem mem_eqAt {A : Around} {s : Shared} {x : V} {v : Value} (rx : RelV x v) (fx : flatV x = true) : ∀ {xs : List V} {us : List Value}, Vals xs us → xs.all flatV = true → ∀ u ∈ us, SeqAt.EqAt A s u v (eqU x u)
 | _, _, .nil, _ => fun u hu => by cases hu
 | y :: xs, u :: us, .cons r t, f => fun u' hu => by
   rw [List.all_cons, Bool.and_eq_true] at f
   rcases List.mem_cons.mp hu with rfl | hu
   · rw [eqU_of r f.1]; exact eqAt_V r rx f.1 fx
   · exact mem_eqAt rx fx t f.2 u' hu
def inV (x : V) (xs : List V) : Bool := xs.any fun y => eqV y x
def rIn (K : PySem.W.Frag) (neg : Bool) : R2 := fun x y H Q => ∃ p xs, y = .ref p ∧ (SqL K H p xs ∨ SqT K H p xs) ∧ flatV x = true ∧ xs.all flatV = true ∧ Q (.bl (if neg then !inV x xs else inV x xs)) H
theorem op_in_seq : OpR X (compareOp .In) (rIn X.K false) := by
 intro pins s σ H x y v u Q I rx ry h
 obtain ⟨p, xs, rfl, hq, fx, fs, q⟩ := h
 cases ry
 rcases hq with hq | hq
 · obtain ⟨its, r, pl, hz⟩ := I.list hq
   refine SeqAt.in_listAt (eqU x) pl.isList (fun w hw => mem_eqAt rx fx r fs w (by simpa using hw)) ⟨.bl _, H, I, rfl, ?_⟩
   rw [show its.toArray.any (eqU x) = its.any (eqU x) by simp, any_eqU r fs]
   exact q
 · obtain ⟨its, r, pl, hz⟩ := I.tuple hq
   refine SeqAt.in_tupleAt (eqU x) pl (fun w hw => mem_eqAt rx fx r fs w (by simpa using hw)) ⟨.bl _, H, I, rfl, ?_⟩
   rw [show its.toArray.any (eqU x) = its.any (eqU x) by simp, any_eqU r fs]
   exact q
theorem op_notIn_seq : OpR X (compareOp .NotIn) (rIn X.K true) := by
 intro pins s σ H x y v u Q I rx ry h
 obtain ⟨p, xs, rfl, hq, fx, fs, q⟩ := h
 cases ry
 rcases hq with hq | hq
 · obtain ⟨its, r, pl, hz⟩ := I.list hq
   refine SeqAt.notIn_listAt (eqU x) pl.isList (fun w hw => mem_eqAt rx fx r fs w (by simpa using hw)) ⟨.bl _, H, I, rfl, ?_⟩
   rw [show its.toArray.any (eqU x) = its.any (eqU x) by simp, any_eqU r fs]
   exact q
 · obtain ⟨its, r, pl, hz⟩ := I.tuple hq
   refine SeqAt.notIn_tupleAt (eqU x) pl (fun w hw => mem_eqAt rx fx r fs w (by simpa using hw)) ⟨.bl _, H, I, rfl, ?_⟩
   rw [show its.toArray.any (eqU x) = its.any (eqU x) by simp, any_eqU r fs]
   exact q
theorem zS : CallR X (.builtin "len") (fun xs H Q => ∃ p ys, xs = [.ref p] ∧ (SqL X.K H p ys ∨ SqT X.K H p ys) ∧ Q (.int ys.length) H) := by
 intro pins s σ H xs us Q I r h
 obtain ⟨p, ys, rfl, hq, q⟩ := h
 obtain ⟨u, rfl, rx⟩ := vals1 r
 cases rx
 have hn := line63
 rcases hq with hq | hq
 · obtain ⟨its, r', pl, hz⟩ := I.list hq
   have hlen := r'.length
   exact Calls.call_len_list pl.isList (by simp only [List.size_toArray] <;> omega) ⟨.int ys.length, H, I.tok _, ⟨s.toks + 1, by rw [List.size_toArray, hlen]⟩, q⟩
 · obtain ⟨its, r', pl, hz⟩ := I.tuple hq
   have hlen := r'.length
   exact len_tuple pl (by simp only [List.size_toArray] <;> omega) ⟨.int ys.length, H, I.tok _, ⟨s.toks + 1, by rw [List.size_toArray, hlen]⟩, q⟩
theorem call_len_str : CallR X (.builtin "len") (fun xs H Q => ∃ z, xs = [.str z] ∧ z.length ≤ sizeLine ∧ Q (.int z.length) H) := by
 intro pins s σ H xs us Q I r h
 obtain ⟨z, rfl, hz, q⟩ := h
 obtain ⟨u, rfl, t, rfl⟩ := vals1 r
 have hn := line63
 exact len_str (by omega) ⟨.int z.length, H, I.tok _, ⟨_, rfl⟩, q⟩
theorem xE : CallR X (.type "list") (fun xs H Q => ∃ p ys, xs = [.ref p] ∧ (SqL X.K H p ys ∨ SqT X.K H p ys) ∧ ∀ l, H l = none → Q (.ref l) (upd H l (.lst ys))) := by
 intro pins s σ H xs us Q I r h
 obtain ⟨p, ys, rfl, hq, q⟩ := h
 obtain ⟨u, rfl, rx⟩ := vals1 r
 cases rx
 have fin : ∀ (its : List Value), Vals ys its → ys.length ≤ sizeLine → ∀ (h' : Heap) (c' : Nat), (∀ b o', s.heap.get? b = some o' → h'.get? b = some o') →
     h'.get? s.heap.objs.size = some { cls := .type "list", dict := none, data := .seq its.toArray c', slots := #[] } → EP X pins σ Q (.ref s.heap.objs.size) { s with heap := h' } := fun its r' hz h' c' kp e =>
   ⟨.ref s.heap.objs.size, _, I.laid (t' := s.toks) kp (Nat.le_refl _) (show ObjOk X.prog X.w _ h' _ (.lst ys) from ⟨hz, its, c', r', e⟩), rfl, q _ (I.hok.fresh (Nat.le_refl _))⟩
 rcases hq with hq | hq
 · obtain ⟨its, r', pl, hz⟩ := I.list hq
   have hlen := r'.length
   obtain ⟨o, ho, hc, n, hd⟩ := pl.isList
   exact call_list_seq p (.inl rfl) ho hc hd (fun h' c' kp e => fin its r' hz h' c' kp e) (by simp only [List.size_toArray] <;> omega)
 · obtain ⟨its, r', pl, hz⟩ := I.tuple hq
   have hlen := r'.length
   obtain ⟨o, ho, hc, n, hd⟩ := pl
   exact call_list_seq p (.inr rfl) ho hc hd (fun h' c' kp e => fin its r' hz h' c' kp e) (by simp only [List.size_toArray] <;> omega)
theorem call_tuple_of : CallR X (.type "tuple") (fun xs H Q => ∃ p ys, xs = [.ref p] ∧ ((SqL X.K H p ys ∧ ∀ l, H l = none → Q (.ref l) (upd H l (.tup ys))) ∨ (SqT X.K H p ys ∧ Q (.ref p) H))) := by
 intro pins s σ H xs us Q I r h
 obtain ⟨p, ys, rfl, h⟩ := h
 obtain ⟨u, rfl, rx⟩ := vals1 r
 cases rx
 rcases h with ⟨hq, q⟩ | ⟨hq, q⟩
 · obtain ⟨its, r', pl, hz⟩ := I.list hq
   have hlen := r'.length
   refine call_tuple_list pl.isList (fun h' kp => ?_) (by simp only [List.size_toArray] <;> omega)
   have I1 : Inv X pins σ H { s with heap := h' } := I.kept (t' := s.toks) kp
   have I2 : Inv X pins σ (upd H h'.objs.size (.tup ys)) { s with heap := h'.push { cls := .type "tuple", data := .seq its.toArray } } :=
     I1.laid (t' := s.toks) (fun b o e => Heap.get?_push_of_some _ e) (Nat.le_refl _) (show ObjOk X.prog X.w _ _ _ (.tup ys) from ⟨hz, its, r', IsTup.new _ _⟩)
   exact ⟨.ref h'.objs.size, _, I2, rfl, q _ (I1.hok.fresh (Nat.le_refl _))⟩
 · obtain ⟨its, r', pl, hz⟩ := I.tuple hq
   exact call_tuple_same pl ⟨.ref p, H, I, rfl, q⟩
def tyV (K : PySem.W.Frag) (T : String) (x : V) (H : Hp) : Prop := match x with
 | .str _ => T = "str"
 | .int _ => T = "int"
 | .ref p => (T = "list" ∧ ∃ xs, SqL K H p xs) ∨ (T = "tuple" ∧ ∃ o, K.lookup p = some o ∧ o.cls = .type "tuple" ∧ o.dict = none) ∨
     (T = "dict" ∧ ((∃ kvs, H p = some (.dK kvs)) ∨ ∃ kvs, H p = some (.dT kvs))) ∨ (T = "set" ∧ ∃ S n, H p = some (.set S n))
 | _ => False
theorem tyV_is {pins : List (Addr × Obj)} {σ : St} {H : Hp} {s : Shared} {T : String} {x : V} {v : Value} (I : Inv X pins σ H s) (r : RelV x v) (ty : tyV X.K T x H) :
   s.TypeIs v T ∧ ∀ a, v = .ref a → ∃ ob, s.heap.get? a = some ob ∧ ob.dict = none := by
 cases x with
 | str z =>
   obtain ⟨t, rfl⟩ := r
   cases (show T = "str" from ty)
   exact ⟨typeIs_str s z t, fun _ e => nomatch e⟩
 | int i =>
   obtain ⟨t, rfl⟩ := r
   cases (show T = "int" from ty)
   exact ⟨typeIs_int s i t, fun _ e => nomatch e⟩
 | ref p =>
   cases r
   rcases ty with ⟨rfl, xs, hq⟩ | ⟨rfl, o, hk, hc, hd⟩ | ⟨rfl, hk⟩ | ⟨rfl, S, n, hk⟩
   · obtain ⟨its, _, pl, _⟩ := I.list hq
     refine ⟨pl.isList.typeIs, fun a e => ?_⟩
     cases e
     obtain ⟨o, n, e, c, hd, _⟩ := pl
     exact ⟨o, e, hd⟩
   · refine ⟨⟨o, I.kIn p o hk, hc⟩, fun a e => ?_⟩
     cases e
     exact ⟨o, I.kIn _ o hk, hd⟩
   · have z : ∃ o, s.heap.get? p = some o ∧ o.ExactDict := by
       rcases hk with ⟨kvs, hk⟩ | ⟨kvs, hk⟩
       · obtain ⟨_, _, _, _, o, _, _, e, ex, _⟩ := I.hok p _ hk
         exact ⟨o, e, ex⟩
       · obtain ⟨_, _, _, _, o, _, _, e, ex, _⟩ := I.hok p _ hk
         exact ⟨o, e, ex⟩
     obtain ⟨o, e, ex⟩ := z
     refine ⟨⟨o, e, ex.1⟩, fun a e2 => ?_⟩
     cases e2
     exact ⟨o, e, ex.2.1⟩
   · obtain ⟨o, _, _, _, e, ex, _⟩ := I.hok p _ hk
     refine ⟨⟨o, e, ex.1⟩, fun a e2 => ?_⟩
     cases e2
     exact ⟨o, e, ex.2.1⟩
 | _ => exact False.elim ty
def tBM0 (K : PySem.W.Frag) (T : String) (r : V → List V → Hp → VK → Prop) (to : TE) : TE := fun σ H Q => to σ H fun x H1 => tyV K T x H1 ∧ r x [] H1 Q
def tBM (K : PySem.W.Frag) (T : String) (r : V → List V → Hp → VK → Prop) (to : TE) (t : TA) : TE := fun σ H Q => to σ H fun x H1 => tyV K T x H1 ∧ t σ H1 fun xs H2 => r x xs H2 Q
variable {o e : Expr} {es : List Expr} {to : TE} {t : TA} {name : Str} {apos cpos : Pos} {T id : String} {r : V → List V → Hp → VK → Prop}
theorem pe_bm0 (pa : PlainAttrs T) (slot : Slot T name id) (hty : typeOf (.builtin id) = pure (.type "method_descriptor")) (hm : MtR X id r) (ho : PE X o to)
   (hbase : attributeBase o name X.env (eval o X.env) = eval o X.env := by rfl) (hline : (apos.endLine == cpos.line) = true := by rfl) : PE X (.Call (.Attribute o name apos) [] [] cpos) (tBM0 X.K T r to) := by
 intro pins s σ H Q I h
 refine wpAny_Call_method0_late hbase hline (thn (ho pins s σ H _ I h) fun v s1 ⟨x, H1, I1, r1, ty, q1⟩ => ?_)
 obtain ⟨h1, h2⟩ := tyV_is I1 r1 ty
 exact ⟨T, id, pa, slot, hty, h1, h2, Calls.callWith_builtin rfl (PySem.evalArgs_none (hm pins s1 σ H1 x [] v [] Q I1 r1 .nil q1))⟩
theorem pe_bm (pa : PlainAttrs T) (slot : Slot T name id) (hty : typeOf (.builtin id) = pure (.type "method_descriptor")) (hm : MtR X id r) (ho : PE X o to) (ha : PA X (e :: es) t)
   (hbase : attributeBase o name X.env (eval o X.env) = eval o X.env := by rfl)
   (hfew : ((backTo cpos (starEach (e :: es) X.env)).all (fun x => !x.1) && (backToKw cpos (keywordEach [] X.env)).all (fun x => x.1.isSome)
     && decide ((e :: es).length + ([] : List Keyword).length + (if ([] : List Keyword).isEmpty then 0 else 1) < 30)) = true := by rfl)
   (hline : (apos.endLine == cpos.line) = true := by rfl) (hs : starEach (e :: es) X.env = (false, eval e X.env) :: starEach es X.env := by rfl) (hplain : (backTo cpos (starEach es X.env)).any (·.1) = false := by rfl) :
   PE X (.Call (.Attribute o name apos) (e :: es) [] cpos) (tBM X.K T r to t) := by
 intro pins s σ H Q I h
 refine wpAny_Call_method_late hbase hfew hline rfl (thn (ho pins s σ H _ I h) fun v s1 ⟨x, H1, I1, r1, ty, q1⟩ => ?_)
 obtain ⟨h1, h2⟩ := tyV_is I1 r1 ty
 refine ⟨T, id, pa, slot, hty, h1, h2, ?_⟩
 have hA := ha cpos pins s1 σ H1 _ I1 q1
 rw [hs] at hA ⊢
 refine Calls.callWith_builtin (by show (false || (backTo cpos (starEach es X.env)).any (·.1)) = false; rw [hplain] <;> rfl) (Calls.evalArgs_plain ?_)
 exact thn hA fun us s2 ⟨vs, H2, I2, r2, q2⟩ => hm pins s2 σ H2 x vs v us Q I2 r1 r2 q2
end
end L2
namespace L2
open PySem PySem.Spec PyProof.Rows
def MtM (X : Cx) (id : String) (r : V → List V → Hp → VK → Prop) : Prop :=
 ∀ (pins : List (Addr × Obj)) (s : Shared) (σ : St) (H : Hp) (x : V) (xs : List V) (v : Value) (us : List Value) (Q : VK), Inv X pins σ H s → RelV x v → Vals xs us → r x xs H Q →
   wpAny (model X.prog X.w) X.A (call (.builtin id) (v :: us)) (EP X pins σ Q) X.xe s
theorem Vals.one : ∀ {x : V} {us : List Value}, Vals [x] us → ∃ u, us = [u] ∧ RelV x u
 | _, _, .cons r .nil => ⟨_, rfl, r⟩
theorem Vals.zero : ∀ {us : List Value}, Vals [] us → us = []
 | _, .nil => rfl
theorem Vals.dropLast {xs : List V} {us : List Value} (h : Vals xs us) : Vals xs.dropLast us.dropLast := by
 induction h with
 | nil => exact .nil
 | cons r t ih =>
   cases t with
   | nil => exact .nil
   | cons q t' => exact .cons r ih
theorem Vals.reverse {xs : List V} {us : List Value} (h : Vals xs us) : Vals xs.reverse us.reverse := by
 induction h with
 | nil => exact .nil
 | cons r t ih => rw [List.reverse_cons, List.reverse_cons]; exact Vals.append ih (.cons r .nil)
section
variable {X : Cx} {pins : List (Addr × Obj)} {σ : St} {H : Hp} {s : Shared} {l b : Addr} {xs ys zs : List V}
theorem Inv.lset {its its' : List Value} {n : Nat} {f : Array Value → Array Value} {t' : Nat} (I : Inv X pins σ H s) (hH : H l = some (.lst xs))
   (e : s.heap.get? l = some { cls := .type "list", data := .seq its.toArray n }) (hf : f its.toArray = its'.toArray) (hv : Vals ys its') (hz : ys.length ≤ sizeLine) :
   Inv X pins σ (upd H l (.lst ys)) { s with heap := s.heap.update l (Obj.mapSeq f), toks := t' } := by
 have q := PySem.IsL.update e f
 rw [hf] at q
 refine I.write (x := l) (e := l) (by rw [hH]; exact trivial) (.inl rfl) (fun b' u hb hu => (Heap.get?_update_other s.heap (Obj.mapSeq f) (Ne.symm hb)).trans hu) ⟨_, q⟩ ?_
 exact ⟨hz, its', _, hv, q⟩
theorem Inv.lnew {its : List Value} {t' : Nat} (I : Inv X pins σ H s) (hv : Vals ys its) (hz : ys.length ≤ sizeLine) :
   Inv X pins σ (upd H s.heap.objs.size (.lst ys)) { s with heap := s.heap.push { cls := .type "list", data := .seq its.toArray }, toks := t' } :=
 I.laid (fun _ _ q => Heap.get?_push_of_some _ q) (Nat.le_refl _) ⟨hz, its, 0, hv, Heap.get?_push_size _ rfl⟩
theorem Inv.fresh (I : Inv X pins σ H s) : H s.heap.objs.size = none := I.hok.fresh (Nat.le_refl _)
theorem Inv.lstM (I : Inv X pins σ H s) (hH : H l = some (.lst xs)) : xs.length ≤ sizeLine ∧ ∃ (its : List Value) (n : Nat), Vals xs its ∧ xs.length = its.length ∧ s.heap.get? l = some { cls := .type "list", data := .seq its.toArray n } := by
 obtain ⟨z, its, n, r, e⟩ := I.hok l _ hH
 exact ⟨z, its, n, r, r.length, e⟩
theorem notLongL {n : Nat} (h : n ≤ sizeLine) : Builtin.List.listTooLong n = false := by
 unfold Builtin.List.listTooLong
 exact decide_eq_false (by omega)
end
section
variable {X : Cx}
def rAppend : V → List V → Hp → VK → Prop := fun x vs H Q => ∃ l xs y, x = .ref l ∧ vs = [y] ∧ H l = some (.lst xs) ∧ xs.length < sizeLine ∧ Q .non (upd H l (.lst (xs ++ [y])))
theorem yP : MtM X "list.append" rAppend := by
 intro pins s σ H x vs v us Q I rx rv h
 obtain ⟨l, xs, y, rfl, rfl, hH, hz, q⟩ := h
 cases rx
 obtain ⟨u, rfl, ru⟩ := rv.one
 obtain ⟨z, its, n, r, hl, e⟩ := I.lstM hH
 refine call_meets F.slot_list_append ⟨_, e, rfl⟩ F.entry_list_append (F.args_list_append_2 _ _) (PySem.list_append l its.toArray n u (by rw [List.size_toArray]; omega)) ⟨e, ?_⟩
 refine ⟨.non, _, I.lset (its' := its ++ [u]) hH e (by simp) (r.append (.cons ru .nil)) ?_, rfl, q⟩
 rw [List.length_append, List.length_singleton]
 omega
def rExtend : V → List V → Hp → VK → Prop := fun x vs H Q => ∃ l b xs zs, x = .ref l ∧ vs = [.ref b] ∧ H l = some (.lst xs) ∧ H b = some (.lst zs) ∧ xs.length + zs.length ≤ sizeLine ∧ Q .non (upd H l (.lst (xs ++ zs)))
theorem mt_extend : MtM X "list.extend" rExtend := by
 intro pins s σ H x vs v us Q I rx rv h
 obtain ⟨l, b, xs, zs, rfl, rfl, hH, hB, hz, q⟩ := h
 cases rx
 obtain ⟨u, rfl, ru⟩ := rv.one
 cases ru
 obtain ⟨z, its, n, r, hl, e⟩ := I.lstM hH
 obtain ⟨z2, its2, n2, r2, hl2, e2⟩ := I.lstM hB
 have hsz : its.toArray.size + its2.toArray.size ≤ sizeLine := by rw [List.size_toArray, List.size_toArray]; omega
 have hlong : ¬ (!its.toArray.isEmpty && Builtin.List.listTooLong (its.toArray.size + its2.toArray.size)) = true := by
   rw [notLongL hsz, Bool.and_false]
   exact Bool.false_ne_true
 refine call_meets F.slot_list_extend ⟨_, e, rfl⟩ F.entry_list_extend (F.args_list_extend_2 _ _)
   (AutoSeq1.list_extend_list_list_0 l its.toArray n b its2.toArray n2 hlong (by rw [List.size_toArray]; omega) (by omega)) ⟨e, e2, ?_⟩
 refine ⟨.non, _, I.lset (its' := its ++ its2) hH e (by simp) (r.append r2) ?_, rfl, q⟩
 rw [List.length_append]
 omega
def rClear : V → List V → Hp → VK → Prop := fun x vs H Q => ∃ l xs, x = .ref l ∧ vs = [] ∧ H l = some (.lst xs) ∧ Q .non (upd H l (.lst []))
theorem mt_clear : MtM X "list.clear" rClear := by
 intro pins s σ H x vs v us Q I rx rv h
 obtain ⟨l, xs, rfl, rfl, hH, q⟩ := h
 cases rx
 have hus := rv.zero
 subst hus
 obtain ⟨z, its, n, r, hl, e⟩ := I.lstM hH
 refine call_meets F.slot_list_clear ⟨_, e, rfl⟩ F.entry_list_clear (F.args_list_clear_1 _) (AutoSeq1.list_clear_list_0 l its.toArray n (by rw [List.size_toArray]; omega)) ⟨e, ?_⟩
 exact ⟨.non, _, I.lset (its' := []) (ys := []) hH e rfl .nil (Nat.zero_le _), rfl, q⟩
def rCat : R2 := fun x y H Q => ∃ l b xs zs, x = .ref l ∧ y = .ref b ∧ H l = some (.lst xs) ∧ H b = some (.lst zs) ∧ xs.length + zs.length ≤ sizeLine ∧ ∀ p, H p = none → Q (.ref p) (upd H p (.lst (xs ++ zs)))
theorem op_cat : OpR X (binaryOp .Add) rCat := by
 intro pins s σ H x y v u Q I rx ry h
 obtain ⟨l, b, xs, zs, rfl, rfl, hH, hB, hz, q⟩ := h
 cases rx
 cases ry
 obtain ⟨z, its, n, r, hl, e⟩ := I.lstM hH
 obtain ⟨z2, its2, n2, r2, hl2, e2⟩ := I.lstM hB
 refine PySem.P.add_list e e2 ?_ (by rw [List.size_toArray, List.size_toArray]; omega)
 have ea : its.toArray ++ its2.toArray = (its ++ its2).toArray := by simp
 rw [ea]
 exact ⟨.ref _, _, I.lnew (t' := s.toks) (r.append r2) (by rw [List.length_append]; omega), rfl, q _ I.fresh⟩
end
section
variable {prog : Program} {w : World} {A : Around} {E : Value → Shared → Prop} {s : Shared}
end
section
variable {X : Cx}
end
end L2
namespace Att
open PySem PySem.W PySem.Calls PyProof.Rows
theorem ints_of_wellAll {P : Params} {h : Heap} : ∀ (ns : List Int) (vs : List Value), WellAll P h vs (ns.map WData.int) → IntsAre vs ns := by
 intro ns
 induction ns with
 | nil =>
   intro vs w
   rw [List.map_nil] at w
   cases w
   exact .nil
 | cons n ns ih =>
   intro vs w
   rw [List.map_cons] at w
   cases w with
   | cons a b =>
     cases a
     exact .cons _ _ (ih _ b)
theorem script_of {l : OpenLaw} {n : Nat} (hn : l.most = some n) {P : Params} {h : Heap} {args : List WData} {vals : List Value}
   (hpre : l.row.toRowW.claim.pre args = true) (hwl : WellAll P h vals args) :
   ∃ a vs ns, vals = [Value.ref a] ∧ args = [WData.list (ns.map WData.int)] ∧ h.get? a = some { cls := .type "list", data := .seq vs.toArray } ∧ IntsAre vs ns ∧ ns.length ≤ n := by
 have hsh : WShape.hasAll [] args [.list .int] = true := (pre_splitW hpre).1
 have hc : l.pre.holds [] { args := args } = true := (pre_splitW hpre).2
 obtain ⟨d, r, rfl, h1, h2⟩ := hasAllW_cons hsh
 obtain rfl := hasAllW_nil h2
 obtain ⟨xs, rfl, h3⟩ := hasW_list h1
 obtain ⟨ns, rfl⟩ := items_int h3
 have hlen : ns.length ≤ n := by
   unfold OpenLaw.pre at hc
   have h4 : (WTm.not (.lt (.lit (.int (n : Int))) (.len (.arg 0)))).holds [] { args := [.list (ns.map .int)] } = true := by
     have h4 := (holds_andW hc).1
     rw [hn] at h4
     exact h4
   have h5 := condW_of h4 (w_not (w_lt w_lit (w_len_list (w_arg rfl))))
   rw [List.length_map] at h5
   refine Nat.le_of_not_lt fun q => ?_
   have q' : (n : Int) < ((ns.length : Nat) : Int) := by omega
   first
     | (rw [decide_eq_true q'] at h5; exact absurd h5 (by decide))
     | (simp at h5; omega)
 cases hwl with
 | cons w1 w2 =>
   cases w2
   cases w1 with
   | list ho hall => exact ⟨_, _, ns, rfl, rfl, ho, ints_of_wellAll ns _ hall, hlen⟩
theorem post_true (l : OpenLaw) (args : List WData) : l.row.toRowW.claim.post args (.bool true) args = true :=
 postW_of (r := l.row.toRowW) (X := (true == true))
   (show WShape.has [] (.bool true) .bool = true by first | rfl | decide | simp [WShape.has, WShape.arms, WShape.armsAll])
   (show (WTm.eq .res (.lit (.bool true))).value [] { args := args, res := some (.bool true), after := args } = some (.bool (true == true)) from w_eq_bool (w_res rfl) w_lit) rfl
section
variable {prog : Program} {w : World} {A : Around} {E : Value → Shared → Prop} {s : Shared} {K : Frag}
end
end Att
namespace L2
open PySem PySem.Spec PyProof.Rows
theorem vals_ints : ∀ {vs : List Value} {ns : List Int}, IntsAre vs ns → Vals (ns.map V.int) vs
 | _, _, .nil => .nil
 | _, _, .cons n t h => .cons ⟨t, rfl⟩ (vals_ints h)
def Only (H : Hp) : Prop := ∀ b, H b = none ∨ ∃ o xs, H b = some (.frz o (.lst xs))
theorem law_call {P : Program} {w : World} {K : PySem.W.Frag} {mg mb : Str → Option Value} {CX : CXT} {k : Nat} {fa a : Addr} {fd : FuncData} {x : Str} {sp : Sp} {s₁ : Shared} {vs : List Value} {ns : List Int}
   (KX : K.In s₁.heap) (hns : s₁.heap.Ns mainGlobals mg) (hb : s₁.heap.Ns builtinsNs mb) (hbb : ∀ x : Str, x ≠ "__name__" → mb x = bootBuiltins x) (hlim : s₁.heap.NoLimit) (hg : s₁.gens = #[])
   (ha : s₁.heap.get? a = some { cls := .type "list", data := .seq vs.toArray }) (hi : IntsAre vs ns) (hl : ns.length ≤ sizeLine) (hr : Room k callerA)
   (F : ∀ base : Heap, K.In base → base.Ns mainGlobals mg → FnOk P w K mg base CX k fa fd [x] sp) (hbind : ∀ (s : Shared) (u : Value), BindsTo s fd ⟨[u], []⟩ [(x, u)])
   (hsp : ∀ H : Hp, Only H → SqL K H a (ns.map V.int) → sp [.ref a] H (fun v _ => v = .bl true) fun _ _ _ => False)
   (hCX : ∀ H e s', CX [] H s₁ (fun _ _ _ => False) e s' → False) :
   codeAny (model P w) callerA (.call (.ref fa) ⟨[.ref a], []⟩) (fun r s' => r = .ok (.ret (.bool true)) ∧ OldK s₁.heap s'.heap ∧ s'.os = s₁.os ∧ AllBare s'.gens) s₁ := by
 have rv := vals_ints hi
 have lenV := hi.length
 have core : ∀ H : Hp, Only H → SqL K H a (ns.map V.int) → HOk P w H s₁.heap → (∀ b, H b ≠ none → b = a) → (H a ≠ none → K.lookup a = none) →
     codeAny (model P w) callerA (.call (.ref fa) ⟨[.ref a], []⟩) (fun r s' => r = .ok (.ret (.bool true)) ∧ OldK s₁.heap s'.heap ∧ s'.os = s₁.os ∧ AllBare s'.gens) s₁ := by
   intro H hO hS hok hA hK
   have base_of : ∀ {b : Addr} {o : Obj}, s₁.heap.get? b = some o → H b = none → (hidT s₁.heap H).get? b = some o := fun e n => hidT_get e n
   have noA : ∀ {b : Addr} {o : Obj} {es : Array DictEntry} {ep : Nat}, s₁.heap.get? b = some o → o.data = .dict es ep → H b = none := fun {b o es ep} e d => by
     cases q : H b with
     | none => rfl
     | some u =>
       have e' : b = a := hA b (by rw [q]; simp)
       subst e'
       rw [ha] at e; cases e
       have d' : Data.seq vs.toArray _ = Data.dict es ep := d
       cases d'
   have nsK : ∀ {b : Addr} {m : Str → Option Value}, s₁.heap.Ns b m → (hidT s₁.heap H).Ns b m := fun {b m} ⟨o, es, ep, e, d, r⟩ => ⟨o, es, ep, base_of e (noA e d), d, r⟩
   have hKb : K.In (hidT s₁.heap H) := fun b o e => base_of (KX b o e) (by
     cases q : H b with
     | none => rfl
     | some u =>
       have e' : b = a := hA b (by rw [q]; simp)
       subst e'
       rw [hK (by rw [q]; simp)] at e; cases e)
   have hM : Mod K mg (hidT s₁.heap H) := ⟨hKb, nsK hns, ⟨mb, nsK hb, hbb⟩, let ⟨mc, h1, h2⟩ := hlim; ⟨mc, nsK h1, h2⟩⟩
   have e0 : Env0 P w K mg (hidT s₁.heap H) callerA [] s₁ H := ⟨rfl, hM, fun b o e => of_hidT e, Nat.le_of_eq (hidT_size _ _), trivial, fun b hb => absurd (show b ∈ ([] : List Addr) from hb) (by simp), hok, .of_eq hg⟩
   refine codeAny_mono ((F _ hKb (nsK hns)).run callerA [] s₁ H ⟨[.ref a], []⟩ [.ref a] [.ref a] _ _ hr e0 (hbind s₁ (.ref a)) (.cons rfl .nil) (hsp H hO hS)) fun r s' h => ?_
   cases r with
   | error e => exact (hCX H e s' h).elim
   | ok fl =>
     cases fl with
     | next => exact False.elim h
     | brk => exact False.elim h
     | cont => exact False.elim h
     | ret u =>
       obtain ⟨v, H', os, bare, un, hok', r', q⟩ := h
       have q' : v = .bl true := q
       subst q'
       obtain rfl : u = Value.bool true := r'
       refine ⟨rfl, OldK.of_keep fun b o e => ?_, os, bare⟩
       cases q : H b with
       | none => exact un.keep b o e q (by intro z; exact absurd (show b ∈ ([] : List Addr) from z) (by simp)) (by simp)
       | some u =>
         rcases hO b with z | ⟨ob, xs, z⟩
         · rw [q] at z; cases z
         · have z2 := un.frzs b ob _ z
           obtain ⟨e1, _⟩ := hok b _ z
           obtain ⟨e2, _⟩ := hok' b _ z2
           rw [e] at e1; cases e1
           exact e2
 cases hk : K.lookup a with
 | some o =>
   have e := KX a o hk
   rw [ha] at e
   cases e
   refine core (fun _ => none) (fun _ => .inl rfl) (.inr ⟨_, vs.toArray, _, hk, rfl, rfl, rfl, by rw [List.size_toArray, lenV]; exact hl, by simpa using rv⟩) (fun b u z => by have z' : (none : Option HO) = some u := z; cases z') (fun b z => absurd rfl z) fun z => absurd rfl z
 | none =>
   refine core (fun b => if b = a then some (.frz { cls := .type "list", data := .seq vs.toArray } (.lst (ns.map V.int))) else none) (fun b => ?_) (.inl (.inr ⟨{ cls := .type "list", data := .seq vs.toArray }, if_pos rfl⟩)) (fun b u z => ?_) (fun b z => ?_) fun _ => hk
   · by_cases hb : b = a
     · exact .inr ⟨_, _, if_pos hb⟩
     · exact .inl (if_neg hb)
   · by_cases hb : b = a
     · have z' := (if_pos hb).symm.trans z
       cases z'
       subst hb
       exact ⟨ha, by rw [List.length_map]; exact hl, vs, _, rv, ha⟩
     · have z' := (if_neg hb).symm.trans z
       cases z'
   · by_cases hb : b = a
     · exact hb
     · exact absurd (if_neg hb) z
end L2
namespace L2
open PySem PySem.Spec PyProof.Rows
abbrev KOf {K : PySem.W.Frag} {h : Heap} (_ : K.In h) : PySem.W.Frag := K
end L2
namespace L2
open PySem PySem.Spec PyProof.Rows
def inClass (s : Stmt) (j : Nat) : Stmt := match s with
 | .ClassDef _ _ _ body _ _ _ _ _ _ _ => body.getD j (.Pass ⟨0, 0, 0, 0⟩)
 | _ => .Pass ⟨0, 0, 0, 0⟩
def defArgs (s : Stmt) : Arguments := match s with
 | .FunctionDef _ a _ _ _ _ _ _ _ _ => a
 | _ => { posonlyargs := [], args := [], vararg := none, kwonlyargs := [], kw_defaults := [], kwarg := none, defaults := [] }
def defBody (s : Stmt) : List Stmt := match s with
 | .FunctionDef _ _ b _ _ _ _ _ _ _ => b
 | _ => []
def defScope (s : Stmt) : Scope := match s with
 | .FunctionDef _ _ _ _ _ _ sc _ _ _ => sc
 | _ => { kind := .function, names := [], isGenerator := false, isCoroutine := false }
abbrev CX0 : CXT := fun _ _ _ _ _ _ => False
abbrev E0 : XK := fun _ _ _ => False
theorem zU {X : Cx} : Passes CX0 X E0 := fun _ _ _ _ _ _ _ h => h.elim
structure Fun (K : PySem.W.Frag) (x qual : Str) (st : Stmt) (f : Addr) (fd : FuncData) : Prop where
 ex : ∃ (oc : Value) (od : Option Addr) (kV doc pm : Value) (an : Option Addr) (cdv ct : Value) (osl : Array (Option Value)),
   fd = PySem.W.fnOf x qual (defArgs st) (defBody st) (defScope st) .none kV doc pm an cdv ct ∧ K.lookup f = some ⟨oc, od, .func fd, osl⟩ ∧ PySem.W.codeIn K cdv qual = true
 kp : PySem.W.keepIn K (.ref f) = true
section
variable {P : Program} {w : World} {K : PySem.W.Frag} {mg : Str → Option Value} {base : Heap}
theorem Fun.ok {x qual : Str} {st : Stmt} {f : Addr} {fd : FuncData} {N ps : List Str} {k : Nat} {sp : Sp} (F : Fun K x qual st f fd) (S : FnScope N ps (defScope st)) (len : ∀ vs H Q E, sp vs H Q E → vs.length = ps.length)
   (hbody : ∀ (cdv : Value) (A : Around) (outer : List Env) (s : Shared) (H : Hp) (vs : List V) (Q : VK) (E : XK), Room k (A.deeper (envOfC qual (defScope st) s.heap.objs.size f cdv)) → sp vs H Q E →
     ∃ t, PSs (cxOf CX0 P w K mg base N qual (defScope st) f cdv A outer s H E).nox (defBody st) t ∧ t { nx := fun _ H' => Q .non H', rt := Q } (start N vs) H) : FnOk P w K mg base CX0 (k + 1) f fd ps sp := by
 obtain ⟨oc, od, kV, doc, pm, an, cdv, ct, osl, rfl, lk, hcd⟩ := F.ex
 refine fn_of lk hcd S len fun A outer s H vs Q E hr hsp => ?_
 obtain ⟨t, h, q⟩ := hbody cdv A outer s H vs Q E hr hsp
 exact ⟨t, h.nox, q⟩
theorem Fun.binds {x qual : Str} {st : Stmt} {f : Addr} {fd : FuncData} {ps : List Str} (F : Fun K x qual st f fd)
   (h : ∀ (kV doc pm : Value) (an : Option Addr) (cdv ct : Value) (us : List Value), us.length = ps.length → bindArgs (PySem.W.fnOf x qual (defArgs st) (defBody st) (defScope st) .none kV doc pm an cdv ct) ⟨us, []⟩ = pure (ps.zip us)) : Binds K fd ps [] := by
 obtain ⟨oc, od, kV, doc, pm, an, cdv, ct, osl, rfl, lk, hcd⟩ := F.ex
 exact .all (h kV doc pm an cdv ct)
theorem fun_mk {x qual : Str} {st : Stmt} {f : Addr} {oc : Value} {od an : Option Addr} {osl : Array (Option Value)} {kV doc pm cdv ct : Value} (l : K.lookup f = some ⟨oc, od, .func (PySem.W.fnOf x qual (defArgs st) (defBody st) (defScope st) .none kV doc pm an cdv ct), osl⟩)
   (c : PySem.W.codeIn K cdv qual = true) (k : PySem.W.keepIn K (.ref f) = true) : Fun K x qual st f (PySem.W.fnOf x qual (defArgs st) (defBody st) (defScope st) .none kV doc pm an cdv ct) := ⟨⟨oc, od, kV, doc, pm, an, cdv, ct, osl, rfl, l, c⟩, k⟩
end
theorem hu_of {A : Around} {k : Nat} (hr : Room k A) : A.units + 1 < cLine := Nat.lt_of_le_of_lt (Nat.add_le_add_left (by decide : 1 ≤ 64) _) hr.units
section
variable {X : Cx}
theorem pv (i : Nat) {x : Str} {pos : Pos} (hN : X.N[i]? = some x := by rfl) (hv : Vis X.env.scope x := by first | exact Or.inl rfl | exact Or.inr (Or.inl rfl) | exact Or.inr (Or.inr rfl)) (hd : (x == ("__debug__" : Str)) = false := by decide)
   (hcd : (x == ("__classdict__" : Str)) = false := by decide) : PE X (.Name x pos) (tVar i) := pe_var hN hv hd hcd
end
theorem iteF {A B : Prop} (h : B) : if false = true then A else B := by
 rw [if_neg Bool.false_ne_true]
 exact h
theorem iteT {A B : Prop} (h : A) : if true = true then A else B := by
 rw [if_pos rfl]
 exact h
theorem ite2 {c A B : Prop} [Decidable c] (h1 : c → A) (h2 : ¬ c → B) : if c then A else B := by
 by_cases h : c
 · rw [if_pos h]
   exact h1 h
 · rw [if_neg h]
   exact h2 h
def Same (H H' : Hp) : Prop := ∀ b o, H b = some o → H' b = some o
theorem Same.refl (H : Hp) : Same H H := fun _ _ h => h
theorem Same.trans {H H1 H2 : Hp} (a : Same H H1) (b : Same H1 H2) : Same H H2 := fun c o h => b c o (a c o h)
theorem Same.free {H H' : Hp} (e : Same H H') {l : Addr} (h : H' l = Option.none) : H l = Option.none := by
 cases q : H l with
 | none => rfl
 | some o =>
   rw [e l o q] at h
   cases h
theorem Same.seq {K : PySem.W.Frag} {H H' : Hp} {a : Addr} {xs : List V} (e : Same H H') (h : SqL K H a xs) : SqL K H' a xs := by
 rcases h with (h | ⟨o, h⟩) | h
 · exact .inl (.inl (e _ _ h))
 · exact .inl (.inr ⟨o, e _ _ h⟩)
 · exact .inr h
end L2
namespace L2
open PySem PySem.Spec PyProof.Rows
section
variable {κ : Type} [DecidableEq κ]
def valV (kvs : List (κ × V)) (k : κ) : Option V := (kvs.find? fun kv => decide (kv.1 = k)).map (·.2)
def putK (kvs : List (κ × V)) (k : κ) (v : V) : List (κ × V) :=
 if (kvs.any fun kv => decide (kv.1 = k)) = true then kvs.map (fun kv => if kv.1 = k then (kv.1, v) else kv) else kvs ++ [(k, v)]
def dropK (kvs : List (κ × V)) (k : κ) : List (κ × V) := kvs.filter fun kv => decide (kv.1 ≠ k)
theorem yZ {p : κ × V} {r : List (κ × V)} {k : κ} (e : p.1 = k) : valV (p :: r) k = some p.2 := by simp [valV, List.find?_cons, e]
theorem yV {p : κ × V} {r : List (κ × V)} {k : κ} (e : ¬ p.1 = k) : valV (p :: r) k = valV r k := by simp [valV, List.find?_cons, e]
theorem valV_any (k : κ) : ∀ kvs : List (κ × V), (kvs.any fun kv => decide (kv.1 = k)) = (valV kvs k).isSome
 | [] => rfl
 | p :: r => by
   rw [List.any_cons]
   by_cases e : p.1 = k
   · simp only [yZ e, decide_eq_true e, Bool.true_or, Option.isSome_some]
   · rw [yV e, decide_eq_false e, Bool.false_or]; exact valV_any k r
theorem valV_map (k j : κ) (y : V) : ∀ kvs : List (κ × V), valV (kvs.map fun kv => if kv.1 = k then (kv.1, y) else kv) j = (valV kvs j).map fun x => if j = k then y else x
 | [] => rfl
 | p :: r => by
   have ih := valV_map k j y r
   rw [List.map_cons]
   by_cases h : p.1 = k
   · rw [if_pos h]
     by_cases e : p.1 = j
     · rw [yZ (p := (p.1, y)) e, yZ e, Option.map_some, if_pos (e.symm.trans h)]
     · rw [yV (p := (p.1, y)) e, yV e, ih]
   · rw [if_neg h]
     by_cases e : p.1 = j
     · rw [yZ (p := p) e, yZ e, Option.map_some, if_neg (fun z => h (e.trans z))]
     · rw [yV (p := p) e, yV e, ih]
theorem valV_snoc (k j : κ) (y : V) : ∀ kvs : List (κ × V), valV kvs k = none → valV (kvs ++ [(k, y)]) j = if j = k then some y else valV kvs j
 | [], _ => by
   by_cases e : k = j
   · rw [if_pos e.symm]; exact yZ (p := (k, y)) e
   · rw [if_neg (fun z => e z.symm)]; exact yV (p := (k, y)) e
 | p :: r, hn => by
   rw [List.cons_append]
   have hk : ¬ p.1 = k := fun z => by rw [yZ z] at hn; cases hn
   rw [yV hk] at hn
   have ih := valV_snoc k j y r hn
   by_cases e : p.1 = j
   · rw [yZ e, yZ e, if_neg (fun z => hk (e.trans z))]
   · rw [yV e, yV e, ih]
theorem valV_put (kvs : List (κ × V)) (k j : κ) (y : V) : valV (putK kvs k y) j = if j = k then some y else valV kvs j := by
 unfold putK
 by_cases a : (kvs.any fun kv => decide (kv.1 = k)) = true
 · rw [if_pos a, valV_map]
   rw [valV_any] at a
   by_cases e : j = k
   · obtain ⟨x, hx⟩ := Option.isSome_iff_exists.mp a
     rw [if_pos e, e, hx, Option.map_some, if_pos rfl]
   · rw [if_neg e]
     cases valV kvs j with
     | none => rfl
     | some x => rw [Option.map_some, if_neg e]
 · rw [if_neg a]
   refine valV_snoc k j y kvs ?_
   rw [valV_any] at a
   cases q : valV kvs k with
   | none => rfl
   | some x => rw [q] at a; exact (a rfl).elim
theorem yS (kvs : List (κ × V)) (k : κ) (v : V) : (putK kvs k v).length ≤ kvs.length + 1 := by
 unfold putK
 split
 · rw [List.length_map]; omega
 · rw [List.length_append, List.length_cons, List.length_nil]; omega
theorem putK_new {kvs : List (κ × V)} {k : κ} (v : V) (h : valV kvs k = none) : putK kvs k v = kvs ++ [(k, v)] := by
 unfold putK
 rw [valV_any, h]
 exact if_neg (by decide)
theorem RelO.isSome_eq {o : Option V} {u : Option Value} (r : RelO o u) : o.isSome = u.isSome := by
 cases o with
 | none => cases u with
   | none => rfl
   | some _ => exact (show False from r).elim
 | some _ => cases u with
   | none => exact (show False from r).elim
   | some _ => rfl
theorem RelO.getD {o : Option V} {u : Option Value} {d : V} {d' : Value} (r : RelO o u) (rd : RelV d d') : RelV (o.getD d) (u.getD d') := by
 cases o with
 | none => cases u with
   | none => exact rd
   | some _ => exact (show False from r).elim
 | some _ => cases u with
   | none => exact (show False from r).elim
   | some _ => exact r
theorem KV.val {kvs : List (κ × V)} {vs : List (κ × Value)} (r : KV kvs vs) (k : κ) : RelO (valV kvs k) (valueAt vs k) := by
 unfold KV at r
 induction r with
 | nil => exact True.intro
 | @cons p q ps qs h t ih =>
   obtain ⟨h1, h2⟩ := h
   by_cases e : p.1 = k
   · have e' : q.1 = k := h1.symm.trans e
     have b : valueAt (q :: qs) k = some q.2 := by simp [valueAt, List.find?_cons, e']
     rw [yZ e, b]; exact h2
   · have e' : ¬ q.1 = k := fun z => e (h1.trans z)
     have b : valueAt (q :: qs) k = valueAt qs k := by simp [valueAt, List.find?_cons, e']
     rw [yV e, b]; exact ih
theorem KV.any {kvs : List (κ × V)} {vs : List (κ × Value)} (r : KV kvs vs) (k : κ) : (kvs.any fun kv => decide (kv.1 = k)) = vs.any fun kv => decide (kv.1 = k) := by
 unfold KV at r
 induction r with
 | nil => rfl
 | cons h t ih => rw [List.any_cons, List.any_cons, ih, h.1]
theorem KV.repl {kvs : List (κ × V)} {vs : List (κ × Value)} (r : KV kvs vs) (k : κ) {y : V} {u : Value} (ry : RelV y u) :
   KV (kvs.map fun kv => if kv.1 = k then (kv.1, y) else kv) (vs.map fun kv => if kv.1 = k then (kv.1, u) else kv) := by
 unfold KV at r ⊢
 induction r with
 | nil => exact .nil
 | @cons p q ps qs h t ih =>
   rw [List.map_cons, List.map_cons]
   refine .cons ?_ ih
   obtain ⟨h1, h2⟩ := h
   by_cases e : p.1 = k
   · rw [if_pos e, if_pos (h1.symm.trans e)]; exact ⟨h1, ry⟩
   · rw [if_neg e, if_neg (fun z => e (h1.trans z))]; exact ⟨h1, h2⟩
theorem KV.put {kvs : List (κ × V)} {vs : List (κ × Value)} (r : KV kvs vs) (k : κ) {y : V} {u : Value} (ry : RelV y u) : KV (putK kvs k y) (stored vs k u) := by
 unfold putK stored
 rw [r.any k]
 by_cases e : (vs.any fun kv => decide (kv.1 = k)) = true
 · rw [if_pos e, if_pos e]; exact r.repl k ry
 · rw [if_neg e, if_neg e]; exact Paired.snoc r ⟨rfl, ry⟩
theorem KV.drop {kvs : List (κ × V)} {vs : List (κ × Value)} (r : KV kvs vs) (k : κ) : KV (dropK kvs k) (without vs k) := by
 unfold KV at r ⊢
 unfold dropK without
 induction r with
 | nil => exact .nil
 | @cons p q ps qs h t ih =>
   obtain ⟨h1, h2⟩ := h
   rw [List.filter_cons, List.filter_cons]
   by_cases e : p.1 = k
   · have a : ¬ decide (p.1 ≠ k) = true := by simp [e]
     have b : ¬ decide (q.1 ≠ k) = true := by simp [h1.symm.trans e]
     rw [if_neg a, if_neg b]; exact ih
   · have e' : ¬ q.1 = k := fun z => e (h1.trans z)
     have a : decide (p.1 ≠ k) = true := by simp [e]
     have b : decide (q.1 ≠ k) = true := by simp [e']
     rw [if_pos a, if_pos b]; exact .cons ⟨h1, h2⟩ ih
theorem KV.keys {kvs : List (κ × V)} {vs : List (κ × Value)} (r : KV kvs vs) : kvs.map (·.1) = vs.map (·.1) := by
 unfold KV at r
 induction r with
 | nil => rfl
 | cons h t ih => rw [List.map_cons, List.map_cons, ih, h.1]
theorem KV.length {kvs : List (κ × V)} {vs : List (κ × Value)} (r : KV kvs vs) : kvs.length = vs.length := Paired.length r
end
theorem kV_is {P : Program} {w : World} {k : Key} {u : Value} (r : RelV (kV k) u) : (mixKind P w).is k u = true := by
 cases k with
 | inl i => obtain ⟨t, e⟩ := (show ∃ t, u = Value.int i t from r); subst e; exact mixKind_int P w i t
 | inr x => obtain ⟨t, e⟩ := (show ∃ t, u = Value.str x t from r); subst e; exact mixKind_str P w x t
theorem items_are {P : Program} {w : World} : ∀ {ks : List Key} {us : List Value}, Vals (ks.map kV) us → ItemsAre (mixKind P w) ks us
 | [], _, r => by rw [List.map_nil] at r; cases r; exact .nil
 | k :: ks, _, r => by
   rw [List.map_cons] at r
   cases r with
   | cons h t => exact .cons (kV_is h) (items_are t)
abbrev KT (H : Hp) : List (List Key × V) → List (List Key × Addr × Value) → Prop := Paired fun p q => p.1 = q.1 ∧ H q.2.1 = some (.tup (p.1.map kV)) ∧ RelV p.2 q.2.2
theorem KT.val {H : Hp} {kvs : List (List Key × V)} {xs : List (List Key × Addr × Value)} (r : KT H kvs xs) (k : List Key) : RelO (valV kvs k) ((atKey xs k).map (·.2)) := by
 induction r with
 | nil => exact True.intro
 | @cons p q ps qs h t ih =>
   obtain ⟨h1, _, h2⟩ := h
   by_cases e : p.1 = k
   · have e' : q.1 = k := h1.symm.trans e
     have b : atKey (q :: qs) k = some q.2 := by simp [atKey, List.find?_cons, e']
     rw [yZ e, b]; exact h2
   · have e' : ¬ q.1 = k := fun z => e (h1.trans z)
     have b : atKey (q :: qs) k = atKey qs k := by simp [atKey, List.find?_cons, e']
     rw [yV e, b]; exact ih
theorem KT.repl {H : Hp} {kvs : List (List Key × V)} {xs : List (List Key × Addr × Value)} (r : KT H kvs xs) (k : List Key) {y : V} {u : Value} (ry : RelV y u) :
   KT H (kvs.map fun kv => if kv.1 = k then (kv.1, y) else kv) (xs.map (putAt k u)) := by
 induction r with
 | nil => exact .nil
 | @cons p q ps qs h t ih =>
   rw [List.map_cons, List.map_cons]
   refine .cons ?_ ih
   obtain ⟨h1, h2, h3⟩ := h
   unfold putAt
   by_cases e : p.1 = k
   · rw [if_pos e, if_pos (h1.symm.trans e)]; exact ⟨h1, h2, ry⟩
   · rw [if_neg e, if_neg (fun z => e (h1.trans z))]; exact ⟨h1, h2, h3⟩
theorem KT.put {H : Hp} {kvs : List (List Key × V)} {xs : List (List Key × Addr × Value)} (r : KT H kvs xs) (k : List Key) {b : Addr} {y : V} {u : Value} (hb : H b = some (.tup (k.map kV))) (ry : RelV y u) :
   KT H (putK kvs k y) (storedH xs k b u) := by
 have e : (kvs.any fun kv => decide (kv.1 = k)) = (atKey xs k).isSome := by
   rw [valV_any, (r.val k).isSome_eq, Option.isSome_map]
 unfold putK storedH
 rw [e]
 by_cases q : (atKey xs k).isSome = true
 · rw [if_pos q, if_pos q]; exact r.repl k ry
 · rw [if_neg q, if_neg q]; exact Paired.snoc r ⟨rfl, hb, ry⟩
theorem KT.keeps {H H' : Hp} {kvs : List (List Key × V)} {xs : List (List Key × Addr × Value)} (r : KT H kvs xs) (ht : ∀ b ys, H b = some (.tup ys) → H' b = some (.tup ys)) : KT H' kvs xs :=
 Paired.mapP r fun _ _ z => ⟨z.1, ht _ _ z.2.1, z.2.2⟩
section
variable {P : Program} {w : World} {H : Hp} {h : Heap} {a : Addr}
theorem rd_of {u : HO} (ok : HOk P w H h) (e : Rd H a u) : ObjOk P w H h a u := e.ok ok
theorem dk_rd {kvs : List (Key × V)} (ok : HOk P w H h) (e : Rd H a (.dK kvs)) : kvs.length ≤ sizeLine ∧ (a == sysModules) = false ∧ ∃ vs, KV kvs vs ∧ h.DictOf (mixKind P w) a vs :=
 show ObjOk P w H h a (.dK kvs) from rd_of ok e
theorem dk_of {kvs : List (Key × V)} (ok : HOk P w H h) (e : H a = some (.dK kvs)) : kvs.length ≤ sizeLine ∧ (a == sysModules) = false ∧ ∃ vs, KV kvs vs ∧ h.DictOf (mixKind P w) a vs := dk_rd ok (.inl e)
theorem key_of {ks : List Key} (ok : HOk P w H h) (e : H a = some (.tup (ks.map kV))) : (tupleKind (mixKind P w)).is h ks a := by
 obtain ⟨_, its, r, o, h1, h2, n, h3⟩ := (show ObjOk P w H h a (.tup (ks.map kV)) from ok a _ e)
 exact ⟨o, its.toArray, n, h1, h2, h3, by simpa using items_are r⟩
theorem dt_rd {kvs : List (List Key × V)} (ok : HOk P w H h) (e : Rd H a (.dT kvs)) : kvs.length ≤ sizeLine ∧ (a == sysModules) = false ∧
   ∃ xs, KT H kvs xs ∧ h.DictOfH (tupleKind (mixKind P w)) a xs := by
 obtain ⟨z, y, xs, r, o, es, ep, h1, h2, h3, h4, h5⟩ := (show ObjOk P w H h a (.dT kvs) from rd_of ok e)
 refine ⟨z, y, xs, r, o, es, ep, h1, h2, h3, h4, fun x hx => ?_, h5⟩
 have all : ∀ {l : List (List Key × V)} {m : List (List Key × Addr × Value)}, KT H l m → ∀ x ∈ m, (tupleKind (mixKind P w)).is h x.1 x.2.1 := by
   intro l m q
   induction q with
   | nil => intro x hx; exact nomatch hx
   | @cons p q ps qs hq t ih =>
     intro x hx
     rcases List.mem_cons.mp hx with e | hx
     · subst e
       exact key_of ok (by rw [← hq.1]; exact hq.2.1)
     · exact ih x hx
 exact all r x hx
theorem dt_of {kvs : List (List Key × V)} (ok : HOk P w H h) (e : H a = some (.dT kvs)) : kvs.length ≤ sizeLine ∧ (a == sysModules) = false ∧
   ∃ xs, KT H kvs xs ∧ h.DictOfH (tupleKind (mixKind P w)) a xs := dt_rd ok (.inl e)
end
def DGet (H : Hp) (a : Addr) (y : V) (r : Option V) : Prop :=
 (∃ kvs k, Rd H a (.dK kvs) ∧ y = kV k ∧ r = valV kvs k) ∨ ∃ kvs k b, Rd H a (.dT kvs) ∧ y = .ref b ∧ H b = some (.tup (k.map kV)) ∧ r = valV kvs k
def DPut (H : Hp) (a : Addr) (y v : V) (H' : Hp) : Prop :=
 (∃ kvs k, H a = some (.dK kvs) ∧ y = kV k ∧ kvs.length < sizeLine ∧ H' = upd H a (.dK (putK kvs k v))) ∨
 ∃ kvs k b, H a = some (.dT kvs) ∧ y = .ref b ∧ H b = some (.tup (k.map kV)) ∧ kvs.length < sizeLine ∧ H' = upd H a (.dT (putK kvs k v))
theorem DGet.k {H : Hp} {a : Addr} {kvs : List (Key × V)} {k : Key} (e : H a = some (.dK kvs)) : DGet H a (kV k) (valV kvs k) := .inl ⟨kvs, k, .inl e, rfl, rfl⟩
theorem DGet.t {H : Hp} {a b : Addr} {kvs : List (List Key × V)} {k : List Key} (e : H a = some (.dT kvs)) (eb : H b = some (.tup (k.map kV))) : DGet H a (.ref b) (valV kvs k) := .inr ⟨kvs, k, b, .inl e, rfl, eb, rfl⟩
theorem DPut.k {H : Hp} {a : Addr} {kvs : List (Key × V)} {k : Key} {v : V} (e : H a = some (.dK kvs)) (hl : kvs.length < sizeLine) : DPut H a (kV k) v (upd H a (.dK (putK kvs k v))) := .inl ⟨kvs, k, e, rfl, hl, rfl⟩
theorem DPut.t {H : Hp} {a b : Addr} {kvs : List (List Key × V)} {k : List Key} {v : V} (e : H a = some (.dT kvs)) (eb : H b = some (.tup (k.map kV))) (hl : kvs.length < sizeLine) :
   DPut H a (.ref b) v (upd H a (.dT (putK kvs k v))) := .inr ⟨kvs, k, b, e, rfl, eb, hl, rfl⟩
section
variable {X : Cx} {pins : List (Addr × Obj)} {σ : St} {H : Hp} {s : Shared} {a : Addr} {y v : V} {u r : Value} {o : Option V} {A : Around} {E : Value → Shared → Prop}
theorem Inv.big (I : Inv X pins σ H s) : sysModules < s.heap.objs.size := by
 have h : mainGlobals < s.heap.objs.size := (I.mod.glob.keeps I.bk).lt
 exact Nat.lt_trans (by decide) h
theorem d_getItem {Q : Value → Shared → Prop} (hu : A.units + 1 < cLine) (I : Inv X pins σ H s) (g : DGet H a y (some v)) (ry : RelV y u) (h : ∀ w' s', Inv X pins σ H s' → RelV v w' → Q w' s') :
   wpAny (model X.prog X.w) A (getItem (.ref a) u) Q E s := by
 rcases g with ⟨kvs, k, e, ey, l⟩ | ⟨kvs, k, b, e, ey, eb, l⟩
 · subst ey
   obtain ⟨z, hd, vs, rel, dd⟩ := dk_rd I.hok e
   obtain ⟨w', hw, rw'⟩ := RelO.some_of (v := v) (o := valueAt vs k) (by rw [l]; exact rel.val k)
   exact wpAny_getItem_of (kV_is ry) dd.mapOf hw (h w' _ (I.tok _) rw')
 · subst ey
   cases (show u = Value.ref b from ry)
   obtain ⟨z, hd, xs, rel, dd⟩ := dt_rd I.hok e
   obtain ⟨w', hw, rw'⟩ := RelO.some_of (v := v) (o := (atKey xs k).map (·.2)) (by rw [l]; exact rel.val k)
   obtain ⟨p, hp, hp2⟩ := Option.map_eq_some_iff.mp hw
   refine wpAny_getItem_heap (tupleKind_room_in1 hu) (key_of I.hok eb) dd hp ?_
   rw [hp2]
   exact h w' _ (I.tok _) rw'
theorem d_write {h' : Heap} {t' : Nat} {ob : HO} (I : Inv X pins σ H s) (mu : Mut (H a)) (hs : Heap.SameBut a s.heap h') (he : ∃ q, h'.get? a = some q) (new : ObjOk X.prog X.w (upd H a ob) h' a ob) :
   Inv X pins σ (upd H a ob) { s with heap := h', toks := t' } :=
 I.write (x := a) (e := a) mu (.inl rfl) (fun b q hb z => (hs.2 b hb).trans z) he new
theorem dk_new {P : Program} {w : World} {H' : Hp} {h' : Heap} {kvs : List (Key × V)} {vs : List (Key × Value)} (z : kvs.length ≤ sizeLine) (hd : (a == sysModules) = false) (rel : KV kvs vs) (dd : h'.DictOf (mixKind P w) a vs) :
   ObjOk P w H' h' a (.dK kvs) := ⟨z, hd, vs, rel, dd⟩
theorem d_setItem {H' : Hp} {Q : Unit → Shared → Prop} (hu : A.units + 1 < cLine) (I : Inv X pins σ H s) (g : DPut H a y v H') (ry : RelV y u) (rv : RelV v r) (h : ∀ s', Inv X pins σ H' s' → Q () s') :
   wpAny (model X.prog X.w) A (setItem (.ref a) u r) Q E s := by
 rcases g with ⟨kvs, k, e, ey, l, eH⟩ | ⟨kvs, k, b, e, ey, eb, l, eH⟩
 · subst ey eH
   obtain ⟨z, hd, vs, rel, dd⟩ := dk_of I.hok e
   have hz : vs.length ≤ sizeLine := by rw [← rel.length]; exact z
   have hl : (putK kvs k v).length ≤ sizeLine := by have := yS kvs k v; omega
   refine wpAny_setItem_pairs (hsz := hz) (kV_is ry) dd fun h' dd' hs => h _ ?_
   have he : ∃ q, h'.get? a = some q := let ⟨q, _, _, hq, _⟩ := dd'; ⟨q, hq⟩
   exact d_write I (by rw [e]; exact True.intro) hs he (dk_new hl hd (rel.put k rv) dd')
 · subst ey eH
   cases (show u = Value.ref b from ry)
   obtain ⟨z, hd, xs, rel, dd⟩ := dt_of I.hok e
   have hz : xs.length ≤ sizeLine := by rw [← Paired.length rel]; exact z
   have hl : (putK kvs k v).length ≤ sizeLine := by have := yS kvs k v; omega
   refine wpAny_setItem_heap (hsz := hz) (tupleKind_room_in1 hu) (key_of I.hok eb) dd fun h' dd' hs => h _ ?_
   obtain ⟨q, es, ep, hq, h2, h3, h4, _, h5⟩ := dd'
   refine d_write I (by rw [e]; exact True.intro) hs ⟨q, hq⟩ ⟨hl, hd, _, (rel.put k eb rv).keeps fun c ys ec => ?_, q, es, ep, hq, h2, h3, h4, h5⟩
   rw [zI (yG ec e (fun z => nomatch z))]
   exact ec
end
section
variable {X : Cx} {pins : List (Addr × Obj)} {σ : St} {H : Hp} {s : Shared} {a : Addr} {kvs : List (Key × V)} {k : Key} {u : Value} {A : Around} {E : Value → Shared → Prop}
end
def NoSl (i : Expr) : Prop := ∀ ov iv, subscripted i false ov iv = operate [ov, iv] (getItem ov iv)
theorem subD_of {prog : Program} {w : World} {A : Around} {E : Value → Shared → Prop} {s : Shared} {env : Env} {value slice : Expr} {pos : Pos} {T id : String} {Q : Value → Shared → Prop}
   (hl : typeLookup (.type T) "__getitem__" = pure (some (.builtin id))) (hs : NoSl slice)
   (h : wpAny (model prog w) A (eval value env) (fun o s₁ => wpAny (model prog w) A (eval slice env) (fun i s₂ => s₂.TypeIs o T ∧ wpAny (model prog w) A (getItem o i) Q E s₂) E s₁) E s) :
   wpAny (model prog w) A (eval (.Subscript value slice pos) env) Q E s := by
 refine Subscript_ (wpAny_mono h (fun o s₁ h₁ => wpAny_mono h₁ (fun i s₂ h₂ => ?_) fun _ _ x => x) fun _ _ x => x)
 obtain ⟨hT, h₂⟩ := h₂
 unfold subscriptTail
 refine wpAny_bind ?_
 rw [getitemInPython_of_ne hT.not_modules]
 refine wpAny_bind (wpAny_specialOf hT hl ?_)
 have fin : wpAny (model prog w) A (subscripted slice false o i) (fun r s₃ => wpAny (model prog w) A (letTemporaryGo value o r >>= fun _ => pure r) Q E s₃) E s₂ := by
   rw [hs o i]
   exact wpAny_operating (wpAny_mono h₂ (fun r s₃ h₃ => wpAny_bind (wpAny_letTemporaryGo (wpAny_pure h₃))) fun _ _ x => x)
 first
   | exact wpAny_pure (wpAny_bind fin)
   | exact wpAny_bind (wpAny_pure (wpAny_bind fin))
   | exact wpAny_bind fin
theorem dict_typeIs {X : Cx} {pins : List (Addr × Obj)} {σ : St} {H : Hp} {s : Shared} {a : Addr} {y : V} {o : Option V} (I : Inv X pins σ H s) (g : DGet H a y o) : s.TypeIs (.ref a) "dict" := by
 rcases g with ⟨kvs, k, e, _, _⟩ | ⟨kvs, k, b, e, _, _, _⟩
 · obtain ⟨_, _, vs, _, dd⟩ := dk_rd I.hok e
   exact dd.typeIs
 · obtain ⟨_, _, xs, _, dd⟩ := dt_rd I.hok e
   exact dd.typeIs
def tDGet (td ty : TE) : TE := fun σ H Q => td σ H fun x H1 => ty σ H1 fun y H2 => ∃ a v, x = .ref a ∧ DGet H2 a y (some v) ∧ Q v H2
def sDPut (td ty tv : TE) : TS := fun D σ H => tv σ H fun v H1 => td σ H1 fun x H2 => ty σ H2 fun y H3 => ∃ a H4, x = .ref a ∧ DPut H3 a y v H4 ∧ D.nx σ H4
section
variable {X : Cx} {o i e value : Expr} {pos pos' tpos : Pos} {td ty tv : TE}
theorem pe_dget (hu : X.A.units + 1 < cLine) (ho : PE X o td) (hi : PE X i ty) (hs : NoSl i) : PE X (.Subscript o i pos) (tDGet td ty) := by
 intro pins s σ H Q I h
 refine subD_of PySem.F.slot_dict_getitem.lookup hs (thn (ho pins s σ H _ I h) fun u s1 ⟨x, H1, I1, rx, q1⟩ => thn (hi pins s1 σ H1 _ I1 q1) fun iv s2 ⟨y, H2, I2, ry, a, v, ex, g, q2⟩ => ?_)
 subst ex
 obtain rfl : u = Value.ref a := rx
 exact ⟨dict_typeIs I2 g, d_getItem hu I2 g ry fun w' s3 I3 rw' => ⟨v, H2, I3, rw', q2⟩⟩
theorem ps_dput (hu : X.A.units + 1 < cLine) (ho : PE X o td) (hi : PE X i ty) (hv : PE X value tv) (hs : swapsWith value (some (.Subscript o i pos')) pos.line X.env = pure false) :
   PS X (.Assign [.Subscript o i pos'] value pos) (sDPut td ty tv) := by
 intro pins s σ H D I h
 refine wpAny_Assign_Subscript (thn (hv pins s σ H _ I h) fun r s1 ⟨v, H1, I1, rv, q1⟩ => thn (ho pins s1 σ H1 _ I1 q1) fun u s2 ⟨x, H2, I2, rx, q2⟩ => thn (hi pins s2 σ H2 _ I2 q2) fun iv s3 ⟨y, H3, I3, ry, a, H4, ex, g, q3⟩ => ?_) hs
 subst ex
 obtain rfl : u = Value.ref a := rx
 exact d_setItem hu I3 g ry rv fun s4 I4 => ⟨σ, H4, I4, q3⟩
end
theorem dk_empty {P : Program} {w : World} {H : Hp} (h : Heap) (hb : sysModules < h.objs.size) : ObjOk P w H (h.push { cls := .type "dict", data := .dict #[] }) h.objs.size (.dK []) :=
 ⟨Nat.zero_le _, beq_eq_false_iff_ne.mpr (Ne.symm (Nat.ne_of_lt hb)), [], .nil, Heap.DictOf.new h⟩
theorem dt_empty {P : Program} {w : World} {H : Hp} (h : Heap) (hb : sysModules < h.objs.size) : ObjOk P w H (h.push { cls := .type "dict", data := .dict #[] }) h.objs.size (.dT []) :=
 ⟨Nat.zero_le _, beq_eq_false_iff_ne.mpr (Ne.symm (Nat.ne_of_lt hb)), [], .nil, _, #[], 0, Heap.get?_push_size _ rfl, ⟨rfl, rfl, rfl⟩, rfl, rfl, List.nodup_nil⟩
def tDNewK : TE := fun _ H Q => ∀ p, H p = none → Q (.ref p) (upd H p (.dK []))
def tDNewT : TE := fun _ H Q => ∀ p, H p = none → Q (.ref p) (upd H p (.dT []))
section
variable {X : Cx} {pos : Pos}
theorem pe_dnewK : PE X (.Dict [] [] pos) tDNewK := fun pins s σ H Q I h =>
 wpAny_Dict_empty ⟨.ref s.heap.objs.size, _, I.laid (a := s.heap.objs.size) (o := .dK []) (t' := s.toks) (fun _ _ q => Heap.get?_push_of_some _ q) (Nat.le_refl _) (dk_empty s.heap I.big), rfl, h _ (I.hok.fresh (Nat.le_refl _))⟩
theorem pe_dnewT : PE X (.Dict [] [] pos) tDNewT := fun pins s σ H Q I h =>
 wpAny_Dict_empty ⟨.ref s.heap.objs.size, _, I.laid (a := s.heap.objs.size) (o := .dT []) (t' := s.toks) (fun _ _ q => Heap.get?_push_of_some _ q) (Nat.le_refl _) (dt_empty s.heap I.big), rfl, h _ (I.hok.fresh (Nat.le_refl _))⟩
end
def tPairs : List (TE × TE) → St → Hp → (List (V × V) → Hp → Prop) → Prop
 | [], _, H, Q => Q [] H
 | (tk, tv) :: r, σ, H, Q => tk σ H fun x H1 => tv σ H1 fun y H2 => tPairs r σ H2 fun ps H3 => Q ((x, y) :: ps) H3
abbrev VV : List (V × V) → List (Value × Value) → Prop := Paired fun p q => RelV p.1 q.1 ∧ RelV p.2 q.2
def PPs (X : Cx) (pos : Pos) (keys : List (Option Expr)) (values : List Expr) (trs : List (TE × TE)) : Prop :=
 ∀ (pins : List (Addr × Obj)) (s : Shared) (σ : St) (H : Hp) (Q : List (V × V) → Hp → Prop), Inv X pins σ H s → tPairs trs σ H Q →
   wpAny (model X.prog X.w) X.A (evalPairs (pairTrees keys values X.env pos)) (fun vs s' => ∃ ps H', Inv X pins σ H' s' ∧ VV ps vs ∧ Q ps H') X.xe s
theorem pps_nil {X : Cx} {pos : Pos} : PPs X pos [] [] [] := fun pins s σ H Q I h => pairTrees_nil_walk ⟨[], H, I, .nil, h⟩
theorem pps_cons {X : Cx} {pos : Pos} {k v : Expr} {ks : List (Option Expr)} {vs : List Expr} {tk tv : TE} {trs : List (TE × TE)} (hk : PE X k tk) (hv : PE X v tv) (hr : PPs X pos ks vs trs) :
   PPs X pos (some k :: ks) (v :: vs) ((tk, tv) :: trs) := fun pins s σ H Q I h =>
 pairTrees_cons_walk (thn (hk pins s σ H _ I h) fun u s1 ⟨x, H1, I1, rx, q1⟩ => thn (hv pins s1 σ H1 _ I1 q1) fun w2 s2 ⟨y, H2, I2, ry, q2⟩ =>
   thn (hr pins s2 σ H2 _ I2 q2) fun ws s3 ⟨ps, H3, I3, rel, q3⟩ => ⟨(x, y) :: ps, H3, I3, .cons ⟨rx, ry⟩ rel, q3⟩)
def mergeK (kvs more : List (Key × V)) : List (Key × V) := more.foldl (fun acc kv => putK acc kv.1 kv.2) kvs
theorem KV.merge : ∀ {more : List (Key × V)} {rs : List (Key × Value)} {kvs : List (Key × V)} {vs : List (Key × Value)}, KV more rs → KV kvs vs → KV (mergeK kvs more) (merged vs rs) := by
 intro more rs kvs vs r
 unfold KV at r
 induction r generalizing kvs vs with
 | nil => intro q; exact q
 | @cons p q ps qs h t ih =>
   intro r0
   have e : KV (putK kvs p.1 p.2) (stored vs q.1 q.2) := by
     have := r0.put p.1 h.2
     rw [← h.1]; exact this
   exact ih e
theorem length_mergeK : ∀ (more kvs : List (Key × V)), (mergeK kvs more).length ≤ kvs.length + more.length
 | [], kvs => by show kvs.length ≤ kvs.length + 0; omega
 | p :: r, kvs => by
   have h1 := length_mergeK r (putK kvs p.1 p.2)
   have h2 := yS kvs p.1 p.2
   show (mergeK (putK kvs p.1 p.2) r).length ≤ _
   rw [List.length_cons]; omega
theorem carries_of {P : Program} {w : World} : ∀ {kvs : List (Key × V)} {ws : List (Value × Value)}, VV (kvs.map fun kv => (kV kv.1, kv.2)) ws → ∃ rs, Carries (mixKind P w) ws rs ∧ KV kvs rs
 | [], _, r => by rw [List.map_nil] at r; cases r; exact ⟨[], True.intro, .nil⟩
 | p :: kvs, _, r => by
   rw [List.map_cons] at r
   cases r with
   | @cons a b as bs h t =>
     obtain ⟨rs, c, q⟩ := carries_of (P := P) (w := w) t
     obtain ⟨b1, b2⟩ := b
     exact ⟨(p.1, b2) :: rs, ⟨kV_is h.1, rfl, c⟩, .cons ⟨rfl, h.2⟩ q⟩
def tDisp (trs : List (TE × TE)) : TE := fun σ H Q => ∀ p, H p = none → tPairs trs σ (upd H p (.dK [])) fun ps H2 => H2 p = some (.dK []) ∧ ∃ kvs : List (Key × V), ps = kvs.map (fun kv => (kV kv.1, kv.2)) ∧ kvs.length ≤ 15 ∧ Q (.ref p) (upd H2 p (.dK (mergeK [] kvs)))
theorem pe_disp {X : Cx} {pos : Pos} {keys : List (Option Expr)} {values : List Expr} {trs : List (TE × TE)} (h : PPs X pos keys values trs) (hall : keys.all (·.isSome) = true) (hl : keys.length = values.length) (h0 : keys ≠ [])
   (h15 : keys.length ≤ 15) : PE X (.Dict keys values pos) (tDisp trs) := by
 intro pins s σ H Q I q
 have hn := I.hok.fresh (Nat.le_refl s.heap.objs.size)
 have I1 := I.laid (a := s.heap.objs.size) (o := .dK []) (h' := s.heap.push { cls := .type "dict", data := .dict #[] }) (t' := s.toks) (fun _ _ q => Heap.get?_push_of_some _ q) (Nat.le_refl _) (dk_empty s.heap I.big)
 refine wpAny_Dict_walk (knd := mixKind X.prog X.w) hall hl h0 h15 (thn (h pins _ σ _ _ I1 (q _ hn)) fun ws s2 ⟨ps, H2, I2, rel, e, kvs, ep, lk, q2⟩ => ?_)
 subst ep
 obtain ⟨rs, c, rk⟩ := carries_of (P := X.prog) (w := X.w) rel
 obtain ⟨z, hd, vs0, r0, dd⟩ := dk_of I2.hok e
 cases r0
 refine ⟨rs, c, dd, fun h' dd' hs => ⟨.ref s.heap.objs.size, _, ?_, rfl, q2⟩⟩
 have hz : (mergeK [] kvs).length ≤ sizeLine := by
   have h1 := length_mergeK kvs []
   rw [List.length_nil] at h1
   rw [sizeLine_eq]; omega
 have he : ∃ q, h'.get? s.heap.objs.size = some q := let ⟨q, _, _, hq, _⟩ := dd'; ⟨q, hq⟩
 exact d_write I2 (by rw [e]; exact True.intro) hs he (dk_new hz hd (rk.merge .nil) dd')
structure M1 (X : Cx) (o : Expr) (m : Str) (apos : Pos) (e : Expr) (cpos : Pos) : Prop where
 base : attributeBase o m X.env (eval o X.env) = eval o X.env
 few : ((backTo cpos (starEach [e] X.env)).all (fun x => !x.1) && (backToKw cpos (keywordEach [] X.env)).all (fun x => x.1.isSome)
   && decide (([e] : List Expr).length + ([] : List Keyword).length + (if ([] : List Keyword).isEmpty then 0 else 1) < 30)) = true
 line : (apos.endLine == cpos.line) = true
 trees : backTo cpos (starEach [e] X.env) = [(false, eval e X.env)]
structure M2 (X : Cx) (o : Expr) (m : Str) (apos : Pos) (e f : Expr) (cpos : Pos) : Prop where
 base : attributeBase o m X.env (eval o X.env) = eval o X.env
 few : ((backTo cpos (starEach [e, f] X.env)).all (fun x => !x.1) && (backToKw cpos (keywordEach [] X.env)).all (fun x => x.1.isSome)
   && decide (([e, f] : List Expr).length + ([] : List Keyword).length + (if ([] : List Keyword).isEmpty then 0 else 1) < 30)) = true
 line : (apos.endLine == cpos.line) = true
 trees : backTo cpos (starEach [e, f] X.env) = [(false, eval e X.env), (false, eval f X.env)]
def IsD (H : Hp) (a : Addr) : Prop := (∃ kvs, Rd H a (.dK kvs)) ∨ ∃ kvs, Rd H a (.dT kvs)
theorem isD_at {X : Cx} {pins : List (Addr × Obj)} {σ : St} {H : Hp} {s : Shared} {a : Addr} (I : Inv X pins σ H s) (d : IsD H a) :
   s.TypeIs (.ref a) "dict" ∧ (∀ b, Value.ref a = .ref b → ∃ ob, s.heap.get? b = some ob ∧ ob.dict = none) ∧ (a == sysModules) = false := by
 rcases d with ⟨kvs, e⟩ | ⟨kvs, e⟩
 · obtain ⟨_, hd, vs, _, dd⟩ := dk_rd I.hok e
   refine ⟨dd.typeIs, fun b q => ?_, hd⟩
   cases q
   obtain ⟨ob, _, _, h1, h2, _⟩ := dd
   exact ⟨ob, h1, h2.2.1⟩
 · obtain ⟨_, hd, xs, _, dd⟩ := dt_rd I.hok e
   refine ⟨dd.typeIs, fun b q => ?_, hd⟩
   cases q
   obtain ⟨ob, _, _, h1, h2, _⟩ := dd
   exact ⟨ob, h1, h2.2.1⟩
section
variable {X : Cx} {pins : List (Addr × Obj)} {σ : St} {H : Hp} {s : Shared} {a : Addr} {y d : V} {u r : Value} {o : Option V} {A : Around} {E : Value → Shared → Prop}
theorem d_get1 {Q : Value → Shared → Prop} (hu : A.units + 1 < cLine) (I : Inv X pins σ H s) (g : DGet H a y o) (ry : RelV y u) (h : ∀ w' s', Inv X pins σ H s' → RelV (o.getD .non) w' → Q w' s') :
   wpAny (model X.prog X.w) A (call (.builtin "dict.get") [.ref a, u]) Q E s := by
 rcases g with ⟨kvs, k, e, ey, l⟩ | ⟨kvs, k, b, e, ey, eb, l⟩
 · subst ey
   obtain ⟨z, hd, vs, rel, dd⟩ := dk_rd I.hok e
   refine call_meetsIn PySem.F.slot_dict_get dd.typeIs PySem.F.entry_dict_get (PySem.F.args_dict_get_2 _ _) (meets_dict_get (mixKind X.prog X.w) a (kV_is ry) hd) ⟨_, dd.mapOf, h _ _ (I.tok _) ?_⟩
   rw [l]
   exact (rel.val k).getD rfl
 · subst ey
   cases (show u = Value.ref b from ry)
   obtain ⟨z, hd, xs, rel, dd⟩ := dt_rd I.hok e
   refine call_meetsIn PySem.F.slot_dict_get dd.typeIs PySem.F.entry_dict_get (PySem.F.args_dict_get_2 _ _) (meetsH_dict_get (tupleKind (mixKind X.prog X.w)) a b hd) ⟨tupleKind_room_in1 hu, k, xs, key_of I.hok eb, dd, h _ _ (I.tok _) ?_⟩
   rw [l]
   exact (rel.val k).getD rfl
end
def tDGet1 (td ty : TE) : TE := fun σ H Q => td σ H fun x H1 => ∃ a, x = .ref a ∧ IsD H1 a ∧ ty σ H1 fun y H2 => ∃ o, DGet H2 a y o ∧ Q (o.getD .non) H2
section
variable {X : Cx} {o e f : Expr} {apos cpos : Pos} {td ty tx : TE}
theorem pe_dget1 (hu : X.A.units + 1 < cLine) (ho : PE X o td) (he : PE X e ty) (m : M1 X o "get" apos e cpos) : PE X (.Call (.Attribute o "get" apos) [e] [] cpos) (tDGet1 td ty) := by
 intro pins s σ H Q I h
 refine wpAny_Call_method m.base m.few m.line PySem.F.plainAttrs_dict PySem.F.slot_dict_get PySem.F.type_dict_get (thn (ho pins s σ H _ I h) fun u s1 ⟨x, H1, I1, rx, a, ex, d, q1⟩ => ?_)
 subst ex
 obtain rfl : u = Value.ref a := rx
 obtain ⟨t1, t2, _⟩ := isD_at I1 d
 refine ⟨t1, t2, ?_⟩
 rw [m.trees]
 refine Calls.callWith_builtin rfl (Calls.evalArgs_plain (Calls.spliced_cons (thn (he pins s1 σ H1 _ I1 q1) fun iv s2 ⟨y, H2, I2, ry, ov, g, q2⟩ => Calls.spliced_nil ?_)))
 exact d_get1 hu I2 g ry fun w' s3 I3 rw' => ⟨_, H2, I3, rw', q2⟩
end
section
variable {X : Cx} {pins : List (Addr × Obj)} {σ : St} {H : Hp} {s : Shared} {a : Addr} {kvs : List (Key × V)} {A : Around} {E : Value → Shared → Prop}
end
section
variable {X : Cx} {pins : List (Addr × Obj)} {σ : St} {H : Hp} {s : Shared} {a : Addr} {y : V} {u : Value} {A : Around} {E : Value → Shared → Prop}
end
end L2
namespace L2
open PySem PySem.Spec PyProof.Rows
section
variable {X : Cx}
end
section
variable {κ : Type} [DecidableEq κ]
theorem valV_not {kvs : List (κ × V)} {k : κ} (h : valV kvs k = none) : ¬ k ∈ kvs.map (·.1) := by
 intro m
 obtain ⟨p, hp, e⟩ := List.mem_map.mp m
 have q : (kvs.any fun kv => decide (kv.1 = k)) = true := List.any_eq_true.mpr ⟨p, hp, decide_eq_true e⟩
 rw [valV_any, h] at q
 exact absurd q (by simp)
theorem valV_in {kvs : List (κ × V)} {k : κ} {v : V} (h : valV kvs k = some v) : k ∈ kvs.map (·.1) := by
 have q : (kvs.any fun kv => decide (kv.1 = k)) = true := by
   rw [valV_any, h]
   all_goals rfl
 obtain ⟨p, hp, e⟩ := List.any_eq_true.mp q
 exact List.mem_map.mpr ⟨p, hp, of_decide_eq_true e⟩
end
end L2
namespace L2
open PySem PySem.Spec PyProof.Rows PySem.Calls
section
variable {prog : Program} {w : World} {A : Around} {R : Result → Shared → Prop} {s : Shared}
theorem compLoop_go {elt target iter : Expr} {scope : Scope} {pos : Pos} {it acc : Value} {env : Env} (I : Nat → Shared → Prop)
   (turn : ∀ n s, I n s → wpAny (model prog w) A (pyNext it) (fun r s₁ => match r with
     | none => R (.ok .next) s₁
     | some v => wpAny (model prog w) A (letOwnedTupleGo target it v) (fun _ s₂ => wpAny (model prog w) A (assign target env v) (fun _ s₃ =>
         wpAny (model prog w) A (eval elt env) (fun x s₄ =>
           wpAny (model prog w) A (call (.builtin "list.append") [acc, x]) (fun _ s₅ => ∃ m, m < n ∧ I m s₅) (notedBy (model prog w) A env fun e s' => R (.error e) s') s₄)
           (notedBy (model prog w) A env fun e s' => R (.error e) s') s₃) (notedBy (model prog w) A env fun e s' => R (.error e) s') s₂) (notedBy (model prog w) A env fun e s' => R (.error e) s') s₁)
     (notedBy (model prog w) A env fun e s' => R (.error e) s') s)
   (n : Nat) (h : I n s) : codeAny (model prog w) A (.compLoop (.ListComp elt [⟨target, iter, [], 0⟩] scope pos) 0 it acc env) R s := by
 refine codeAny_loop rfl I (fun n s hI => ?_) n h
 show wpAny _ A ((compTurn (.ListComp elt [⟨target, iter, [], 0⟩] scope pos) 0 it acc env).onRaise (fun x => do noteFrame x env; theTreesLotGoes x)) _ _ s
 refine wpAny_noted ?_
 rw [compTurn_list1]
 refine wpAny_bind (wpAny_standAt (wpAny_bind (wpAny_mono (turn n s hI) (fun r s₁ h₁ => ?_) fun _ _ h' => h')))
 cases r with
 | none => exact wpAny_pure h₁
 | some v =>
   refine wpAny_bind (wpAny_mono h₁ (fun _ s₂ h₂ => wpAny_bind (wpAny_mono h₂ (fun _ s₃ h₃ => ?_) fun _ _ h' => h')) fun _ _ h' => h')
   exact wpAny_bind (wpAny_bind (wpAny_mono h₃ (fun x s₄ h₄ => wpAny_bind (wpAny_mono h₄ (fun _ s₅ h₅ => wpAny_pure (wpAny_pure ⟨rfl, h₅⟩)) fun _ _ h' => h')) fun _ _ h' => h'))
end
def clOf (env : Env) : List (Str × NameKind) → List (Str × Addr) → List (Str × Addr)
 | [], cs => cs
 | (n, k) :: r, cs => clOf env r (if k == .free then match env.cells.lookup n with | some c => (n, c) :: cs | none => cs else cs)
theorem clOf_mem {env : Env} : ∀ {ns : List (Str × NameKind)} {cs : List (Str × Addr)} {y : Str} {c : Addr}, (y, c) ∈ clOf env ns cs → (y, c) ∈ cs ∨ env.cells.lookup y = some c
 | [], _, _, _, h => .inl h
 | (n, k) :: r, cs, y, c, h => by
   unfold clOf at h
   rcases clOf_mem h with q | q
   · split at q
     · cases e : env.cells.lookup n with
       | none => rw [e] at q; exact .inl q
       | some d =>
         rw [e] at q
         rcases List.mem_cons.mp q with z | z
         · cases z; exact .inr e
         · exact .inl z
     · exact .inl q
   · exact .inr q
theorem clOf_has {env : Env} : ∀ {ns : List (Str × NameKind)} {cs : List (Str × Addr)} {y : Str}, ((∃ c, (y, c) ∈ cs) ∨ ((y, NameKind.free) ∈ ns ∧ ∃ c, env.cells.lookup y = some c)) → ∃ c, (y, c) ∈ clOf env ns cs
 | [], _, _, h => by
   rcases h with h | ⟨h, _⟩
   · exact h
   · cases h
 | (n, k) :: r, cs, y, h => by
   unfold clOf
   apply clOf_has
   rcases h with ⟨c, h⟩ | ⟨h, c, e⟩
   · left
     split
     · cases e : env.cells.lookup n with
       | none => exact ⟨c, h⟩
       | some d => exact ⟨c, List.mem_cons_of_mem _ h⟩
     · exact ⟨c, h⟩
   · rcases List.mem_cons.mp h with z | z
     · cases z
       left
       rw [e]
       exact ⟨c, by simp⟩
     · exact .inr ⟨z, c, e⟩
theorem closure_cl {env : Env} : ∀ {ns : List (Str × NameKind)} {cs : List (Str × Addr)}, (∀ y, (y, NameKind.free) ∈ ns → ∃ c, env.cells.lookup y = some c) →
   (forIn ns cs fun (x : Str × NameKind) (r : List (Str × Addr)) => (if x.2 == NameKind.free then (do let c ← cellOf env x.1; pure (ForInStep.yield ((x.1, c) :: r))) else pure (ForInStep.yield r) : Sem (ForInStep (List (Str × Addr))))) = (pure (clOf env ns cs) : Sem (List (Str × Addr)))
 | [], _, _ => rfl
 | (n, k) :: r, cs, h => by
   have ih := @closure_cl env r
   rw [List.forIn_cons]
   unfold clOf
   cases hk : k == NameKind.free with
   | false =>
     simp only [Bool.false_eq_true, if_false]
     exact ih fun y hy => h y (List.mem_cons_of_mem _ hy)
   | true =>
     have ek : k = NameKind.free := by simpa using hk
     subst ek
     obtain ⟨c, e⟩ := h n (by simp)
     have ec : cellOf env n = pure c := by unfold cellOf; rw [e]
     simp only [if_true]
     rw [ec, e]
     exact ih fun y hy => h y (List.mem_cons_of_mem _ hy)
theorem closure_eq {scope : Scope} {env : Env} (h : ∀ y, (y, NameKind.free) ∈ scope.names → ∃ c, env.cells.lookup y = some c) : closureFor scope env = pure (clOf env scope.names []) := by
 have q := closure_cl (cs := []) h
 unfold closureFor
 exact congrArg (fun m => m >>= fun r => pure r) q
end L2
namespace L2
open PySem PySem.Spec PyProof.Rows PySem.Calls
theorem xF {env : Env} {y : Str} : ∀ {names : List (Str × NameKind)},
   (names.map fun (n, k) => if (k == NameKind.free && env.scope.kind == .function && env.kindOf n == some .cell) then (n, NameKind.cell) else (n, k)).lookup y
     = (names.lookup y).map fun k => if (k == NameKind.free && env.scope.kind == .function && env.kindOf y == some .cell) then NameKind.cell else k
 | [] => rfl
 | (n, k) :: r => by
   have ih := @xF env y r
   by_cases hx : y = n
   · subst hx
     simp only [List.map_cons]
     split <;> rename_i hc
     · rw [List.lookup_cons, List.lookup_cons]; simp only [beq_self_eq_true, Option.map_some]; rw [if_pos hc]
     · rw [List.lookup_cons, List.lookup_cons]; simp only [beq_self_eq_true, Option.map_some]; rw [if_neg hc]
   · have hb : (y == n) = false := beq_eq_false_iff_ne.mpr hx
     simp only [List.map_cons]
     split <;> simp only [List.lookup_cons, hb] <;> exact ih
section
variable {X : Cx} {pins : List (Addr × Obj)} {σ : St} {H : Hp} {s : Shared} {a : Addr} {o : HO}
theorem Inv.track (I : Inv X pins σ H s) (f : FpOk X pins H a) (hs : X.s₀.heap.objs.size ≤ a) (new : ObjOk X.prog X.w (upd H a o) s.heap a o) : Inv X pins σ (upd H a o) s := by
 obtain ⟨f0, f1, f2, f3, f4, f5⟩ := f
 have old : ∀ b ob, X.s₀.heap.get? b = some ob → b ≠ a := fun b ob e z => by subst z; exact absurd (Nat.lt_of_lt_of_le (Heap.lt_size e) hs) (Nat.lt_irrefl _)
 refine ⟨I.ok, I.os, I.bare, ⟨I.base.keep, I.base.slot, fun b ob e n hx => ?_, I.base.there, fun b xs e => ?_, fun b ob u e => ?_, fun b ps e => ?_⟩, I.loc, I.cell, ?_, fun x c e => ?_, fun p hp => ?_, fun b u e => ?_, I.len⟩
 · rw [zI (old b ob e)]; exact I.base.free b ob e n hx
 · have q := I.base.tups b xs e; rw [zI (zG q f0)]; exact q
 · have q := I.base.frzs b ob u e; rw [zI (zG q f0)]; exact q
 · obtain ⟨more, q⟩ := I.base.tbls b ps e; exact ⟨more, by rw [zI (zG q f0)]; exact q⟩
 · rw [zI (Ne.symm f1)]; exact I.free
 · rw [zI (f4 x c e)]; exact I.freeC x c e
 · obtain ⟨e, n, ne, nf, d⟩ := I.pin p hp
   exact ⟨e, by rw [zI (f5 p hp)]; exact n, ne, nf, d⟩
 · by_cases hb : b = a
   · subst hb; rw [zB] at e; cases e; exact new
   · rw [zI hb] at e
     exact (I.hok b u e).stay (fun c v _ q => q) (fun c q => by rw [zI (zG q f0)]; exact q) fun c xs q => by rw [zI (zG q f0)]; exact q
end
def compCx (X : Cx) (scope : Scope) (C : Addr) (x : Str) (M : List Str) (s₂ : Shared) (H₂ : Hp) (fp : List Addr) : Cx :=
 { X with N := x :: M, s₀ := s₂, H₀ := H₂, env := compEnvC scope (clOf X.env scope.names []) C X.env, outer := X.stack, ex := fp, fn := fun _ => false, pn := [], xe := fun _ _ => False }
structure CompOk (X : Cx) (scope : Scope) (x : Str) (M : List Str) : Prop where
 kind : scope.kind = .function
 cell : ∀ y ∈ scope.names, y.2 ≠ .cell
 names : ∀ y ∈ scope.names, y.2 = .local → scope.names.lookup y.1 = some .local
 loc : scope.names.lookup x = some .local
 nd : (x :: M).Nodup
 free : ∀ y, (y, NameKind.free) ∈ scope.names → X.env.scope.names.lookup y = some .cell ∨ X.env.scope.names.lookup y = some .free
 len : M.length = X.N.length
 sub : ∀ (j : Nat) y, M[j]? = some y → scope.names.lookup y = some .local ∨ scope.names.lookup y = some .free → X.N[j]? = some y ∧ scope.names.lookup y = some .free
def compOkB (names outer : List (Str × NameKind)) (N M : List Str) (x : Str) : Bool :=
 names.all (fun y => decide (y.2 ≠ .cell)) && names.all (fun y => decide (y.2 = .local → names.lookup y.1 = some .local)) && decide (names.lookup x = some .local) && decide (x :: M).Nodup &&
 names.all (fun y => decide (y.2 = .free → (outer.lookup y.1 = some .cell ∨ outer.lookup y.1 = some .free))) && decide (M.length = N.length) &&
 (M.zip N).all (fun p => decide (names.lookup p.1 = some .local ∨ names.lookup p.1 = some .free → p.1 = p.2 ∧ names.lookup p.1 = some .free))
theorem compOk_of {X : Cx} {scope : Scope} {x : Str} {M : List Str} (hk : scope.kind = .function) (h : compOkB scope.names X.env.scope.names X.N M x = true) : CompOk X scope x M := by
 unfold compOkB at h
 simp only [Bool.and_eq_true, List.all_eq_true, decide_eq_true_eq] at h
 obtain ⟨⟨⟨⟨⟨⟨h1, h2⟩, h3⟩, h4⟩, h5⟩, h6⟩, h7⟩ := h
 refine ⟨hk, h1, h2, h3, h4, fun y hy => h5 _ hy rfl, h6, fun j y e q => ?_⟩
 have hj : j < M.length := (List.getElem?_eq_some_iff.mp e).1
 have hj2 : j < X.N.length := by omega
 have z : (M.zip X.N)[j]? = some (y, X.N[j]) := by rw [List.getElem?_zip_eq_some]; exact ⟨e, by simp [hj2]⟩
 have r := h7 _ (List.mem_of_getElem? z) q
 exact ⟨by rw [List.getElem?_eq_getElem hj2]; exact congrArg some r.1.symm, r.2⟩
section
variable {X : Cx} {scope : Scope} {x : Str} {M : List Str} {pins : List (Addr × Obj)} {σ : St} {H₂ : Hp} {s₂ : Shared}
theorem CompOk.cl_of {y : Str} {c : Addr} (h : (clOf X.env scope.names []).lookup y = some c) : X.env.cells.lookup y = some c := by
 rcases clOf_mem (PySem.mem_of_lookup h) with q | q
 · cases q
 · exact q
theorem CompOk.cl_has (K : CompOk X scope x M) (ok : X.Ok) {y : Str} (h : (y, NameKind.free) ∈ scope.names) : ∃ c, (clOf X.env scope.names []).lookup y = some c ∧ X.env.cells.lookup y = some c := by
 have e1 : ∃ c, X.env.cells.lookup y = some c := ok.has y (K.free y h)
 obtain ⟨c, hc⟩ := clOf_has (env := X.env) (ns := scope.names) (cs := []) (y := y) (.inr ⟨h, e1⟩)
 have q : ∃ c, (clOf X.env scope.names []).lookup y = some c := by
   cases e : (clOf X.env scope.names []).lookup y with
   | some c => exact ⟨c, rfl⟩
   | none =>
     rw [List.lookup_eq_none_iff] at e
     have := e _ hc
     simp at this
 obtain ⟨c', hc'⟩ := q
 exact ⟨c', hc', CompOk.cl_of hc'⟩
theorem CompOk.closure (K : CompOk X scope x M) (ok : X.Ok) : closureFor scope X.env = pure (clOf X.env scope.names []) :=
 closure_eq fun y hy => by obtain ⟨c, _, q⟩ := K.cl_has ok hy; exact ⟨c, q⟩
theorem inv_comp (K : CompOk X scope x M) (I : Inv X pins σ H₂ s₂) {fp : List Addr} (hf : ∀ b ∈ fp, FpOk X pins H₂ b) (hfl : ∀ b ∈ fp, b < s₂.heap.objs.size) {C : Addr} (hC : s₂.heap.objs.size ≤ C) {h₁ : Heap} {t : Nat} {m : Str → Option Value} (hn : h₁.Ns C m)
   (hk : ∀ b o, s₂.heap.get? b = some o → h₁.get? b = some o) : Inv (compCx X scope C x M s₂ H₂ fp) [] (none :: σ) H₂ { s₂ with heap := h₁, toks := t } := by
 have lt : ∀ {b : Addr} {o : Obj}, s₂.heap.get? b = some o → b ≠ C := fun {b o} e z => by subst z; exact absurd (Nat.lt_of_lt_of_le (Heap.lt_size e) hC) (Nat.lt_irrefl _)
 have cC : ∀ y c, (clOf X.env scope.names []).lookup y = some c → c ≠ C := fun y c e => by
   obtain ⟨v, o, ho, _⟩ := I.cell y c (CompOk.cl_of e)
   exact lt ho
 have sub : ∀ b ∈ frs X.stack, b = X.env.locals ∨ b ∈ X.fs := fun b hb => List.mem_cons.mp (I.stkSub b hb)
 have ok : (compCx X scope C x M s₂ H₂ fp).Ok := by
   refine ⟨I.ok.mod, K.kind, I.ok.glob, I.ok.blt, hC, fun y z c h1 h2 => ?_, fun y hy => ?_, fun y c z => ?_, I.ok.hd, I.ok.frames, .inl rfl, fun b hb => ⟨?_, fun y c e => ?_⟩, I.bs, Nat.le_trans I.ok.bsz I.sz, fun b o e hb => ?_, fun b hb hb2 => ?_, I.stack, I.stkFree⟩
   · exact I.ok.inj y z c (CompOk.cl_of h1) (CompOk.cl_of h2)
   · have hy' : (relabel scope X.env).names.lookup y = some .cell ∨ (relabel scope X.env).names.lookup y = some .free := hy
     have q : (y, NameKind.free) ∈ scope.names := by
       unfold relabel at hy'
       rw [xF] at hy'
       cases e : scope.names.lookup y with
       | none => rw [e] at hy'; simp at hy'
       | some k =>
         have hm := PySem.mem_of_lookup e
         cases k with
         | free => exact hm
         | cell => exact absurd rfl (K.cell _ hm)
         | _ => rw [e] at hy'; simp at hy'
     obtain ⟨c, q, _⟩ := K.cl_has I.ok q
     exact ⟨c, q⟩
   · exact Bool.noConfusion (show false = true from z)
   · intro z
     have z' : b = C := z
     subst z'
     exact absurd (Nat.lt_of_lt_of_le (hfl b hb) hC) (Nat.lt_irrefl _)
   · exact (hf b hb).2.2.2.2.1 y c (CompOk.cl_of e)
   · have q := (hf b hb).2.2.2.1
     rcases q with q | q
     · exact I.ok.noex b o e q
     · exact absurd (Nat.lt_of_lt_of_le (Heap.lt_size (I.ok.bs b o e).1) q) (Nat.lt_irrefl _)
   · rcases sub b hb2 with z | z
     · exact (hf b hb).2.1 z
     · exact (hf b hb).2.2.1 z
 refine ⟨ok, rfl, I.bare, Un.kept hk, ⟨m, hn, fun i y v e1 e2 e3 => ?_⟩, fun y c e => ?_, ?_, fun y c e => ?_, fun p hp => absurd (show p ∈ ([] : List (Addr × Obj)) from hp) (by simp), I.hok.kept hk, ?_⟩
 · cases i with
   | zero =>
     have e2' : some (none : Option V) = some (some v) := e2
     cases e2'
   | succ j =>
     have e1' : M[j]? = some y := e1
     have e2' : σ[j]? = some (some v) := e2
     have e3' : (relabel scope X.env).names.lookup y = some .local ∨ (relabel scope X.env).names.lookup y = some .cell ∨ (relabel scope X.env).names.lookup y = some .free := e3
     have q : scope.names.lookup y = some .local ∨ scope.names.lookup y = some .free := by
       unfold relabel at e3'
       rw [xF] at e3'
       cases e : scope.names.lookup y with
       | none => rw [e] at e3'; simp at e3'
       | some k =>
         have hm := PySem.mem_of_lookup e
         cases k with
         | free => exact .inr rfl
         | «local» => exact .inl rfl
         | cell => exact absurd rfl (K.cell _ hm)
         | _ => rw [e] at e3'; simp at e3'
     obtain ⟨nj, fr⟩ := K.sub j y e1' q
     have hm := PySem.mem_of_lookup fr
     have kd := K.free y hm
     have vs : Vis X.env.scope y := .inr kd
     obtain ⟨mo, _, lo⟩ := I.loc
     obtain ⟨u, r, l⟩ := lo j y v nj e2' vs
     refine ⟨u, r, .inr ⟨?_, ?_⟩⟩
     · show (relabel scope X.env).names.lookup y = some .cell ∨ (relabel scope X.env).names.lookup y = some .free
       unfold relabel
       rw [xF, fr]
       simp only [Option.map_some]
       split
       · exact .inl rfl
       · exact .inr rfl
     · obtain ⟨c, q1, q2⟩ := K.cl_has I.ok hm
       rcases l with ⟨k, _⟩ | ⟨_, c', q3, z⟩
       · have k' : X.env.scope.names.lookup y = some .local := k
         rcases kd with kd | kd <;> · rw [k'] at kd; cases kd
       · rw [q2] at q3
         cases q3
         obtain ⟨oc, ho, hd⟩ := z
         exact ⟨c, q1, oc, hk _ _ ho, hd⟩
 · obtain ⟨v, oc, ho, hd⟩ := I.cell y c (CompOk.cl_of e)
   exact ⟨v, oc, hk _ _ ho, hd⟩
 · exact I.hok.fresh hC
 · exact I.freeC y c (CompOk.cl_of e)
 · show (none :: σ).length = (x :: M).length
   rw [List.length_cons, List.length_cons, K.len, I.len]
end
end L2
namespace L2
open PySem PySem.Spec PyProof.Rows PySem.Calls
def tComp (wi : TI) (te : TE) : TE := fun σ H Q => wi σ H fun J H1 => ∃ (n : Nat) (W : Nat → List V → Hp → Prop), n ≤ sizeLine ∧ W 0 [] H1 ∧ ∀ i ys H, i ≤ n → ys.length = i → W i ys H →
 (J.stop i H ∧ ∀ p, H p = none → Q (.ref p) (upd H p (.lst ys))) ∨ (J.go i H ∧ i < n ∧ ∀ x H', J.yld i H x H' → te (some x :: σ) H' fun v H'' => W (i + 1) (ys ++ [v]) H'')
section
variable {X : Cx} {scope : Scope} {x : Str} {M : List Str} {pins : List (Addr × Obj)} {σ : St} {H₂ : Hp} {s₂ : Shared} {elt iter : Expr} {px pos : Pos} {te : TE} {wi : TI}
theorem comp_block (K : CompOk X scope x M) (hc : X.calm = true) (I : Inv X pins σ H₂ s₂) (he : ∀ (C : Addr) (s₂ : Shared) (H₂ : Hp) (fp : List Addr), PE (compCx X scope C x M s₂ H₂ fp) elt te)
   {it : Addr} {fp : List Addr} {tn : Nat → Heap → Prop} {J : It} (T : Turn X.prog X.w X.K (.Name x px) J fp it tn) (st : tn 0 s₂.heap) (hf : ∀ b ∈ fp, FpOk X pins H₂ b) {n : Nat} (hsz : n ≤ sizeLine) {W : Nat → List V → Hp → Prop} {F : List V → Hp → Prop}
   (w0 : W 0 [] H₂) (turn : ∀ i ys H, i ≤ n → ys.length = i → W i ys H → (J.stop i H ∧ F ys H) ∨ (J.go i H ∧ i < n ∧ ∀ x H', J.yld i H x H' → te (some x :: σ) H' fun v H'' => W (i + 1) (ys ++ [v]) H''))
   {E : Value → Shared → Prop} {RR : Value → Addr → Result → Shared → Prop}
   (hRR : ∀ (D C : Addr) (s' : Shared) (H' : Hp) (ys : List V) (m : Str → Option Value), Inv X pins σ (upd H' D (.lst ys)) s' → H' D = none → FpOk X pins (upd H' D (.lst ys)) C → s'.heap.Ns C m → F ys H' → RR (.ref D) C (.ok .next) s') :
   wpAny (model X.prog X.w) X.A (newList []) (fun acc s₃ => wpAny (model X.prog X.w) X.A (newFunctionEnv scope X.env.globals (clOf X.env scope.names []) [] X.env.qual none .none (some X.env)) (fun cenv s₄ =>
     codeAny (model X.prog X.w) X.A (.compStart (.ListComp elt [⟨.Name x px, iter, [], 0⟩] scope pos) 0 (.ref it) acc { cenv with scope := relabel scope X.env }) (RR acc cenv.locals) s₄) E s₃) E s₂ := by
 refine wpAny_newObj_type (wpAny_newFunctionEnv K.cell (by intro y hy; simp at hy) (fun h₁ hns₁ hsb₁ => ?_) K.kind)
 dsimp only at hns₁ hsb₁ ⊢
 generalize hH2 : s₂.heap.push { cls := .type "list", dict := none, data := .seq ([] : List Value).toArray } = H2 at hns₁ hsb₁ ⊢
 have hC : H2.objs.size = s₂.heap.objs.size + 1 := by rw [← hH2, Heap.size_push]
 have hDC : s₂.heap.objs.size ≠ H2.objs.size := by rw [hC]; exact Nat.ne_of_lt (Nat.lt_succ_self _)
 have below : ∀ b, b < s₂.heap.objs.size → b ≠ H2.objs.size ∧ b ≠ s₂.heap.objs.size := fun b hb => ⟨by rw [hC]; exact Nat.ne_of_lt (Nat.lt_succ_of_lt hb), Nat.ne_of_lt hb⟩
 have hfl : ∀ b ∈ fp, b < s₂.heap.objs.size := fun b hb => by obtain ⟨o, e, _⟩ := T.obj _ _ st b hb; exact Heap.lt_size e
 have old : ∀ b o, s₂.heap.get? b = some o → h₁.get? b = some o := fun b o e => hsb₁.extBut b o (below b (Heap.lt_size e)).1 (Heap.get?_push_of_some _ (hH2 ▸ Heap.get?_push_of_some _ e))
 have hacc : h₁.get? s₂.heap.objs.size = some { cls := .type "list", data := .seq ([] : List Value).toArray 0 } := hsb₁.extBut _ _ hDC (Heap.get?_push_of_some _ (hH2 ▸ Heap.get?_push_size _ rfl))
 generalize hCC : H2.objs.size = C at *
 generalize hDD : s₂.heap.objs.size = D at *
 have hCle : s₂.heap.objs.size ≤ C := by rw [hDD, hC]; exact Nat.le_succ _
 have st₁ : tn 0 h₁ := T.keep _ _ _ st fun b _ o e => old b o e
 have I₁ := inv_comp (t := s₂.toks + ([] : List (Str × Value)).length) K I hf (fun b hb => by rw [hDD]; exact hfl b hb) hCle hns₁ old
 generalize hX' : compCx X scope C x M s₂ H₂ fp = X' at I₁
 have eX : X'.prog = X.prog ∧ X'.w = X.w ∧ X'.K = X.K ∧ X'.calm = true ∧ X'.A = X.A ∧ X'.ex = fp ∧ X'.env = compEnvC scope (clOf X.env scope.names []) C X.env ∧ X'.s₀ = s₂ ∧ X'.pn = [] := by
   subst hX'; exact ⟨rfl, rfl, rfl, hc, rfl, rfl, rfl, rfl, rfl⟩
 obtain ⟨eP, ew, eK, ec, eA, eex, eenv, es0, epn⟩ := eX
 have eL : X'.env.locals = C := by rw [eenv]; rfl
 have cells' : ∀ y c, X'.env.cells.lookup y = some c → X.env.cells.lookup y = some c := fun y c e => by rw [eenv] at e; exact CompOk.cl_of e
 have efs : X'.fs = frs X.stack := by subst hX'; rfl
 have fsub : ∀ b ∈ X'.fs, b = X.env.locals ∨ b ∈ X.fs := fun b hb => List.mem_cons.mp (I.stkSub b (by rw [← efs]; exact hb))
 have fpok : ∀ {pn : List (Addr × Obj)} {H' : Hp}, (∀ p ∈ pn, p.1 = D) → (∀ b ∈ fp, H' b = none) → ∀ b ∈ fp, FpOk X' pn H' b := fun {pn H'} hp hn b hb => by
   refine ⟨hn b hb, ?_, fun z => ?_, .inl (by rw [eex]; exact hb), fun y c e => (hf b hb).2.2.2.2.1 y c (cells' y c e), fun p hq => ?_⟩
   · rw [eL]; exact (below b (hfl b hb)).1
   · rcases fsub b z with q | q
     · exact (hf b hb).2.1 q
     · exact (hf b hb).2.2.1 q
   · rw [epn, List.nil_append] at hq
     rw [hp p hq]; exact Ne.symm (below b (hfl b hb)).2
 have Dfp : D ∉ fp := fun z => Nat.lt_irrefl _ (hfl D z)
 have ltL : X.env.locals < D := by have := I.lt; rw [hDD] at this; exact this
 have ltF : ∀ b ∈ X.fs, b < D := fun b hb => Nat.lt_of_not_le fun z => I.nofs (a := b) (by rw [hDD]; exact z) hb
 have newok : ∀ {b : Addr} {pn : List (Addr × Obj)} {H' : Hp}, D ≤ b → b ≠ C → H' b = none → (∀ p ∈ pn, p.1 ≠ b) → FpOk X' pn H' b := fun {b pn H'} hb hbC hn hp => by
   refine ⟨hn, by rw [eL]; exact hbC, fun z => ?_, .inr (by rw [es0, hDD]; exact hb), fun y c e => ?_, fun p hq => ?_⟩
   · rcases fsub b z with q | q
     · rw [q] at hb; exact absurd (Nat.lt_of_lt_of_le ltL hb) (Nat.lt_irrefl _)
     · exact absurd (Nat.lt_of_lt_of_le (ltF b q) hb) (Nat.lt_irrefl _)
   · obtain ⟨v, o, ho, _⟩ := I.cell y c (cells' y c e)
     have := Heap.lt_size ho
     rw [hDD] at this
     exact Nat.ne_of_lt (Nat.lt_of_lt_of_le this hb)
   · rw [epn, List.nil_append] at hq
     exact hp p hq
 have outer : ∀ {σ' : St} {H' : Hp} {s' : Shared} {pn : List (Addr × Obj)}, Inv X' pn σ' H' s' → Inv X pins σ H' s' := fun {σ' H' s' pn} J' => by
   subst hX'
   refine I.call' (ch := fp) J'.os J'.base J'.hok J'.bare fun b hb => ?_
   obtain ⟨f0, f1, f2, f3, f4, f5⟩ := hf b hb
   exact ⟨f3, f1, f4, f5⟩
 have outok : ∀ {b : Addr} {H' : Hp}, D ≤ b → H' b = none → FpOk X pins H' b := fun {b H'} hb hn => by
   have q := I.fpOk (H' := H') (b := b) (by rw [hDD]; exact hb) hn
   exact q
 have loop : ∀ s₃ : Shared, s₃ = { s₂ with heap := h₁, toks := s₂.toks + ([] : List (Str × Value)).length } →
     codeAny (model X.prog X.w) X.A (.compLoop (.ListComp elt [⟨.Name x px, iter, [], 0⟩] scope pos) 0 (.ref it) (.ref D) (compEnvC scope (clOf X.env scope.names []) C X.env)) (RR (.ref D) C) s₃ := by
   rintro s₃ rfl
   refine compLoop_go (fun k s' => ∃ (i : Nat) (ys : List V) (its : List Value) (σ0 : Option V) (H' : Hp), i ≤ n ∧ k = n + 1 - i ∧ ys.length = i ∧ Inv X' [] (σ0 :: σ) H' s' ∧ tn i s'.heap ∧ (∀ b ∈ fp, H' b = none) ∧ H' D = none ∧ Vals ys its ∧
     (∃ c, s'.heap.get? D = some { cls := .type "list", data := .seq its.toArray c }) ∧ W i ys H') ?_ (n + 1) ⟨0, [], [], none, H₂, Nat.zero_le _, rfl, rfl, I₁, st₁, fun b hb => (hf b hb).1, by rw [← hDD]; exact I.hok.fresh (Nat.le_refl _), .nil, ⟨0, hacc⟩, w0⟩
   rintro k s' ⟨i, ys, its, σ0, H', hi, rfl, hyl, I', st', fr', hD', rv, ⟨c, hobj⟩, w'⟩
   have hx0 : X'.N[0]? = some x := by subst hX'; rfl
   have hxl : X'.env.scope.names.lookup x = some .local := by rw [eenv]; exact lookup_relabel_local K.loc
   have hNd : X'.N.Nodup := by subst hX'; exact K.nd
   rcases turn i ys H' hi hyl w' with ⟨stop, fin⟩ | ⟨go, hlt, step⟩
   · have pinD : Inv X' [(D, { cls := .type "list", data := .seq its.toArray c })] (σ0 :: σ) H' s' := I'.pins_of fun p hp => by
       obtain rfl : p = (D, { cls := .type "list", data := .seq its.toArray c }) := by simpa using hp
       refine ⟨hobj, hD', ?_, ?_, fun v z => nomatch z⟩
       · rw [eL]; exact hDC
       · intro z
         rcases fsub D z with q | q
         · rw [q] at ltL; exact Nat.lt_irrefl _ ltL
         · exact Nat.lt_irrefl _ (ltF D q)
     have q := T.done X' eP ew eK ec i _ s' (σ0 :: σ) H' (notedBy (model X.prog X.w) X.A (compEnvC scope (clOf X.env scope.names []) C X.env) fun e s' => RR (.ref D) C (.error e) s') pinD (fpok (fun p hp => by obtain rfl : p = (D, { cls := .type "list", data := .seq its.toArray c }) := (by simpa using hp); rfl) fr') st' stop
     rw [eA] at q
     refine wpAny_mono q (fun r s4 ⟨hr, I4⟩ => ?_) fun _ _ z => z
     subst hr
     obtain ⟨e4, n4, _⟩ := I4.pin (D, { cls := .type "list", data := .seq its.toArray c }) (List.mem_append_right _ (by simp))
     have O4 := outer I4
     obtain ⟨m4, ns4, _⟩ := I4.loc
     rw [eL] at ns4
     refine hRR D C s4 H' ys m4 (O4.track (outok (Nat.le_refl _) n4) (Nat.le_trans I.sz (by rw [hDD]; exact Nat.le_refl _)) ⟨by rw [hyl]; exact Nat.le_trans hi hsz, its, c, rv, e4⟩) n4 (outok (by rw [hC]; exact Nat.le_succ _) ?_) ns4 fin
     rw [zI (Ne.symm hDC)]
     have := I4.free
     rw [eL] at this
     exact this
   · have pinD : Inv X' [(D, { cls := .type "list", data := .seq its.toArray c })] (σ0 :: σ) H' s' := I'.pins_of fun p hp => by
       obtain rfl : p = (D, { cls := .type "list", data := .seq its.toArray c }) := by simpa using hp
       refine ⟨hobj, hD', ?_, ?_, fun v z => nomatch z⟩
       · rw [eL]; exact hDC
       · intro z
         rcases fsub D z with q | q
         · rw [q] at ltL; exact Nat.lt_irrefl _ ltL
         · exact Nat.lt_irrefl _ (ltF D q)
     have pd : ∀ p ∈ [(D, ({ cls := .type "list", data := .seq its.toArray c } : Obj))], p.1 = D := fun p hp => by obtain rfl : p = (D, { cls := .type "list", data := .seq its.toArray c }) := (by simpa using hp); rfl
     have q := T.item X' eP ew eK ec i _ s' (σ0 :: σ) H' (notedBy (model X.prog X.w) X.A (compEnvC scope (clOf X.env scope.names []) C X.env) fun e s' => RR (.ref D) C (.error e) s') pinD (fpok pd fr') st' go
     rw [eA] at q
     refine wpAny_mono q (fun r s4 ⟨u, hr, h4⟩ => ?_) fun _ _ z => z
     subst hr
     refine wpAny_mono h4 (fun _ s5 ⟨xv, H5, I5, r5, y5, st5, fr5⟩ => ?_) fun _ _ z => z
     have I5' := I5.pinned (fpok pd fr5) (T.obj _ _ st5)
     refine wpAny_assign_Name ?_
     rw [← eenv]
     refine store_ok I5' hNd hx0 (.inl hxl) r5 (fun s6 I6 => ?_) (.inr hxl)
     have te6 := step xv H5 y5
     have q6 := (he C s₂ H₂ fp) (([(D, ({ cls := .type "list", data := .seq its.toArray c } : Obj))]) ++ pinsAt fp s5.heap) s6 (some xv :: σ) H5 (fun v H'' => W (i + 1) (ys ++ [v]) H'') (by rw [hX']; exact I6) te6
     rw [hX', eP, ew, eA] at q6
     refine wpAny_mono q6 (fun u7 s7 ⟨v7, H7, I7, r7, w7⟩ => ?_) (fun _ _ z => by subst hX'; exact (show False from z).elim)
     obtain ⟨e7, n7, _⟩ := I7.pin (D, { cls := .type "list", data := .seq its.toArray c }) (List.mem_append_right _ (List.mem_append_left _ (by simp)))
     refine append_at (hsz := by rw [List.size_toArray, ← rv.length, hyl]; exact Nat.le_trans hi hsz) e7 fun h8 sb8 g8 => ?_
     have I8 : Inv X' [] (some xv :: σ) H7 { s7 with heap := h8, toks := s7.toks } := (I7.pins_of (pins' := []) fun p hp => absurd hp (by simp)).turned (t' := s7.toks) (it := D) (fun b o hb e => (sb8.2 b hb).trans e) n7 (by rw [eL]; exact hDC) (.inr (by rw [es0, hDD]; exact Nat.le_refl _))
       (newok (H' := H7) (pn := []) (Nat.le_refl _) hDC n7 (fun p hp => absurd hp (by simp))).2.2.2.2.1 (fun p hp => by rw [epn] at hp; exact absurd hp (by simp))
     refine ⟨n + 1 - (i + 1), by omega, i + 1, ys ++ [v7], its ++ [u7], some xv, H7, hlt, rfl, by rw [List.length_append, List.length_singleton, hyl], I8, ?_, fun b hb => ?_, n7, rv.append (.cons r7 .nil), ⟨c + 1, ?_⟩, w7⟩
     · refine T.keep _ _ _ st5 fun b hb o e => ?_
       have e' := (I7.pin (b, o) (List.mem_append_right _ (List.mem_append_right _ (yW hb e)))).1
       exact (sb8.2 b (fun z => Dfp (z ▸ hb))).trans e'
     · obtain ⟨o, e, d⟩ := T.obj _ _ st5 b hb
       exact (I7.pin (b, o) (List.mem_append_right _ (List.mem_append_right _ (yW hb e)))).2.1
     · rw [g8, List.push_toArray]
 exact codeAny_compStart_list (loop _ rfl) (T.self X.A 0 _ _ _ st₁ (loop _ rfl))
theorem pe_comp (K : CompOk X scope x M) (hc : X.calm = true) (hi : PI X (.Name x px) iter wi) (he : ∀ (C : Addr) (s₂ : Shared) (H₂ : Hp) (fp : List Addr), PE (compCx X scope C x M s₂ H₂ fp) elt te)
   (hs : ∀ x, foldedSetIterable iter X.env x = pure x := by intro _; rfl) : PE X (.ListComp elt [⟨.Name x px, iter, [], 0⟩] scope pos) (tComp wi te) := by
 intro pins s σ H Q I h
 rw [eval_ListComp]
 refine wpAny_comprehension_free (use := none) rfl hs (K.closure I.ok) K.kind K.names (thn (hi pins s σ H _ I h) fun v s1 h1 => thn h1 fun itv s2 h2 => ?_)
 obtain ⟨it, fp, tn, J, H2, e, I2, T, st2, f2, n, W, hsz, w0, turn⟩ := h2
 subst e
 refine comp_block (RR := fun acc C => compPost (model X.prog X.w) X.A X.xe none (EP X pins σ Q) acc C) K hc I2 he T st2 f2 hsz (F := fun ys H => ∀ p, H p = none → Q (.ref p) (upd H p (.lst ys))) w0 turn ?_
 intro D C s' H' ys m I' n' fC ns fin
 refine ⟨m, ns, fun h' sb => ?_⟩
 obtain ⟨f0, f1, f2, f3, f4, f5⟩ := fC
 exact ⟨.ref D, _, I'.turned (t' := s'.toks) (it := C) (fun b o hb e => (sb.2 b hb).trans e) f0 f1 f3 f4 f5, rfl, fin D n'⟩
theorem ps_comp {i : Nat} {y : Str} {spos py : Pos} (hN : X.N.Nodup) (hy : X.N[i]? = some y) (hl : Loc X.env.scope y) (K : CompOk X scope x M) (hc : X.calm = true) (hi : PI X (.Name x px) iter wi) (he : ∀ (C : Addr) (s₂ : Shared) (H₂ : Hp) (fp : List Addr), PE (compCx X scope C x M s₂ H₂ fp) elt te)
   (hsw : swapsWith (.ListComp elt [⟨.Name x px, iter, [], 0⟩] scope pos) (some (.Name y py)) spos.line X.env = pure true := by rfl)
   (hs : ∀ x, foldedSetIterable iter X.env x = pure x := by intro _; rfl) (hf : X.fn y = true ∨ X.env.scope.names.lookup y = some .local := by first | exact .inl rfl | exact .inr rfl | assumption) :
   PS X (.Assign [.Name y py] (.ListComp elt [⟨.Name x px, iter, [], 0⟩] scope pos) spos) (tAsg (tComp wi te) (gName i)) := by
 intro pins s σ H Dn I h
 rw [exec_Assign_Name_used _ _ _ _ hsw]
 refine wpAny_bind (wpAny_standAt (wpAny_bind ?_))
 show wpAny _ X.A (do let _ ← comprehension (.ListComp elt [⟨.Name x px, iter, [], 0⟩] scope pos) scope X.env _ (newList []) false (eval iter X.env) (some (assign (.Name y py) X.env))) _ _ s
 refine wpAny_bind (thn (wpAny_comprehension_free (use := some (assign (.Name y py) X.env)) (Q := fun _ s' => SP X pins Dn .next s') rfl hs (K.closure I.ok) K.kind K.names (thn (hi pins s σ H _ I h) fun v s1 h1 => thn h1 fun itv s2 h2 => ?_)) fun _ s' hq => wpAny_pure (wpAny_pure hq))
 obtain ⟨it, fp, tn, J, H2, e, I2, T, st2, f2, n, W, hsz, w0, turn⟩ := h2
 subst e
 refine comp_block (RR := fun acc C => compPost (model X.prog X.w) X.A X.xe (some (assign (.Name y py) X.env)) (fun _ s' => SP X pins Dn .next s') acc C) K hc I2 he T st2 f2 hsz (F := fun ys H => ∀ p, H p = none → Dn.nx (σ.set i (some (.ref p))) (upd H p (.lst ys))) w0 turn ?_
 intro D C s' H' ys m I' n' fC ns fin
 refine wpAny_assign_Name (store_ok2 (v := .ref D) I' hN hy hl rfl (fun s'' I'' ch => ?_) hf)
 obtain ⟨f0, f1, f2, f3, f4, f5⟩ := fC
 obtain ⟨a, sb1, ha⟩ := ch
 have hCa : C ≠ a := by
   rcases ha with z | z
   · rw [z]; exact f1
   · exact Ne.symm (f4 y a z)
 refine ⟨m, ns.sameBut sb1 hCa, fun h' sb => ?_⟩
 exact ⟨_, _, I''.turned (t' := s''.toks) (it := C) (fun b o hb e => (sb.2 b hb).trans e) f0 f1 f3 f4 f5, fin D n'⟩
end
end L2
namespace L2
open PySem PySem.Spec PyProof.Rows PySem.Calls
def S (l : List Nat) : Str := ⟨l.toArray⟩
abbrev cd (x : Str) : List Nat := x.cps.toList
theorem cd_S (l : List Nat) : cd (S l) = l := rfl
theorem S_cd (x : Str) : S (cd x) = x := by cases x; rfl
theorem S_inj {a b : List Nat} (h : S a = S b) : a = b := congrArg cd h
theorem cd_inj {x y : Str} (h : cd x = cd y) : x = y := by rw [← S_cd x, ← S_cd y, h]
theorem len_S (l : List Nat) : (S l).length = l.length := by show l.toArray.size = _; simp
theorem yX (x : Str) : x.length = (cd x).length := by show x.cps.size = _; simp
theorem S_app (a b : List Nat) : S a ++ S b = S (a ++ b) := by
 show (⟨a.toArray ++ b.toArray⟩ : Str) = ⟨(a ++ b).toArray⟩
 simp
theorem cd_app (x y : Str) : cd (x ++ y) = cd x ++ cd y := by
 show (x.cps ++ y.cps).toList = _
 simp
def Its (x : Str) : It := ⟨fun i _ => i < x.length, fun i H v H' => H' = H ∧ ∃ c, (cd x)[i]? = some c ∧ v = .str (S [c]), fun i _ => i = x.length⟩
theorem str_walks {prog : Program} {w : World} {A : Around} (hh : A.handled = none) (I : Addr) (x : Str) (t : Tok) : Walks prog w A I [I] [I] x.cps.size (SignAt x) (fun i h => h.IsStrIter I (strIterType x) x t i) := by
 unfold strIterType
 split
 · exact Walks.strAscii hh I x t
 · exact Walks.strWide hh I x t
theorem turn_str {P : Program} {w : World} {K : PySem.W.Frag} {tg : Expr} (it : Addr) (x : Str) (t : Tok) : Turn P w K tg (Its x) [it] it (fun i h => h.IsStrIter it (strIterType x) x t i) where
 mem := by simp
 obj := fun i h st b hb => by
   have e : b = it := by simpa using hb
   subst e
   obtain ⟨o, e, c, d⟩ := st
   exact ⟨o, e, fun v z => by rw [d] at z; cases z⟩
 keep := fun i h h' st k => by
   obtain ⟨o, e, r⟩ := st
   exact ⟨o, k it (by simp) o e, r⟩
 item := by
   intro X hP hw hK hc i pins s σ H E I hf st hg
   subst hP hw hK
   have W := str_walks (prog := X.prog) (w := X.w) (A := X.A) (I.ok.hd hc) it x t
   obtain ⟨f0, f1, f2, f3, f4, f5⟩ := hf it (by simp)
   refine W.item i s _ E hg st fun v h' tk hv st' k => ?_
   have I1 : Inv X pins σ H { s with heap := h', toks := tk } := I.turned (t' := tk) (fun b o hb e => k b o (by simpa using hb) e) f0 f1 f3 f4 f5
   obtain ⟨c, u, hcx, rfl⟩ := hv
   obtain ⟨o, e, c1, d⟩ := id st'
   refine ⟨_, rfl, go_of (s := { s with heap := h', toks := tk }) e c1 d ?_ ⟨.str (S [c]), H, I1, ⟨_, rfl⟩, ⟨rfl, c, by rw [← hcx]; simp [cd], rfl⟩, st', fun b hb => (hf b hb).1⟩⟩
   unfold strIterType; split <;> decide
 done := by
   intro X hP hw hK hc i pins s σ H E I hf st hg
   subst hP hw hK
   have W := str_walks (prog := X.prog) (w := X.w) (A := X.A) (I.ok.hd hc) it x t
   obtain ⟨f0, f1, f2, f3, f4, f5⟩ := hf it (by simp)
   have e : i = x.cps.size := hg
   subst e
   exact W.done s _ E st fun h' tk k => ⟨rfl, I.turned (t' := tk) (fun b o hb e => k b o (by simpa using hb) e) f0 f1 f3 f4 f5⟩
 self := fun A i s Q E st h => by
   obtain ⟨o, e, c, d⟩ := id st
   unfold strIterType at st
   split at st
   · exact wpAny_pyIter_striter_ascii st h
   · exact wpAny_pyIter_striter_wide st h
section
variable {X : Cx} {tg : Expr}
def iStr (tl : TE) : TI := fun σ H R => tl σ H fun v H1 => ∃ x, v = .str x ∧ R (Its x) H1
theorem pi_str {l : Expr} {tl : TE} (hl : PE X l tl) : PI X tg l (iStr tl) := by
 intro pins s σ H R I h
 refine thn (hl pins s σ H _ I h) fun v s1 ⟨x, H1, I1, r1, q1⟩ => ?_
 obtain ⟨x, rfl, q⟩ := q1
 obtain ⟨t, rfl⟩ := r1
 refine wpAny_pyIter_strU ?_
 refine ⟨s1.heap.objs.size, [s1.heap.objs.size], _, _, H1, rfl, I1.kept (t' := s1.toks) fun b o e => Heap.get?_push_of_some _ e, turn_str _ x t, ⟨_, Heap.get?_push_size _ rfl, rfl, rfl⟩, fun b hb => ?_, q⟩
 have e : b = s1.heap.objs.size := by simpa using hb
 subst e
 exact I1.fpOk (Nat.le_refl _) (I1.hok.fresh (Nat.le_refl _))
end
theorem for_str {x : Str} {g : TG} {tb : TS} {D : Ends} {σ : St} {H : Hp} (Pv : Nat → St → Hp → Prop) (h0 : Pv 0 σ H)
   (hs : ∀ i c σ H, (cd x)[i]? = some c → Pv i σ H → g (.str (S [c])) σ H fun σ2 H2 => tb { D with nx := Pv (i + 1), ct := Pv (i + 1), bk := D.nx } σ2 H2) (hd : ∀ σ H, Pv x.length σ H → D.nx σ H) :
   ∃ W : Nat → Nat → St → Hp → Prop, (∃ m, W 0 m σ H) ∧ ∀ i m σ H, W i m σ H →
     ((Its x).stop i H ∧ D.nx σ H) ∨ ((Its x).go i H ∧ ∃ N : St → Hp → Prop, (∀ σ' H', N σ' H' → ∃ m', m' < m ∧ W (i + 1) m' σ' H') ∧ ∀ v H', (Its x).yld i H v H' → g v σ H' fun σ2 H2 => tb { D with nx := N, ct := N, bk := D.nx } σ2 H2) := by
 refine ⟨fun i m σ H => m = x.length - i ∧ i ≤ x.length ∧ Pv i σ H, ⟨x.length, by simp, Nat.zero_le _, h0⟩, ?_⟩
 rintro i m σ H ⟨rfl, hi, p⟩
 by_cases hlt : i < x.length
 · refine .inr ⟨hlt, Pv (i + 1), fun σ' H' p' => ⟨x.length - (i + 1), by omega, rfl, hlt, p'⟩, fun v H' y => ?_⟩
   obtain ⟨e, c, hc, rfl⟩ := y
   subst e
   exact hs i c σ _ hc p
 · have e : i = x.length := by omega
   subst e
   exact .inl ⟨rfl, hd σ H p⟩
theorem comp_str {x : Str} {te : TE} {σ : St} {H : Hp} {Q : VK} (hz : x.length ≤ sizeLine) (W : Nat → List V → Hp → Prop) (h0 : W 0 [] H)
   (hs : ∀ i c ys H, (cd x)[i]? = some c → ys.length = i → W i ys H → te (some (.str (S [c])) :: σ) H fun v H' => W (i + 1) (ys ++ [v]) H')
   (hd : ∀ ys H, ys.length = x.length → W x.length ys H → ∀ p, H p = none → Q (.ref p) (upd H p (.lst ys))) :
   ∃ (n : Nat) (W : Nat → List V → Hp → Prop), n ≤ sizeLine ∧ W 0 [] H ∧ ∀ i ys H, i ≤ n → ys.length = i → W i ys H →
     ((Its x).stop i H ∧ ∀ p, H p = none → Q (.ref p) (upd H p (.lst ys))) ∨ ((Its x).go i H ∧ i < n ∧ ∀ v H', (Its x).yld i H v H' → te (some v :: σ) H' fun v H'' => W (i + 1) (ys ++ [v]) H'') := by
 refine ⟨x.length, W, hz, h0, fun i ys H hi hl hw => ?_⟩
 by_cases hlt : i < x.length
 · refine .inr ⟨hlt, hlt, fun v H' y => ?_⟩
   obtain ⟨e, c, hc, rfl⟩ := y
   subst e
   exact hs i c ys _ hc hl hw
 · have e : i = x.length := by omega
   subst e
   exact .inl ⟨rfl, hd ys H hl hw⟩
theorem comp_list {K : PySem.W.Frag} {a : Addr} {xs : List V} {te : TE} {σ : St} {H : Hp} {Q : VK} (hz : xs.length ≤ sizeLine) (W : Nat → List V → Hp → Prop) (h0 : W 0 [] H) (hq : ∀ i ys H, W i ys H → SqL K H a xs)
   (hs : ∀ i x ys H, xs[i]? = some x → ys.length = i → W i ys H → te (some x :: σ) H fun v H' => W (i + 1) (ys ++ [v]) H')
   (hd : ∀ ys H, ys.length = xs.length → W xs.length ys H → ∀ p, H p = none → Q (.ref p) (upd H p (.lst ys))) :
   ∃ (m : Nat) (W : Nat → List V → Hp → Prop), m ≤ sizeLine ∧ W 0 [] H ∧ ∀ i ys H, i ≤ m → ys.length = i → W i ys H →
     ((Itl K a).stop i H ∧ ∀ p, H p = none → Q (.ref p) (upd H p (.lst ys))) ∨ ((Itl K a).go i H ∧ i < m ∧ ∀ v H', (Itl K a).yld i H v H' → te (some v :: σ) H' fun v H'' => W (i + 1) (ys ++ [v]) H'') := by
 refine ⟨xs.length, W, hz, h0, fun i ys H hi hl hw => ?_⟩
 have q := hq i ys H hw
 by_cases hlt : i < xs.length
 · refine .inr ⟨⟨xs, xs[i], q, by simp [hlt]⟩, hlt, fun v H' y => ?_⟩
   obtain ⟨e, y⟩ := y
   subst e
   exact hs i v ys _ (y xs q) hl hw
 · have e : i = xs.length := by omega
   subst e
   exact .inl ⟨⟨xs, q, Nat.le_refl _⟩, hd ys H hl hw⟩
section
variable {X : Cx}
theorem call_all (hc : X.calm = true) : CallR X (.builtin "all") (fun xs H Q => ∃ (p : Addr) (bs : List Bool), xs = [.ref p] ∧ SqL X.K H p (bs.map V.bl) ∧ Q (.bl (bs.all id)) H) := by
 intro pins s σ H xs us Q I r h
 obtain ⟨p, bs, rfl, hq, q⟩ := h
 obtain ⟨u, rfl, ru⟩ := vals1 r
 cases ru
 obtain ⟨its, rv, pl, hz⟩ := I.list hq
 have hlt : p < s.heap.objs.size := by obtain ⟨o, n, e, _⟩ := pl; exact Heap.lt_size e
 refine call_all_walk (wpAny_pyIter_list pl.isList ?_)
 refine ⟨_, _, _, _, _, _, fun i => bs.getD i false, rfl, Walks.list (show X.A.in1.handled = none from I.ok.hd hc) s.heap.objs.size p (Nat.ne_of_lt hlt) its.toArray, ⟨⟨_, Heap.get?_push_size _ rfl, rfl, rfl⟩, pl.isList.push _⟩, fun i v s1 Q1 E1 hP hQ => ?_, fun h' tk k => ?_⟩
 · have hP' : its[i]? = some v := by simpa using hP
   obtain ⟨hi, _⟩ := List.getElem?_eq_some_iff.mp hP'
   have hl := rv.length
   rw [List.length_map] at hl
   have hb : (bs.map V.bl)[i]? = some (V.bl (bs.getD i false)) := by
     rw [List.getElem?_map, List.getElem?_eq_getElem (by omega)]
     simp [List.getD, List.getElem?_eq_getElem (show i < bs.length by omega)]
   obtain ⟨u, hu, ru⟩ := rv.get hb
   rw [hP'] at hu
   cases hu
   cases (show v = Value.bool _ from ru)
   exact wpAny_truthy_bool hQ
 · have e : (List.range its.toArray.size).all (fun i => bs.getD i false) = bs.all id := by
     have hl := rv.length
     rw [List.length_map] at hl
     rw [List.size_toArray, ← hl]
     have z : bs = (List.range bs.length).map fun i => bs.getD i false := by
       apply List.ext_getElem?
       intro i
       rw [List.getElem?_map]
       by_cases hi : i < bs.length
       · simp [List.getElem?_eq_getElem, hi, List.getD]
       · rw [List.getElem?_eq_none (Nat.not_lt.mp hi), List.getElem?_eq_none (by rw [List.length_range]; exact Nat.not_lt.mp hi)]; rfl
     conv => rhs; rw [z]
     rw [List.all_map]; rfl
   rw [e]
   refine ⟨.bl (bs.all id), H, ?_, rfl, q⟩
   have I0 : Inv X pins σ H { s with heap := s.heap.push { cls := .type "list_iterator", data := .fields #[.ref p, .int 0 0] } } := I.kept (t' := s.toks) fun b o e => Heap.get?_push_of_some _ e
   have fo := I.fpOk (H' := H) (b := s.heap.objs.size) (Nat.le_refl _) I.fresh
   obtain ⟨f0, f1, f2, f3, f4, f5⟩ := fo
   exact I0.turned (t' := tk) (it := s.heap.objs.size) (fun b o hb e => k b o (by simpa using hb) e) f0 f1 f3 f4 f5
def joinS (sep : Str) (ys : List Str) : Str := Txt.join sep ys
theorem op_mulB : OpR X (binaryOp .Mult) (rI (fun i j => Builtin.Int.intBits i ≤ 60000000 ∧ Builtin.Int.intBits j ≤ 60000000) fun i j => .int (i * j)) := opI fun i j _ _ _ _ _ hc q => mul_int q (IntMulOk.of_le hc.1 hc.2 (by decide))
def cutN (xs : List Nat) (lo hi : Option Int) : List Nat := (xs.drop (HT.sIx xs.length 0 lo)).take (HT.sIx xs.length xs.length hi - HT.sIx xs.length 0 lo)
theorem pick_nat (xs : List Nat) (i k : Nat) : (List.range k).filterMap (fun m => xs[i + m]?) = (xs.drop i).take k := by
 induction k generalizing i with
 | zero => simp
 | succ k ih =>
   rw [List.range_succ_eq_map, List.filterMap_cons]
   have e : (List.map Nat.succ (List.range k)).filterMap (fun m => xs[i + m]?) = (List.range k).filterMap (fun m => xs[(i + 1) + m]?) := by
     rw [List.filterMap_map]
     congr 1
     funext m
     show xs[i + (m + 1)]? = xs[i + 1 + m]?
     congr 1; omega
   rw [e, ih (i + 1)]
   by_cases hi : i < xs.length
   · rw [Nat.add_zero, List.getElem?_eq_getElem hi, List.drop_eq_getElem_cons hi, List.take_succ_cons]
   · rw [Nat.add_zero, List.getElem?_eq_none (Nat.not_lt.mp hi), List.drop_eq_nil_of_le (Nat.not_lt.mp hi), List.drop_eq_nil_of_le (by omega)]
     simp
theorem slice_idx (lo hi : Option Int) (n : Nat) : Builtin.Str.strSliceIndices lo hi 1 n = (List.range (HT.sIx n n hi - HT.sIx n 0 lo)).map fun m => HT.sIx n 0 lo + m := by
 unfold Builtin.Str.strSliceIndices sliceRange
 have h1 : (1 : Int) > 0 := by omega
 simp only [h1, if_true, Int.ediv_one]
 have cl : ∀ (v : Int) (d : Nat), max 0 (min (if v < 0 then v + (n : Int) else v) (n : Int)) = ((HT.sIx n d (some v) : Nat) : Int) := fun v d => by
   show _ = (((if v < 0 then (v + (n : Int)).toNat else min v.toNat n) : Nat) : Int)
   by_cases hv : v < 0
   · simp only [if_pos hv]; omega
   · simp only [if_neg hv]; omega
 have fin : ∀ a b : Nat, (List.range (if (a : Int) < (b : Int) then (b : Int) - (a : Int) + 1 - 1 else 0).toNat).map (fun k : Nat => ((a : Int) + 1 * (k : Int)).toNat) = (List.range (b - a)).map fun m => a + m := fun a b => by
   have e1 : (if (a : Int) < (b : Int) then (b : Int) - (a : Int) + 1 - 1 else 0).toNat = b - a := by split <;> omega
   rw [e1]
   apply List.map_congr_left
   intro k _
   omega
 cases lo with
 | none =>
   cases hi with
   | none => exact fin 0 n
   | some v => simp only [cl v n]; exact fin 0 _
 | some u =>
   cases hi with
   | none => simp only [cl u 0]; exact fin _ n
   | some v => simp only [cl u 0, cl v n]; exact fin _ _
theorem slice_is (x : Str) (lo hi : Option Int) : Txt.slice x lo hi = S (cutN (cd x) lo hi) := by
 unfold Txt.slice
 rw [slice_idx]
 have hx : x.length = (cd x).length := yX x
 split
 · rename_i h
   simp only [Bool.and_eq_true, beq_iff_eq, List.length_map, List.length_range] at h
   rw [hx] at h
   have h2 := h.2
   have l1 := HT.sIx_le (cd x).length (cd x).length (Nat.le_refl _) hi
   unfold cutN
   rw [h2]
   have l0 : HT.sIx (cd x).length 0 lo = 0 ∨ (cd x).length = 0 := by omega
   rcases l0 with l0 | l0
   · rw [l0, List.drop_zero, List.take_length, S_cd]
   · have e : cd x = [] := List.eq_nil_of_length_eq_zero l0
     apply cd_inj
     rw [e]; simp [cd_S]
 · rw [List.filterMap_map]
   unfold S cutN
   congr 2
   rw [← pick_nat, hx]
   congr 1
   funext m
   show x.cps[_]? = (cd x)[_]?
   simp [cd]
theorem sl_str : SlR X (fun x lo hi H Q => ∃ z, x = .str z ∧ z.length ≤ sizeLine ∧ Q (.str (S (cutN (cd z) lo hi))) H) := by
 intro pins s σ H x v vl vu lo hi sl Q I rx hs pl pu h
 obtain ⟨z, rfl, hz, q⟩ := h
 obtain ⟨t, rfl⟩ := rx
 refine ⟨"str", _, slot_str_getitem.lookup, typeIs_str s z t, ?_⟩
 rw [← slice_is] at q
 have fin : ∀ (l u : Option (Int × Tok)), l.map (·.1) = lo → u.map (·.1) = hi → vl = partValue l → vu = partValue u → wpAny (model X.prog X.w) X.A (getItem (.str z t) (.ref sl)) (EP X pins σ Q) X.xe s := fun l u e1 e2 e3 e4 => by
   subst e3 e4
   obtain ⟨o, ho, hc, hd⟩ := hs
   subst e1 e2
   exact wpAny_getItem_str_slice (l := l) (u := u) (st := none) ⟨o, ho, hc, hd⟩ rfl (post_val_or_str ⟨Nat.le_trans (Txt.slice_le z _ _) hz, fun t' k => ⟨.str _, H, I.tok _, ⟨_, rfl⟩, q⟩⟩)
 cases pl with
 | none =>
   cases pu with
   | none => exact fin none none rfl rfl rfl rfl
   | int i t => exact fin none (some (i, t)) rfl rfl rfl rfl
 | int j t' =>
   cases pu with
   | none => exact fin (some (j, t')) none rfl rfl rfl rfl
   | int i t => exact fin (some (j, t')) (some (i, t)) rfl rfl rfl rfl
end
end L2
namespace Att
open PySem PySem.W PySem.Calls PyProof.Rows
theorem bits_of_lay {ns : List Int} (h : WData.layableAll [WData.list (ns.map WData.int)] = true) : ∀ n ∈ ns, Builtin.Int.intBits n ≤ 1048576 := by
 have h1 : (WData.list (ns.map WData.int)).layable = true := by simpa [WData.layableAll] using h
 intro n hn
 have h2 := layableW_item h1 (.int n) (List.mem_map.mpr ⟨n, hn, rfl⟩)
 have h3 := (layableW_iff.mp h2).2.2
 simpa [WData.weight, Builtin.Int.intBits] using h3
theorem attach_callB {l : OpenLaw} {n : Nat} {q : Program} {loose : List Str} {XP : (Str → Option Value) → Heap → Prop} {YP : World → Heap → Prop} {d : DefRec}
   (hn : l.most = some n) (hdf : d.params.defaults = [])
   (call : ∀ (w : World) (s₀ s₁ : Shared) (mg mb : Str → Option Value) (fa : Addr) (o : Obj) (pm cd doc : Value) (a : Addr) (vs : List Value) (ns : List Int),
     Ground q loose [] XP w s₀ mg mb s₁.heap → YP w s₁.heap →
     s₁.heap.get? fa = some o → o.data = .func (docDef d.name d.params d.body d.scope pm cd doc) → s₁.heap.CodeRec cd d.name → mg d.name = some (.ref fa) →
     s₁.heap.get? a = some { cls := .type "list", data := .seq vs.toArray } → IntsAre vs ns → ns.length ≤ n → (∀ n ∈ ns, Builtin.Int.intBits n ≤ 1048576) → s₁.gens = #[] →
     codeAny (model l.prog w) callerA (.call (.ref fa) ⟨[.ref a], []⟩) (fun r s' => r = .ok (.ret (.bool true)) ∧ OldK s₁.heap s'.heap ∧ s'.os = s₁.os ∧ AllBare s'.gens) s₁) :
   WalkO q loose XP YP l.row.toRowW d [] (fun f vs => PySem.call f vs) := by
 intro w s₀ s₁ mg mb G Y fa o pm cd doc dV kV ho hd hcd hD hmg hg args vals as hpre hlay hrd hwl hlo
 obtain rfl : dV = .none := Dflts.none hD hdf
 obtain rfl : kV = .none := Dflts.noKw hD
 obtain ⟨a, vs, ns, rfl, rfl, hobj, hints, hlen⟩ := script_of hn hpre hwl
 refine enter_call (codeAny_mono (call w s₀ s₁ mg mb fa o pm cd doc a vs ns G Y ho (fd_plain hd) hcd hmg hobj hints hlen (bits_of_lay hlay) hg) fun r s' hq => ?_)
 obtain ⟨rfl, h2, h3, h4⟩ := hq
 exact ⟨.inl ⟨.bool true, .bool true, [], rfl, fun _ => rfl, .bool true, post_true l _, fun _ => ⟨List.Pairwise.nil, fun _ hm => (nomatch hm)⟩⟩, h2, h3, h4⟩
end Att
namespace L2
open PySem PySem.Spec PyProof.Rows
theorem walk_ofB {l : PySem.W.OpenLaw} {n k : Nat} {q : Program} {loose : List Str} {XP : (Str → Option Value) → Heap → Prop} {YP : World → Heap → Prop} {d : DefRec} {K : Params → PySem.W.Frag} {CX : World → CXT} {sp : World → Sp} {x : Str}
   (hn : l.most = some n) (hn2 : n ≤ sizeLine) (hdf : d.params.defaults = []) (hr : Room k callerA)
   (hY : ∀ (w : World) (h : Heap), YP w h → (K w.params).In h)
   (F : ∀ (w : World) (mg : Str → Option Value) (fa : Addr) (h : Heap), (K w.params).In h → h.Ns mainGlobals mg → mg d.name = some (.ref fa) →
     ∃ fd : FuncData, (∀ (s : Shared) (u : Value), BindsTo s fd ⟨[u], []⟩ [(x, u)]) ∧
       ∀ base : Heap, (K w.params).In base → base.Ns mainGlobals mg → FnOk l.prog w (K w.params) mg base (CX w) k fa fd [x] (sp w))
   (hsp : ∀ (w : World) (H : Hp) (a : Addr) (ns : List Int), ns.length ≤ n → (∀ n ∈ ns, Builtin.Int.intBits n ≤ 1048576) → Only H → SqL (K w.params) H a (ns.map V.int) → sp w [.ref a] H (fun v _ => v = .bl true) fun _ _ _ => False)
   (hCX : ∀ (w : World) (H : Hp) (s : Shared) (e : Value) (s' : Shared), CX w [] H s (fun _ _ _ => False) e s' → False) :
   PySem.W.WalkO q loose XP YP l.row.toRowW d [] (fun f vs => PySem.call f vs) := by
 refine Att.attach_callB hn hdf fun w s₀ s₁ mg mb fa o pm cd doc a vs ns G Y ho hd hcd hmg hobj hints hlen hbits hg => ?_
 have KX := hY w _ Y
 obtain ⟨fd, hb, hF⟩ := F w mg fa _ KX G.T.g hmg
 exact law_call KX G.T.g G.T.b G.T.builtins G.T.nolimit hg hobj hints (Nat.le_trans hlen hn2) hr hF hb (fun H hO hS => hsp w H a ns hlen hbits hO hS) fun H e s' => hCX w H s₁ e s'
def GlobV (mg : Str → Option Value) (x : Str) (v : V) : Prop := ∃ u, mg x = some u ∧ RelV v u
theorem pe_gv {X : Cx} {x : Str} {v : V} {pos : Pos} (hg : Gl X x) (h : GlobV X.mg x v) (hd : (x == ("__debug__" : Str)) = false := by decide) : PE X (.Name x pos) (tC v) := by
 obtain ⟨u, hm, r⟩ := h
 exact pe_glob hg hm r hd
theorem SqT.mod {K : PySem.W.Frag} {a : Addr} {oc : Value} {od : Option Addr} {its : Array Value} {n : Nat} {sl : Array (Option Value)} {xs : List V} (h : K.lookup a = some ⟨oc, od, .seq its n, sl⟩) (hc : oc = .type "tuple") (hz : its.size ≤ sizeLine) (hv : Vals xs its.toList) (H : Hp) : SqT K H a xs :=
 .inr ⟨_, its, n, h, hc, rfl, hz, hv⟩
theorem Same.tup {K : PySem.W.Frag} {H H' : Hp} {a : Addr} {xs : List V} (e : Same H H') (h : SqT K H a xs) : SqT K H' a xs := by
 rcases h with (h | ⟨o, h⟩) | h
 · exact .inl (.inl (e _ _ h))
 · exact .inl (.inr ⟨o, e _ _ h⟩)
 · exact .inr h
theorem zH {H : Hp} {p : Addr} (h : H p = none) (o : HO) : Same H (upd H p o) := fun b u q => by rw [zI (zG q h)]; exact q
namespace Bt
theorem int : bootBuiltins "int" = some (.type "int") := PyProof.Rows.boot_int
theorem bool : bootBuiltins "bool" = some (.type "bool") := PyProof.Rows.boot_bool
theorem str : bootBuiltins "str" = some (.type "str") := PyProof.Rows.boot_str
theorem list : bootBuiltins "list" = some (.type "list") := PyProof.Rows.boot_list
theorem tuple : bootBuiltins "tuple" = some (.type "tuple") := PyProof.Rows.boot_tuple
theorem dict : bootBuiltins "dict" = some (.type "dict") := PyProof.Rows.boot_dict
theorem set : bootBuiltins "set" = some (.type "set") := PyProof.Rows.boot_set
theorem isinstance : bootBuiltins "isinstance" = some (.builtin "isinstance") := PyProof.Rows.boot_isinstance
theorem all : bootBuiltins "all" = some (.builtin "all") := PyProof.Rows.boot_all
theorem abs : bootBuiltins "abs" = some (.builtin "abs") := PyProof.Rows.Boot.«abs»
end Bt
end L2
namespace L2
open PySem PySem.Spec PyProof.Rows
abbrev ib (x : Int) : Nat := Builtin.Int.intBits x
theorem ib_small {x : Int} (h1 : -(2 ^ 64) < x) (h2 : x < 2 ^ 64) : ib x ≤ 64 := intBits_le_64 h1 h2
theorem ib_big {m : Nat} {x : Int} (h : x.natAbs < 2 ^ m) : ib x ≤ m := intBits_le_iff.mpr h
theorem at_some {α : Type} {l : List α} {i : Int} (h0 : 0 ≤ i) (h1 : i < l.length) : ∃ c, atI l i = some c ∧ l[i.toNat]? = some c := by
 have hk : i.toNat < l.length := by omega
 refine ⟨l[i.toNat], ?_, List.getElem?_eq_getElem hk⟩
 have e : i = ((i.toNat : Nat) : Int) := by omega
 have q : atI l ((i.toNat : Nat) : Int) = some l[i.toNat] := yC (List.getElem?_eq_getElem hk)
 rw [← e] at q
 exact q
theorem Same.ty {K : PySem.W.Frag} {H H' : Hp} {x : V} {t : Value} (e : Same H H') (h : TyOf K H x t) : TyOf K H' x t := by
 cases h with
 | non => exact .non
 | bl x => exact .bl x
 | int i => exact .int i
 | str x => exact .str x
 | flt x => exact .flt x
 | lst q => exact .lst (e _ _ q)
 | frz q => exact .frz (e _ _ q)
 | tup q => exact .tup (e _ _ q)
 | dK q => exact .dK (e _ _ q)
 | dT q => exact .dT (e _ _ q)
 | ins q a b c d f => exact .ins (e _ _ q) a b c d f
theorem zP {n m : Nat} (h : n ≤ m) (hm : m ≤ 16777216 := by decide) : n ≤ sizeLine := by rw [sizeLine_eq]; omega
def joinL (sep : List Nat) : List (List Nat) → List Nat
 | [] => []
 | [x] => x
 | x :: y :: r => x ++ sep ++ joinL sep (y :: r)
theorem joinS_is (sep : Str) (ys : List Str) : joinS sep ys = S (joinL (cd sep) (ys.map cd)) := by
 have e : joinS sep ys = Str.join sep ys := StrLaws.glued_eq_join sep ys
 rw [e]
 clear e
 induction ys with
 | nil => rfl
 | cons y r ih =>
   cases r with
   | nil => exact (S_cd y).symm
   | cons z r =>
     show y ++ sep ++ Str.join sep (z :: r) = S (cd y ++ cd sep ++ joinL (cd sep) ((z :: r).map cd))
     rw [ih, ← S_app, ← S_app, S_cd, S_cd]
structure CompR (J : It) (te : TE) (σ : St) (H1 : Hp) (Q : VK) : Prop where
 ex : ∃ (n : Nat) (W : Nat → List V → Hp → Prop), n ≤ sizeLine ∧ W 0 [] H1 ∧ ∀ i ys H, i ≤ n → ys.length = i → W i ys H →
   (J.stop i H ∧ ∀ p, H p = none → Q (.ref p) (upd H p (.lst ys))) ∨ (J.go i H ∧ i < n ∧ ∀ x H', J.yld i H x H' → te (some x :: σ) H' fun v H'' => W (i + 1) (ys ++ [v]) H'')
def tCompR (wi : TI) (te : TE) : TE := fun σ H Q => wi σ H fun J H1 => CompR J te σ H1 Q
structure ForR (J : It) (g : TG) (tb : TS) (D : Ends) (σ : St) (H1 : Hp) : Prop where
 ex : ∃ W : Nat → Nat → St → Hp → Prop, (∃ m, W 0 m σ H1) ∧ ∀ i m σ H, W i m σ H →
   (J.stop i H ∧ D.nx σ H) ∨ (J.go i H ∧ ∃ N : St → Hp → Prop, (∀ σ' H', N σ' H' → ∃ m', m' < m ∧ W (i + 1) m' σ' H') ∧ ∀ x H', J.yld i H x H' → g x σ H' fun σ2 H2 => tb { D with nx := N, ct := N, bk := D.nx } σ2 H2)
def tForR (wi : TI) (g : TG) (tb : TS) : TS := fun D σ H => wi σ H fun J H1 => ForR J g tb D σ H1
structure WhileR (c : TT) (tb : TS) (D : Ends) (σ : St) (H : Hp) : Prop where
 ex : tWhile c tb D σ H
def tWhileR (c : TT) (tb : TS) : TS := fun D σ H => WhileR c tb D σ H
theorem PI.weak {X : Cx} {tg iter : Expr} {wi : TI} (h : PI X tg iter wi) {pins : List (Addr × Obj)} {s : Shared} {σ : St} {H : Hp} {R R' : It → Hp → Prop} (I : Inv X pins σ H s) (hw : wi σ H R) (hR : ∀ J H1, R J H1 → R' J H1) :
   wpAny (model X.prog X.w) X.A (eval iter X.env) (fun v s1 => wpAny (model X.prog X.w) X.A (pyIter v) (PIE X pins σ tg R') X.xe s1) X.xe s := by
 refine thn (h pins s σ H R I hw) fun v s1 h1 => thn h1 fun itv s2 ⟨it, fp, tn, J, H', e, I', T, st, f, r⟩ => ?_
 exact ⟨it, fp, tn, J, H', e, I', T, st, f, hR J H' r⟩
section
variable {X : Cx} {scope : Scope} {x : Str} {M : List Str} {elt iter : Expr} {px pos : Pos} {te : TE} {wi : TI}
theorem pi_conv {tg : Expr} {wi wi' : TI} (h : PI X tg iter wi) (hw : ∀ σ H R, wi' σ H R → ∃ R0, wi σ H R0 ∧ ∀ J H1, R0 J H1 → R J H1) : PI X tg iter wi' := by
 intro pins s σ H R I q
 obtain ⟨R0, q0, hR⟩ := hw σ H R q
 exact h.weak I q0 hR
theorem pe_compR (K : CompOk X scope x M) (hc : X.calm = true) (hi : PI X (.Name x px) iter wi) (he : ∀ (C : Addr) (s₂ : Shared) (H₂ : Hp) (fp : List Addr), PE (compCx X scope C x M s₂ H₂ fp) elt te)
   (hs : ∀ x, foldedSetIterable iter X.env x = pure x := by intro _; rfl) : PE X (.ListComp elt [⟨.Name x px, iter, [], 0⟩] scope pos) (tCompR wi te) := by
 intro pins s σ H Q I h
 have q := pe_comp (pos := pos) K hc (wi := fun σ0 H0 R0 => ∃ R, wi σ0 H0 R ∧ ∀ J H1, R J H1 → R0 J H1) (pi_conv hi fun σ H R ⟨R1, a, b⟩ => ⟨R1, a, b⟩) he hs pins s σ H Q I
 exact q ⟨_, h, fun J H1 r => r.ex⟩
theorem ps_compR {i : Nat} {y : Str} {spos py : Pos} (hN : X.N.Nodup) (hy : X.N[i]? = some y) (hl : Loc X.env.scope y) (K : CompOk X scope x M) (hc : X.calm = true) (hi : PI X (.Name x px) iter wi) (he : ∀ (C : Addr) (s₂ : Shared) (H₂ : Hp) (fp : List Addr), PE (compCx X scope C x M s₂ H₂ fp) elt te)
   (hsw : swapsWith (.ListComp elt [⟨.Name x px, iter, [], 0⟩] scope pos) (some (.Name y py)) spos.line X.env = pure true := by rfl)
   (hs : ∀ x, foldedSetIterable iter X.env x = pure x := by intro _; rfl) (hf : X.fn y = true ∨ X.env.scope.names.lookup y = some .local := by first | exact .inl rfl | exact .inr rfl | assumption) :
   PS X (.Assign [.Name y py] (.ListComp elt [⟨.Name x px, iter, [], 0⟩] scope pos) spos) (tAsg (tCompR wi te) (gName i)) := by
 intro pins s σ H D I h
 have q := ps_comp (pos := pos) (spos := spos) hN hy hl K hc (wi := fun σ0 H0 R0 => ∃ R, wi σ0 H0 R ∧ ∀ J H1, R J H1 → R0 J H1) (pi_conv hi fun σ H R ⟨R1, a, b⟩ => ⟨R1, a, b⟩) he hsw hs hf pins s σ H D I
 exact q ⟨_, h, fun J H1 r => r.ex⟩
theorem yT {tg : Expr} {body : List Stmt} {g : TG} {tb : TS} (hp : PassesOwn (model X.prog X.w) X.A X.env X.xe) (hc : X.calm = true) (hi : PI X tg iter wi) (hg : PG X tg g) (hb : PSs X body tb)
   (hs : ∀ x, foldedSetIterable iter X.env x = pure x := by intro _; rfl) : PS X (.For tg iter body [] pos) (tForR wi g tb) := by
 intro pins s σ H D I h
 have q := ps_for (pos := pos) hp hc (wi := fun σ0 H0 R0 => ∃ R, wi σ0 H0 R ∧ ∀ J H1, R J H1 → R0 J H1) (pi_conv hi fun σ H R ⟨R1, a, b⟩ => ⟨R1, a, b⟩) hg hb hs pins s σ H D I
 exact q ⟨_, h, fun J H1 r => r.ex⟩
theorem ps_whileR {c : Expr} {body : List Stmt} {tc : TT} {tb : TS} (hp : PassesOwn (model X.prog X.w) X.A X.env X.xe) (hc : PT X c tc) (hb : PSs X body tb) : PS X (.While c body [] pos) (tWhileR tc tb) := fun pins s σ H D I h => ps_while hp hc hb pins s σ H D I h.ex
end
theorem comp_strR {x : Str} {te : TE} {σ : St} {H : Hp} {Q : VK} (hz : x.length ≤ sizeLine) (W : Nat → List V → Hp → Prop) (h0 : W 0 [] H)
   (hs : ∀ i c ys H, (cd x)[i]? = some c → ys.length = i → W i ys H → te (some (.str (S [c])) :: σ) H fun v H' => W (i + 1) (ys ++ [v]) H')
   (hd : ∀ ys H, ys.length = x.length → W x.length ys H → ∀ p, H p = none → Q (.ref p) (upd H p (.lst ys))) : CompR (Its x) te σ H Q := ⟨comp_str hz W h0 hs hd⟩
theorem comp_listR {K : PySem.W.Frag} {a : Addr} {xs : List V} {te : TE} {σ : St} {H : Hp} {Q : VK} (hz : xs.length ≤ sizeLine) (W : Nat → List V → Hp → Prop) (h0 : W 0 [] H) (hq : ∀ i ys H, W i ys H → SqL K H a xs)
   (hs : ∀ i x ys H, xs[i]? = some x → ys.length = i → W i ys H → te (some x :: σ) H fun v H' => W (i + 1) (ys ++ [v]) H')
   (hd : ∀ ys H, ys.length = xs.length → W xs.length ys H → ∀ p, H p = none → Q (.ref p) (upd H p (.lst ys))) : CompR (Itl K a) te σ H Q := ⟨comp_list hz W h0 hq hs hd⟩
theorem for_listR {K : PySem.W.Frag} {a : Addr} {xs : List V} {g : TG} {tb : TS} {D : Ends} {σ : St} {H : Hp} (Pv : Nat → St → Hp → Prop) (h0 : Pv 0 σ H) (hl : ∀ i σ H, i ≤ xs.length → Pv i σ H → SqL K H a xs)
   (hs : ∀ i x σ H, xs[i]? = some x → Pv i σ H → g x σ H fun σ2 H2 => tb { D with nx := Pv (i + 1), ct := Pv (i + 1), bk := D.nx } σ2 H2) (hd : ∀ σ H, Pv xs.length σ H → D.nx σ H) : ForR (Itl K a) g tb D σ H := ⟨for_list Pv h0 hl hs hd⟩
theorem for_rangeR {lo : Int} {n : Nat} {g : TG} {tb : TS} {D : Ends} {σ : St} {H : Hp} (Pv : Nat → St → Hp → Prop) (h0 : Pv 0 σ H)
   (hs : ∀ i σ H, i < n → Pv i σ H → g (.int (lo + i)) σ H fun σ2 H2 => tb { D with nx := Pv (i + 1), ct := Pv (i + 1), bk := D.nx } σ2 H2) (hd : ∀ σ H, Pv n σ H → D.nx σ H) : ForR (Itr lo n) g tb D σ H := ⟨for_range Pv h0 hs hd⟩
theorem for_strR {x : Str} {g : TG} {tb : TS} {D : Ends} {σ : St} {H : Hp} (Pv : Nat → St → Hp → Prop) (h0 : Pv 0 σ H)
   (hs : ∀ i c σ H, (cd x)[i]? = some c → Pv i σ H → g (.str (S [c])) σ H fun σ2 H2 => tb { D with nx := Pv (i + 1), ct := Pv (i + 1), bk := D.nx } σ2 H2) (hd : ∀ σ H, Pv x.length σ H → D.nx σ H) : ForR (Its x) g tb D σ H := ⟨for_str Pv h0 hs hd⟩
theorem map_get {α : Type} {f : α → V} {l : List α} {i : Nat} {x : V} (h : (l.map f)[i]? = some x) : ∃ a, l[i]? = some a ∧ x = f a := by
 rw [List.getElem?_map] at h
 cases e : l[i]? with
 | none => rw [e] at h; cases h
 | some a => rw [e] at h; exact ⟨a, rfl, (Option.some.inj h).symm⟩
theorem kit_ty {K : PySem.W.Frag} {a b : String} {r : Bool} (h : (if (Value.type a == Value.type b) = true then some true else if PySem.W.kitMeta b = true then (fastBuiltinMro a).map (·.contains (Value.type b)) else none) = some r) : PySem.W.kitOne K (.type a) (.type b) = some r := h
end L2
namespace L2
open PySem PySem.Spec PyProof.Rows PySem.Calls
def TrD (h base : Heap) (e : Addr) (cls : Value) (dct : Option Addr) (fl : Value) : Prop :=
 ∃ oe vs T oT ts, h.get? e = some oe ∧ (oe.cls = cls ∧ oe.dict = dct) ∧ oe.data = .fields vs ∧ vs[1]? = some (.ref T) ∧ base.get? T = none ∧ T ≠ e ∧ h.get? T = some oT ∧ oT.data = .fields ts ∧ ts[3]? = some fl
def FlyD (base : Heap) (l : List Env) (e : Addr) (cls : Value) (dct : Option Addr) (fl : Value) (h : Heap) : Prop :=
 base.StaysIn h ∧ base.get? e = none ∧ h.FunFrames base l ∧ TrD h base e cls dct fl
theorem FlyD.there {base h : Heap} {l : List Env} {e : Addr} {cls fl : Value} {dct : Option Addr} (x : FlyD base l e cls dct fl h) : ∃ ob, h.get? e = some ob ∧ ob.cls = cls ∧ ob.dict = dct ∧ ∃ vs, ob.data = .fields vs := by
 obtain ⟨_, _, _, oe, vs, _, _, _, he, hc, hd, _⟩ := x
 exact ⟨oe, he, hc.1, hc.2, vs, hd⟩
theorem dict_mapF (o : Obj) (g : Array Value → Array Value) : (Obj.mapFields g o).dict = o.dict := by
 obtain ⟨a, b, c, d⟩ := o
 cases c <;> rfl
section
variable {M : Model} {A : Around} {E : Value → Shared → Prop} {s : Shared}
theorem entryD {base : Heap} {env : Env} {outer : List Env} {L e : Addr} {oe : Obj} {vs : Array Value} {head : Value} {hadNext : Bool} {Q : Unit → Shared → Prop}
   (hfr : A.frames = some (env :: outer)) (hl : s.heap.FunFrames base (env :: outer)) (hf : env.frame = some L)
   (he : s.heap.get? e = some oe) (hkb : base.StaysIn s.heap) (hen : base.get? e = none) (hd : oe.data = .fields vs) (hsz : 1 < vs.size)
   (h : ∀ h', FlyD base (env :: outer) e oe.cls oe.dict (rawInt L) h' → s.heap.UpToSlots h' → Q () { s with heap := h' }) :
   wpAny M A (do let a ← frameOf env; let pl ← entryPlaceOf L hadNext; let b ← EntryCells.newEntry head a .none (rawInt L) .none pl; setField (.ref e) 1 b) Q E s := by
 have n1 : e ∉ (env :: outer).filterMap (·.frame) := fun hm => by
   obtain ⟨_, o, ho, z⟩ := hl.mem hm
   rw [he] at ho; injection ho with ho; subst ho; exact z vs hd
 refine wpAny_bind (wpAny_frameOf_fun hfr hl hf fun g1 p1 => ?_)
 refine wpAny_bind (wpAny_entryPlaceOf fun pl hpl => ?_)
 unfold EntryCells.newEntry newFields
 refine wpAny_bind (wpAny_newObj_type ?_ (hpl.sizeOk5 _ _ _ _ _))
 have q1 : g1.get? e = some oe := (p1.2.1 e n1).trans he
 have k1 : base.StaysIn g1 := fun b o z => (p1.2.1 b fun hm => by rw [(hl.mem hm).1] at z; cases z).trans (hkb b o z)
 generalize hT : ({ cls := .type "traceback", dict := none, data := .fields ([head, .ref L, .none, rawInt L, .none] ++ (if pl.isEmpty then List.replicate 6 Value.none else pl)).toArray } : Obj) = oT
 have q2 := Heap.get?_push_of_some (h := g1) oT q1
 refine wpAny_setField q2 hd hsz (h _ ?_ ?_)
 all_goals
   have hne : g1.objs.size ≠ e := Nat.ne_of_gt (Heap.lt_size q1)
   have d3 := Obj.data_mapFields hd (·.setIfInBounds 1 (Value.ref g1.objs.size))
   have keep : ∀ b o, b ≠ e → g1.get? b = some o → ((g1.push oT).update e (Obj.mapFields (·.setIfInBounds 1 (Value.ref g1.objs.size)))).get? b = some o := fun b o z1 z2 => by
     rw [Heap.get?_update_other _ _ (Ne.symm z1)]
     exact Heap.get?_push_of_some _ z2
   have noR : ∀ b o, s.heap.get? b = some o → (∀ vs, o.data ≠ .fields vs) → b ≠ e := fun b o z1 z2 q => by
     rw [q, he] at z1; injection z1 with z1; subst z1; exact z2 vs hd
 · refine ⟨fun b o z => keep b o (fun q => by rw [q, hen] at z; cases z) (k1 b o z), hen, hl.of_keeps fun b o z1 z2 => ?_, ?_⟩
   · obtain ⟨sl, hs⟩ := p1.2.2 b o z1
     exact ⟨_, keep b _ (noR b o z1 z2) hs, rfl⟩
   · refine ⟨_, _, g1.objs.size, oT, ([head, .ref L, .none, rawInt L, .none] ++ (if pl.isEmpty then List.replicate 6 Value.none else pl)).toArray, Heap.get?_update_self _ q2 (Obj.isFreed_of_fields d3), ⟨Obj.cls_mapFields _ _, dict_mapF _ _⟩, d3, by simp [hsz], k1.fresh, hne, ?_, by rw [← hT], by first | (simp; done) | (rcases hpl with rfl | ⟨_, _, _, _, _, _, _, rfl⟩ <;> simp)⟩
     rw [Heap.get?_update_other _ _ (Ne.symm hne)]
     exact Heap.get?_push_size g1 (by rw [← hT]; rfl)
 · intro b o z1 z2
   obtain ⟨sl, hs⟩ := p1.2.2 b o z1
   exact ⟨sl, keep b _ (noR b o z1 z2) hs⟩
theorem noteFirstD {base : Heap} {env : Env} {outer : List Env} {L e : Addr} {oe : Obj} {vs : Array Value} {Q : Unit → Shared → Prop}
   (hfr : A.frames = some (env :: outer)) (hl : s.heap.FunFrames base (env :: outer)) (hf : env.frame = some L)
   (he : s.heap.get? e = some oe) (hkb : base.StaysIn s.heap) (hen : base.get? e = none) (hd : oe.data = .fields vs) (h1 : vs[1]? = some .none)
   (h : ∀ h', FlyD base (env :: outer) e oe.cls oe.dict (rawInt L) h' → s.heap.UpToSlots h' → Q () { s with heap := h' }) : wpAny M A (noteFrame (.ref e) env) Q E s := by
 unfold noteFrame
 simp only [hf]
 refine wpAny_bind (wpAny_field he hd h1 ?_)
 rw [if_neg (by decide)]
 exact entryD hfr hl hf he hkb hen hd (Array.getElem?_eq_some_iff.mp h1).1 h
theorem noteOnD {base : Heap} {env : Env} {outer : List Env} {L e : Addr} {cls : Value} {dct : Option Addr} {Q : Unit → Shared → Prop}
   (hfr : A.frames = some (env :: outer)) (hf : env.frame = some L) (x : FlyD base (env :: outer) e cls dct .none s.heap)
   (h : ∀ h', FlyD base (env :: outer) e cls dct (rawInt L) h' → s.heap.UpToSlots h' → Q () { s with heap := h' }) : wpAny M A (noteFrame (.ref e) env) Q E s := by
 obtain ⟨hkb, hen, hl, oe, vs, T, oT, ts, he, ⟨hc, hdc⟩, hd, h1, hnT, hTe, hT, hdT, h3⟩ := x
 subst hc hdc
 unfold noteFrame
 simp only [hf]
 refine wpAny_bind (wpAny_field he hd h1 ?_)
 rw [if_pos (show (Value.ref T != Value.none) = true from by simp)]
 refine wpAny_bind (wpAny_field hT hdT h3 ?_)
 rw [if_neg (show ¬ ((Value.none == rawInt L) = true) from by simp [rawInt])]
 refine wpAny_bind (wpAny_setField hT hdT (Array.getElem?_eq_some_iff.mp h3).1 ?_)
 have oth : ∀ b, b ≠ T → (s.heap.update T (Obj.mapFields (·.setIfInBounds 3 Value.none))).get? b = s.heap.get? b := fun b z => Heap.get?_update_other _ _ (Ne.symm z)
 have noR : ∀ b o, s.heap.get? b = some o → (∀ vs, o.data ≠ .fields vs) → b ≠ T := fun b o z1 z2 q => by
   rw [q, hT] at z1; injection z1 with z1; subst z1; exact z2 ts hdT
 refine entryD (oe := oe) (vs := vs) hfr (hl.of_keeps fun b o z1 z2 => ⟨o, (oth b (noR b o z1 z2)).trans z1, rfl⟩) hf ((oth e (Ne.symm hTe)).trans he)
   (fun b o z => (oth b fun q => by rw [q, hnT] at z; cases z).trans (hkb b o z)) hen hd (Array.getElem?_eq_some_iff.mp h1).1
   fun h' x1 x2 => h h' x1 fun b o z1 z2 => x2 b o ((oth b (noR b o z1 z2)).trans z1) z2
theorem flightD {base : Heap} {l : List Env} {e : Addr} {cls fl : Value} {dct : Option Addr} {Q : Unit → Shared → Prop} (x : FlyD base l e cls dct fl s.heap)
   (h : ∀ h', FlyD base l e cls dct .none h' → s.heap.UpToSlots h' → Q () { s with heap := h' }) : wpAny M A (setFlight (.ref e) none) Q E s := by
 obtain ⟨hkb, hen, hl, oe, vs, T, oT, ts, he, hc, hd, h1, hnT, hTe, hT, hdT, h3⟩ := x
 have z3 : 3 < ts.size := (Array.getElem?_eq_some_iff.mp h3).1
 have oth : ∀ b, b ≠ T → (s.heap.update T (Obj.mapFields (·.setIfInBounds 3 ((none : Option Addr).elim Value.none fun f => rawInt f)))).get? b = s.heap.get? b :=
   fun b z => Heap.get?_update_other _ _ (Ne.symm z)
 have noR : ∀ b o, s.heap.get? b = some o → (∀ vs, o.data ≠ .fields vs) → b ≠ T := fun b o z1 z2 q => by
   rw [q, hT] at z1; injection z1 with z1; subst z1; exact z2 ts hdT
 unfold setFlight
 refine wpAny_bind (wpAny_field he hd h1 ?_)
 rw [if_pos (show (Value.ref T != Value.none) = true from by simp)]
 refine wpAny_setField hT hdT z3 (h _ ⟨fun b o z => (oth b fun q => by rw [q, hnT] at z; cases z).trans (hkb b o z), hen,
   hl.of_keeps fun b o z1 z2 => ⟨o, (oth b (noR b o z1 z2)).trans z1, rfl⟩, ?_⟩ fun b o z1 z2 => ⟨o.slots, (oth b (noR b o z1 z2)).trans z1⟩)
 exact ⟨oe, vs, T, _, _, (oth e (Ne.symm hTe)).trans he, hc, hd, h1, hnT, hTe, Heap.get?_update_self _ hT (Obj.isFreed_of_fields (Obj.data_mapFields hdT _)), Obj.data_mapFields hdT _, by simp [z3]⟩
theorem FlyD.less {base h : Heap} {env : Env} {l : List Env} {e : Addr} {cls fl : Value} {dct : Option Addr} (x : FlyD base (env :: l) e cls dct fl h) : FlyD base l e cls dct fl h := by
 obtain ⟨a, b, ⟨_, _, c⟩, d⟩ := x
 exact ⟨a, b, c, d⟩
theorem leaveFirstD {base : Heap} {env : Env} {outer : List Env} {L e : Addr} {oe : Obj} {vs : Array Value} {Q : Unit → Shared → Prop}
   (hfr : A.frames = some (env :: outer)) (hl : s.heap.FunFrames base (env :: outer)) (hf : env.frame = some L)
   (he : s.heap.get? e = some oe) (hkb : base.StaysIn s.heap) (hen : base.get? e = none) (hd : oe.data = .fields vs) (h1 : vs[1]? = some .none)
   (h : ∀ h', FlyD base outer e oe.cls oe.dict .none h' → s.heap.UpToSlots h' → Q () { s with heap := h' }) : wpAny M A (leaving env (.ref e)) Q E s := by
 unfold leaving
 refine wpAny_bind (noteFirstD hfr hl hf he hkb hen hd h1 fun g1 x1 u1 => ?_)
 refine flightD (s := { s with heap := g1 }) x1 fun g2 x2 u2 => ?_
 exact h g2 x2.less (u1.trans u2)
end
end L2
namespace L2
open PySem PySem.Spec PyProof.Rows PySem.Calls
structure XUn (outer : List Env) (H H' : Hp) (h B h1 : Heap) : Prop where
 keepB : ∀ b o, h.get? b = some o → H b = none → b ∉ frs outer → B.get? b = some o
 thereB : ∀ b o, h.get? b = some o → b ∉ frs outer → ∃ o', B.get? b = some o'
 slot : ∀ b o, h.get? b = some o → H b = none → b ∈ frs outer → ∃ sl, h1.get? b = some { o with slots := sl }
 free : ∀ b o, h.get? b = some o → H b = none → H' b = none
 tups : ∀ b xs, H b = some (.tup xs) → H' b = some (.tup xs)
 frzs : ∀ b o u, H b = some (.frz o u) → H' b = some (.frz o u)
 tbls : ∀ b ps, H b = some (.tbl ps) → ∃ more, H' b = some (.tbl (ps ++ more))
theorem XUn.step {outer : List Env} {H H' : Hp} {h B h1 h2 base : Heap} (x : XUn outer H H' h B h1) (fr : h1.FunFrames base outer) (up : h1.UpToSlots h2) : XUn outer H H' h B h2 :=
 ⟨x.keepB, x.thereB, fun b o e n hb => by
   obtain ⟨sl, q⟩ := x.slot b o e n hb
   obtain ⟨_, o', ho', hd'⟩ := fr.mem hb
   rw [q] at ho'; cases ho'
   obtain ⟨sl', q'⟩ := up b _ q hd'
   exact ⟨sl', q'⟩, x.free, x.tups, x.frzs, x.tbls⟩
theorem XUn.un {outer : List Env} {H H' : Hp} {h B h1 : Heap} (x : XUn outer H H' h B h1) (st : B.StaysIn h1) (fr : h1.FunFrames B outer) : Un (frs outer) [] H H' h h1 :=
 ⟨fun b o e n hb _ => st b o (x.keepB b o e n hb), fun b o e n hb _ => x.slot b o e n hb, fun b o e n _ => x.free b o e n, fun b o e _ => by
   by_cases hb : b ∈ frs outer
   · obtain ⟨_, o', ho', _⟩ := fr.mem hb
     exact ⟨o', ho'⟩
   · obtain ⟨o', q⟩ := x.thereB b o e hb
     exact ⟨o', st b o' q⟩, x.tups, x.frzs, x.tbls⟩
def CXW (P : Program) (w : World) : CXT := fun outer H s E e s' =>
 ∃ (ea : Addr) (cls : Value) (dct : Option Addr) (H' : Hp) (B : Heap), e = .ref ea ∧ FlyD B outer ea cls dct .none s'.heap ∧ s'.os = s.os ∧ AllBare s'.gens ∧ HOk P w H' B ∧ XUn outer H H' s.heap B s'.heap ∧ E cls dct H'
section
variable {P : Program} {w : World} {K : PySem.W.Frag} {mg : Str → Option Value} {base : Heap} {N : List Str} {qual : Str} {scope : Scope} {f : Addr} {cdv : Value} {A : Around} {outer : List Env} {s : Shared} {H : Hp} {E : XK}
theorem xe_made {pins : List (Addr × Obj)} {σ : St} {H1 : Hp} {s1 : Shared} {h' : Heap} {e : Addr} {cls : Value} {vs : List Value} (I : Inv (cxOf (CXW P w) P w K mg base N qual scope f cdv A outer s H E) pins σ H1 s1)
   (hx : Heap.MadeExcOf s1.heap h' e cls vs) (hE : E cls none H1) : (cxOf (CXW P w) P w K mg base N qual scope f cdv A outer s H E).xe (.ref e) { s1 with heap := h' } := by
 have hst := I.stack
 have hin : ∀ env ∈ (cxOf (CXW P w) P w K mg base N qual scope f cdv A outer s H E).stack, ∀ b, env.frame = some b → b ∈ frs (cxOf (CXW P w) P w K mg base N qual scope f cdv A outer s H E).stack := fun env he b hb => List.mem_filterMap.mpr ⟨env, he, hb⟩
 generalize hB : PySem.W.hideAll s1.heap (frs (cxOf (CXW P w) P w K mg base N qual scope f cdv A outer s H E).stack) = B
 have stB : B.StaysIn s1.heap := fun b o q => by rw [← hB] at q; exact PySem.W.of_hideAll _ q
 have getB : ∀ b o, s1.heap.get? b = some o → b ∉ frs (cxOf (CXW P w) P w K mg base N qual scope f cdv A outer s H E).stack → B.get? b = some o := fun b o q n => by rw [← hB]; exact PySem.W.hideAll_get _ q n
 have frB : s1.heap.FunFrames B (cxOf (CXW P w) P w K mg base N qual scope f cdv A outer s H E).stack := by rw [← hB]; exact PySem.W.funFrames_hide hst hin
 have noL : ∀ b o, s.heap.get? b = some o → b ∉ frs outer → b ∉ frs (cxOf (CXW P w) P w K mg base N qual scope f cdv A outer s H E).stack := fun b o q n z => by
   rcases List.mem_cons.mp (I.stkSub b z) with z | z
   · have : b < s.heap.objs.size := Heap.lt_size q
     have a := I.ok.above
     rw [← z] at a
     exact absurd (Nat.lt_of_lt_of_le this a) (Nat.lt_irrefl _)
   · exact n z
 show wpAny (model P w) _ (leaving (envOfC qual scope s.heap.objs.size f cdv) (.ref e)) _ _ _
 obtain ⟨t, hte, -, -⟩ := hx.there
 have fe : B.get? e = none := by
   cases q : B.get? e with
   | none => rfl
   | some o => have := stB _ _ q; rw [hx.new] at this; cases this
 refine leaveFirstD (base := B) (outer := outer) (s := { s1 with heap := h' }) I.ok.frames (frB.of_keeps fun b o q _ => ⟨o, hx.keeps b o q, rfl⟩) rfl hte (fun b o q => hx.keeps b o (stB b o q)) fe rfl rfl fun h2 fl up => ?_
 refine ⟨e, cls, none, H1, B, rfl, fl, I.os, I.bare, fun a o q => (I.hok a o q).stay (fun b u hb z => getB b u z fun m => ?_) (fun _ z => z) (fun _ _ z => z), ⟨fun b o q n hb => ?_, fun b o q hb => ?_, fun b o q n hb => ?_, fun b o q n => I.base.free b o q n (fun z => nomatch z), I.base.tups, I.base.frzs, I.base.tbls⟩, hE⟩
 · have z := I.stkFree b m
   rcases hb with r | r
   · rw [r, q] at z; cases z
   · rw [r] at z; cases z
 · exact getB b o (I.base.keep b o q n hb (fun z => nomatch z)) (noL b o q hb)
 · obtain ⟨o', q'⟩ := I.base.there b o q (fun z => nomatch z)
   exact ⟨o', getB b o' q' (noL b o q hb)⟩
 · obtain ⟨sl, q'⟩ := I.base.slot b o q n hb (fun z => nomatch z)
   have q2 := hx.keeps b _ q'
   obtain ⟨_, o2, ho2, hd2⟩ := I.funs.mem hb
   rw [q'] at ho2; cases ho2
   obtain ⟨sl', z⟩ := up b _ q2 hd2
   exact ⟨sl', z⟩
end
section
variable {P : Program} {w : World} {K : PySem.W.Frag} {mg : Str → Option Value} {base : Heap}
theorem Fun.okX {x qual : Str} {st : Stmt} {f : Addr} {fd : FuncData} {N ps : List Str} {k : Nat} {sp : Sp} (F : Fun K x qual st f fd) (S : FnScope N ps (defScope st)) (len : ∀ vs H Q E, sp vs H Q E → vs.length = ps.length)
   (hbody : ∀ (cdv : Value) (A : Around) (outer : List Env) (s : Shared) (H : Hp) (vs : List V) (Q : VK) (E : XK), Room k (A.deeper (envOfC qual (defScope st) s.heap.objs.size f cdv)) → sp vs H Q E →
     ∃ t, PSs (cxOf (CXW P w) P w K mg base N qual (defScope st) f cdv A outer s H E) (defBody st) t ∧ t { nx := fun _ H' => Q .non H', rt := Q } (start N vs) H) : FnOk P w K mg base (CXW P w) (k + 1) f fd ps sp := by
 obtain ⟨oc, od, kV, doc, pm, an, cdv, ct, osl, rfl, lk, hcd⟩ := F.ex
 exact fn_of lk hcd S len fun A outer s H vs Q E hr hsp => hbody cdv A outer s H vs Q E hr hsp
end
end L2
namespace L2
open PySem PySem.Spec PyProof.Rows PySem.Calls PySem.W PySem.Builtin PySem.Builtin.ObjectAttr PySem.Builtin.Getset_descriptor
section
variable {prog : Program} {w : World} {A : Around} {E : Value → Shared → Prop} {s : Shared} {K : PySem.W.Frag} {x D : Addr}
def ClsAt (h : Heap) (x D : Addr) : Prop := ∃ o, h.get? x = some o ∧ o.cls = .ref D
theorem ClsAt.type {M : Model} {h : Heap} (p : ClsAt h x D) : Looks M h (typeOf (.ref x)) (.ref D) := by
 obtain ⟨o, e, c⟩ := p
 exact c ▸ (Looks.ld e).andThen .now
theorem looks_data {M : Model} {h : Heap} {name : Str} {a g : Value} (X : K.In h) (hf : findIn K (.ref D) name = some (some a)) (hg : specialIn K a "__get__" = some (some g)) (ht : takesIn K a = some true) : Looks M h (find (.ref x) (.ref D) name) (.bind g a) := by
 have l1 := looks_findIn (M := M) X hf
 have l2 : Looks M h (getOf (some a)) (some g) := looks_specialIn X hg
 have l3 := looks_takesIn (M := M) X ht
 refine l1.andThen (l2.andThen ?_)
 have l4 : Looks M h (dataDescriptor? (some a) (some g)) (some (g, a)) := l3.andThen .now
 exact l4.andThen (Looks.tag .now)
structure ExcCls (K : PySem.W.Frag) (D : Addr) : Prop where
 ga : findIn K (.ref D) "__getattribute__" = some (some (.builtin "BaseException.__getattribute__"))
 gk : findIn K (.ref D) "__getattr__" = some none
 cl : (clsIn K D).isSome = true
 ha : findIn K (.ref D) "__class__" = some (some (.builtin "object.__class__"))
 hn : specialIn K (.builtin "object.__class__") "__get__" = some (some (.builtin "getset_descriptor.__get__"))
 tk : takesIn K (.builtin "object.__class__") = some true
 mo : mroIn K D (.type "object") = some true
 mb : mroIn K D (.type "BaseException") = some true
theorem class_get {R : Result → Shared → Prop} (c : ExcCls K D) (X : K.In s.heap) (p : ClsAt s.heap x D) (q : R (.ok (.ret (.ref D))) s) :
   codeAny (model prog w) A (.call (.builtin "getset_descriptor.__get__") ⟨[.builtin "object.__class__", .ref x, .ref D], []⟩) R s := by
 obtain ⟨hh, g, d, t, os⟩ := s
 obtain ⟨o, eo, ec⟩ := id p
 have t0 := p.type (M := model prog w)
 have l1 := looks_mroIn (M := model prog w) X c.mo
 have arg0 := KF.args_gs (Value.builtin "object.__class__") (Value.ref x) (Value.ref D)
 refine codeAny_call_builtin KF.slot_gs.plain KF.entry_gs
   (KF.slot_gs.check _ _ _ _ _ _ _ _ KF.type_class arg0 ?_)
 unfold Builtin.«getset_descriptor.__get__»
   descrGet
 rw [dga_obj]; refine wpAny_bind (wpAny_pure ?_)
 unfold descrGetter descrCheckInstance
   descrNameAndClass isInstance
 simp only [KF.owner_class]; (repeat lk)
 refine ⟨Code.quiet_builtin _
   (by symm), codeAny_builtin KF.entry_class ?_⟩
 unfold Builtin.«object.__class__»
   shownTypeOf
 (repeat lk); exact q
theorem class_call {tk : Tok} {R : Result → Shared → Prop} (c : ExcCls K D) (X : K.In s.heap) (p : ClsAt s.heap x D) (q : R (.ok (.ret (.ref D))) s) :
   codeAny (model prog w) A (.call (.builtin "BaseException.__getattribute__") ⟨[.ref x, .str "__class__" tk], []⟩) R s := by
 obtain ⟨hh, g, d, t, os⟩ := s
 obtain ⟨o, eo, ec⟩ := id p
 have t0 := p.type (M := model prog w)
 have lb := looks_mroIn (M := model prog w) X c.mb
 have f0 := looks_data (x := x) (M := model prog w) X c.ha c.hn c.tk
 have hk : builtinKind "BaseException.__getattribute__" = some .slot := by symm
 have hsplit : splitId "BaseException.__getattribute__" = some ("BaseException", "__getattribute__") := by symm
 have ha := F.args_bexc_ga (.ref x) (.str "__class__" tk)
 refine codeAny_call_builtin F.excAttr_ValueError.ga.plain F.entry_bexc_ga ?_
 simp only [checkBuiltinCall, hk, hsplit]
 unfold isInstance
 refine wpAny_bind ?_
 (repeat (first | (with_reducible refine wpAny_call (class_get c X p ?_)) | lk))
 exact q
theorem class_of {Q : Option Value → Shared → Prop} (c : ExcCls K D) (X : K.In s.heap) (p : ClsAt s.heap x D) (q : Q (some (.ref D)) { s with toks := s.toks + 1 }) : wpAny (model prog w) A (getAttr? (.ref x) "__class__") Q E s := by
 obtain ⟨hh, g, d, t, os⟩ := s
 obtain ⟨o, eo, ec⟩ := id p
 have t0 := p.type (M := model prog w)
 have t1 := looks_findIn (M := model prog w) X c.ga
 have f1 := looks_findIn (M := model prog w) X c.gk
 have f3 := F.excAttr_ValueError.ga.bind (.ref x)
 unfold getAttr? getAttrBy? getAttrBy
 refine wpAny_bind (wpAny_mkText (wpAny_bind (wpAny_attempt (wpAny_holding (wpAny_bind (t0.at (wpAny_bind (t1.at ?_))))))))
 show wpAny _ _ (getAttrByItsOwn _ _ _ _ _ _) _ _ _
 unfold getAttrByItsOwn hookBefore
 refine wpAny_bind (f1.at (wpAny_bind (wpAny_attempt (wpAny_holding ?_))))
 show wpAny _ _ (boundAndCalled _ _ _) _ _ _
 unfold boundAndCalled
 rw [f3]
 refine wpAny_bind (wpAny_pure (wpAny_call ?_))
 refine class_call c (s := ⟨hh, g, d, t + 1, os⟩) X p ?_
 exact wpAny_pure (wpAny_pure q)
theorem kit_exc (c : ExcCls K D) : KitX K (.ref x) (.ref D) (fun h => ClsAt h x D) where
 ty := fun _ _ _ p => p.type
 it := fun _ _ X _ => by
   obtain ⟨cd, e⟩ := Option.isSome_iff_exists.mp c.cl
   unfold clsIn at e
   split at e
   · rename_i c' d' cd' sl' ho
     intro A' Q' E' s' k q
     unfold isType loadHead
     exact wpAny_bind (wpAny_loadPart (k _ _ (X _ _ ho)) (wpAny_pure q))
   · cases e
 ne := fun h tp dd its n sl X htp => by
   obtain ⟨cd, e⟩ := Option.isSome_iff_exists.mp c.cl
   refine Bool.eq_false_iff.mpr fun q => ?_
   have z : D = tp := Value.ref.inj (beq_iff_eq.mp q)
   subst z
   unfold clsIn at e
   split at e
   · rename_i c' d' cd' sl' ho
     have z := (X _ _ ho).symm.trans htp
     cases z
   · cases e
 ca := fun X p k => class_of c X p k
end
def excO (a D : Addr) : HO := .ext fun h => ClsAt h a D
def excD (a D dx : Addr) : HO := .ext fun h => ∃ o, h.get? a = some o ∧ o.cls = .ref D ∧ o.dict = some dx ∧ ∃ vs, o.data = .fields vs
inductive TyE (K : PySem.W.Frag) (H : Hp) : V → Value → Prop where
 | old {x : V} {t : Value} (h : TyOf K H x t) : TyE K H x t
 | exc {a D : Addr} (h : H a = some (excO a D)) (c : ExcCls K D) : TyE K H (.ref a) (.ref D)
 | tpl {a : Addr} {xs : List V} (h : SqT K H a xs) : TyE K H (.ref a) (.type "tuple")
 | excd {a D dx : Addr} (h : H a = some (excD a D dx)) (c : ExcCls K D) : TyE K H (.ref a) (.ref D)
def vVal : V → Value
 | .ref a => .ref a
 | .ty n => .type n
 | _ => .none
def isCls : V → Bool
 | .ref _ => true
 | .ty _ => true
 | _ => false
section
variable {X : Cx} {pins : List (Addr × Obj)} {σ : St} {H : Hp} {s : Shared} {A : Around} {E : Value → Shared → Prop} {Q : Value → Shared → Prop} {c : Value} {b : Bool}
theorem kit_of {x : V} {u t : Value} (I : Inv X pins σ H s) (rx : RelV x u) (ty : TyE X.K H x t) : (∃ P : Heap → Prop, KitX X.K u t P ∧ P s.heap) ∧ u ≠ .builtin "__main__.__loader__#opaque" := by
 cases ty with
 | @tpl a xs h =>
   cases (show u = Value.ref a from rx)
   obtain ⟨its, r, pl, hz⟩ := I.tuple h
   obtain ⟨o, h1, h2, _⟩ := pl
   exact ⟨⟨_, kitx_tuple, ⟨o, h1, h2⟩⟩, fun z => nomatch z⟩
 | old ty =>
   cases ty with
   | non => cases (show u = Value.none from rx); exact ⟨⟨_, kitx_none, True.intro⟩, fun z => nomatch z⟩
   | bl y => cases (show u = Value.bool y from rx); exact ⟨⟨_, kitx_bool, True.intro⟩, fun z => nomatch z⟩
   | int i => obtain ⟨t, q⟩ := (show ∃ t, u = Value.int i t from rx); cases q; exact ⟨⟨_, kitx_int, True.intro⟩, fun z => nomatch z⟩
   | str y => obtain ⟨t, q⟩ := (show ∃ t, u = Value.str y t from rx); cases q; exact ⟨⟨_, kitx_str, True.intro⟩, fun z => nomatch z⟩
   | flt y => obtain ⟨t, q⟩ := (show ∃ t, u = Value.float y t from rx); cases q; exact ⟨⟨_, kitx_float, True.intro⟩, fun z => nomatch z⟩
   | @lst a xs ea =>
     cases (show u = Value.ref a from rx)
     obtain ⟨_, _, n, _, h1⟩ := (show ObjOk X.prog X.w H s.heap a (.lst xs) from I.hok a _ ea)
     exact ⟨⟨_, kitx_list, ⟨_, h1, rfl⟩⟩, fun z => nomatch z⟩
   | @frz a ob xs ea =>
     cases (show u = Value.ref a from rx)
     obtain ⟨_, _, _, n, _, h1⟩ := (show ObjOk X.prog X.w H s.heap a (.frz ob (.lst xs)) from I.hok a _ ea)
     exact ⟨⟨_, kitx_list, ⟨_, h1, rfl⟩⟩, fun z => nomatch z⟩
   | @tup a xs ea =>
     cases (show u = Value.ref a from rx)
     obtain ⟨_, _, _, p⟩ := (show ObjOk X.prog X.w H s.heap a (.tup xs) from I.hok a _ ea)
     obtain ⟨o, h1, h2, _⟩ := p
     exact ⟨⟨_, kitx_tuple, ⟨o, h1, h2⟩⟩, fun z => nomatch z⟩
   | @dK a kvs ea =>
     cases (show u = Value.ref a from rx)
     obtain ⟨_, _, vs, _, p⟩ := (show ObjOk X.prog X.w H s.heap a (.dK kvs) from I.hok a _ ea)
     obtain ⟨o, es, ep, h1, h2, _⟩ := p
     exact ⟨⟨_, kitx_dict, ⟨o, h1, h2.1⟩⟩, fun z => nomatch z⟩
   | @dT a kvs ea =>
     cases (show u = Value.ref a from rx)
     obtain ⟨_, _, xs, _, o, es, ep, h1, h2, _⟩ := (show ObjOk X.prog X.w H s.heap a (.dT kvs) from I.hok a _ ea)
     exact ⟨⟨_, kitx_dict, ⟨o, h1, h2.1⟩⟩, fun z => nomatch z⟩
   | @ins a C dx fs ea cl ha hn htk hm =>
     cases (show u = Value.ref a from rx)
     obtain ⟨mA, O, _⟩ := ins_get I.hok ea
     obtain ⟨od, J, _⟩ := O.look
     exact ⟨⟨_, kitx_own (cl.get _) cl.hd ha hn htk hm, J⟩, fun z => nomatch z⟩
 | @exc a D h c =>
   cases (show u = Value.ref a from rx)
   obtain ⟨p, _⟩ := (show ObjOk X.prog X.w H s.heap a (excO a D) from I.hok a _ h)
   exact ⟨⟨_, kit_exc c, p⟩, fun z => nomatch z⟩
 | @excd a D dx h c =>
   cases (show u = Value.ref a from rx)
   obtain ⟨⟨o, e, k, _⟩, _⟩ := (show ObjOk X.prog X.w H s.heap a (excD a D dx) from I.hok a _ h)
   exact ⟨⟨_, kit_exc c, ⟨o, e, k⟩⟩, fun z => nomatch z⟩
theorem vVal_rel {x : V} {u : Value} (h : isCls x = true) (r : RelV x u) : u = vVal x := by
 cases x with
 | ref a => exact r
 | ty n => exact r
 | _ => cases h
theorem xA : CallR X (.builtin "isinstance") (fun xs H Q => ∃ x y t b, xs = [x, y] ∧ isCls y = true ∧ TyE X.K H x t ∧ PySem.W.kitOne X.K t (vVal y) = some b ∧ Q (.bl b) H) := by
 intro pins s σ H xs us Q I r h
 obtain ⟨x, y, t, b, rfl, hc, ty, e, q⟩ := h
 obtain ⟨u, w', rfl, rx, ry⟩ := vals2 r
 obtain rfl := vVal_rel hc ry
 obtain ⟨⟨P, Z, p⟩, nb⟩ := kit_of I rx ty
 exact kia_one Z I.kIn p e nb fun tk => ⟨.bl b, H, I.tok _, rfl, q⟩
end
end L2
namespace L2
open PySem PySem.Spec PyProof.Rows PySem.Calls PySem.W
theorem own_obj {K : PySem.W.Frag} {h : Heap} {C : Addr} {bmB : List Value} {newId : String} (X : K.In h) (q : excIn K C bmB newId = true) :
   ∃ bm N nm q bs hdct sn sub ab col dd k0 k1 k2 k3 k5 mN, h.get? C = some (excClassObj nm q C N bs bm hdct sn sub ab col dd k0 k1 k2 k3 k5 newId) ∧ h.Ns N mN ∧ mN "__init__" = none ∧ OwnTail h bmB bm := by
 unfold excIn at q
 split at q
 · rename_i dd cl sl ho
   split at q
   · rename_i C' bm k0 k1 k2 k3 n k5 hm hs
     simp only [Bool.and_eq_true, Bool.not_eq_true', beq_iff_eq] at q
     obtain ⟨⟨⟨⟨⟨e1, e2⟩, e3⟩, e4⟩, e5⟩, e6⟩ := q
     subst e1 e2
     obtain ⟨c1, c2, c3, c4, c5, c6, c7, c8, c9, c10, c11⟩ := cl
     dsimp only at hm e3 e5 e6; subst hm e3
     have es : sl = #[k0, k1, k2, k3, some (.builtin n), k5] := by
       cases sl with | mk l => (simp only at hs; rw [hs])
     subst es
     refine ⟨bm, c4, c1, c5, c2, c6, c7, c8, c9, c10, dd, k0, k1, k2, k3, k5, h.nsMap c4, X _ _ ho, ?_, ?_, tail_of_in X e4⟩
     · exact .of_isNs (isNs_of_in X e5)
     · exact nsMap_none_of_in X e5 e6
   · cases q
 · cases q
abbrev mroVE : List Value := [.type "ValueError", .type "Exception", .type "BaseException", .type "object"]
section
variable {P : Program} {w : World} {K : PySem.W.Frag} {mg : Str → Option Value} {base : Heap} {N : List Str} {qual : Str} {scope : Scope} {f : Addr} {cdv : Value} {A : Around} {outer : List Env} {s : Shared} {H : Hp} {E : XK}
def tRaise (E : XK) (C : Addr) (t : TA) : TS := fun _ σ H => t σ H fun vs H1 => vs.length ≤ sizeLine ∧ E (.ref C) none H1
theorem ps_raise {x : Str} {C : Addr} {np cpos pos : Pos} {e₀ : Expr} {rest : List Expr} {t : TA} (hm : mg x = some (.ref C)) (hq : excIn K C mroVE "ValueError.__new__" = true)
   (ha : PA (cxOf (CXW P w) P w K mg base N qual scope f cdv A outer s H E) (e₀ :: rest) t) (hg : Gl (cxOf (CXW P w) P w K mg base N qual scope f cdv A outer s H E) x)
   (he : starEach (e₀ :: rest) (envOfC qual scope s.heap.objs.size f cdv) = (false, eval e₀ (envOfC qual scope s.heap.objs.size f cdv)) :: starEach rest (envOfC qual scope s.heap.objs.size f cdv) := by rfl)
   (hpl : (backTo cpos (starEach rest (envOfC qual scope s.heap.objs.size f cdv))).any (·.1) = false := by rfl) (hd : (x == ("__debug__" : Str)) = false := by decide) :
   PS (cxOf (CXW P w) P w K mg base N qual scope f cdv A outer s H E) (.Raise (some (.Call (.Name x np) (e₀ :: rest) [] cpos)) none pos) (tRaise E C t) := by
 intro pins s1 σ H1 D I h
 obtain ⟨bm, Nn, nm, qn, bs, hdct, sn, sub, ab, col, dd, k0, k1, k2, k3, k5, mN, hC, hN, hni, TL⟩ := own_obj I.ok.mod.kin hq
 have hand : (cxOf (CXW P w) P w K mg base N qual scope f cdv A outer s H E).A.handled = none := I.ok.hd rfl
 refine wpAny_Raise_call_subT (C := C) (nm := nm) (q := qn) (N := Nn) (bs := bs) (bm := bm) (hdct := hdct) (sn := sn) (sub := sub) (ab := ab) (col := col) (dd := dd) (k0 := k0) (k1 := k1) (k2 := k2) (k3 := k3) (k5 := k5)
   F.excBase_ValueError (mN := mN) (TL.hasType F.excBase_ValueError.hasBase) hand ?_ hni (ld_glob I hg hm ⟨rfl, ?_⟩ hd)
 · show (backTo cpos (starEach (e₀ :: rest) (envOfC qual scope s.heap.objs.size f cdv))).any (·.1) = false
   rw [he]; show (false || (backTo cpos (starEach rest (envOfC qual scope s.heap.objs.size f cdv))).any (·.1)) = false
   rw [hpl]; rfl
 · have hA := ha cpos pins s1 σ H1 _ I h
   show wpAny _ _ (evalArgs (.ref C) true (backTo cpos (starEach (e₀ :: rest) (envOfC qual scope s.heap.objs.size f cdv))) []) _ _ _
   have hA' : wpAny (model P w) (cxOf (CXW P w) P w K mg base N qual scope f cdv A outer s H E).A (spliced (backTo cpos (starEach (e₀ :: rest) (envOfC qual scope s.heap.objs.size f cdv)))) _ _ s1 := hA
   rw [he] at hA' ⊢
   refine Calls.evalArgs_plain (thn hA' fun us s2 ⟨vs, H2, I2, r, hl, q⟩ => ⟨rfl, ?_, ?_, ?_, ?_, fun h' e mk => xe_made I2 mk q⟩)
   · show us.length ≤ sizeLine
     rw [← r.length]; exact hl
   · exact I2.bk _ _ hC
   · exact hN.keeps I2.bk
   · exact TL.keeps I2.bk
end
def CXAt (X : Cx) (pins : List (Addr × Obj)) (σ : St) (E : XK) (e : Value) (s' : Shared) : Prop := ∃ H1 s1, Inv X pins σ H1 s1 ∧ CXW X.prog X.w X.stack H1 s1 E e s'
abbrev TEx := St → Hp → VK → XK → Prop
abbrev TSx := Ends → (St → XK) → St → Hp → Prop
def PEx (X : Cx) (e : Expr) (t : TEx) : Prop :=
 ∀ (pins : List (Addr × Obj)) (s : Shared) (σ : St) (H : Hp) (Q : VK) (E : XK), Inv X pins σ H s → t σ H Q E → wpAny (model X.prog X.w) X.A (eval e X.env) (EP X pins σ Q) (CXAt X pins σ E) s
def PSx (X : Cx) (st : Stmt) (t : TSx) : Prop :=
 ∀ (pins : List (Addr × Obj)) (s : Shared) (σ : St) (H : Hp) (D : Ends) (E : St → XK), Inv X pins σ H s → t D E σ H → wpAny (model X.prog X.w) X.A (exec st X.env) (SP X pins D) (fun e s' => ∃ σ', CXAt X pins σ' (E σ') e s') s
def PSsx (X : Cx) (st : List Stmt) (t : TSx) : Prop :=
 ∀ (pins : List (Addr × Obj)) (s : Shared) (σ : St) (H : Hp) (D : Ends) (E : St → XK), Inv X pins σ H s → t D E σ H → wpAny (model X.prog X.w) X.A (execs st X.env) (SP X pins D) (fun e s' => ∃ σ', CXAt X pins σ' (E σ') e s') s
section
variable {X : Cx} {k : Nat} {f C : Addr} {fd : FuncData} {ps : List Str} {sp : Sp} {dvs : List V} {ds : List Value} {x m : Str} {p pos apos : Pos} {e o : Expr} {es : List Expr} {ta : TE} {t : TA}
theorem PA.nox {es : List Expr} {t : TA} (h : PA X.nox es t) (E : Value → Shared → Prop) {pos : Pos} {pins : List (Addr × Obj)} {s : Shared} {σ : St} {H : Hp} {Q : List V → Hp → Prop} (I : Inv X pins σ H s) (q : t σ H Q) :
   wpAny (model X.prog X.w) X.A (spliced (backTo pos (starEach es X.env))) (AP X pins σ Q) E s :=
 wpAny_mono (h pos pins s σ H Q (I.wish _) q) (fun _ _ ⟨vs, H', I', r, q⟩ => ⟨vs, H', I'.unwish, r, q⟩) fun _ _ z => False.elim z
theorem run_fnx {pins : List (Addr × Obj)} {σ : St} {H : Hp} {s : Shared} {Q : VK} {E : XK} {us : List Value} {vs : List V} (F : FnOk X.prog X.w X.K X.mg X.base (CXW X.prog X.w) k f fd ps sp) (hr : Room k X.A) (hb : Binds X.K fd ps ds) (hd : Vals dvs ds)
   (I : Inv X pins σ H s) (r : Vals vs us) (h : sp (vs ++ dvs) H Q E) : wpAny (model X.prog X.w) X.A (call (.ref f) us) (EP X pins σ Q) (CXAt X pins σ E) s := by
 have r2 : Vals (vs ++ dvs) (us ++ ds) := r.append hd
 have hl : (us ++ ds).length = ps.length := by rw [← r2.length]; exact F.len _ _ _ _ h
 refine wpAny_call (codeAny_mono (F.run X.A X.stack s H ⟨us, []⟩ (us ++ ds) (vs ++ dvs) Q E hr I.env0 (hb s us I.kIn hl) r2 h) fun r s' hq => ?_)
 cases r with
 | error e => exact ⟨H, s, I, hq⟩
 | ok fl =>
   cases fl with
   | ret u => exact I.after hq
   | next => exact False.elim hq
   | brk => exact False.elim hq
   | cont => exact False.elim hq
def tCallX (sp : Sp) (dvs : List V) (t : TA) : TEx := fun σ H Q E => t σ H fun vs H1 => sp (vs ++ dvs) H1 Q E
theorem pex_call (F : FnOk X.prog X.w X.K X.mg X.base (CXW X.prog X.w) k f fd ps sp) (hr : Room k X.A) (hg : Gl X x) (hm : X.mg x = some (.ref f)) (hk : PySem.W.keepIn X.K (.ref f) = true) (hb : Binds X.K fd ps ds) (hd : Vals dvs ds)
   (ha : PA X.nox (e :: es) t) (hdb : (x == ("__debug__" : Str)) = false := by decide) (he : starEach (e :: es) X.env = (false, eval e X.env) :: starEach es X.env := by rfl) (hpl : (backTo pos (starEach es X.env)).any (·.1) = false := by rfl) :
   PEx X (.Call (.Name x p) (e :: es) [] pos) (tCallX sp dvs t) := by
 intro pins s σ H Q E I h
 refine wpAny_Call_Name_kw (ld_glob I hg hm ?_ hdb)
 refine PySem.W.callWith_K (h₀ := X.base) I.ok.mod.kin hk (wpAny_mono (ha.nox (CXAt X pins σ E) I h) (fun us s1 ⟨vs, H1, I1, r, q⟩ => ⟨I1.kIn, ?_⟩) fun _ _ z => z) he hpl
 exact run_fnx F hr hb hd I1 r q
def tRetX (te : TEx) : TSx := fun D E σ H => te σ H D.rt (E σ)
theorem psx_ret {te : TEx} (he : PEx X e te) : PSx X (.Return (some e) pos) (tRetX te) := by
 intro pins s σ H D E I h
 exact wpAny_Return_some (wpAny_mono (he pins s σ H _ _ I h) (fun v s1 ⟨x, H1, I1, r1, q1⟩ => ⟨x, σ, H1, I1, r1, q1⟩) fun e s' z => ⟨σ, z⟩)
theorem psx_one {st : Stmt} {t : TSx} (h1 : PSx X st t) : PSsx X [st] t := by
 intro pins s σ H D E I h
 refine wpAny_execs_cons (wpAny_mono (h1 pins s σ H D E I h) (fun f s1 q => ?_) fun _ _ z => z)
 cases f with
 | next => exact wpAny_execs_nil q
 | ret v => exact q
 | brk => exact q
 | cont => exact q
end
def hcx (X : Cx) (e : Addr) : Cx := { X with A := X.A.mark (some (.ref e)), calm := false, xe := fun _ _ => False }
theorem hcx_in {X : Cx} {e : Addr} {pins : List (Addr × Obj)} {σ : St} {H : Hp} {s : Shared} (I : Inv X pins σ H s) : Inv (hcx X e) pins σ H s := by
 obtain ⟨ok, os, bare, bs, loc, cell, free, freeC, pin, hok, len⟩ := I
 exact ⟨⟨ok.mod, ok.kind, ok.glob, ok.blt, ok.above, ok.inj, ok.has, ok.cab, fun z => Bool.noConfusion (show false = true from z), ok.frames, ok.stk, ok.exf, ok.bs, ok.bsz, ok.noex, ok.exfs, ok.funs, ok.frf⟩, os, bare, bs, loc, cell, free, freeC, pin, hok, len⟩
theorem hcx_out {X : Cx} {e : Addr} (ok : X.Ok) {pins : List (Addr × Obj)} {σ : St} {H : Hp} {s : Shared} (I : Inv (hcx X e) pins σ H s) : Inv X pins σ H s := by
 obtain ⟨_, os, bare, bs, loc, cell, free, freeC, pin, hok, len⟩ := I
 exact ⟨ok, os, bare, bs, loc, cell, free, freeC, pin, hok, len⟩
theorem hcx_sp {X : Cx} {e : Addr} (ok : X.Ok) {pins : List (Addr × Obj)} {D : Ends} {f : Flow} {s : Shared} (h : SP (hcx X e) pins D f s) : SP X pins D f s := by
 cases f with
 | next => obtain ⟨σ', H', I, q⟩ := h; exact ⟨σ', H', hcx_out ok I, q⟩
 | brk => obtain ⟨σ', H', I, q⟩ := h; exact ⟨σ', H', hcx_out ok I, q⟩
 | cont => obtain ⟨σ', H', I, q⟩ := h; exact ⟨σ', H', hcx_out ok I, q⟩
 | ret u => obtain ⟨v, σ', H', I, r, q⟩ := h; exact ⟨v, σ', H', hcx_out ok I, r, q⟩
section
variable {X : Cx} {body suite : List Stmt} {b₀ : Stmt} {x : Str} {C : Addr} {np hpos pos : Pos} {tb : TSx} {th : TS}
def tTry (K : PySem.W.Frag) (C : Addr) (tb : TSx) (th : TS) : TS := fun D σ H => tb D (fun σ' cls _ H' => PySem.W.exmOne K cls (.ref C) = some true ∧ th D σ' H') σ H
theorem ps_try (hst : X.stack = X.env :: X.outer) (hfr : X.env.frame = some X.env.locals) (hb : PSsx X body tb) (hg : Gl X x) (hm : X.mg x = some (.ref C)) (hh : ∀ ea, PSs (hcx X ea) (b₀ :: suite) th) (hd : (x == ("__debug__" : Str)) = false := by decide) :
   PS X (.Try body [.ExceptHandler (some (.Name x np)) none (b₀ :: suite) hpos] [] [] pos) (tTry X.K C tb th) := by
 intro pins s σ H D I h
 refine wpAny_Try_except (wpAny_mono (hb pins s σ H D _ I h) (fun f s1 q => ?_) fun e s1 q => ?_)
 · cases f with
   | next => exact wpAny_execs_nil q
   | ret v => exact q
   | brk => exact q
   | cont => exact q
 · obtain ⟨σ', H1, s2, I1, ea, cls, dct, H', B, rfl, fl, os, bare, hok, xu, hx, q⟩ := q
   rw [hst] at fl
   have back : ∀ (h' : Heap) (tk : Nat), B.StaysIn h' → h'.FunFrames B X.stack → XUn X.stack H1 H' s2.heap B h' → Inv X pins σ' H' { s1 with heap := h', toks := tk } := fun h' tk st fr xu' =>
     I1.call' (ch := []) os (xu'.un st fr) (hok.kept st) bare fun b z => nomatch z
   have fr0 : s1.heap.FunFrames B X.stack := by rw [hst]; exact fl.2.2.1
   refine noteOnD (by rw [I.ok.frames, hst]) hfr fl fun h4 held4 up4 => ?_
   have x4 := xu.step fr0 up4
   refine flightD held4 fun h5 fl5 up5 => ?_
   have fr4 : h4.FunFrames B X.stack := by rw [hst]; exact held4.2.2.1
   have x5 := x4.step fr4 up5
   have fr5 : h5.FunFrames B X.stack := by rw [hst]; exact fl5.2.2.1
   have I5 : Inv X pins σ' H' { s1 with heap := h5 } := back h5 s1.toks fl5.1 fr5 x5
   obtain ⟨ob, hob, hobc, -⟩ := fl5.there
   have LT : Looks (model X.prog X.w) h5 (typeOf (.ref ea)) cls := hobc ▸ (Looks.ld hob).andThen .now
   refine wpAny_handleBy_cons (codeAny_handlers_test ?_) (by intro z; cases z)
   have ld := fun Q E q => ld_glob (X := hcx X ea) (pos := np) (Q := Q) (E := E) (hcx_in I5) hg hm q hd
   refine ld _ _ ?_
   refine (exm_one (M := model X.prog X.w) I5.kIn LT hx).here ?_
   refine codeAny_handlers_suite ?_
   refine flightD fl5 fun h6 fl6 up6 => ?_
   have x6 := x5.step fr5 up6
   have fr6 : h6.FunFrames B X.stack := by rw [hst]; exact fl6.2.2.1
   have I6 : Inv X pins σ' H' { s1 with heap := h6 } := back h6 s1.toks fl6.1 fr6 x6
   exact wpAny_mono (hh ea pins _ σ' H' D (hcx_in I6) q) (fun f s7 q7 => hcx_sp I.ok q7) fun _ _ z => (show False from z).elim
end
end L2
namespace L2
open PySem PySem.Spec PyProof.Rows PySem.Calls PySem.W
section
variable {X : Cx} {pins : List (Addr × Obj)} {σ : St} {H : Hp} {s : Shared}
end
section
variable {X : Cx} {body suite : List Stmt} {b₀ : Stmt} {x n : Str} {C : Addr} {np hpos pos : Pos} {tb : TSx} {th : TS} {j : Nat}
end
end L2
namespace L2
open PySem PySem.Spec PyProof.Rows PySem.Calls
section
variable {X : Cx}
theorem mt_startswith : MtM X "str.startswith" (fun x vs H Q => ∃ z y, x = .str z ∧ vs = [.str y] ∧ Q (.bl (Txt.startswith z y)) H) := by
 intro pins s σ H x vs v us Q I rx rv h
 obtain ⟨z, y, rfl, rfl, q⟩ := h
 obtain ⟨t, rfl⟩ := rx
 obtain ⟨u, rfl, t', rfl⟩ := rv.one
 exact SC.startswith ⟨.bl _, H, I, rfl, q⟩
theorem mt_find : MtM X "str.find" (fun x vs H Q => ∃ z y, x = .str z ∧ vs = [.str y] ∧ Q (.int (Txt.find z y)) H) := by
 intro pins s σ H x vs v us Q I rx rv h
 obtain ⟨z, y, rfl, rfl, q⟩ := h
 obtain ⟨t, rfl⟩ := rx
 obtain ⟨u, rfl, t', rfl⟩ := rv.one
 exact SC.find ⟨.int _, H, I.tok _, ⟨_, rfl⟩, q⟩
def repN (l : List Nat) : Nat → List Nat
 | 0 => []
 | k + 1 => repN l k ++ l
theorem repN_len (l : List Nat) : ∀ k, (repN l k).length = k * l.length
 | 0 => by simp [repN]
 | k + 1 => by rw [repN, List.length_append, repN_len l k, Nat.succ_mul]
theorem rep_is (x : Str) (k : Nat) : (⟨(List.replicate k x.cps).foldl (· ++ ·) #[]⟩ : Str) = S (repN (cd x) k) := by
 have g : ∀ k, (List.replicate k x.cps).foldl (· ++ ·) #[] = (repN (cd x) k).toArray := fun k => by
   induction k with
   | zero => rfl
   | succ k ih => rw [List.replicate_succ', List.foldl_append, ih]; show _ ++ x.cps = _; rw [repN]; apply Array.ext'; simp [cd]
 rw [g]; rfl
theorem op_mul_str : OpR X (binaryOp .Mult) (fun x y H Q => ∃ z n, x = .str z ∧ y = .int n ∧ 0 ≤ n ∧ n ≤ 1000000 ∧ z.length * n.toNat ≤ 1000000 ∧ z.length ≤ 1000000 ∧ Q (.str (S (repN (cd z) n.toNat))) H) := by
 intro pins s σ H x y v u Q I rx ry h
 obtain ⟨z, n, rfl, rfl, h0, h1, h2, h3, q⟩ := h
 obtain ⟨t, rfl⟩ := rx
 obtain ⟨t', rfl⟩ := ry
 have tl : Builtin.Str.tooLong (z.length * n.toNat) = false := by
   unfold Builtin.Str.tooLong
   exact decide_eq_false (by rw [sizeLine_eq]; omega)
 refine P.mul_str ?_ ?_ (fun _ _ => tl) ?_
 · rw [decide_eq_false (by omega), decide_eq_false (by omega)]; rfl
 · intro hn _ hgt
   have : (2 ^ 63 - 1 : Int) / n ≥ 1000000 := by
     have : (1000000 : Int) * n ≤ 2 ^ 63 - 1 := by omega
     exact Int.le_ediv_of_mul_le (by omega) this
   omega
 · have fin : ∀ y : Str, y = S (repN (cd z) n.toNat) → ∀ t tk, EP X pins σ Q (.str y t) { s with toks := tk } := fun y e t tk => by
     subst e; exact ⟨.str _, H, I.tok _, ⟨_, rfl⟩, q⟩
   by_cases hn : n < 1
   · rw [if_pos hn]
     have e0 : n = 0 := by omega
     subst e0
     exact ⟨by rw [sizeLine_eq]; exact Nat.zero_le _, fin _ rfl _ _⟩
   · rw [if_neg hn]
     by_cases h1 : (n == 1 || z.length == 0) = true
     · rw [if_pos h1]
       refine fin z ?_ t s.toks
       rcases Bool.or_eq_true_iff.mp h1 with e | e
       · have e' : n = 1 := by simpa using e
         subst e'
         show z = S (repN (cd z) 1)
         rw [show repN (cd z) 1 = cd z from by simp [repN], S_cd]
       · have e' : (cd z) = [] := List.eq_nil_of_length_eq_zero (by rw [← yX]; simpa using e)
         have : ∀ k, repN [] k = [] := fun k => by induction k with | zero => rfl | succ k ih => simp [repN, ih]
         rw [e', this, ← e', S_cd]
     · rw [if_neg h1]
       refine ⟨?_, fin _ (rep_is z n.toNat) _ _⟩
       rw [rep_is, len_S, repN_len, ← yX, sizeLine_eq, Nat.mul_comm]
       omega
theorem pe_fstrR {c : Str} {j : Nat} {e : Expr} {te : TE} {p1 p2 pos : Pos} (he : PE X e te) (hc : c.length ≤ 1000 := by symm) :
   PE X (.JoinedStr [.Constant (.str c) j p1, .FormattedValue e 114 none p2] pos) (fun σ H Q => te σ H fun x H1 => ∃ z, x = .str z ∧ z.length ≤ 100000 ∧ (∀ k ∈ cd z, k < 1000) ∧ ∀ y, Q (.str y) H1) := by
 intro pins s σ H Q I h
 have l0 : (Str.empty ++ c).length = c.length := by rw [strLen_append]; exact Nat.zero_add _
 refine JoinedStr_many (joinParts_cons (Calls.Constant_str ⟨?_, ?_⟩))
 · rw [l0, sizeLine_eq]; omega
 · refine joinParts_cons (wpAny_FormattedValue_repr (thn (he pins _ σ H _ (I.tok _) h) fun v s1 ⟨x, H1, I1, r, z, ex, hz, hk, q⟩ => ?_))
   subst ex
   obtain ⟨t, rfl⟩ := r
   have hl : (reprText z).length ≤ 1000002 := Nat.le_trans (StrLaws.reprText_len z fun c hc => Nat.lt_of_lt_of_le (hk c hc) (by decide)) (by omega)
   refine wpAny_pyReprObj_str (formatField_str (fun t' tk => ⟨?_, joinParts_nil ⟨.str _, H1, I1.tok _, ⟨_, rfl⟩, q _⟩ ?_⟩) ?_) ?_
   · rw [strLen_append, l0, sizeLine_eq]; omega
   · rw [strLen_append, l0, sizeLine_eq]; omega
   · rw [sizeLine_eq]; omega
   · rw [sizeLine_eq]; omega
end
end L2
namespace L2
open PySem PySem.Spec PyProof.Rows PySem.Calls
structure FunD (K : PySem.W.Frag) (x qual : Str) (st : Stmt) (ds : List Value) (f : Addr) (fd : FuncData) : Prop where
 ex : ∃ (T : Addr) (oc : Value) (od : Option Addr) (kV doc pm : Value) (an : Option Addr) (cdv ct : Value) (osl : Array (Option Value)) (to : Obj) (n : Nat),
   fd = PySem.W.fnOf x qual (defArgs st) (defBody st) (defScope st) (.ref T) kV doc pm an cdv ct ∧ K.lookup f = some ⟨oc, od, .func fd, osl⟩ ∧ PySem.W.codeIn K cdv qual = true ∧ K.lookup T = some to ∧ to.cls = .type "tuple" ∧ to.data = .seq ds.toArray n
 kp : PySem.W.keepIn K (.ref f) = true
section
variable {P : Program} {w : World} {K : PySem.W.Frag} {mg : Str → Option Value} {base : Heap} {x qual : Str} {st : Stmt} {f : Addr} {fd : FuncData} {N ps : List Str} {k : Nat} {sp : Sp} {ds : List Value}
theorem FunD.okX (F : FunD K x qual st ds f fd) (S : FnScope N ps (defScope st)) (len : ∀ vs H Q E, sp vs H Q E → vs.length = ps.length)
   (hbody : ∀ (cdv : Value) (A : Around) (outer : List Env) (s : Shared) (H : Hp) (vs : List V) (Q : VK) (E : XK), Room k (A.deeper (envOfC qual (defScope st) s.heap.objs.size f cdv)) → sp vs H Q E →
     ∃ t, PSs (cxOf (CXW P w) P w K mg base N qual (defScope st) f cdv A outer s H E) (defBody st) t ∧ t { nx := fun _ H' => Q .non H', rt := Q } (start N vs) H) : FnOk P w K mg base (CXW P w) (k + 1) f fd ps sp := by
 obtain ⟨T, oc, od, kV, doc, pm, an, cdv, ct, osl, to, n, rfl, lk, hcd, _⟩ := F.ex
 exact fn_of lk hcd S len fun A outer s H vs Q E hr hsp => hbody cdv A outer s H vs Q E hr hsp
theorem FunD.ok (F : FunD K x qual st ds f fd) (S : FnScope N ps (defScope st)) (len : ∀ vs H Q E, sp vs H Q E → vs.length = ps.length)
   (hbody : ∀ (cdv : Value) (A : Around) (outer : List Env) (s : Shared) (H : Hp) (vs : List V) (Q : VK) (E : XK), Room k (A.deeper (envOfC qual (defScope st) s.heap.objs.size f cdv)) → sp vs H Q E →
     ∃ t, PSs (cxOf CX0 P w K mg base N qual (defScope st) f cdv A outer s H E).nox (defBody st) t ∧ t { nx := fun _ H' => Q .non H', rt := Q } (start N vs) H) : FnOk P w K mg base CX0 (k + 1) f fd ps sp := by
 obtain ⟨T, oc, od, kV, doc, pm, an, cdv, ct, osl, to, n, rfl, lk, hcd, _⟩ := F.ex
 refine fn_of lk hcd S len fun A outer s H vs Q E hr hsp => ?_
 obtain ⟨t, h, q⟩ := hbody cdv A outer s H vs Q E hr hsp
 exact ⟨t, h.nox, q⟩
theorem FunD.binds {es : List Value} (F : FunD K x qual st ds f fd)
   (h : ∀ (T : Addr) (kV doc pm : Value) (an : Option Addr) (cdv ct : Value) (us : List Value) (M : Model) (A : Around) (E : Value → Shared → Prop) (Q : List (Str × Value) → Shared → Prop) (s : Shared) (to : Obj) (n : Nat), s.heap.get? T = some to → to.cls = .type "tuple" → to.data = .seq ds.toArray n →
     (us ++ es).length = ps.length → Q (ps.zip (us ++ es)) s → wpAny M A (bindArgs (PySem.W.fnOf x qual (defArgs st) (defBody st) (defScope st) (.ref T) kV doc pm an cdv ct) ⟨us, []⟩) Q E s) : Binds K fd ps es := by
 obtain ⟨T, oc, od, kV, doc, pm, an, cdv, ct, osl, to, n, rfl, lk, hcd, lt, tc, td⟩ := F.ex
 intro s us X hl M A E Q q
 exact h T kV doc pm an cdv ct us M A E Q s to n (X _ _ lt) tc td hl q
end
section
variable {K : PySem.W.Frag} {C D : Addr} {cd : ClassData} {r b : Bool} {T : String}
theorem kit_self : PySem.W.kitOne K (.ref D) (.ref D) = some true := by unfold PySem.W.kitOne; rw [if_pos (beq_self_eq_true _)]
theorem kitCls_ref (h1 : PySem.W.clsIn K C = some cd) (h2 : PySem.W.typeIn K (.ref C) = some (.type "type")) (h3 : PySem.W.mroIn K D (.ref C) = some r) : PySem.W.kitCls K (.ref D) (.ref C) = some r := by
 show (if ((PySem.W.clsIn K C).isSome && PySem.W.typeIn K (.ref C) == some (.type "type")) = true then PySem.W.mroIn K D (.ref C) else none) = some r
 rw [h1, h2, h3]; rfl
theorem exm_ref (h0 : PySem.W.subIn K (.ref C) (.type "BaseException") = some true) (h1 : PySem.W.clsIn K C = some cd) (h2 : PySem.W.typeIn K (.ref C) = some (.type "type")) (h3 : PySem.W.mroIn K D (.ref C) = some r) : PySem.W.exmOne K (.ref D) (.ref C) = some r := by
 unfold PySem.W.exmOne
 rw [h0, if_pos (by rfl)]
 exact kitCls_ref h1 h2 h3
theorem app_len {α : Type} {us ds : List α} {n m : Nat} (h : (us ++ ds).length = n) (hm : ds.length + m = n) : us.length = m := by rw [List.length_append] at h; omega
theorem funD_mk {x qual : Str} {st : Stmt} {f T : Addr} {oc : Value} {od an dd : Option Addr} {osl dsl : Array (Option Value)} {kV doc pm cdv ct : Value} {ds : List Value} {n : Nat} (l : K.lookup f = some ⟨oc, od, .func (PySem.W.fnOf x qual (defArgs st) (defBody st) (defScope st) (.ref T) kV doc pm an cdv ct), osl⟩)
   (c : PySem.W.codeIn K cdv qual = true) (k : PySem.W.keepIn K (.ref f) = true) (lt : K.lookup T = some ⟨.type "tuple", dd, .seq ds.toArray n, dsl⟩) : FunD K x qual st ds f (PySem.W.fnOf x qual (defArgs st) (defBody st) (defScope st) (.ref T) kV doc pm an cdv ct) :=
 ⟨⟨T, oc, od, kV, doc, pm, an, cdv, ct, osl, _, n, rfl, l, c, lt, rfl, rfl⟩, k⟩
end
end L2
namespace L2
theorem Bt.ValueError : PySem.bootBuiltins "ValueError" = some (.type "ValueError") := PyProof.Rows.Boot.«ValueError»
open PySem PySem.Spec PyProof.Rows
def FIG : Str := "0123456789"
def inF (c : Nat) : Bool := !(Builtin.Str.occurrences FIG (S [c]) 0 FIG.length 1).isEmpty
theorem inF_iff (c : Nat) : inF c = true ↔ 48 ≤ c ∧ c ≤ 57 := by
 have h : inF c = decide (c ∈ FIG.cps.toList) := StrLaws.found_one FIG c
 have e : FIG.cps.toList = [48, 49, 50, 51, 52, 53, 54, 55, 56, 57] := by symm
 rw [h, e, decide_eq_true_iff]
 simp only [List.mem_cons, List.not_mem_nil, or_false]
 omega
theorem occF {c : Nat} (h : inF c = true) : Builtin.Str.occurrences FIG (S [c]) 0 FIG.length 1 = [c - 48] := by
 obtain ⟨h1, h2⟩ := (inF_iff c).mp h
 have : c = 48 ∨ c = 49 ∨ c = 50 ∨ c = 51 ∨ c = 52 ∨ c = 53 ∨ c = 54 ∨ c = 55 ∨ c = 56 ∨ c = 57 := by omega
 rcases this with e | e | e | e | e | e | e | e | e | e <;> (subst e; decide +kernel)
theorem findF {c : Nat} (h : inF c = true) : Txt.find FIG (S [c]) = ((c - 48 : Nat) : Int) := by
 unfold Txt.find
 rw [occF h]
def val (l : List Nat) : Int := l.foldl (fun a c => a * 10 + ((c - 48 : Nat) : Int)) 0
theorem val_snoc (l : List Nat) (c : Nat) : val (l ++ [c]) = val l * 10 + ((c - 48 : Nat) : Int) := by unfold val; rw [List.foldl_append]; rfl
theorem val_take {l : List Nat} {i c : Nat} (h : l[i]? = some c) : val (l.take (i + 1)) = val (l.take i) * 10 + ((c - 48 : Nat) : Int) := by
 rw [List.take_succ, h]; exact val_snoc _ _
theorem val_bound : ∀ (n : Nat) (l : List Nat), l.length = n → l.all inF = true → 0 ≤ val l ∧ val l < 10 ^ n
 | 0, l, e, _ => by rw [List.eq_nil_of_length_eq_zero e]; exact ⟨by decide, by decide⟩
 | n + 1, l, e, h => by
   have hne : l ≠ [] := fun z => by rw [z] at e; cases e
   have el : l = l.dropLast ++ [l.getLast hne] := (List.dropLast_concat_getLast hne).symm
   rw [el, List.all_append, Bool.and_eq_true] at h
   obtain ⟨i1, i2⟩ := val_bound n l.dropLast (by rw [List.length_dropLast]; omega) h.1
   have hc := (inF_iff (l.getLast hne)).mp (by simpa using h.2)
   rw [el, val_snoc, Int.pow_succ]
   exact ⟨by omega, by omega⟩
theorem pow10_ib {x : Int} {n : Nat} (h0 : 0 ≤ x) (h : x < 10 ^ n) : ib x ≤ 4 * n := by
 refine ib_big ?_
 have h1 : (10 : Int) ^ n ≤ 16 ^ n := by
   have : (10 : Nat) ^ n ≤ 16 ^ n := Nat.pow_le_pow_left (by decide) n
   exact_mod_cast this
 have h2 : ((2 : Nat) ^ (4 * n)) = 16 ^ n := by rw [Nat.pow_mul]
 rw [h2]
 have h3 : x < ((16 ^ n : Nat) : Int) := by
   have e : ((16 ^ n : Nat) : Int) = (16 : Int) ^ n := by push_cast; rfl
   rw [e]; omega
 omega
theorem cutFrom (l : List Nat) (k : Nat) : cutN l (some (k : Int)) none = l.drop k := by
 unfold cutN
 have e1 : HT.sIx l.length 0 (some (k : Int)) = min k l.length := HT.sIx_nat l.length 0 k
 have e2 : HT.sIx l.length l.length none = l.length := rfl
 rw [e1, e2]
 by_cases h : k ≤ l.length
 · rw [Nat.min_eq_left h, List.take_of_length_le (by rw [List.length_drop]; exact Nat.le_refl _)]
 · rw [Nat.min_eq_right (by omega), List.drop_length, List.drop_eq_nil_of_le (by omega), List.take_nil]
theorem starts1 (z : Str) (k : Nat) : Txt.startswith z (S [k]) = decide ((cd z).take 1 = [k]) := by
 unfold Txt.startswith Builtin.Str.subAt
 have hl : (S [k]).length = 1 := rfl
 rw [hl]
 have hz : z.length = (cd z).length := yX z
 have e : z = S (cd z) := (S_cd z).symm
 cases h : cd z with
 | nil =>
   rw [hz, h]
   simp
 | cons c r =>
   rw [hz, h]
   have ex : z.cps.extract 0 (0 + 1) = #[c] := by
     apply Array.ext'
     rw [Array.toList_extract]
     have : z.cps.toList = c :: r := h
     rw [this]; rfl
   rw [ex]
   have e1 : decide (0 + 1 ≤ (c :: r).length) = true := decide_eq_true (by rw [List.length_cons]; omega)
   have e2 : (c :: r).take 1 = [c] := rfl
   rw [e1, e2, Bool.true_and]
   by_cases hk : c = k
   · subst hk
     rw [decide_eq_true rfl]
     show (#[c] == #[c]) = true
     exact beq_self_eq_true _
   · have e3 : ([c] = [k]) = False := by
       rw [eq_iff_iff]; exact ⟨fun h => hk (List.cons.inj h).1, False.elim⟩
     rw [decide_eq_false (by rw [e3]; exact not_false)]
     show (#[c] == #[k]) = false
     rw [beq_eq_false_iff_ne]
     intro h
     exact hk (List.cons.inj (congrArg Array.toList h)).1
theorem dec_cd (x y : Str) : decide (V.str x = V.str y) = decide (cd x = cd y) := by
 rw [Bool.eq_iff_iff, decide_eq_true_iff, decide_eq_true_iff]
 exact ⟨fun h => congrArg cd (V.str.inj h), fun h => congrArg V.str (cd_inj h)⟩
def fig (l : List Nat) : List Nat := if l.take 1 = [45] then l.drop 1 else l
def numB (l : List Nat) (most : Int) : Option Int :=
 if (fig l).length < 1 ∨ most < (fig l).length ∨ ((fig l).take 1 = [48] ∧ l ≠ [48]) ∨ (fig l).all inF = false then none
 else some (if l.take 1 = [45] then - val (fig l) else val (fig l))
def figB (l : List Nat) : Bool := decide (0 < l.length) && l.all inF
theorem figB_iff (l : List Nat) : figB l = true ↔ 0 < l.length ∧ l.all inF = true := by unfold figB; rw [Bool.and_eq_true, decide_eq_true_iff]
theorem numB_no1 {l : List Nat} {m : Int} (h : figB (fig l) = false) : numB l m = none := by
 unfold numB
 rw [if_pos]
 by_cases h1 : (fig l).length < 1
 · exact .inl h1
 · refine .inr (.inr (.inr ?_))
   cases e : (fig l).all inF with
   | false => rfl
   | true => exact absurd ((figB_iff _).mpr ⟨by omega, e⟩) (by rw [h]; decide)
theorem numB_no2 {l : List Nat} {m : Int} (h : (fig l).take 1 = [48]) (h2 : l ≠ [48]) : numB l m = none := if_pos (.inr (.inr (.inl ⟨h, h2⟩)))
theorem numB_no3 {l : List Nat} {m : Int} (h : m < (fig l).length) : numB l m = none := if_pos (.inr (.inl h))
theorem numB_yes {l : List Nat} {m : Int} (h1 : figB (fig l) = true) (h2 : ¬ (fig l).take 1 = [48]) (h3 : ¬ m < (fig l).length) : numB l m = some (if l.take 1 = [45] then - val (fig l) else val (fig l)) := by
 unfold numB
 rw [if_neg]
 obtain ⟨a, b⟩ := (figB_iff _).mp h1
 intro h
 rcases h with h | h | h | h
 · omega
 · exact h3 h
 · exact h2 h.1
 · rw [b] at h; cases h
theorem numB_zero {most : Int} (h : 1 ≤ most) : numB [48] most = some 0 := by
 unfold numB
 have e1 : fig [48] = [48] := by decide
 rw [e1, if_neg]
 · decide
 · intro h
   rcases h with h | h | h | h
   · exact absurd h (by decide)
   · simp only [List.length_cons, List.length_nil] at h; omega
   · exact absurd rfl h.2
   · exact absurd h (by symm)
theorem take1_at {l : List Nat} (h : 1 ≤ l.length) : ∃ c, atI l 0 = some c ∧ l.take 1 = [c] := by
 cases l with
 | nil => cases h
 | cons c r => exact ⟨c, yC (j := 0) rfl, rfl⟩
structure Fine (n : Nat) (z : Str) : Prop where
 len : z.length ≤ n
 cod : ∀ c ∈ cd z, c < 1000
theorem Fine.mono {n m : Nat} {z : Str} (h : Fine n z) (l : n ≤ m) : Fine m z := ⟨Nat.le_trans h.len l, h.cod⟩
theorem Fine.cut {n : Nat} {z : Str} (h : Fine n z) (lo hi : Option Int) : Fine n (S (cutN (cd z) lo hi)) := by
 refine ⟨?_, fun c hc => ?_⟩
 · rw [len_S]; unfold cutN; rw [List.length_take, List.length_drop, ← yX]; have := h.len; omega
 · rw [cd_S] at hc; exact h.cod c (List.mem_of_mem_drop (List.mem_of_mem_take hc))
theorem Fine.size {n : Nat} {z : Str} (h : Fine n z) (hn : n ≤ 100000 := by decide) : z.length ≤ sizeLine := by rw [sizeLine_eq]; have := h.len; omega
theorem Fine.int {i : Int} {k : Nat} (hk : 0 < k) (h : i.natAbs < 10 ^ k) : Fine (k + 1) (toString i) := by
 refine ⟨?_, fun c hc => ?_⟩
 · rw [show ((toString i : String) : Str).length = (toString i).length from PySem.ofString_length _]
   exact int_text_length_le10 hk h
 · rcases Nat.lt_or_ge c 1000 with z | z
   · exact z
   · exact absurd hc (int_text_free' c ⟨by omega, by omega⟩ i)
end L2
namespace L2
open PySem PySem.Spec PyProof.Rows PySem.Calls
structure EqJ (X : Cx) (H : Hp) (n : Nat) (x y : V) (b : Bool) : Prop where
 rc : ∀ (pins : List (Addr × Obj)) (s : Shared) (σ : St) (u v : Value) (A : Around), Inv X pins σ H s → RelV x u → RelV y v → A.units + n < cLine → SeqAt.RcAt A s u v b
 ne : ∀ (pins : List (Addr × Obj)) (s : Shared) (σ : St) (u v : Value) (A : Around), Inv X pins σ H s → RelV x u → RelV y v → A.units + n < cLine → SeqAt.RcNeAt A s u v (!b)
def EqJi (X : Cx) (H : Hp) (n : Nat) (x y : V) (b : Bool) : Prop :=
 ∀ (pins : List (Addr × Obj)) (s : Shared) (σ : St) (u v : Value) (A : Around), Inv X pins σ H s → RelV x u → RelV y v → A.units + n < cLine → SeqAt.EqAt A s u v b
section
variable {X : Cx} {H : Hp} {n : Nat} {x y : V} {b : Bool} {p q : Addr} {xs ys : List V}
theorem eqi_flat (fx : flatV x = true) (fy : flatV y = true) : EqJi X H n x y (eqV x y) := fun _ _ _ _ _ _ _ rx ry _ => eqAt_V rx ry fx fy
theorem eqi_same : EqJi X H n (.ref p) (.ref p) true := fun _ _ _ _ _ _ _ rx ry _ => by cases rx; cases ry; exact SeqAt.EqAt.same _
theorem eqi_refs (hn : p ≠ q) (h : EqJ X H n (.ref p) (.ref q) b) : EqJi X H n (.ref p) (.ref q) b := fun pins s σ u v A I rx ry hu => by
 have r := h.rc pins s σ u v A I rx ry hu
 cases rx; cases ry
 exact SeqAt.EqAt.of_refs hn r
theorem vals_at {xs : List V} {us : List Value} (r : Vals xs us) {j : Nat} (h : j < us.toArray.size) : ∃ x, xs[j]? = some x ∧ RelV x us.toArray[j] := by
 have hj : j < us.length := by simpa using h
 have hx : j < xs.length := by rw [r.length]; exact hj
 obtain ⟨u, hu, ru⟩ := r.get (List.getElem?_eq_getElem hx)
 refine ⟨xs[j], List.getElem?_eq_getElem hx, ?_⟩
 rw [List.getElem?_eq_getElem hj] at hu
 cases hu
 simpa using ru
theorem eqj_lists {e : Nat → Bool} (h : SqL X.K H p xs) (k : SqL X.K H q ys) (hl : xs.length = ys.length) (he : ∀ (j : Nat) x y, xs[j]? = some x → ys[j]? = some y → EqJi X H n x y (e j)) :
   EqJ X H (n + 1) (.ref p) (.ref q) ((List.range xs.length).all e) := by
 have g : ∀ (pins : List (Addr × Obj)) (s : Shared) (σ : St) (A : Around), Inv X pins σ H s → A.units + (n + 1) < cLine → ∃ its its' : List Value, s.heap.IsList p its.toArray ∧ s.heap.IsList q its'.toArray ∧ its.toArray.size = its'.toArray.size ∧ its.toArray.size = xs.length ∧
     ∀ j (h1 : j < its.toArray.size) (h2 : j < its'.toArray.size), SeqAt.EqAt A.in1 s its.toArray[j] its'.toArray[j] (e j) := fun pins s σ A I hu => by
   obtain ⟨its, r, pl, _⟩ := I.list h
   obtain ⟨its', r', pl', _⟩ := I.list k
   have l1 := r.length
   have l2 := r'.length
   refine ⟨its, its', pl.isList, pl'.isList, by simp only [List.size_toArray]; omega, by simp only [List.size_toArray]; omega, fun j h1 h2 => ?_⟩
   obtain ⟨x, hx, rx⟩ := vals_at r h1
   obtain ⟨y, hy, ry⟩ := vals_at r' h2
   exact he j x y hx hy pins s σ _ _ A.in1 I rx ry (by show A.units + 1 + n < _; omega)
 refine ⟨fun pins s σ u v A I rx ry hu => ?_, fun pins s σ u v A I rx ry hu => ?_⟩ <;> (cases rx; cases ry; have hu' : A.units < cLine := by omega)
 · obtain ⟨its, its', a, b, c, d, z⟩ := g pins s σ A I hu
   rw [← d]; exact SeqAt.RcAt.lists a b c hu' z
 · obtain ⟨its, its', a, b, c, d, z⟩ := g pins s σ A I hu
   rw [← d]; exact SeqAt.RcNeAt.lists a b c hu' z
theorem eqj_tups {e : Nat → Bool} (h : SqT X.K H p xs) (k : SqT X.K H q ys) (he : ∀ (j : Nat) x y, xs[j]? = some x → ys[j]? = some y → EqJi X H n x y (e j)) :
   EqJ X H (n + 1) (.ref p) (.ref q) ((List.range (min xs.length ys.length)).all e && xs.length == ys.length) := by
 have g : ∀ (pins : List (Addr × Obj)) (s : Shared) (σ : St) (A : Around), Inv X pins σ H s → A.units + (n + 1) < cLine → ∃ its its' : List Value, s.heap.IsTuple p its.toArray ∧ s.heap.IsTuple q its'.toArray ∧ its.toArray.size = xs.length ∧ its'.toArray.size = ys.length ∧
     ∀ j (h1 : j < its.toArray.size) (h2 : j < its'.toArray.size), SeqAt.EqAt A.in1 s its.toArray[j] its'.toArray[j] (e j) := fun pins s σ A I hu => by
   obtain ⟨its, r, pl, _⟩ := I.tuple h
   obtain ⟨its', r', pl', _⟩ := I.tuple k
   have l1 := r.length
   have l2 := r'.length
   refine ⟨its, its', pl, pl', by simp only [List.size_toArray]; omega, by simp only [List.size_toArray]; omega, fun j h1 h2 => ?_⟩
   obtain ⟨x, hx, rx⟩ := vals_at r h1
   obtain ⟨y, hy, ry⟩ := vals_at r' h2
   exact he j x y hx hy pins s σ _ _ A.in1 I rx ry (by show A.units + 1 + n < _; omega)
 refine ⟨fun pins s σ u v A I rx ry hu => ?_, fun pins s σ u v A I rx ry hu => ?_⟩ <;> (cases rx; cases ry; have hu' : A.units < cLine := by omega)
 · obtain ⟨its, its', a, b, c, d, z⟩ := g pins s σ A I hu
   rw [← c, ← d]; exact SeqAt.RcAt.tuples a b hu' z
 · obtain ⟨its, its', a, b, c, d, z⟩ := g pins s σ A I hu
   rw [← c, ← d]
   exact SeqAt.RcNeAt.tuples a b hu' z
theorem eqV_self {x : V} (h : flatV x = true) : eqV x x = true := by
 cases x <;> first | rfl | exact beq_self_eq_true _ | cases h
def eqL : List V → List V → Bool
 | [], [] => true
 | x :: xs, y :: ys => eqV x y && eqL xs ys
 | _, _ => false
theorem eqL_range : ∀ {xs ys : List V}, xs.length = ys.length → (List.range xs.length).all (fun j => eqV (xs.getD j .non) (ys.getD j .non)) = eqL xs ys
 | [], [], _ => rfl
 | x :: xs, y :: ys, h => by
   have h' : xs.length = ys.length := Nat.succ.inj h
   rw [List.length_cons, List.range_succ_eq_map, List.all_cons, List.all_map, eqL, ← eqL_range h']
   rfl
 | [], _ :: _, h => by cases h
 | _ :: _, [], h => by cases h
theorem eqL_len : ∀ {xs ys : List V}, eqL xs ys = true → xs.length = ys.length
 | [], [], _ => rfl
 | x :: xs, y :: ys, h => by rw [eqL, Bool.and_eq_true] at h; rw [List.length_cons, List.length_cons, eqL_len h.2]
 | [], _ :: _, h => by cases h
 | _ :: _, [], h => by cases h
theorem eqL_self : ∀ {xs : List V}, xs.all flatV = true → eqL xs xs = true
 | [], _ => rfl
 | x :: xs, h => by rw [List.all_cons, Bool.and_eq_true] at h; rw [eqL, eqV_self h.1, eqL_self h.2]; rfl
theorem all_get {xs : List V} (h : xs.all flatV = true) {j : Nat} {x : V} (e : xs[j]? = some x) : flatV x = true ∧ xs.getD j .non = x :=
 ⟨List.all_eq_true.mp h x (List.mem_of_getElem? e), by rw [List.getD, e]; rfl⟩
theorem eqj_ftups (h : SqT X.K H p xs) (k : SqT X.K H q ys) (fx : xs.all flatV = true) (fy : ys.all flatV = true) : EqJ X H (n + 1) (.ref p) (.ref q) (eqL xs ys) := by
 have e : ((List.range (min xs.length ys.length)).all (fun j => eqV (xs.getD j .non) (ys.getD j .non)) && xs.length == ys.length) = eqL xs ys := by
   by_cases hl : xs.length = ys.length
   · rw [← hl, Nat.min_self, beq_self_eq_true, Bool.and_true]; exact eqL_range hl
   · have : eqL xs ys = false := by
       cases e : eqL xs ys with
       | false => rfl
       | true => exact absurd (eqL_len e) hl
     rw [this, beq_eq_false_iff_ne.mpr hl, Bool.and_false]
 rw [← e]
 refine eqj_tups h k fun j x y hx hy => ?_
 obtain ⟨a, a'⟩ := all_get fx hx
 obtain ⟨b, b'⟩ := all_get fy hy
 rw [a', b']
 exact eqi_flat a b
theorem op_eqJ (hu : X.A.units + 20 < cLine) : OpR X (compareOp .Eq) (fun x y H Q => ∃ b, EqJ X H 20 x y b ∧ Q (.bl b) H) := by
 intro pins s σ H x y v u Q I rx ry h
 obtain ⟨b, e, q⟩ := h
 exact e.rc pins s σ v u X.A I rx ry hu X.prog X.w X.xe _ ⟨.bl b, H, I, rfl, q⟩
theorem op_neJ (hu : X.A.units + 20 < cLine) : OpR X (compareOp .NotEq) (fun x y H Q => ∃ b, EqJ X H 20 x y b ∧ Q (.bl (!b)) H) := by
 intro pins s σ H x y v u Q I rx ry h
 obtain ⟨b, e, q⟩ := h
 exact e.ne pins s σ v u X.A I rx ry hu X.prog X.w X.xe _ ⟨.bl (!b), H, I, rfl, q⟩
theorem hu20 {A : Around} {k : Nat} (hr : Room k A) : A.units + 20 < cLine := by have := hr.units; omega
end
end L2
namespace L2
open PySem PySem.Spec PyProof.Rows PySem.Calls
section
variable {P : Program} {w : World} {K : PySem.W.Frag} {mg : Str → Option Value} {base : Heap}
structure MethJ (P : Program) (w : World) (K : PySem.W.Frag) (mg : Str → Option Value) (base : Heap) (CX : CXT) (k : Nat) (C : Addr) (m : Str) where
 f : Addr
 fd : FuncData
 ps : List Str
 sp : Sp
 ds : List Value
 dvs : List V
 c : Cls K C
 hm : Meth K C m f
 F : FnOk P w K mg base CX k f fd ps sp
 hb : Binds K fd ps ds
 hd : Vals dvs ds
end
section
variable {X : Cx} {CX : CXT} {k : Nat} {E : XK} {m : Str} {pos apos : Pos} {e o : Expr} {es : List Expr} {ta : TE} {t : TA}
def tMethG (X : Cx) (CX : CXT) (k : Nat) (m : Str) (E : XK) (ta : TE) (t : TA) : TE := fun σ H Q => ta σ H fun x H1 => ∃ (a C dx : Addr) (fs : List (Str × V)) (M : MethJ X.prog X.w X.K X.mg X.base CX k C m), x = .ref a ∧ H1 a = some (.ins C dx fs) ∧ fs.lookup m = none ∧
 t σ H1 fun vs H2 => M.sp (x :: (vs ++ M.dvs)) H2 Q E
theorem yJ {pl : Sem Bool} (hr : Room k X.A) (hx : Passes CX X E) (he : PE X o ta) (ha : PA X (e :: es) t)
   (hst : starEach (e :: es) X.env = (false, eval e X.env) :: starEach es X.env := by rfl) (hpl : (backTo pos (starEach es X.env)).any (·.1) = false := by rfl)
   (ht : eval (.Call (.Attribute o m apos) (e :: es) [] pos) X.env = (do
     let ov ← eval o X.env
     standAt apos.atName
     let (f, first) ← holding [ov] (getMethod ov m pl)
     callWith pos f first (backTo pos (starEach (e :: es) X.env)) (backToKw pos (keywordEach [] X.env))) := by rfl) :
   PE X (.Call (.Attribute o m apos) (e :: es) [] pos) (tMethG X CX k m E ta t) := by
 intro pins s σ H Q I h
 refine PySem.W.methodCall_KW (pl := pl) (thn (he pins s σ H _ I h) fun u s1 ⟨x, H1, I1, rx, a, C, dx, fs, M, ex, ea, l, q⟩ => ?_) ht
 subst ex
 obtain rfl : u = Value.ref a := rx
 refine getmeth_ok I1 ea M.c M.hm l ?_
 refine PySem.W.callWith_K (first := [.ref a]) (h₀ := X.base) I.ok.mod.kin M.hm.kp (thn (ha pos pins s1 σ H1 _ I1 q) fun us s2 ⟨vs, H2, I2, r, q2⟩ => ⟨I2.kIn, ?_⟩) hst hpl
 exact run_fn (us := .ref a :: us) (vs := .ref a :: vs) M.F hr M.hb M.hd hx I2 (.cons rfl r) q2
theorem pe_methG0 {pl : Sem Bool} (hr : Room k X.A) (hx : Passes CX X E) (he : PE X o ta)
   (ht : eval (.Call (.Attribute o m apos) [] [] pos) X.env = (do
     let ov ← eval o X.env
     standAt apos.atName
     let (f, first) ← holding [ov] (getMethod ov m pl)
     callWith pos f first (backTo pos (starEach [] X.env)) (backToKw pos (keywordEach [] X.env))) := by rfl) :
   PE X (.Call (.Attribute o m apos) [] [] pos) (tMethG X CX k m E ta tNil) := by
 intro pins s σ H Q I h
 refine PySem.W.methodCall_KW (pl := pl) (thn (he pins s σ H _ I h) fun u s1 ⟨x, H1, I1, rx, a, C, dx, fs, M, ex, ea, l, q⟩ => ?_) ht
 subst ex
 obtain rfl : u = Value.ref a := rx
 refine getmeth_ok I1 ea M.c M.hm l ?_
 exact PySem.W.callWith_K0 (first := [.ref a]) I1.kIn M.hm.kp (run_fn (us := [.ref a]) (vs := [.ref a]) M.F hr M.hb M.hd hx I1 (.cons rfl .nil) q)
structure ClsFn (K : PySem.W.Frag) (C : Addr) (m : Str) (f : Addr) : Prop where
 rd : PySem.W.readsIn K C (.type "type") = true
 at_ : PySem.W.findCls K (.ref C) (.type "type") m = some (.val (.ref f))
 sp : PySem.W.specialIn K (.ref C) "__getattribute__" = some (some (.builtin "type.__getattribute__"))
 kp : PySem.W.keepIn K (.ref f) = true
theorem pe_clsfn {pl : Sem Bool} {C f : Addr} {fd : FuncData} {ps : List Str} {sp : Sp} {x : Str} {np : Pos} (c : ClsFn X.K C m f) (F : FnOk X.prog X.w X.K X.mg X.base CX k f fd ps sp) (hr : Room k X.A) (hg : Gl X x) (hmg : X.mg x = some (.ref C)) (hb : Binds X.K fd ps []) (hx : Passes CX X E)
   (ha : PA X (e :: es) t) (hd : (x == ("__debug__" : Str)) = false := by decide)
   (hst : starEach (e :: es) X.env = (false, eval e X.env) :: starEach es X.env := by rfl) (hpl : (backTo pos (starEach es X.env)).any (·.1) = false := by rfl)
   (ht : eval (.Call (.Attribute (.Name x np) m apos) (e :: es) [] pos) X.env = (do
     let ov ← eval (.Name x np) X.env
     standAt apos.atName
     let (f, first) ← holding [ov] (getMethod ov m pl)
     callWith pos f first (backTo pos (starEach (e :: es) X.env)) (backToKw pos (keywordEach [] X.env))) := by rfl) :
   PE X (.Call (.Attribute (.Name x np) m apos) (e :: es) [] pos) (tCall sp [] E t) := by
 intro pins s σ H Q I h
 refine PySem.W.methodCall_KW (pl := pl) (ld_glob I hg hmg ?_ hd) ht
 refine PySem.W.method_cls I.kIn c.sp (PySem.W.cls_value (s := s) I.kIn c.rd c.at_ rfl ?_)
 refine PySem.W.callWith_K (first := []) (h₀ := X.base) I.ok.mod.kin c.kp (thn (ha pos pins _ σ H _ (I.tok _) h) fun us s2 ⟨vs, H2, I2, r, q2⟩ => ⟨I2.kIn, ?_⟩) hst hpl
 exact run_fn (us := us) (vs := vs) F hr hb .nil hx I2 r q2
end
end L2
namespace L2
open PySem PySem.Spec PyProof.Rows
def dig (n : Nat) : List Nat := (Nat.toDigits 10 n).map Char.toNat
theorem digChar : ∀ d : Nat, d < 10 → (Nat.digitChar d).toNat = 48 + d := by decide
theorem dig_lt {n : Nat} (h : n < 10) : dig n = [48 + n] := by
 unfold dig; rw [Nat.toDigits_of_lt_base h]; show [(Nat.digitChar n).toNat] = _; rw [digChar n h]
theorem dig_ge {n : Nat} (h : 10 ≤ n) : dig n = dig (n / 10) ++ [48 + n % 10] := by
 unfold dig; rw [Nat.toDigits_of_base_le (by decide) h, List.map_append]; show _ ++ [(Nat.digitChar (n % 10)).toNat] = _; rw [digChar _ (Nat.mod_lt _ (by decide))]
theorem dig_pos (n : Nat) : 0 < (dig n).length := by unfold dig; rw [List.length_map]; exact Nat.length_toDigits_pos
theorem dig_len {k n : Nat} (hk : 1 ≤ k) (hn : n < 10 ^ k) : (dig n).length ≤ k := by unfold dig; rw [List.length_map]; exact toDigits_len_pow (by decide) hk hn
theorem dig_all (n : Nat) : (dig n).all inF = true := by
 induction n using Nat.strongRecOn with
 | _ n ih =>
   by_cases h : n < 10
   · rw [dig_lt h, List.all_cons, (inF_iff _).mpr ⟨by omega, by omega⟩]; rfl
   · rw [dig_ge (by omega), List.all_append, ih (n / 10) (by omega), List.all_cons, (inF_iff _).mpr ⟨by omega, by have := Nat.mod_lt n (show 0 < 10 by decide); omega⟩]; rfl
theorem val_dig (n : Nat) : val (dig n) = n := by
 induction n using Nat.strongRecOn with
 | _ n ih =>
   by_cases h : n < 10
   · rw [dig_lt h]; show (0 : Int) * 10 + ((48 + n - 48 : Nat) : Int) = n; omega
   · rw [dig_ge (by omega), val_snoc, ih (n / 10) (by omega)]; omega
theorem dig_head {n : Nat} (h : n ≠ 0) : ∃ c r, dig n = c :: r ∧ 49 ≤ c ∧ c ≤ 57 := by
 induction n using Nat.strongRecOn with
 | _ n ih =>
   by_cases h10 : n < 10
   · exact ⟨_, _, dig_lt h10, by omega, by omega⟩
   · obtain ⟨c, r, e, h1, h2⟩ := ih (n / 10) (by omega) (by omega)
     exact ⟨c, r ++ [48 + n % 10], by rw [dig_ge (by omega), e]; rfl, h1, h2⟩
theorem dig_fig {n c : Nat} (h : c ∈ dig n) : 48 ≤ c ∧ c ≤ 57 := (inF_iff c).mp (List.all_eq_true.mp (dig_all n) c h)
theorem dig_zero : dig 0 = [48] := dig_lt (by decide)
def numL (i : Int) : List Nat := if i < 0 then 45 :: dig i.natAbs else dig i.natAbs
theorem cd_str (i : Int) : cd ((toString i : String) : Str) = numL i := by
 show (Str.ofString (toString i)).cps.toList = _
 rw [signs_ofString]
 unfold numL
 cases i with
 | ofNat m =>
   rw [if_neg (show ¬ Int.ofNat m < 0 from by have : Int.ofNat m = (m : Int) := rfl; omega)]
   show (Nat.repr m).toList.map Char.toNat = _
   rw [Nat.toList_repr]; rfl
 | negSucc m =>
   rw [if_pos (Int.negSucc_lt_zero m)]
   have : (toString (Int.negSucc m)) = "-" ++ Nat.repr (m + 1) := rfl
   rw [this, String.toList_append, Nat.toList_repr]; rfl
theorem numL_fig (i : Int) : fig (numL i) = dig i.natAbs := by
 unfold numL
 split
 · rfl
 · unfold fig
   rw [if_neg]
   obtain ⟨c, r, e⟩ : ∃ c r, dig i.natAbs = c :: r := by
     cases h : dig i.natAbs with
     | nil => have := dig_pos i.natAbs; rw [h] at this; cases this
     | cons c r => exact ⟨c, r, rfl⟩
   intro z
   have hc := dig_fig (n := i.natAbs) (c := c) (by rw [e]; simp)
   rw [e] at z
   have : c = 45 := by simpa using z
   omega
theorem numB_numL {i : Int} {most : Int} (h1 : 1 ≤ most) (h : ((dig i.natAbs).length : Int) ≤ most) : numB (numL i) most = some i := by
 have e := numL_fig i
 unfold numB
 rw [e, if_neg]
 · congr 1
   rw [val_dig]
   unfold numL
   by_cases hi : i < 0
   · rw [if_pos hi]
     rw [if_pos (show (45 :: dig i.natAbs).take 1 = [45] from rfl)]; omega
   · rw [if_neg hi, if_neg]
     · omega
     · intro z
       obtain ⟨c, r, ec⟩ : ∃ c r, dig i.natAbs = c :: r := by
         cases h : dig i.natAbs with
         | nil => have := dig_pos i.natAbs; rw [h] at this; cases this
         | cons c r => exact ⟨c, r, rfl⟩
       have hc := dig_fig (n := i.natAbs) (c := c) (by rw [ec]; simp)
       rw [ec] at z
       have : c = 45 := by simpa using z
       omega
 · intro z
   rcases z with z | z | z | z
   · have := dig_pos i.natAbs; omega
   · omega
   · by_cases h0 : i.natAbs = 0
     · have : i = 0 := by omega
       subst this
       exact z.2 (by show (if (0:Int) < 0 then _ else _) = _; rw [if_neg (by decide)]; exact dig_zero)
     · obtain ⟨c, r, ec, hc, _⟩ := dig_head h0
       rw [ec] at z
       have : c = 48 := by simpa using z.1
       omega
   · rw [dig_all] at z; cases z
theorem numB_str {i : Int} (h : i.natAbs < 10 ^ 60) : numB (numL i) 60 = some i := numB_numL (by decide) (by have := dig_len (k := 60) (by decide) h; omega)
end L2
namespace L2
open PySem PySem.Spec PyProof.Rows PySem.Calls
section
variable {X : Cx}
end
theorem iteY {c : Bool} {A B : Prop} (h : c = true) (q : A) : if c = true then A else B := by subst h; exact iteT q
structure Thing (K : PySem.W.Frag) (H : Hp) (x : V) where
 t : Value
 bi : Bool
 bb : Bool
 bs : Bool
 ty : TyE K H x t
 ki : PySem.W.kitOne K t (.type "int") = some bi
 kb : PySem.W.kitOne K t (.type "bool") = some bb
 ks : PySem.W.kitOne K t (.type "str") = some bs
 hi : (bi && !bb) = true → ∃ n, x = .int n
 hs : bs = true → ∃ z, x = .str z
 ni : ∀ n, x = .int n → (bi && !bb) = true
 ns : ∀ z, x = .str z → bs = true
 hbl : bb = true → ∃ b, x = .bl b
 nbl : ∀ b, x = .bl b → bb = true
theorem Same.seqT {K : PySem.W.Frag} {H H' : Hp} {a : Addr} {xs : List V} (e : Same H H') (h : SqT K H a xs) : SqT K H' a xs := by
 rcases h with h | h
 · exact .inl (h.imp (fun k => e _ _ k) (fun ⟨o, k⟩ => ⟨o, e _ _ k⟩))
 · exact .inr h
theorem Same.tyE' {K : PySem.W.Frag} {H H' : Hp} {x : V} {t : Value} (e : Same H H') (h : TyE K H x t) : TyE K H' x t := by
 cases h with
 | old h => exact .old (e.ty h)
 | exc h c => exact .exc (e _ _ h) c
 | excd h c => exact .excd (e _ _ h) c
 | tpl h => exact .tpl (e.seqT h)
def Thing.same {K : PySem.W.Frag} {H H' : Hp} {x : V} (h : Thing K H x) (e : Same H H') : Thing K H' x := ⟨h.t, h.bi, h.bb, h.bs, e.tyE' h.ty, h.ki, h.kb, h.ks, h.hi, h.hs, h.ni, h.ns, h.hbl, h.nbl⟩
theorem Same.upd {H H' : Hp} {p : Addr} {o : HO} (e : Same H H') (h : H p = none ∨ H p = some o) : Same H (L2.upd H' p o) := fun b u q => by
 by_cases z : b = p
 · subst z
   rcases h with h | h
   · rw [h] at q; cases q
   · rw [h] at q; rw [zB]; exact q
 · rw [zI z]; exact e b u q
def numV : Option Int → V
 | some n => .int n
 | none => .non
end L2
namespace L2
open PySem PySem.Spec PyProof.Rows
theorem str_is (n : Int) : ((toString n : String) : Str) = S (numL n) := cd_inj (cd_str n)
theorem logOk {m : Int} (h : m.natAbs < 10 ^ 61) : m.natAbs.log2 < 1920 := by
 by_cases h0 : m.natAbs = 0
 · rw [h0]; decide
 · exact (Nat.log2_lt h0).mpr (Nat.lt_trans h (by symm))
end L2
namespace L2
open PySem PySem.Spec PyProof.Rows PySem.Calls
theorem pe_eqv {X : Cx} {e : Expr} {te te' : TE} (h : PE X e te') (h2 : te' = te) : PE X e te := h2 ▸ h
section
variable {X : Cx}
end
end L2
namespace L2
open PySem PySem.Spec PyProof.Rows PySem.Calls
section
variable {prog : Program} {w : World} {A : Around} {R : Result → Shared → Prop} {I : Addr} {fp wr : List Addr} {G : Array GenState → Array GenState → Prop} {n : Nat} {P : Nat → Value → Prop} {St : Nat → Shared → Prop}
end
section
variable {prog : Program} {w : World} {A : Around} {E : Value → Shared → Prop} {s : Shared}
end
section
variable {X : Cx}
end
end L2
namespace L2
open PySem PySem.Spec PyProof.Rows PySem.Calls
theorem vals_strs : ∀ (ws : List Str) (tk : Nat), Vals (ws.map V.str) (strsFrom tk ws)
 | [], _ => .nil
 | x :: r, tk => .cons ⟨tk, rfl⟩ (vals_strs r (tk + 1))
section
variable {X : Cx}
theorem mt_split : MtM X "str.split" (fun x vs H Q => ∃ z y, x = .str z ∧ vs = [.str y] ∧ 0 < y.length ∧ z.length ≤ 100000 ∧ ∀ l, H l = none → Q (.ref l) (upd H l (.lst ((Txt.split z y).map V.str)))) := by
 intro pins s σ H x vs v us Q I rx rv h
 obtain ⟨z, y, rfl, rfl, hy, hz, q⟩ := h
 obtain ⟨t, rfl⟩ := rx
 obtain ⟨u, rfl, ⟨t', rfl⟩⟩ := rv.one
 have hy' : (y.length == 0) = false := by rw [beq_eq_false_iff_ne]; omega
 have hle := split_le z y
 have hsz : (Txt.split z y).length ≤ sizeLine := by rw [sizeLine_eq]; omega
 have hzs : z.length ≤ sizeLine := by rw [sizeLine_eq]; omega
 have q := q _ (I.hok.fresh (Nat.le_refl _))
 have fin : ∀ (its : List Value) (tk : Nat), Vals ((Txt.split z y).map V.str) its → EP X pins σ Q (.ref s.heap.objs.size) { s with toks := tk, heap := s.heap.push { cls := .type "list", data := .seq its.toArray } } := fun its tk r =>
   ⟨.ref s.heap.objs.size, _, I.laid (t' := tk) (a := s.heap.objs.size) (fun b o e => Heap.get?_push_of_some _ e) (Nat.le_refl _) (show ObjOk X.prog X.w _ _ _ (.lst ((Txt.split z y).map V.str)) from ⟨by rw [List.length_map]; exact hsz, its, _, r, Heap.get?_push_size _ rfl⟩), rfl, q⟩
 cases h1 : (decide (z.length < y.length) || decide (Builtin.Str.strKind z < Builtin.Str.strKind y)) with
 | true =>
   have e : Txt.split z y = [z] := if_pos h1
   exact call_meets PySem.F.slot_str_split (typeIs_str _ _ _) PySem.F.entry_str_split (PySem.F.args_str_split_2 _ _) (meets_str_split_cannot_occur z y t t' h1) (fin [.str z t] _ (by rw [e]; exact .cons ⟨t, rfl⟩ .nil))
 | false =>
   cases hf : (Builtin.Str.occurrences z y 0 z.length (z.length + 1)).isEmpty with
   | true =>
     have e : Txt.split z y = [z] := (if_neg (ne_true_of_eq_false h1)).trans (if_pos hf)
     exact call_meets PySem.F.slot_str_split (typeIs_str _ _ _) PySem.F.entry_str_split (PySem.F.args_str_split_2 _ _) (meets_str_split_not_found z y t t' h1 hy' hf) (fin [.str z t] _ (by rw [e]; exact .cons ⟨t, rfl⟩ .nil))
   | false =>
     have e : Txt.split z y = Builtin.Str.partsBetween z (Builtin.Str.occurrences z y 0 z.length (z.length + 1)) y.length := (if_neg (ne_true_of_eq_false h1)).trans (if_neg (ne_true_of_eq_false hf))
     refine call_meets PySem.F.slot_str_split (typeIs_str _ _ _) PySem.F.entry_str_split (PySem.F.args_str_split_2 _ _) (meets_str_split_sep z y t t' h1 hy' hf hzs (by rw [← e]; exact hsz)) (fin _ _ ?_)
     rw [e]; exact vals_strs _ _
end
theorem comp_tup {K : PySem.W.Frag} {a : Addr} {xs : List V} {te : TE} {σ : St} {H : Hp} {Q : VK} (hz : xs.length ≤ sizeLine) (W : Nat → List V → Hp → Prop) (h0 : W 0 [] H) (hq : ∀ i ys H, W i ys H → SqT K H a xs)
   (hs : ∀ i x ys H, xs[i]? = some x → ys.length = i → W i ys H → te (some x :: σ) H fun v H' => W (i + 1) (ys ++ [v]) H')
   (hd : ∀ ys H, ys.length = xs.length → W xs.length ys H → ∀ p, H p = none → Q (.ref p) (upd H p (.lst ys))) : CompR (Itt K a) te σ H Q := by
 refine ⟨xs.length, W, hz, h0, fun i ys H hi hl hw => ?_⟩
 have q := hq i ys H hw
 by_cases hlt : i < xs.length
 · refine .inr ⟨⟨xs, xs[i], q, by simp [hlt]⟩, hlt, fun v H' y => ?_⟩
   obtain ⟨e, y⟩ := y
   subst e
   exact hs i v ys _ (y xs q) hl hw
 · have e : i = xs.length := by omega
   subst e
   exact .inl ⟨⟨xs, q, Nat.le_refl _⟩, hd ys H hl hw⟩
theorem for_tupR {K : PySem.W.Frag} {a : Addr} {xs : List V} {g : TG} {tb : TS} {D : Ends} {σ : St} {H : Hp} (Pv : Nat → St → Hp → Prop) (h0 : Pv 0 σ H) (hl : ∀ i σ H, i ≤ xs.length → Pv i σ H → SqT K H a xs)
   (hs : ∀ i x σ H, xs[i]? = some x → Pv i σ H → g x σ H fun σ2 H2 => tb { D with nx := Pv (i + 1), ct := Pv (i + 1), bk := D.nx } σ2 H2) (hd : ∀ σ H, Pv xs.length σ H → D.nx σ H) : ForR (Itt K a) g tb D σ H := ⟨for_tup Pv h0 hl hs hd⟩
theorem joinL_inj : ∀ {a b : List (List Nat)}, a ≠ [] → b ≠ [] → (∀ p ∈ a, 32 ∉ p) → (∀ p ∈ b, 32 ∉ p) → joinL [32] a = joinL [32] b → a = b := by
 have cut : ∀ {x y u v : List Nat}, 32 ∉ x → 32 ∉ y → x ++ 32 :: u = y ++ 32 :: v → x = y ∧ u = v := by
   intro x
   induction x with
   | nil =>
     intro y u v hx hy e
     cases y with
     | nil => exact ⟨rfl, (List.cons.inj e).2⟩
     | cons b r => exact absurd (by rw [show b = 32 from (List.cons.inj e).1.symm]; simp) hy
   | cons a x ih =>
     intro y u v hx hy e
     cases y with
     | nil => exact absurd (by rw [show a = 32 from (List.cons.inj e).1]; simp) hx
     | cons b r =>
       have h := List.cons.inj e
       obtain ⟨h1, h2⟩ := ih (fun z => hx (List.mem_cons_of_mem _ z)) (fun z => hy (List.mem_cons_of_mem _ z)) h.2
       exact ⟨by rw [h.1, h1], h2⟩
 intro a
 induction a with
 | nil => intro b h; exact absurd rfl h
 | cons x r ih =>
   intro b _ hb ha hbb e
   cases b with
   | nil => exact absurd rfl hb
   | cons y s =>
     have fx := ha x (by simp)
     have fy := hbb y (by simp)
     cases r with
     | nil =>
       cases s with
       | nil => exact congrArg (· :: []) e
       | cons y2 s =>
         have e' : x = y ++ [32] ++ joinL [32] (y2 :: s) := e
         exact absurd (by rw [e']; simp) fx
     | cons x2 r =>
       cases s with
       | nil =>
         have e' : x ++ [32] ++ joinL [32] (x2 :: r) = y := e
         exact absurd (by rw [← e']; simp) fy
       | cons y2 s =>
         have e' : x ++ [32] ++ joinL [32] (x2 :: r) = y ++ [32] ++ joinL [32] (y2 :: s) := e
         rw [List.append_assoc, List.append_assoc] at e'
         obtain ⟨h1, h2⟩ := cut fx fy e'
         have := ih (b := y2 :: s) (by simp) (by simp) (fun p hp => ha p (List.mem_cons_of_mem _ hp)) (fun p hp => hbb p (List.mem_cons_of_mem _ hp)) h2
         rw [h1, this]
def splitL (l : List Nat) : List (List Nat) := (Txt.split (S l) (S [32])).map cd
theorem splitL_free {l p : List Nat} (h : p ∈ splitL l) : 32 ∉ p := by
 obtain ⟨z, hz, rfl⟩ := List.mem_map.mp h
 exact StrLaws.split_free (S l) 32 z hz
theorem splitL_ne (l : List Nat) : splitL l ≠ [] := by
 intro e
 have := split_pos (S l) (S [32])
 have e2 := congrArg List.length e
 unfold splitL at e2
 rw [List.length_map] at e2
 rw [e2] at this; cases this
theorem splitL_join (l : List Nat) : joinL [32] (splitL l) = l := by
 have e := StrLaws.join_split (S l) (S [32])
 rw [← StrLaws.glued_eq_join] at e
 have e2 := joinS_is (S [32]) (Txt.split (S l) (S [32]))
 rw [show joinS (S [32]) (Txt.split (S l) (S [32])) = S l from e] at e2
 exact (S_inj e2).symm
theorem splitL_of {ws : List (List Nat)} (h : ws ≠ []) (hf : ∀ p ∈ ws, 32 ∉ p) : splitL (joinL [32] ws) = ws :=
 joinL_inj (splitL_ne _) h (fun _ hp => splitL_free hp) hf (splitL_join _)
theorem split_is (z : Str) : Txt.split z (S [32]) = (splitL (cd z)).map S := by
 unfold splitL
 rw [List.map_map, S_cd]
 have : (S ∘ cd) = id := funext fun x => S_cd x
 rw [this, List.map_id]
end L2
namespace HT
open PySem PySem.Spec PyProof.Rows PySem.Calls
section
variable {prog : Program} {w : World} {A : Around} {E : Value → Shared → Prop} {s : Shared}
theorem getItem_tuple_whole {t sl : Addr} {items : Array Value} {vl vu : Value} {lo hi : Option Int} {Q : Value → Shared → Prop} (ht : IsTup s.heap t items) (hs : s.heap.IsSliceOf sl vl vu .none) (pl : IsPart vl lo) (pu : IsPart vu hi)
   (hw : sIx items.size 0 lo = 0 ∧ sIx items.size items.size hi = items.size) (h : Q (.ref t) s) : wpAny (model prog w) A (getItem (.ref t) (.ref sl)) Q E s := by
 obtain ⟨os, hos, hcs, hds⟩ := id hs
 have hTs : s.TypeIs (.ref sl) "slice" := ⟨os, hos, hcs⟩
 unfold getItem
 try with_reducible refine wpAny_holding ?_
 first | refine wpAny_bind (wpAny_pure ?_) | skip
 refine wpAny_bind (wpAny_sequenceKey ht.typeIs (by decide) ?_)
 refine wpAny_bind (wpAny_callSpecial?_slot (name := Str.ofString "__getitem__") ht.typeIs PyProof.Rows.slot_tuple_getitem
   (wpAny_call_entry PyProof.Rows.slot_tuple_getitem ht.typeIs entry_tuple_getitem ?_ (args_tuple_getitem _ _)))
 show wpAny _ _ (Builtin.Tuple.tupleItemsOf (.ref t) >>= _) _ _ s
 refine wpAny_bind (tupleItemsOf_ ht ?_)
 refine wpAny_bind (wpAny_typeOf hTs ?_)
 rw [if_pos (by decide)]
 refine wpAny_bind (sliceApplied_gen hs pl pu ?_)
 have hyes : ((((sIx items.size 0 lo : Nat) : Int) == 0 && (1 : Int) == 1 && (sIx items.size items.size hi - sIx items.size 0 lo) == items.size) = true) := by
   rw [hw.1, hw.2]; simp
 show wpAny _ _ (if (((sIx items.size 0 lo : Nat) : Int) == 0 && (1 : Int) == 1 && (sIx items.size items.size hi - sIx items.size 0 lo) == items.size) = true then _ else _) _ _ s
 rw [if_pos hyes]
 unfold Builtin.Tuple.tupleIsExact
 refine wpAny_bind (wpAny_bind (wpAny_typeOf ht.typeIs (wpAny_pure ?_)))
 rw [if_pos (by decide)]
 refine wpAny_bind (wpAny_rule ?_)
 first
   | exact wpAny_pure ⟨_, rfl, wpAny_pure h⟩
   | exact wpAny_bind (wpAny_pure (wpAny_pure ⟨_, rfl, wpAny_pure h⟩))
   | exact wpAny_bind (wpAny_pure (wpAny_bind (wpAny_pure (wpAny_pure ⟨_, rfl, wpAny_pure h⟩))))
end
end HT
namespace L2
open PySem PySem.Spec PyProof.Rows PySem.Calls
section
variable {X : Cx}
end
end L2
namespace L2
open PySem PySem.Spec PyProof.Rows PySem.Calls
def PIfs (X : Cx) (ifs : List Expr) (t : TT) : Prop :=
 ∀ (pins : List (Addr × Obj)) (s : Shared) (σ : St) (H : Hp) (Q : Bool → Hp → Prop), Inv X pins σ H s → t σ H Q →
   wpAny (model X.prog X.w) X.A (forIn ifs true fun c r => if r = true then do let ok ← isTrue c X.env (eval c X.env); pure (ForInStep.yield ok) else pure (ForInStep.yield r)) (TP X pins σ Q) X.xe s
def tTrue : TT := fun _ H Q => Q true H
theorem pifs_nil {X : Cx} : PIfs X [] tTrue := fun pins s σ H Q I h => wpAny_pure ⟨H, I, h⟩
theorem compLoop_go2 {prog : Program} {w : World} {A : Around} {R : Result → Shared → Prop} {s : Shared} {elt target iter : Expr} {ifs : List Expr} {scope : Scope} {pos : Pos} {it acc : Value} {env : Env} (I : Nat → Shared → Prop)
   (turn : ∀ n s, I n s → wpAny (model prog w) A (pyNext it) (fun r s₁ => match r with
     | none => R (.ok .next) s₁
     | some v => wpAny (model prog w) A (letOwnedTupleGo target it v) (fun _ s₂ => wpAny (model prog w) A (assign target env v) (fun _ s₃ =>
         wpAny (model prog w) A (forIn ifs true fun c r => if r = true then do let ok ← isTrue c env (eval c env); pure (ForInStep.yield ok) else pure (ForInStep.yield r)) (fun ok s₄ =>
           if ok = true then wpAny (model prog w) A (eval elt env) (fun x s₅ =>
             wpAny (model prog w) A (call (.builtin "list.append") [acc, x]) (fun _ s₆ => ∃ m, m < n ∧ I m s₆) (notedBy (model prog w) A env fun e s' => R (.error e) s') s₅)
             (notedBy (model prog w) A env fun e s' => R (.error e) s') s₄ else ∃ m, m < n ∧ I m s₄)
           (notedBy (model prog w) A env fun e s' => R (.error e) s') s₃) (notedBy (model prog w) A env fun e s' => R (.error e) s') s₂) (notedBy (model prog w) A env fun e s' => R (.error e) s') s₁)
     (notedBy (model prog w) A env fun e s' => R (.error e) s') s)
   (n : Nat) (h : I n s) : codeAny (model prog w) A (.compLoop (.ListComp elt [⟨target, iter, ifs, 0⟩] scope pos) 0 it acc env) R s := by
 refine codeAny_loop rfl I (fun n s hI => ?_) n h
 show wpAny _ A ((compTurn (.ListComp elt [⟨target, iter, ifs, 0⟩] scope pos) 0 it acc env).onRaise (fun x => do noteFrame x env; theTreesLotGoes x)) _ _ s
 refine wpAny_noted ?_
 rw [compTurn_list]
 refine wpAny_bind (wpAny_standAt (wpAny_bind (wpAny_mono (turn n s hI) (fun r s₁ h₁ => ?_) fun _ _ h' => h')))
 cases r with
 | none => exact wpAny_pure h₁
 | some v =>
   refine wpAny_bind (wpAny_mono h₁ (fun _ s₂ h₂ => wpAny_bind (wpAny_mono h₂ (fun _ s₃ h₃ => ?_) fun _ _ h' => h')) fun _ _ h' => h')
   refine wpAny_bind (wpAny_mono h₃ (fun ok s₄ h₄ => ?_) fun _ _ h' => h')
   cases ok with
   | false => exact wpAny_pure ⟨rfl, h₄⟩
   | true => exact wpAny_bind (wpAny_bind (wpAny_mono h₄ (fun x s₅ h₅ => wpAny_bind (wpAny_mono h₅ (fun _ s₆ h₆ => wpAny_pure (wpAny_pure ⟨rfl, h₆⟩)) fun _ _ h' => h')) fun _ _ h' => h'))
def compCx2 (X : Cx) (scope : Scope) (C : Addr) (x y : Str) (M : List Str) (s₂ : Shared) (H₂ : Hp) (fp : List Addr) : Cx :=
 { X with N := x :: y :: M, s₀ := s₂, H₀ := H₂, env := compEnvC scope (clOf X.env scope.names []) C X.env, outer := X.stack, ex := fp, fn := fun _ => false, pn := [], xe := fun _ _ => False }
structure CompOk2 (X : Cx) (scope : Scope) (x y : Str) (M : List Str) : Prop where
 base : CompOk X scope x M
 loc2 : scope.names.lookup y = some .local
 nd2 : (x :: y :: M).Nodup
theorem compOk2_of {X : Cx} {scope : Scope} {x y : Str} {M : List Str} (h : CompOk X scope x M) (h1 : scope.names.lookup y = some .local) (h2 : (x :: y :: M).Nodup) : CompOk2 X scope x y M := ⟨h, h1, h2⟩
section
variable {X : Cx} {scope : Scope} {x y : Str} {M : List Str} {pins : List (Addr × Obj)} {σ : St} {H₂ : Hp} {s₂ : Shared} {elt iter tg : Expr} {ifs : List Expr} {pos : Pos} {te : TE} {wi : TI} {g : TG} {tc : TT}
theorem inv_comp2 (K : CompOk2 X scope x y M) (I : Inv X pins σ H₂ s₂) {fp : List Addr} (hf : ∀ b ∈ fp, FpOk X pins H₂ b) (hfl : ∀ b ∈ fp, b < s₂.heap.objs.size) {C : Addr} (hC : s₂.heap.objs.size ≤ C) {h₁ : Heap} {t : Nat} {m : Str → Option Value} (hn : h₁.Ns C m)
   (hk : ∀ b o, s₂.heap.get? b = some o → h₁.get? b = some o) : Inv (compCx2 X scope C x y M s₂ H₂ fp) [] (none :: none :: σ) H₂ { s₂ with heap := h₁, toks := t } := by
 have I1 := inv_comp (t := t) K.base I hf hfl hC hn hk
 have ok : (compCx2 X scope C x y M s₂ H₂ fp).Ok := by
   obtain ⟨a1, a2, a3, a4, a5, a6, a7, a8, a9, a10, a11, a12, a13, a14, a15, a16, a17, a18⟩ := I1.ok
   exact ⟨a1, a2, a3, a4, a5, a6, a7, a8, a9, a10, a11, a12, a13, a14, a15, a16, a17, a18⟩
 obtain ⟨m', ns', lo⟩ := I1.loc
 refine ⟨ok, I1.os, I1.bare, I1.base, ⟨m', ns', fun i z v e1 e2 e3 => ?_⟩, I1.cell, I1.free, I1.freeC, I1.pin, I1.hok, ?_⟩
 · match i, e1, e2 with
   | 0, _, e2 => cases e2
   | 1, _, e2 => cases e2
   | j + 2, e1, e2 => exact lo (j + 1) z v e1 e2 e3
 · have := I1.len
   show (none :: none :: σ).length = (x :: y :: M).length
   have h2 : (none :: σ).length = (x :: M).length := this
   simp only [List.length_cons] at h2 ⊢
   omega
def tComp2 (wi : TI) (g : TG) (tc : TT) (te : TE) : TE := fun σ H Q => wi σ H fun J H1 => ∃ (n : Nat) (W : Nat → List V → Hp → Prop), n ≤ sizeLine ∧ W 0 [] H1 ∧ ∀ i ys H, i ≤ n → ys.length ≤ i → W i ys H →
 (J.stop i H ∧ ∀ p, H p = none → Q (.ref p) (upd H p (.lst ys))) ∨ (J.go i H ∧ i < n ∧ ∀ x H', J.yld i H x H' → ∀ u v, g x (u :: v :: σ) H' fun ρ H2 => (∃ u' v', ρ = u' :: v' :: σ) ∧ tc ρ H2 fun c H3 => if c = true then te ρ H3 fun z H4 => W (i + 1) (ys ++ [z]) H4 else W (i + 1) ys H3)
theorem comp_block2 (K : CompOk2 X scope x y M) (hc : X.calm = true) (I : Inv X pins σ H₂ s₂) (hg : ∀ (C : Addr) (s₂ : Shared) (H₂ : Hp) (fp : List Addr), PG (compCx2 X scope C x y M s₂ H₂ fp) tg g) (ht : ∀ (C : Addr) (s₂ : Shared) (H₂ : Hp) (fp : List Addr), PIfs (compCx2 X scope C x y M s₂ H₂ fp) ifs tc) (he : ∀ (C : Addr) (s₂ : Shared) (H₂ : Hp) (fp : List Addr), PE (compCx2 X scope C x y M s₂ H₂ fp) elt te)
   {it : Addr} {fp : List Addr} {tn : Nat → Heap → Prop} {J : It} (T : Turn X.prog X.w X.K tg J fp it tn) (st : tn 0 s₂.heap) (hf : ∀ b ∈ fp, FpOk X pins H₂ b) {n : Nat} (hsz : n ≤ sizeLine) {W : Nat → List V → Hp → Prop} {F : List V → Hp → Prop}
   (w0 : W 0 [] H₂) (turn : ∀ i ys H, i ≤ n → ys.length ≤ i → W i ys H → (J.stop i H ∧ F ys H) ∨ (J.go i H ∧ i < n ∧ ∀ x H', J.yld i H x H' → ∀ u v, g x (u :: v :: σ) H' fun ρ H2 => (∃ u' v', ρ = u' :: v' :: σ) ∧ tc ρ H2 fun c H3 => if c = true then te ρ H3 fun z H4 => W (i + 1) (ys ++ [z]) H4 else W (i + 1) ys H3))
   {E : Value → Shared → Prop} {RR : Value → Addr → Result → Shared → Prop}
   (hRR : ∀ (D C : Addr) (s' : Shared) (H' : Hp) (ys : List V) (m : Str → Option Value), Inv X pins σ (upd H' D (.lst ys)) s' → H' D = none → FpOk X pins (upd H' D (.lst ys)) C → s'.heap.Ns C m → F ys H' → RR (.ref D) C (.ok .next) s') :
   wpAny (model X.prog X.w) X.A (newList []) (fun acc s₃ => wpAny (model X.prog X.w) X.A (newFunctionEnv scope X.env.globals (clOf X.env scope.names []) [] X.env.qual none .none (some X.env)) (fun cenv s₄ =>
     codeAny (model X.prog X.w) X.A (.compStart (.ListComp elt [⟨tg, iter, ifs, 0⟩] scope pos) 0 (.ref it) acc { cenv with scope := relabel scope X.env }) (RR acc cenv.locals) s₄) E s₃) E s₂ := by
 refine wpAny_newObj_type (wpAny_newFunctionEnv K.base.cell (by intro y hy; simp at hy) (fun h₁ hns₁ hsb₁ => ?_) K.base.kind)
 dsimp only at hns₁ hsb₁ ⊢
 generalize hH2 : s₂.heap.push { cls := .type "list", dict := none, data := .seq ([] : List Value).toArray } = H2 at hns₁ hsb₁ ⊢
 have hC : H2.objs.size = s₂.heap.objs.size + 1 := by rw [← hH2, Heap.size_push]
 have hDC : s₂.heap.objs.size ≠ H2.objs.size := by rw [hC]; exact Nat.ne_of_lt (Nat.lt_succ_self _)
 have below : ∀ b, b < s₂.heap.objs.size → b ≠ H2.objs.size ∧ b ≠ s₂.heap.objs.size := fun b hb => ⟨by rw [hC]; exact Nat.ne_of_lt (Nat.lt_succ_of_lt hb), Nat.ne_of_lt hb⟩
 have hfl : ∀ b ∈ fp, b < s₂.heap.objs.size := fun b hb => by obtain ⟨o, e, _⟩ := T.obj _ _ st b hb; exact Heap.lt_size e
 have old : ∀ b o, s₂.heap.get? b = some o → h₁.get? b = some o := fun b o e => hsb₁.extBut b o (below b (Heap.lt_size e)).1 (Heap.get?_push_of_some _ (hH2 ▸ Heap.get?_push_of_some _ e))
 have hacc : h₁.get? s₂.heap.objs.size = some { cls := .type "list", data := .seq ([] : List Value).toArray 0 } := hsb₁.extBut _ _ hDC (Heap.get?_push_of_some _ (hH2 ▸ Heap.get?_push_size _ rfl))
 generalize hCC : H2.objs.size = C at *
 generalize hDD : s₂.heap.objs.size = D at *
 have hCle : s₂.heap.objs.size ≤ C := by rw [hDD, hC]; exact Nat.le_succ _
 have st₁ : tn 0 h₁ := T.keep _ _ _ st fun b _ o e => old b o e
 have I₁ := inv_comp2 (t := s₂.toks + ([] : List (Str × Value)).length) K I hf (fun b hb => by rw [hDD]; exact hfl b hb) hCle hns₁ old
 generalize hX' : compCx2 X scope C x y M s₂ H₂ fp = X' at I₁
 have eX : X'.prog = X.prog ∧ X'.w = X.w ∧ X'.K = X.K ∧ X'.calm = true ∧ X'.A = X.A ∧ X'.ex = fp ∧ X'.env = compEnvC scope (clOf X.env scope.names []) C X.env ∧ X'.s₀ = s₂ ∧ X'.pn = [] := by
   subst hX'; exact ⟨rfl, rfl, rfl, hc, rfl, rfl, rfl, rfl, rfl⟩
 obtain ⟨eP, ew, eK, ec, eA, eex, eenv, es0, epn⟩ := eX
 have eL : X'.env.locals = C := by rw [eenv]; rfl
 have cells' : ∀ y c, X'.env.cells.lookup y = some c → X.env.cells.lookup y = some c := fun y c e => by rw [eenv] at e; exact CompOk.cl_of e
 have efs : X'.fs = frs X.stack := by subst hX'; rfl
 have fsub : ∀ b ∈ X'.fs, b = X.env.locals ∨ b ∈ X.fs := fun b hb => List.mem_cons.mp (I.stkSub b (by rw [← efs]; exact hb))
 have fpok : ∀ {pn : List (Addr × Obj)} {H' : Hp}, (∀ p ∈ pn, p.1 = D) → (∀ b ∈ fp, H' b = none) → ∀ b ∈ fp, FpOk X' pn H' b := fun {pn H'} hp hn b hb => by
   refine ⟨hn b hb, ?_, fun z => ?_, .inl (by rw [eex]; exact hb), fun y c e => (hf b hb).2.2.2.2.1 y c (cells' y c e), fun p hq => ?_⟩
   · rw [eL]; exact (below b (hfl b hb)).1
   · rcases fsub b z with q | q
     · exact (hf b hb).2.1 q
     · exact (hf b hb).2.2.1 q
   · rw [epn, List.nil_append] at hq
     rw [hp p hq]; exact Ne.symm (below b (hfl b hb)).2
 have Dfp : D ∉ fp := fun z => Nat.lt_irrefl _ (hfl D z)
 have ltL : X.env.locals < D := by have := I.lt; rw [hDD] at this; exact this
 have ltF : ∀ b ∈ X.fs, b < D := fun b hb => Nat.lt_of_not_le fun z => I.nofs (a := b) (by rw [hDD]; exact z) hb
 have newok : ∀ {b : Addr} {pn : List (Addr × Obj)} {H' : Hp}, D ≤ b → b ≠ C → H' b = none → (∀ p ∈ pn, p.1 ≠ b) → FpOk X' pn H' b := fun {b pn H'} hb hbC hn hp => by
   refine ⟨hn, by rw [eL]; exact hbC, fun z => ?_, .inr (by rw [es0, hDD]; exact hb), fun y c e => ?_, fun p hq => ?_⟩
   · rcases fsub b z with q | q
     · rw [q] at hb; exact absurd (Nat.lt_of_lt_of_le ltL hb) (Nat.lt_irrefl _)
     · exact absurd (Nat.lt_of_lt_of_le (ltF b q) hb) (Nat.lt_irrefl _)
   · obtain ⟨v, o, ho, _⟩ := I.cell y c (cells' y c e)
     have := Heap.lt_size ho
     rw [hDD] at this
     exact Nat.ne_of_lt (Nat.lt_of_lt_of_le this hb)
   · rw [epn, List.nil_append] at hq
     exact hp p hq
 have outer : ∀ {σ' : St} {H' : Hp} {s' : Shared} {pn : List (Addr × Obj)}, Inv X' pn σ' H' s' → Inv X pins σ H' s' := fun {σ' H' s' pn} J' => by
   subst hX'
   refine I.call' (ch := fp) J'.os J'.base J'.hok J'.bare fun b hb => ?_
   obtain ⟨f0, f1, f2, f3, f4, f5⟩ := hf b hb
   exact ⟨f3, f1, f4, f5⟩
 have outok : ∀ {b : Addr} {H' : Hp}, D ≤ b → H' b = none → FpOk X pins H' b := fun {b H'} hb hn => by
   have q := I.fpOk (H' := H') (b := b) (by rw [hDD]; exact hb) hn
   exact q
 have loop : ∀ s₃ : Shared, s₃ = { s₂ with heap := h₁, toks := s₂.toks + ([] : List (Str × Value)).length } →
     codeAny (model X.prog X.w) X.A (.compLoop (.ListComp elt [⟨tg, iter, ifs, 0⟩] scope pos) 0 (.ref it) (.ref D) (compEnvC scope (clOf X.env scope.names []) C X.env)) (RR (.ref D) C) s₃ := by
   rintro s₃ rfl
   refine compLoop_go2 (fun k s' => ∃ (i : Nat) (ys : List V) (its : List Value) (σ0 σ1 : Option V) (H' : Hp), i ≤ n ∧ k = n + 1 - i ∧ ys.length ≤ i ∧ Inv X' [] (σ0 :: σ1 :: σ) H' s' ∧ tn i s'.heap ∧ (∀ b ∈ fp, H' b = none) ∧ H' D = none ∧ Vals ys its ∧
     (∃ c, s'.heap.get? D = some { cls := .type "list", data := .seq its.toArray c }) ∧ W i ys H') ?_ (n + 1) ⟨0, [], [], none, none, H₂, Nat.zero_le _, rfl, Nat.le_refl _, I₁, st₁, fun b hb => (hf b hb).1, by rw [← hDD]; exact I.hok.fresh (Nat.le_refl _), .nil, ⟨0, hacc⟩, w0⟩
   rintro k s' ⟨i, ys, its, σ0, σ1, H', hi, rfl, hyl, I', st', fr', hD', rv, ⟨c, hobj⟩, w'⟩
   rcases turn i ys H' hi hyl w' with ⟨stop, fin⟩ | ⟨go, hlt, step⟩
   · have pinD : Inv X' [(D, { cls := .type "list", data := .seq its.toArray c })] (σ0 :: σ1 :: σ) H' s' := I'.pins_of fun p hp => by
       obtain rfl : p = (D, { cls := .type "list", data := .seq its.toArray c }) := by simpa using hp
       refine ⟨hobj, hD', ?_, ?_, fun v z => nomatch z⟩
       · rw [eL]; exact hDC
       · intro z
         rcases fsub D z with q | q
         · rw [q] at ltL; exact Nat.lt_irrefl _ ltL
         · exact Nat.lt_irrefl _ (ltF D q)
     have q := T.done X' eP ew eK ec i _ s' (σ0 :: σ1 :: σ) H' (notedBy (model X.prog X.w) X.A (compEnvC scope (clOf X.env scope.names []) C X.env) fun e s' => RR (.ref D) C (.error e) s') pinD (fpok (fun p hp => by obtain rfl : p = (D, { cls := .type "list", data := .seq its.toArray c }) := (by simpa using hp); rfl) fr') st' stop
     rw [eA] at q
     refine wpAny_mono q (fun r s4 ⟨hr, I4⟩ => ?_) fun _ _ z => z
     subst hr
     obtain ⟨e4, n4, _⟩ := I4.pin (D, { cls := .type "list", data := .seq its.toArray c }) (List.mem_append_right _ (by simp))
     have O4 := outer I4
     obtain ⟨m4, ns4, _⟩ := I4.loc
     rw [eL] at ns4
     refine hRR D C s4 H' ys m4 (O4.track (outok (Nat.le_refl _) n4) (Nat.le_trans I.sz (by rw [hDD]; exact Nat.le_refl _)) ⟨Nat.le_trans hyl (Nat.le_trans hi hsz), its, c, rv, e4⟩) n4 (outok (by rw [hC]; exact Nat.le_succ _) ?_) ns4 fin
     rw [zI (Ne.symm hDC)]
     have := I4.free
     rw [eL] at this
     exact this
   · have pinD : Inv X' [(D, { cls := .type "list", data := .seq its.toArray c })] (σ0 :: σ1 :: σ) H' s' := I'.pins_of fun p hp => by
       obtain rfl : p = (D, { cls := .type "list", data := .seq its.toArray c }) := by simpa using hp
       refine ⟨hobj, hD', ?_, ?_, fun v z => nomatch z⟩
       · rw [eL]; exact hDC
       · intro z
         rcases fsub D z with q | q
         · rw [q] at ltL; exact Nat.lt_irrefl _ ltL
         · exact Nat.lt_irrefl _ (ltF D q)
     have pd : ∀ p ∈ [(D, ({ cls := .type "list", data := .seq its.toArray c } : Obj))], p.1 = D := fun p hp => by obtain rfl : p = (D, { cls := .type "list", data := .seq its.toArray c }) := (by simpa using hp); rfl
     have q := T.item X' eP ew eK ec i _ s' (σ0 :: σ1 :: σ) H' (notedBy (model X.prog X.w) X.A (compEnvC scope (clOf X.env scope.names []) C X.env) fun e s' => RR (.ref D) C (.error e) s') pinD (fpok pd fr') st' go
     rw [eA] at q
     refine wpAny_mono q (fun r s4 ⟨u, hr, h4⟩ => ?_) fun _ _ z => z
     subst hr
     refine wpAny_mono h4 (fun _ s5 ⟨xv, H5, I5, r5, y5, st5, fr5⟩ => ?_) fun _ _ z => z
     have I5' := I5.pinned (fpok pd fr5) (T.obj _ _ st5)
     rw [← eenv]
     have g6 := step xv H5 y5 σ0 σ1
     have q6 := (hg C s₂ H₂ fp) (([(D, ({ cls := .type "list", data := .seq its.toArray c } : Obj))]) ++ pinsAt fp s5.heap) s5 (σ0 :: σ1 :: σ) H5 xv u _ (by rw [hX']; exact I5') r5 g6
     rw [hX', eP, ew, eA] at q6
     refine wpAny_mono q6 (fun _ s6 ⟨ρ, H6, I6, ⟨u', v', eρ⟩, t6⟩ => ?_) (fun _ _ z => by subst hX'; exact (show False from z).elim)
     subst eρ
     have q7 := (ht C s₂ H₂ fp) _ s6 (u' :: v' :: σ) H6 _ (by rw [hX']; exact I6) t6
     rw [hX', eP, ew, eA] at q7
     refine wpAny_mono q7 (fun ok s7 ⟨H7, I7, w7⟩ => ?_) (fun _ _ z => by subst hX'; exact (show False from z).elim)
     have keepT : ∀ {s8 : Shared} {H8 : Hp} {pn : List (Addr × Obj)}, Inv X' (pn ++ (([(D, ({ cls := .type "list", data := .seq its.toArray c } : Obj))]) ++ pinsAt fp s5.heap)) (u' :: v' :: σ) H8 s8 → True := fun _ => trivial
     cases ok with
     | false =>
       obtain ⟨e7, n7, _⟩ := I7.pin (D, { cls := .type "list", data := .seq its.toArray c }) (List.mem_append_right _ (List.mem_append_left _ (by simp)))
       refine ⟨n + 1 - (i + 1), by omega, i + 1, ys, its, u', v', H7, hlt, rfl, Nat.le_succ_of_le hyl, I7.pins_of (pins' := []) fun p hp => absurd hp (by simp), ?_, fun b hb => ?_, n7, rv, ⟨c, e7⟩, w7⟩
       · refine T.keep _ _ _ st5 fun b hb o e => ?_
         exact (I7.pin (b, o) (List.mem_append_right _ (List.mem_append_right _ (yW hb e)))).1
       · obtain ⟨o, e, d⟩ := T.obj _ _ st5 b hb
         exact (I7.pin (b, o) (List.mem_append_right _ (List.mem_append_right _ (yW hb e)))).2.1
     | true =>
       have q8 := (he C s₂ H₂ fp) _ s7 (u' :: v' :: σ) H7 (fun z H'' => W (i + 1) (ys ++ [z]) H'') (by rw [hX']; exact I7) w7
       rw [hX', eP, ew, eA] at q8
       refine wpAny_mono q8 (fun u8 s8 ⟨v8, H8, I8, r8, w8⟩ => ?_) (fun _ _ z => by subst hX'; exact (show False from z).elim)
       obtain ⟨e7, n7, _⟩ := I8.pin (D, { cls := .type "list", data := .seq its.toArray c }) (List.mem_append_right _ (List.mem_append_left _ (by simp)))
       refine append_at (hsz := by rw [List.size_toArray, ← rv.length]; exact Nat.le_trans hyl (Nat.le_trans hi hsz)) e7 fun h8 sb8 g8 => ?_
       have I9 : Inv X' [] (u' :: v' :: σ) H8 { s8 with heap := h8, toks := s8.toks } := (I8.pins_of (pins' := []) fun p hp => absurd hp (by simp)).turned (t' := s8.toks) (it := D) (fun b o hb e => (sb8.2 b hb).trans e) n7 (by rw [eL]; exact hDC) (.inr (by rw [es0, hDD]; exact Nat.le_refl _))
         (newok (H' := H8) (pn := []) (Nat.le_refl _) hDC n7 (fun p hp => absurd hp (by simp))).2.2.2.2.1 (fun p hp => by rw [epn] at hp; exact absurd hp (by simp))
       refine ⟨n + 1 - (i + 1), by omega, i + 1, ys ++ [v8], its ++ [u8], u', v', H8, hlt, rfl, by rw [List.length_append, List.length_singleton]; omega, I9, ?_, fun b hb => ?_, n7, rv.append (.cons r8 .nil), ⟨c + 1, ?_⟩, w8⟩
       · refine T.keep _ _ _ st5 fun b hb o e => ?_
         have e' := (I8.pin (b, o) (List.mem_append_right _ (List.mem_append_right _ (yW hb e)))).1
         exact (sb8.2 b (fun z => Dfp (z ▸ hb))).trans e'
       · obtain ⟨o, e, d⟩ := T.obj _ _ st5 b hb
         exact (I8.pin (b, o) (List.mem_append_right _ (List.mem_append_right _ (yW hb e)))).2.1
       · rw [g8, List.push_toArray]
 exact codeAny_compStart_list (loop _ rfl) (T.self X.A 0 _ _ _ st₁ (loop _ rfl))
theorem pe_comp2 (K : CompOk2 X scope x y M) (hc : X.calm = true) (hi : PI X tg iter wi) (hg : ∀ (C : Addr) (s₂ : Shared) (H₂ : Hp) (fp : List Addr), PG (compCx2 X scope C x y M s₂ H₂ fp) tg g) (ht : ∀ (C : Addr) (s₂ : Shared) (H₂ : Hp) (fp : List Addr), PIfs (compCx2 X scope C x y M s₂ H₂ fp) ifs tc) (he : ∀ (C : Addr) (s₂ : Shared) (H₂ : Hp) (fp : List Addr), PE (compCx2 X scope C x y M s₂ H₂ fp) elt te)
   (hs : ∀ x, foldedSetIterable iter X.env x = pure x := by intro _; rfl) : PE X (.ListComp elt [⟨tg, iter, ifs, 0⟩] scope pos) (tComp2 wi g tc te) := by
 intro pins s σ H Q I h
 rw [eval_ListComp]
 refine wpAny_comprehension_free (use := none) rfl hs (K.base.closure I.ok) K.base.kind K.base.names (thn (hi pins s σ H _ I h) fun v s1 h1 => thn h1 fun itv s2 h2 => ?_)
 obtain ⟨it, fp, tn, J, H2, e, I2, T, st2, f2, n, W, hsz, w0, turn⟩ := h2
 subst e
 refine comp_block2 (RR := fun acc C => compPost (model X.prog X.w) X.A X.xe none (EP X pins σ Q) acc C) K hc I2 hg ht he T st2 f2 hsz (F := fun ys H => ∀ p, H p = none → Q (.ref p) (upd H p (.lst ys))) w0 turn ?_
 intro D C s' H' ys m I' n' fC ns fin
 refine ⟨m, ns, fun h' sb => ?_⟩
 obtain ⟨f0, f1, f2, f3, f4, f5⟩ := fC
 exact ⟨.ref D, _, I'.turned (t' := s'.toks) (it := C) (fun b o hb e => (sb.2 b hb).trans e) f0 f1 f3 f4 f5, rfl, fin D n'⟩
end
end L2
namespace L2
open PySem PySem.Spec PyProof.Rows PySem.Calls
section
variable {X : Cx} {scope : Scope} {x y : Str} {M : List Str} {elt iter : Expr} {ifs : List Expr} {pos p1 p2 p3 : Pos} {kk : Nat} {te : TE} {wi : TI} {tc : TT}
structure CompRT (K : PySem.W.Frag) (J : It) (tc : TT) (te : TE) (σ : St) (H1 : Hp) (Q : VK) : Prop where
 ex : ∃ (n : Nat) (W : Nat → List V → Hp → Prop), n ≤ sizeLine ∧ W 0 [] H1 ∧ ∀ i ys H, i ≤ n → ys.length ≤ i → W i ys H →
   (J.stop i H ∧ ∀ p, H p = none → Q (.ref p) (upd H p (.lst ys))) ∨ (J.go i H ∧ i < n ∧ ∀ z H', J.yld i H z H' → ∃ (p : Addr) (a b : V), z = .ref p ∧ SqT K H' p [a, b] ∧ tc (some a :: some b :: σ) H' fun c H3 => if c = true then te (some a :: some b :: σ) H3 fun z H4 => W (i + 1) (ys ++ [z]) H4 else W (i + 1) ys H3)
def tCompT (K : PySem.W.Frag) (wi : TI) (tc : TT) (te : TE) : TE := fun σ H Q => wi σ H fun J H1 => CompRT K J tc te σ H1 Q
theorem pg_two (K : CompOk2 X scope x y M) (hc : X.calm = true) {C : Addr} {s₂ : Shared} {H₂ : Hp} {fp : List Addr} : PG (compCx2 X scope C x y M s₂ H₂ fp) (.Tuple [.Name x p1, .Name y p2] kk p3) (gTup X.K 2 (gCons (gName 0) (gCons (gName 1) gNil))) :=
 pg_tup (X := compCx2 X scope C x y M s₂ H₂ fp) hc (pgs_cons (yH K.nd2 rfl (.inl (lookup_relabel_local K.base.loc)) (.inr (lookup_relabel_local K.base.loc))) (pgs_cons (yH K.nd2 rfl (.inl (lookup_relabel_local K.loc2)) (.inr (lookup_relabel_local K.loc2))) pgs_nil))
theorem pe_compT (K : CompOk2 X scope x y M) (hc : X.calm = true) (hi : PI X (.Tuple [.Name x p1, .Name y p2] kk p3) iter wi) (ht : ∀ (C : Addr) (s₂ : Shared) (H₂ : Hp) (fp : List Addr), PIfs (compCx2 X scope C x y M s₂ H₂ fp) ifs tc) (he : ∀ (C : Addr) (s₂ : Shared) (H₂ : Hp) (fp : List Addr), PE (compCx2 X scope C x y M s₂ H₂ fp) elt te)
   (hs : ∀ x, foldedSetIterable iter X.env x = pure x := by intro _; rfl) : PE X (.ListComp elt [⟨.Tuple [.Name x p1, .Name y p2] kk p3, iter, ifs, 0⟩] scope pos) (tCompT X.K wi tc te) := by
 intro pins s σ H Q I h
 have q := pe_comp2 (pos := pos) K hc (wi := fun σ0 H0 R0 => ∃ R, wi σ0 H0 R ∧ ∀ J H1, R J H1 → R0 J H1) (pi_conv hi fun σ H R ⟨R1, a, b⟩ => ⟨R1, a, b⟩) (fun C s₂ H₂ fp => pg_two (p1 := p1) (p2 := p2) (p3 := p3) (kk := kk) K hc) ht he hs pins s σ H Q I
 refine q ⟨_, h, fun J H1 r => ?_⟩
 obtain ⟨n, W, h1, h2, h3⟩ := r.ex
 refine ⟨n, W, h1, h2, fun i ys H' hi hy hw => ?_⟩
 rcases h3 i ys H' hi hy hw with hq | ⟨g1, g2, g3⟩
 · exact .inl hq
 · refine .inr ⟨g1, g2, fun z H2 hz u v => ?_⟩
   obtain ⟨p, a, b, e, hq, t⟩ := g3 z H2 hz
   exact ⟨p, [a, b], e, hq, rfl, a, [b], rfl, b, [], rfl, rfl, ⟨_, _, rfl⟩, t⟩
end
theorem comp_listT {K : PySem.W.Frag} {a : Addr} {xs : List V} {tc : TT} {te : TE} {σ : St} {H : Hp} {Q : VK} (hz : xs.length ≤ sizeLine) (W : Nat → List V → Hp → Prop) (h0 : W 0 [] H) (hq : ∀ i ys H, W i ys H → SqL K H a xs)
   (hs : ∀ i x ys H, xs[i]? = some x → ys.length ≤ i → W i ys H → ∃ (p : Addr) (u v : V), x = .ref p ∧ SqT K H p [u, v] ∧ tc (some u :: some v :: σ) H fun c H3 => if c = true then te (some u :: some v :: σ) H3 fun z H4 => W (i + 1) (ys ++ [z]) H4 else W (i + 1) ys H3)
   (hd : ∀ ys H, W xs.length ys H → ∀ p, H p = none → Q (.ref p) (upd H p (.lst ys))) : CompRT K (Itl K a) tc te σ H Q := by
 refine ⟨xs.length, W, hz, h0, fun i ys H hi hl hw => ?_⟩
 have q := hq i ys H hw
 by_cases hlt : i < xs.length
 · refine .inr ⟨⟨xs, xs[i], q, by simp [hlt]⟩, hlt, fun v H' y => ?_⟩
   obtain ⟨e, y⟩ := y
   subst e
   exact hs i v ys _ (y xs q) hl hw
 · have e : i = xs.length := by omega
   subst e
   exact .inl ⟨⟨xs, q, Nat.le_refl _⟩, hd ys H hw⟩
section
variable {prog : Program} {w : World} {A : Around} {E : Value → Shared → Prop} {s : Shared}
end
section
variable {X : Cx}
end
section
variable {X : Cx} {tg : Expr}
end
theorem eqi_ftups {X : Cx} {H : Hp} {n : Nat} {p q : Addr} {xs ys : List V} (h : SqT X.K H p xs) (k : SqT X.K H q ys) (fx : xs.all flatV = true) (fy : ys.all flatV = true) (hxy : eqL xs ys = true → xs = ys) : EqJi X H (n + 1) (.ref p) (.ref q) (eqL xs ys) := by
 by_cases hpq : p = q
 · subst hpq
   intro pins s σ u v A I ru rv hu
   have e2 := I.tuple_inj h k
   subst e2
   rw [eqL_self fx]
   exact eqi_same (n := n + 1) pins s σ u v A I ru rv hu
 · exact eqi_refs hpq (eqj_ftups (n := n) h k fx fy)
end L2
namespace L2
open PySem PySem.Spec PyProof.Rows PySem.Calls
end L2
namespace L2
open PySem PySem.Spec PyProof.Rows PySem.Calls
end L2
namespace L2
open PySem PySem.Spec PyProof.Rows PySem.Calls
open PySem.W (tabObj CodeHd kla_obj kla_fn)
structure LamD where
 qual : Str
 params : Arguments
 body : Expr
 scope : Scope
 x : Str
 y : Str
def SameB (P : Addr) (H H' : Hp) : Prop := ∀ b u, b ≠ P → H b = some u → H' b = some u
theorem SameB.trans {P : Addr} {H H1 H2 : Hp} (a : SameB P H H1) (b : SameB P H1 H2) : SameB P H H2 := fun c u n e => b c u n (a c u n e)
theorem SameB.refl {P : Addr} {H : Hp} : SameB P H H := fun _ _ _ e => e
theorem IsCell.one {h1 h2 : Heap} {c : Addr} {v : Option Value} (x : h1.IsCell c v) (k : ∀ o, h1.get? c = some o → h2.get? c = some o) : h2.IsCell c v :=
 let ⟨o, ho, hd⟩ := x; ⟨o, k o ho, hd⟩
structure LamD.Ok (D : LamD) : Prop where
 kind : D.scope.kind = .function
 co : D.scope.isCoroutine = false
 gen : D.scope.isGenerator = false
 names : D.scope.names = [(D.x, .local), (D.y, .free)]
 ne : D.x ≠ D.y
 bind : ∀ (cc : Addr) (pm cdv ct u : Value), bindArgs (kla_fn "<lambda>" D.qual D.params D.body D.scope [(D.y, cc)] pm cdv ct) ⟨[u], []⟩ = pure [(D.x, u)]
theorem LamD.Ok.lx {D : LamD} (O : D.Ok) : D.scope.names.lookup D.x = some .local := by rw [O.names, List.lookup_cons, beq_self_eq_true]
theorem LamD.Ok.ly {D : LamD} (O : D.Ok) : D.scope.names.lookup D.y = some .free := by
 rw [O.names, List.lookup_cons, beq_eq_false_iff_ne.mpr O.ne.symm, List.lookup_cons, beq_self_eq_true]
theorem LamD.Ok.of {D : LamD} (O : D.Ok) {x : Str} {k : NameKind} (h : D.scope.names.lookup x = some k) : (x = D.x ∧ k = .local) ∨ (x = D.y ∧ k = .free) := by
 rw [O.names, List.lookup_cons] at h
 cases e : x == D.x with
 | true => rw [e] at h; cases h; exact .inl ⟨eq_of_beq e, rfl⟩
 | false =>
   rw [e, List.lookup_cons] at h
   cases e2 : x == D.y with
   | true => rw [e2] at h; cases h; exact .inr ⟨eq_of_beq e2, rfl⟩
   | false => rw [e2] at h; cases h
end L2
namespace L2
open PySem PySem.Spec PyProof.Rows PySem.Calls
open PySem.W (tabObj CodeHd kla_obj kla_fn)
end L2
namespace L2
open PySem PySem.Spec PyProof.Rows PySem.Calls
open PySem.W (tabObj CodeHd kla_obj kla_fn)
end L2
namespace L2
open PySem PySem.Spec PyProof.Rows PySem.Calls
section
variable {X : Cx}
end
end L2
namespace L2
open PySem PySem.Spec PyProof.Rows PySem.Calls
section
variable {X : Cx}
end
end L2
namespace L2
open PySem PySem.Spec
theorem ps_no {X : Cx} {s : Stmt} : PS X s (fun _ _ _ => False) := fun _ _ _ _ _ _ h => h.elim
end L2
namespace L2
open PySem PySem.Spec PyProof.Rows PySem.Calls
section
variable {X : Cx}
end
end L2
namespace L2
open PySem PySem.Spec PyProof.Rows PySem.Calls
section
variable {X : Cx}
theorem pe_no {e : Expr} : PE X e (fun _ _ _ => False) := fun _ _ _ _ _ _ h => h.elim
end
end L2
namespace L2
open PySem PySem.Spec PyProof.Rows PySem.Calls
section
variable {X : Cx} {scope : Scope} {x y : Str} {M : List Str} {tg elt iter : Expr} {ifs : List Expr} {pos p1 p2 p3 : Pos} {kk : Nat} {te : TE} {wi : TI} {tc : TT} {g : TG}
end
end L2
namespace L2
open PySem PySem.Spec PyProof.Rows PySem.Calls
end L2
namespace L2
open PySem PySem.Spec PyProof.Rows PySem.Calls
section
variable {X : Cx} {pins : List (Addr × Obj)} {σ : St} {H : Hp} {s : Shared} {h' : Heap}
theorem Inv.turnedM {t' : Nat} {L : List Addr} (I : Inv X pins σ H s) (k : ∀ b o, b ∉ L → s.heap.get? b = some o → h'.get? b = some o) (hL : ∀ b ∈ L, FpOk X pins H b) : Inv X pins σ H { s with heap := h', toks := t' } := by
 have nit : ∀ b u, H b = some u → b ∉ L := fun b u e z => by have := (hL b z).1; rw [this] at e; cases e
 refine I.step (g' := s.gens) (d' := s.drawn) (ch := L) (fun b hb => ?_) (fun b o _ _ hc e _ => k b o hc e) (fun b o _ _ hc e _ => ⟨o.slots, k b o hc e⟩) (fun _ _ _ _ n => n)
   (fun b o hc e => ⟨o, k b o hc e⟩) (fun _ _ e => e) (fun _ _ _ e => e) (fun b ps e => ⟨#[], by rw [e]; simp⟩) (fun m hm => ?_) (fun b u e => ?_) I.bare
 · obtain ⟨f0, f1, f2, f3, f4, f5⟩ := hL b hb
   exact ⟨f3, f1, f4, f5⟩
 · obtain ⟨o, es, ep, ho, r⟩ := hm
   exact ⟨o, es, ep, k _ o (fun z => (hL _ z).2.1 rfl) ho, r⟩
 · refine (I.hok b u e).stay (fun c v hc q => k c v ?_ q) (fun _ q => q) fun _ _ q => q
   rcases hc with z | z
   · rw [z]; exact nit b u e
   · exact nit c _ z
end
section
variable {X : Cx} {ea eb : Expr} {t : TA} {p pos tp : Pos} {elts : List Expr} {x1 : Nat}
end
end L2
namespace L2
open PySem PySem.Spec PyProof.Rows PySem.Calls
end L2
namespace L2
open PySem PySem.Spec PyProof.Rows PySem.Calls
section
variable {X : Cx} {scope : Scope} {x : Str} {M : List Str} {pins : List (Addr × Obj)} {σ : St} {H₂ : Hp} {s₂ : Shared} {elt iter tg : Expr} {ifs : List Expr} {pos px : Pos} {te : TE} {wi : TI} {g : TG} {tc : TT}
structure CompRF (J : It) (tc : TT) (te : TE) (σ : St) (H1 : Hp) (Q : VK) : Prop where
 ex : ∃ (n : Nat) (W : Nat → List V → Hp → Prop), n ≤ sizeLine ∧ W 0 [] H1 ∧ ∀ i ys H, i ≤ n → ys.length ≤ i → W i ys H →
   (J.stop i H ∧ ∀ p, H p = none → Q (.ref p) (upd H p (.lst ys))) ∨ (J.go i H ∧ i < n ∧ ∀ z H', J.yld i H z H' → tc (some z :: σ) H' fun c H3 => if c = true then te (some z :: σ) H3 fun z H4 => W (i + 1) (ys ++ [z]) H4 else W (i + 1) ys H3)
end
section
variable {X : Cx} {k : Nat} {m : Str} {pos apos : Pos} {o : Expr} {ta : TE}
end
end L2
namespace L2
open PySem PySem.Spec PyProof.Rows PySem.Calls
def Ite (K : PySem.W.Frag) (a : Addr) : It :=
 ⟨fun i H => ∃ xs x, SqL K H a xs ∧ xs[i]? = some x,
  fun i H z H' => ∃ T x, z = .ref T ∧ H T = none ∧ H' = upd H T (.tup [.int i, x]) ∧ ∀ xs, SqL K H a xs → xs[i]? = some x,
  fun i H => ∃ xs, SqL K H a xs ∧ xs.length ≤ i⟩
def EnT (e it a : Addr) (i : Nat) (h : Heap) : Prop := (∃ old, IsEnum h e it i old) ∧ h.IsListIter it a i
theorem turn_enum {P : Program} {w : World} {K : PySem.W.Frag} {elts : List Expr} {x1 : Nat} {tp : Pos} {e it a : Addr} (D : e ≠ it) : Turn P w K (.Tuple elts x1 tp) (Ite K a) [e, it] e (EnT e it a) where
 mem := by simp
 obj := fun i h st c hc => by
   obtain ⟨⟨u, h1⟩, h4⟩ := st
   simp only [List.mem_cons, List.not_mem_nil, or_false] at hc
   rcases hc with q | q
   · subst q; exact ⟨_, h1, fun v q => by cases q⟩
   · subst q; obtain ⟨o, e, c, d⟩ := h4; exact ⟨o, e, fun v q => by rw [d] at q; cases q⟩
 keep := fun i h h' st k => by
   obtain ⟨⟨u, h1⟩, h4⟩ := st
   exact ⟨⟨u, k _ (by simp) _ h1⟩, h4.at fun o q => k it (by simp) o q⟩
 item := by
   intro X hP hw hK hc i pins s σ H E I hf st hg
   subst hP hw hK
   obtain ⟨xs, x, hq, hx⟩ := hg
   obtain ⟨⟨old, h1⟩, h4⟩ := st
   obtain ⟨its, rv, p, hz⟩ := I.list hq
   obtain ⟨u, hu, ru⟩ := rv.get hx
   refine wpAny_pyNext_enum_item h1 h4 p.isList (x := u) (by simpa using hu) D fun h' a1 a2 a3 a4 a5 => ?_
   refine ⟨_, rfl, wpAny_letOwnedTupleGo_enum (s := { s with heap := h', toks := s.toks + 1 }) a1 fun h'' b1 b2 => ?_⟩
   have hT : H s.heap.objs.size = none := I.hok.fresh (Nat.le_refl _)
   have lt : ∀ c ∈ [e, it], c < s.heap.objs.size := fun c hc => by
     simp only [List.mem_cons, List.not_mem_nil, or_false] at hc
     rcases hc with q | q
     · subst q; exact Heap.lt_size h1
     · subst q; obtain ⟨o, q, _⟩ := h4; exact Heap.lt_size q
   have kk : ∀ c o, c ∉ [e, it] → s.heap.get? c = some o → h''.get? c = some o := fun c o hc q => by
     simp only [List.mem_cons, List.not_mem_nil, or_false, not_or] at hc
     exact (b2.2 c hc.1).trans (a5 c o hc.1 hc.2 q)
   have I1 : Inv X pins σ H { s with heap := h'', toks := s.toks + 1 } := I.turnedM (t' := s.toks + 1) kk hf
   have zT : s.heap.objs.size ≠ e := fun q => Nat.lt_irrefl _ (q ▸ lt e (by simp))
   have a5' := (b2.2 _ zT).trans a3
   have I2 := I1.track (a := s.heap.objs.size) (o := .tup [.int i, x]) (I.fpOk (Nat.le_refl _) hT) I.sz ⟨by show 2 ≤ sizeLine; decide, [.int i s.toks, u], .cons ⟨_, rfl⟩ (.cons ru .nil), ⟨_, a5', rfl, _, rfl⟩⟩
   refine ⟨.ref s.heap.objs.size, _, I2, rfl, ⟨_, x, rfl, hT, rfl, fun zs hzs => by rw [I.list_inj hzs hq]; exact hx⟩, ⟨⟨_, b1⟩, a2.at fun o q => (b2.2 _ (Ne.symm D)).trans q⟩, fun c hc => ?_⟩
   rw [zI (Nat.ne_of_lt (lt c hc))]; exact (hf c hc).1
 done := by
   intro X hP hw hK hc i pins s σ H E I hf st hg
   subst hP hw hK
   obtain ⟨xs, hq, hx⟩ := hg
   obtain ⟨⟨old, h1⟩, h4⟩ := st
   obtain ⟨its, rv, p, hz⟩ := I.list hq
   have hl := rv.length
   refine wpAny_pyNext_enum_end (I.ok.hd hc) h1 h4 p.isList (by simp; omega) fun h' a7 => ⟨rfl, I.turnedM (t' := s.toks) (fun c o hc q => ?_) hf⟩
   simp only [List.mem_cons, List.not_mem_nil, or_false, not_or] at hc
   exact a7 c o hc.2 q
 self := fun _ _ _ _ _ st h => by
   obtain ⟨⟨u, h1⟩, _⟩ := st
   exact wpAny_pyIter_enum h1 h
section
variable {X : Cx} {ea : Expr} {t : TA} {p pos tp : Pos} {elts : List Expr} {x1 : Nat}
def iEnum (K : PySem.W.Frag) (t : TA) : TI := fun σ H R => t σ H fun vs H1 => ∃ a, vs = [.ref a] ∧ (∃ xs, SqL K H1 a xs) ∧ R (Ite K a) H1
theorem boot_enum : bootBuiltins "enumerate" = some (.type "enumerate") := by symm
theorem pi_enum (hg : Gl X "enumerate") (hm : X.mg "enumerate" = none) (ha : PA X [ea] t) (hs : starEach [ea] X.env = [(false, eval ea X.env)] := by rfl) :
   PI X (.Tuple elts x1 tp) (.Call (.Name "enumerate" p) [ea] [] pos) (iEnum X.K t) := by
 intro pins s σ H R I h
 refine Call_ (ld_blt I hg hm boot_enum (PyProof.Rows.callWith_type1 (thn (ha pos pins s σ H _ I h) fun us s1 ⟨vs, H1, I1, r1, q1⟩ => ?_) (by rw [hs]; rfl) (by rfl)))
 obtain ⟨a, e, ⟨xs, hq⟩, q⟩ := q1
 subst e
 cases r1 with
 | cons r rr =>
   cases rr
   cases r
   obtain ⟨its, rv, pl, hz⟩ := I1.list hq
   refine call_enumerate_list pl.isList fun h' z1 z2 z3 z7 => ?_
   refine wpAny_pyIter_enum (s := { s1 with heap := h' }) z1 ?_
   have I2 : Inv X pins σ H1 { s1 with heap := h' } := I1.kept (t' := s1.toks) z7
   refine ⟨_, [s1.heap.objs.size + 1, s1.heap.objs.size], _, _, H1, rfl, I2, turn_enum (Nat.succ_ne_self _), ⟨⟨_, z1⟩, z2⟩, fun c hc => ?_, q⟩
   have hle : s1.heap.objs.size ≤ c := by
     simp only [List.mem_cons, List.not_mem_nil, or_false] at hc
     rcases hc with e | e
     · rw [e]; exact Nat.le_succ _
     · rw [e]; exact Nat.le_refl _
   exact I1.fpOk hle (I1.hok.fresh hle)
end
theorem for_enumR {K : PySem.W.Frag} {a : Addr} {xs : List V} {g : TG} {tb : TS} {D : Ends} {σ : St} {H : Hp} (Pv : Nat → St → Hp → Prop) (h0 : Pv 0 σ H) (hq : ∀ i σ H, i ≤ xs.length → Pv i σ H → SqL K H a xs)
   (hs : ∀ i x σ H, xs[i]? = some x → Pv i σ H → ∀ T, H T = none → g (.ref T) σ (upd H T (.tup [.int i, x])) fun σ2 H2 => tb { D with nx := Pv (i + 1), ct := Pv (i + 1), bk := D.nx } σ2 H2) (hd : ∀ σ H, Pv xs.length σ H → D.nx σ H) : ForR (Ite K a) g tb D σ H := by
 refine ⟨fun i m σ H => i ≤ xs.length ∧ m = xs.length - i ∧ Pv i σ H, ⟨_, Nat.zero_le _, rfl, h0⟩, fun i m σ H ⟨hi, hm, hp⟩ => ?_⟩
 have q1 := hq i σ H hi hp
 by_cases c : i = xs.length
 · subst c
   exact .inl ⟨⟨xs, q1, Nat.le_refl _⟩, hd σ H hp⟩
 · have hlt : i < xs.length := by omega
   have hx : xs[i]? = some xs[i] := List.getElem?_eq_getElem hlt
   refine .inr ⟨⟨xs, _, q1, hx⟩, Pv (i + 1), fun σ' H' hn => ⟨xs.length - (i + 1), by omega, by omega, rfl, hn⟩, fun z H' hz => ?_⟩
   obtain ⟨T, x, rfl, hT, rfl, e1⟩ := hz
   exact hs i x σ H (e1 xs q1) hp T hT
end L2
namespace L2
open PySem PySem.Spec PyProof.Rows PySem.Calls
section
variable {X : Cx}
end
theorem keys_no : typeLookup (.type "list") "keys" = pure none := by rw [typeLookup_type, builtinLookup_eq_fast]; kernel_rfl
theorem ask_keys {prog : Program} {w : World} {A : Around} {E : Value → Shared → Prop} {s : Shared} {a : Addr} {xs : Array Value} {k : Nat} {sl : Array (Option Value)} {Q : Option Value → Shared → Prop}
   (hx : s.heap.get? a = some ⟨.type "list", none, .seq xs k, sl⟩) (hA : A.handled = none) (h : ∀ h' tk e, Heap.NewExcOf s.heap h' e "AttributeError" → Q none { s with heap := h', toks := tk }) :
   wpAny (model prog w) A (getAttr? (.ref a) "keys") Q E s := by
 obtain ⟨hp, g, d, tk, os⟩ := s
 have ty : ∀ j, (⟨hp, g, d, j, os⟩ : Shared).TypeIs (.ref a) "list" := fun _ => ⟨_, hx, rfl⟩
 have a1 := sub_AttributeError
 have a3 := PySem.F.slot_list_getattribute.lookup
 have a4 := PySem.F.slot_list_getattribute.bind (.ref a)
 have a5 := am_list_getattr_none
 unfold getAttr? getAttrBy? getAttrBy
 repeat (any_goals (first
   | assumption
   | exact ty _
   | ((with_reducible show wpAny _ _ (call (Value.builtin "list.__getattribute__") _ _) _ _ _)
      refine call_meets PySem.F.slot_list_getattribute (ty _) am_entry_list_getattribute (PySem.F.args_list_getattribute_2 _ _) (meets_getattribute_miss_list a xs k sl "keys" _ keys_no (by decide) (by size_fits)) ⟨hx, hA, fun h' tk' e hx' => ?_⟩)
   | wp_step))
 obtain ⟨t', u', he⟩ := hx'.there
 show wpAny _ _ (getattributeRaised _ _ _ _ _ _ _) _ _ _
 unfold getattributeRaised hookOrError
 repeat (any_goals (first | assumption | wp_step))
 exact h _ _ _ hx'.of
theorem ent_loop : entryFor table "dict.update.loop" = some Builtin.«dict.update.loop» := entryFor_of_tree (by kernel_rfl)
end L2
namespace L2
open PySem PySem.Spec PySem.Calls PyProof.Rows
def RawD (h : Heap) (d : Addr) (es : Array DictEntry) (ep : Nat) : Prop := ∃ o, h.get? d = some o ∧ o.ExactDict ∧ o.data = .dict es ep
theorem RawD.keep {h h' : Heap} {d : Addr} {es : Array DictEntry} {ep : Nat} (x : RawD h d es ep) (k : ∀ o, h.get? d = some o → h'.get? d = some o) : RawD h' d es ep := let ⟨o, ho, r⟩ := x; ⟨o, k o ho, r⟩
theorem RawD.lt {h : Heap} {d : Addr} {es : Array DictEntry} {ep : Nat} (x : RawD h d es ep) : d < h.objs.size := let ⟨_, ho, _⟩ := x; Heap.lt_size ho
section
variable {prog : Program} {w : World} {A : Around} {E : Value → Shared → Prop} {s : Shared} {d it : Addr} {es : Array DictEntry} {ep i : Nat}
theorem RawD.ty (x : RawD s.heap d es ep) : s.TypeIs (.ref d) "dict" := let ⟨o, ho, c, _⟩ := x; ⟨o, ho, c.1⟩
end
section
variable {X : Cx} {pos : Pos}
end
end L2
namespace L2
open PySem PySem.Spec PySem.Calls PySem.W PyProof.Rows
inductive KAll (n : Nat) {α : Type} (R : α → Prop) : KasT α → Prop
 | ret {a : α} : R a → KAll n R (.ret a)
 | ask {i j : Nat} {k : Bool → KasT α} : i < n → j < n → (∀ b, KAll n R (k b)) → KAll n R (.ask i j k)
theorem KAll.bind {n : Nat} {α β : Type} {R : α → Prop} {S : β → Prop} {f : α → KasT β} {t : KasT α} (h : KAll n R t) (k : ∀ a, R a → KAll n S (f a)) : KAll n S (t.bind f) := by
 induction h with
 | ret r => exact k _ r
 | ask hi hj _ ih => exact .ask hi hj ih
def PlG (n : Nat) (p : Array Nat) : Prop := p.size = n ∧ ∀ x ∈ p, x < n
theorem PlG.at {n : Nat} {p : Array Nat} (h : PlG n p) (hn : 0 < n) (k : Nat) : p.getD k 0 < n := by
 rw [Array.getD_eq_getD_getElem?]
 by_cases hk : k < p.size
 · rw [Array.getElem?_eq_getElem hk]; exact h.2 _ (Array.getElem_mem hk)
 · rw [Array.getElem?_eq_none (by omega)]; exact hn
end L2
namespace L2
open PySem PySem.Spec PySem.Calls PySem.W PyProof.Rows
section
variable {prog : Program} {w : World} {A : Around} {E : Value → Shared → Prop} {s : Shared}
def IsTT (h : Heap) (v : Value) : Prop := ∃ x o q t tq tt m, v = .ref x ∧ h.get? x = some o ∧ o.cls = .type "tuple" ∧ o.data = .seq #[.str q tq, .str t tt] m
theorem IsTT.keep {h h' : Heap} {v : Value} (x : IsTT h v) (k : ∀ b o, h.get? b = some o → o.cls = .type "tuple" → h'.get? b = some o) : IsTT h' v := let ⟨a, o, q, t, tq, tt, m, e, ho, hc, r⟩ := x; ⟨a, o, q, t, tq, tt, m, e, k _ _ ho hc, hc, r⟩
end
end L2
namespace L2
open PySem PySem.Spec PyProof.Rows PySem.Calls
section
variable {X : Cx} {scope : Scope} {x y z : Str} {M : List Str} {elt iter : Expr} {ifs : List Expr} {pos p1 p2 p3 p4 : Pos} {kk : Nat} {te : TE} {wi : TI} {tc : TT}
structure CompRT3 (K : PySem.W.Frag) (J : It) (tc : TT) (te : TE) (σ : St) (H1 : Hp) (Q : VK) : Prop where
 ex : ∃ (n : Nat) (W : Nat → List V → Hp → Prop), n ≤ sizeLine ∧ W 0 [] H1 ∧ ∀ i ys H, i ≤ n → ys.length ≤ i → W i ys H →
   (J.stop i H ∧ ∀ p, H p = none → Q (.ref p) (upd H p (.lst ys))) ∨ (J.go i H ∧ i < n ∧ ∀ z H', J.yld i H z H' → ∃ (p : Addr) (a b d : V), z = .ref p ∧ SqT K H' p [a, b, d] ∧ tc (some a :: some b :: σ) H' fun c H3 => if c = true then te (some a :: some b :: σ) H3 fun z H4 => W (i + 1) (ys ++ [z]) H4 else W (i + 1) ys H3)
end
end L2
namespace L2
open PySem PySem.Spec PyProof.Rows PySem.Calls PySem.W PySem.Builtin PySem.Builtin.ObjectAttr PySem.Builtin.Getset_descriptor
structure ExcGet (K : PySem.W.Frag) (D : Addr) (f : Str) : Prop where
 ga : findIn K (.ref D) "__getattribute__" = some (some (.builtin "BaseException.__getattribute__"))
 gk : findIn K (.ref D) "__getattr__" = some none
 hd : hasDictIn K D = true
 at_ : findIn K (.ref D) f = some none
 mb : mroIn K D (.type "BaseException") = some true
section
variable {prog : Program} {w : World} {A : Around} {E : Value → Shared → Prop} {s : Shared} {K : PySem.W.Frag} {x D : Addr} {ox : Obj} {od : Obj} {name : Str} {v : Value}
def excMro : List Value → Bool
 | .ref _ :: r => excMro r
 | l => l == mroVE
structure ExcSet (K : PySem.W.Frag) (D : Addr) (f : Str) : Prop where
 sa : findIn K (.ref D) "__setattr__" = some (some (.builtin "object.__setattr__"))
 hd : hasDictIn K D = true
 at_ : findIn K (.ref D) f = some none
 mr : (clsIn K D).any (fun cd => excMro cd.mro) = true
 mo : mroIn K D (.type "object") = some true
end
end L2
namespace L2
open PySem PySem.Spec PyProof.Rows PySem.Calls PySem.W PySem.Builtin PySem.Builtin.ObjectAttr PySem.Builtin.Getset_descriptor
def excInI (K : PySem.W.Frag) (C : Addr) : Bool := match K.lookup C with
 | some ⟨.type "type", _, .cls cd, sl⟩ => (match cd.mro, sl.toList with
   | .ref C' :: bm, [_, _, _, _, some (.builtin n), _] => C' == C && n == "ValueError.__new__" && !cd.hasDel && tailIn K mroVE bm
   | _, _ => false)
 | _ => false
section
variable {prog : Program} {w : World} {A : Around} {E : Value → Shared → Prop} {s : Shared} {K : PySem.W.Frag} {C fI : Addr}
end
end L2
namespace L2
open PySem PySem.Spec PyProof.Rows PySem.Calls PySem.W PySem.Builtin PySem.Builtin.ObjectAttr PySem.Builtin.Getset_descriptor
structure BInit (K : PySem.W.Frag) (C : Addr) : Prop where
 rd : PySem.W.readsIn K C (.type "type") = true
 at_ : PySem.W.findCls K (.ref C) (.type "type") "__init__" = some (.val (.builtin "ValueError.__init__"))
 sp : PySem.W.specialIn K (.ref C) "__getattribute__" = some (some (.builtin "type.__getattribute__"))
section
variable {X : Cx} {pos apos np : Pos} {e : Expr} {es : List Expr} {t : TA} {x : Str} {C0 : Addr}
end
end L2
namespace L2
open PySem PySem.Spec PyProof.Rows PySem.Calls PySem.W PySem.Builtin
section
variable {X : Cx} {pins : List (Addr × Obj)} {σ : St} {H : Hp} {s : Shared} {o value : Expr} {f : Str} {pos pos' : Pos} {ta tv : TE}
end
section
variable {P : Program} {w : World} {K : PySem.W.Frag} {mg : Str → Option Value} {base : Heap} {N : List Str} {qual : Str} {scope : Scope} {f : Addr} {cdv : Value} {A : Around} {outer : List Env} {s : Shared} {H : Hp} {E : XK}
end
end L2
namespace L2
open PySem PySem.Spec PyProof.Rows PySem.Calls PySem.W PySem.Builtin
section
variable {P : Program} {w : World} {K : PySem.W.Frag} {mg : Str → Option Value} {base : Heap} {N : List Str} {qual : Str} {scope : Scope} {f : Addr} {cdv : Value} {A : Around} {outer : List Env} {s : Shared} {H : Hp} {E : XK}
structure MkX (K : PySem.W.Frag) (C f : Addr) : Prop where
 ex : excInI K C = true
 init : PySem.W.findIn K (.ref C) "__init__" = some (some (.ref f))
 fn : PySem.W.isFn K (.ref f) = true
 kp : PySem.W.keepIn K (.ref C) = true
end
end L2
namespace L2
open PySem PySem.Spec PyProof.Rows PySem.Calls
section
variable {X : Cx}
variable {tg : Expr}
end
end L2
namespace L2
open PySem PySem.Spec PyProof.Rows PySem.Calls PySem.W
section
variable {K : PySem.W.Frag} {C A0 fI : Addr} {xo : Value} {xd : Option Addr} {cd cdA : ClassData} {sl : Array (Option Value)}
end
section
variable {X : Cx} {scope : Scope} {x : Str} {M : List Str} {pins : List (Addr × Obj)} {σ : St} {H₂ : Hp} {s₂ : Shared} {elt iter tg : Expr} {ifs : List Expr} {pos px : Pos} {te : TE} {wi : TI} {g : TG} {tc : TT}
end
end L2
namespace L2
open PySem PySem.Spec PyProof.Rows PySem.Calls
theorem dict_keep {prog : Program} {w : World} {h h' : Heap} {d : Addr} {kvs : List (Key × Value)} (x : h.DictOf (mixKind prog w) d kvs) (k : ∀ o, h.get? d = some o → h'.get? d = some o) : h'.DictOf (mixKind prog w) d kvs :=
 let ⟨o, es, ep, ho, r⟩ := x; ⟨o, es, ep, k o ho, r⟩
theorem dict_loop {prog : Program} {w : World} {A : Around} {R : Result → Shared → Prop} {d it l : Addr} {items : Array Value} {rows : List (Key × Value)} {res : Value}
   (hdi : d ≠ it) (hdl : d ≠ l) (hil : it ≠ l) (hand : A.handled = none) (hlen : items.size = rows.length) (hz : rows.length ≤ sizeLine) :
   ∀ (k i : Nat) (s : Shared), items.size - i = k → i ≤ items.size → s.heap.IsListIter it l i → s.heap.IsList l items →
     (∀ (j : Nat) (x : Value) (kv : Key × Value), items[j]? = some x → rows[j]? = some kv → ∃ t u, x = .ref t ∧ IsTup s.heap t #[u, kv.2] ∧ (mixKind prog w).is kv.1 u = true ∧ t ≠ d ∧ t ≠ it) →
     s.heap.DictOf (mixKind prog w) d (merged [] (rows.take i)) →
     (∀ h' tk, (∀ b o, b ≠ d → b ≠ it → s.heap.get? b = some o → h'.get? b = some o) → h'.DictOf (mixKind prog w) d (merged [] rows) → R (.ok (.ret res)) { s with heap := h', toks := tk }) →
     codeAny (model prog w) A (.builtin "dict.update.loop" ⟨[.ref d, .ref it, rawInt (i : Nat), res], []⟩) R s := by
 intro k
 induction k with
 | zero =>
   intro i s hk hi hit hl hrow hd hR
   refine codeAny_builtin ent_loop ?_
   rw [Around.under_plainId (by symm)]
   unfold Builtin.«dict.update.loop»
   refine wpAny_bind (wpAny_pyNext_list_end hand hit hl (by rw [Array.getElem?_eq_none]; omega) fun h2 x2 => ?_)
   show wpAny _ _ (Builtin.Dict.addKeywords d [] >>= _) _ _ _
   refine wpAny_bind (wpAny_pure (wpAny_pure (hR h2 s.toks (fun b o _ hb e => x2 b o hb e) ?_)))
   have e1 : rows.take i = rows := List.take_of_length_le (by omega)
   rw [e1] at hd
   exact dict_keep hd fun o e => x2 d o hdi e
 | succ k ih =>
   intro i s hk hi hit hl hrow hd hR
   have hlt : i < items.size := by omega
   obtain ⟨x, hx⟩ : ∃ x, items[i]? = some x := ⟨_, Array.getElem?_eq_getElem hlt⟩
   obtain ⟨kv, hkv⟩ : ∃ kv, rows[i]? = some kv := ⟨_, List.getElem?_eq_getElem (by omega)⟩
   obtain ⟨t, u, rfl, ht, hu, htd, hti⟩ := hrow i x kv hx hkv
   refine codeAny_builtin ent_loop ?_
   rw [Around.under_plainId (by symm)]
   unfold Builtin.«dict.update.loop»
   refine wpAny_bind (wpAny_pyNext_list_item hit hl hx fun h1 it1 sb1 => ?_)
   obtain ⟨ot, hot, hct, nt, hdt⟩ := id ht
   have hot1 : h1.get? t = some ot := (sb1.2 t hti).trans hot
   show wpAny _ _ (holding [Value.ref t] _ >>= _) _ _ _
   refine wpAny_bind (wpAny_holding ?_)
   refine wpAny_bind (wpAny_tryCatch ?_)
   unfold Builtin.Dict.pairItems
   refine wpAny_bind (wpAny_typeOf (T := "tuple") ⟨_, hot1, hct⟩ ?_)
   rw [if_pos (by decide)]
   refine wpAny_bind (wpAny_seqItems hot1 hdt ?_)
   refine wpAny_pure ?_
   show wpAny _ _ (holding [u, kv.2] (dictSet d u kv.2)) _ _ _
   have hle : (merged ([] : List (Key × Value)) (rows.take i)).length ≤ sizeLine := by
     have e1 := merged_length_le ([] : List (Key × Value)) (rows.take i)
     have e2 := List.length_take_le i rows
     have e3 : ([] : List (Key × Value)).length = 0 := rfl
     have e4 : (rows.take i).length ≤ rows.length := List.length_take_le' i rows
     omega
   refine wpAny_holding (wpAny_dictSet_pairs (s := { s with heap := h1 }) (kvs := merged [] (rows.take i)) hu (dict_keep hd fun o e => (sb1.2 d hdi).trans e) (fun h2 d2 sb2 => ?_) hle)
   refine wpAny_pure ⟨plainId_quiet (by symm) _, ?_⟩
   have hk2 : ∀ b o, b ≠ d → b ≠ it → s.heap.get? b = some o → h2.get? b = some o := fun b o n1 n2 e => (sb2.2 b n1).trans ((sb1.2 b n2).trans e)
   refine ih (i + 1) _ (by omega) hlt ?_ ?_ ?_ ?_ ?_
   · obtain ⟨oi, hoi, r⟩ := it1
     exact ⟨oi, (sb2.2 it (Ne.symm hdi)).trans hoi, r⟩
   · obtain ⟨ol, hol, r⟩ := hl
     exact ⟨ol, hk2 l _ (Ne.symm hdl) (Ne.symm hil) hol, r⟩
   · intro j x kv hx hkv
     obtain ⟨t, u, e, ⟨o, ho, r⟩, hu, n1, n2⟩ := hrow j x kv hx hkv
     exact ⟨t, u, e, ⟨o, hk2 t _ n1 n2 ho, r⟩, hu, n1, n2⟩
   · rw [merged_take_succ _ _ _ _ hkv]; exact d2
   · intro h' tk hk' hd'
     exact hR h' tk (fun b o n1 n2 e => hk' b o n1 n2 (hk2 b o n1 n2 e)) hd'
abbrev mkD (rows : List (Key × V)) : List (Key × V) := mergeK [] rows
def PrR (H : Hp) (x : V) (kv : Key × V) : Prop := ∃ a, x = .ref a ∧ H a = some (.tup [kV kv.1, kv.2])
theorem rows_of {P : Program} {w : World} {H : Hp} {h : Heap} (ok : HOk P w H h) : ∀ {ts : List V} {rows : List (Key × V)} {its : List Value}, Paired (PrR H) ts rows → Vals ts its →
   ∃ vs : List (Key × Value), KV rows vs ∧ ∀ (j : Nat) (x : Value) (kv : Key × Value), its[j]? = some x → vs[j]? = some kv → ∃ t u, x = .ref t ∧ (∃ ys, H t = some (.tup ys)) ∧ IsTup h t #[u, kv.2] ∧ (mixKind P w).is kv.1 u = true
 | _, _, _, .nil, .nil => ⟨[], .nil, fun j x kv e => by simp at e⟩
 | _, _, _, .cons r rs, .cons q qs => by
   obtain ⟨vs, hv, h2⟩ := rows_of ok rs qs
   obtain ⟨a, rfl, ha⟩ := r
   cases q
   obtain ⟨_, us, ru, ht⟩ := (show ObjOk P w H h a (.tup _) from ok a _ ha)
   cases ru with
   | cons r1 ru =>
     cases ru with
     | cons r2 ru =>
       cases ru
       refine ⟨(_, _) :: vs, .cons ⟨rfl, r2⟩ hv, fun j x kv e1 e2 => ?_⟩
       cases j with
       | zero =>
         cases e1; cases e2
         exact ⟨a, _, rfl, ⟨_, ha⟩, ht, kV_is r1⟩
       | succ j => exact h2 j x kv e1 e2
theorem call_dict_pairs {X : Cx} (hc : X.calm = true) : CallR X (.type "dict") (fun xs H Q => ∃ p ts rows, xs = [.ref p] ∧ H p = some (.lst ts) ∧ Paired (PrR H) ts rows ∧ ∀ d, H d = none → Q (.ref d) (upd H d (.dK (mkD rows)))) := by
 intro pins s σ H xs us Q I r h
 obtain ⟨p, ts, rows, rfl, hp, hrw, q⟩ := h
 obtain ⟨u, rfl, ru⟩ := r.one
 cases ru
 obtain ⟨hz, its, n, rv, ho⟩ := (show ObjOk X.prog X.w H s.heap p (.lst ts) from I.hok p _ hp)
 obtain ⟨vs, hv, hrow⟩ := rows_of I.hok hrw rv
 have big := I.big
 have hand : X.A.handled = none := I.ok.hd hc
 have elen : its.length = vs.length := by rw [← rv.length, ← hv.length]; exact Paired.length hrw
 have hpl := Heap.lt_size ho
 refine callType_codes (Q₁ := fun obj s₁ => obj = .ref s.heap.objs.size ∧ s₁ = { s with heap := s.heap.push { cls := .type "dict", data := .dict #[] } }) PySem.F.kt_called_dict (PySem.F.kt_typeCall_dict_1 _) PySem.F.entry_dict_init (kt_code_dict_new _ ⟨rfl, rfl⟩) ?_
 rintro obj s₁ ⟨rfl, rfl⟩
 have new : (s.heap.push { cls := .type "dict", data := .dict #[] }).DictOf (mixKind X.prog X.w) s.heap.objs.size [] := Heap.DictOf.new s.heap
 refine ⟨new.typeIs, PySem.F.args_dict_init_2 _ _, ?_⟩
 unfold Builtin.«dict.__init__» Builtin.Dict.selfAndRest
 refine wpAny_bind (wpAny_bind (wpAny_notOrdered_dict new.typeIs ?_))
 show wpAny _ _ (pure (s.heap.objs.size, [Value.ref p])) _ _ _
 refine wpAny_pure ?_
 show wpAny _ _ (Builtin.Dict.updateFrom "dict.__init__" _ (.ref p) [] .none) _ _ _
 unfold Builtin.Dict.updateFrom
 have ho1 := Heap.get?_push_of_some { cls := .type "dict", data := .dict #[] } ho
 refine wpAny_bind (wpAny_typeOf (T := "list") ⟨_, ho1, rfl⟩ ?_)
 rw [if_pos (by decide)]
 refine wpAny_bind (ask_keys ho1 (show X.A.in1.in1.handled = none from hand) fun h1 tk1 e1 x1 => ?_)
 rw [if_pos (by rfl)]
 have ho2 := x1.keeps _ _ ho1
 have hl2 : h1.IsList p its.toArray := ⟨_, ho2, rfl, n, rfl⟩
 refine wpAny_bind (wpAny_rule (wpAny_bind (wpAny_pyIter_list (s := { s with heap := h1, toks := tk1 }) hl2 ?_)))
 have hsz1 : s.heap.objs.size < h1.objs.size := by
   obtain ⟨o, _, _, ho, _⟩ := id new
   exact Heap.lt_size (x1.keeps _ _ ho)
 have kk : ∀ b o, s.heap.get? b = some o → (h1.push { cls := .type "list_iterator", data := .fields #[.ref p, .int 0 0] }).get? b = some o := fun b o e => Heap.get?_push_of_some _ (x1.keeps b o (Heap.get?_push_of_some _ e))
 refine wpAny_pure ⟨plainId_quiet (by symm) _, ?_⟩
 refine dict_loop (rows := vs) (l := p) (items := its.toArray) (Nat.ne_of_lt hsz1) (Nat.ne_of_gt hpl) (Nat.ne_of_gt (Nat.lt_trans hpl hsz1)) (by first | exact hand | (rw [Around.under_plainId (by symm)]; exact hand)) (by simpa using elen) (by rw [← elen, ← rv.length]; exact hz) _ 0 _ rfl (Nat.zero_le _) ?_ ?_ ?_ ?_ ?_
 · exact ⟨_, Heap.get?_push_size _ rfl, rfl, rfl⟩
 · exact ⟨_, kk _ _ ho, rfl, n, rfl⟩
 · intro j x kv e1 e2
   obtain ⟨t, u, ex, ⟨ys, hys⟩, ⟨o, hot, r⟩, hu⟩ := hrow j x kv (by simpa using e1) e2
   have ht := Heap.lt_size hot
   exact ⟨t, u, ex, ⟨o, kk _ _ hot, r⟩, hu, Nat.ne_of_lt ht, Nat.ne_of_lt (Nat.lt_trans ht hsz1)⟩
 · exact dict_keep new fun o e => Heap.get?_push_of_some _ (x1.keeps _ _ e)
 · intro h' tk hk' hd'
   refine ⟨rfl, .ref s.heap.objs.size, _, I.laid (a := s.heap.objs.size) (o := .dK (mkD rows)) (h' := h') (t' := tk) (fun b o e => ?_) (Nat.le_refl _) ⟨?_, beq_eq_false_iff_ne.mpr (Ne.symm (Nat.ne_of_lt big)), _, KV.merge hv .nil, hd'⟩, rfl, q _ (I.hok.fresh (Nat.le_refl _))⟩
   · have hb := Heap.lt_size e
     exact hk' b o (Nat.ne_of_lt hb) (Nat.ne_of_lt (Nat.lt_trans hb hsz1)) (kk b o e)
   · refine Nat.le_trans (length_mergeK rows []) ?_
     rw [List.length_nil, Nat.zero_add, hv.length, ← elen, ← rv.length]; exact hz
section
variable {X : Cx} {o : Expr} {to : TE} {apos cpos tp : Pos} {elts : List Expr} {x1 : Nat}
end
end L2
namespace L2
open PySem PySem.Spec PyProof.Rows PySem.Calls
section
variable {X : Cx}
theorem call_rangeV : CallR X (.type "range") (fun xs H Q => ∃ n : Nat, xs = [.int n] ∧ ∀ p, H p = none → Q (.ref p) (upd H p (.rng 0 n))) := by
 intro pins s σ H xs us Q I r h
 obtain ⟨n, rfl, q⟩ := h
 obtain ⟨u, rfl, t, rfl⟩ := vals1 r
 refine call_range_1 ?_
 exact ⟨.ref s.heap.objs.size, _, I.laid (o := .rng 0 n) (fun b o e => Heap.get?_push_of_some _ e) (Nat.le_refl _) ⟨_, _, _, Heap.get?_push_size _ rfl⟩, rfl, q _ (I.hok.fresh (Nat.le_refl _))⟩
end
theorem comp_enumT {K : PySem.W.Frag} {a : Addr} {xs : List V} {tc : TT} {te : TE} {σ : St} {H : Hp} {Q : VK} (hz : xs.length ≤ sizeLine) (W : Nat → List V → Hp → Prop) (h0 : W 0 [] H) (hq : ∀ i ys H, W i ys H → SqL K H a xs)
   (hs : ∀ i x ys H, xs[i]? = some x → ys.length ≤ i → W i ys H → ∀ T, H T = none → tc (some (.int i) :: some x :: σ) (upd H T (.tup [.int i, x])) fun c H3 => if c = true then te (some (.int i) :: some x :: σ) H3 fun z H4 => W (i + 1) (ys ++ [z]) H4 else W (i + 1) ys H3)
   (hd : ∀ ys H, W xs.length ys H → ∀ p, H p = none → Q (.ref p) (upd H p (.lst ys))) : CompRT K (Ite K a) tc te σ H Q := by
 refine ⟨xs.length, W, hz, h0, fun i ys H hi hl hw => ?_⟩
 have q := hq i ys H hw
 by_cases hlt : i < xs.length
 · refine .inr ⟨⟨xs, xs[i], q, by simp [hlt]⟩, hlt, fun v H' y => ?_⟩
   obtain ⟨T, x, rfl, hT, rfl, e⟩ := y
   exact ⟨T, _, _, rfl, SqT.of zB, hs i x ys H (e xs q) hl hw T hT⟩
 · have e : i = xs.length := by omega
   subst e
   exact .inl ⟨⟨xs, q, Nat.le_refl _⟩, hd ys H hw⟩
theorem PS.nox {X : Cx} {st : Stmt} {t : TS} (h : PS X.nox st t) : PS X st t := fun pins s σ H D I hw =>
 wpAny_mono (h pins s σ H D (I.wish _) hw) (fun _ _ q => q.unwish) fun _ _ z => False.elim z
end L2
namespace L2
open PySem PySem.Spec PyProof.Rows PySem.Calls
section
variable {M : Model} {A : Around} {E : Value → Shared → Prop} {s : Shared}
end
section
variable {P : Program} {w : World} {K : PySem.W.Frag} {mg : Str → Option Value} {base : Heap} {N : List Str} {qual : Str} {scope : Scope} {f : Addr} {cdv : Value} {A : Around} {outer : List Env} {s : Shared} {H : Hp} {E : XK}
end
section
variable {P : Program} {w : World} {K : PySem.W.Frag} {mg : Str → Option Value} {base : Heap}
end
end L2
namespace L2
open PySem PySem.Spec PyProof.Rows PySem.Calls
end L2
namespace L2
open PySem PySem.Spec PyProof.Rows PySem.Calls
end L2
namespace L2
open PySem PySem.Spec PyProof.Rows PySem.Calls
section
variable {P : Program} {w : World} {H : Hp} {h : Heap} {a : Addr} {kvs : List (Option Key × V)}
end
def backV : Value → V
 | .none => .non
 | .bool b => .bl b
 | .int i _ => .int i
 | .str x _ => .str x
 | .bytes b _ => .byt b
 | .float b _ => .flt b
 | .ref a => .ref a
 | .type n => .ty n
 | _ => .non
theorem RelV.back {x : V} {v : Value} (r : RelV x v) : x = backV v := by
 cases x with
 | non => cases (show v = Value.none from r); rfl
 | bl b => cases (show v = Value.bool b from r); rfl
 | int i => obtain ⟨t, rfl⟩ := r; rfl
 | str i => obtain ⟨t, rfl⟩ := r; rfl
 | byt i => obtain ⟨t, rfl⟩ := r; rfl
 | flt i => obtain ⟨t, rfl⟩ := r; rfl
 | ref i => cases (show v = Value.ref i from r); rfl
 | ty i => cases (show v = Value.type i from r); rfl
section
variable {X : Cx} {pos : Pos}
end
section
variable {X : Cx} {o : Expr} {to : TE} {apos cpos tp : Pos} {elts : List Expr} {x1 : Nat}
end
section
variable {P : Program} {w : World} {a : Addr} {o : Obj} {kvs : List (Option Key × V)} {σ : St} {H : Hp}
end
section
variable {X : Cx} {tg : Expr}
end
end L2
namespace L2
open PySem PySem.Spec PySem.Calls PySem.W PyProof.Rows
section
variable {X : Cx} {pos : Pos} {P : Program} {w : World}
end
section
variable {X : Cx} {CX : CXT} {k : Nat} {E : XK} {m : Str} {pos apos : Pos} {o : Expr} {ta : TE} {P : Program} {w : World} {K : PySem.W.Frag} {mg : Str → Option Value} {base : Heap}
end
end L2
namespace L2
open PySem PySem.Spec PyProof.Rows PySem.Calls
def Itv (K : PySem.W.Frag) (a : Addr) (n : Nat) : It :=
 ⟨fun i H => ∃ xs, SqL K H a xs ∧ xs.length = n ∧ i < n, fun i H x H' => H' = H ∧ ∀ xs, SqL K H a xs → xs[n - 1 - i]? = some x, fun i H => ∃ xs, SqL K H a xs ∧ xs.length = n ∧ n ≤ i⟩
theorem turn_rev {P : Program} {w : World} {K : PySem.W.Frag} {tg : Expr} {it a : Addr} {n : Nat} : Turn P w K tg (Itv K a n) [it] it (fun i h => h.IsRevIter it a ((n : Int) - 1 - (i : Int)) ∧ i ≤ n) where
 mem := by simp
 obj := fun i h st b hb => by
   have e : b = it := by simpa using hb
   subst e
   obtain ⟨⟨o, q, c, d⟩, _⟩ := st
   exact ⟨o, q, fun v z => by rw [d] at z; cases z⟩
 keep := fun i h h' st k => ⟨st.1.at fun o q => k it (by simp) o q, st.2⟩
 item := by
   intro X hP hw hK hc i pins s σ H E I hf st hg
   subst hP hw hK
   obtain ⟨xs, hq, hn, hi⟩ := hg
   obtain ⟨hit, hle⟩ := st
   obtain ⟨its, rv, p, hz⟩ := I.list hq
   have e : (n : Int) - 1 - (i : Int) = ((n - 1 - i : Nat) : Int) := by omega
   rw [e] at hit
   have hx : xs[n - 1 - i]? = some (xs[n - 1 - i]'(by omega)) := List.getElem?_eq_getElem _
   obtain ⟨u, hu, ru⟩ := rv.get hx
   obtain ⟨f0, f1, f2, f3, f4, f5⟩ := hf it (by simp)
   refine wpAny_pyNext_rev_item hit p.isList (x := u) (by simpa using hu) fun h' st' sb => ?_
   have I1 : Inv X pins σ H { s with heap := h' } := I.turned (t' := s.toks) (fun b o hb e => (sb.2 b hb).trans e) f0 f1 f3 f4 f5
   obtain ⟨o, q, c, d⟩ := id st'
   have e2 : ((n - 1 - i : Nat) : Int) - 1 = (n : Int) - 1 - ((i + 1 : Nat) : Int) := by omega
   rw [e2] at st'
   exact ⟨_, rfl, go_of (s := { s with heap := h' }) q c d (by decide) ⟨_, H, I1, ru, ⟨rfl, fun zs hzs => by rw [I.list_inj hzs hq]; exact hx⟩, ⟨st', hi⟩, fun b hb => (hf b hb).1⟩⟩
 done := by
   intro X hP hw hK hc i pins s σ H E I hf st hg
   subst hP hw hK
   obtain ⟨xs, hq, hn, hi⟩ := hg
   obtain ⟨hit, hle⟩ := st
   have e : (n : Int) - 1 - (i : Int) = -1 := by omega
   rw [e] at hit
   obtain ⟨f0, f1, f2, f3, f4, f5⟩ := hf it (by simp)
   exact wpAny_pyNext_rev_end (I.ok.hd hc) hit fun h' eb => ⟨rfl, I.turned (t' := s.toks) (fun b o hb e => eb b o hb e) f0 f1 f3 f4 f5⟩
 self := fun _ _ _ _ _ st h => wpAny_pyIter_revIter st.1 h
section
variable {X : Cx} {ea tg : Expr} {t : TA} {p pos : Pos}
def iRev (K : PySem.W.Frag) (t : TA) : TI := fun σ H R => t σ H fun vs H1 => ∃ a xs, vs = [.ref a] ∧ SqL K H1 a xs ∧ R (Itv K a xs.length) H1
theorem boot_rev : bootBuiltins "reversed" = some (.type "reversed") := by symm
theorem pi_rev (hg : Gl X "reversed") (hm : X.mg "reversed" = none) (ha : PA X [ea] t) (hs : starEach [ea] X.env = [(false, eval ea X.env)] := by rfl) :
   PI X tg (.Call (.Name "reversed" p) [ea] [] pos) (iRev X.K t) := by
 intro pins s σ H R I h
 refine Call_ (ld_blt I hg hm boot_rev (PyProof.Rows.callWith_type1 (thn (ha pos pins s σ H _ I h) fun us s1 ⟨vs, H1, I1, r1, q1⟩ => ?_) (by rw [hs]; rfl) (by rfl)))
 obtain ⟨a, xs, e, hq, q⟩ := q1
 subst e
 cases r1 with
 | cons r rr =>
   cases rr
   cases r
   obtain ⟨its, rv, pl, hz⟩ := I1.list hq
   refine call_reversed_list pl.isList ?_
   have e1 : ((its.toArray.size : Nat) : Int) - 1 = ((xs.length : Nat) : Int) - 1 - ((0 : Nat) : Int) := by
     have := rv.length
     rw [List.size_toArray]; omega
   rw [e1]
   have hit : Heap.IsRevIter (s1.heap.push (revObj a (((xs.length : Nat) : Int) - 1 - ((0 : Nat) : Int)))) s1.heap.objs.size a (((xs.length : Nat) : Int) - 1 - ((0 : Nat) : Int)) := ⟨_, Heap.get?_push_size _ rfl, rfl, rfl⟩
   refine wpAny_pyIter_revIter (s := { s1 with heap := _ }) hit ?_
   refine ⟨_, [s1.heap.objs.size], _, _, H1, rfl, I1.kept (t' := s1.toks) (fun b o e => Heap.get?_push_of_some _ e), turn_rev, ⟨hit, Nat.zero_le _⟩, fun b hb => ?_, q⟩
   have e : b = s1.heap.objs.size := by simpa using hb
   subst e
   exact I1.fpOk (Nat.le_refl _) (I1.hok.fresh (Nat.le_refl _))
end
theorem for_revR {K : PySem.W.Frag} {a : Addr} {xs : List V} {g : TG} {tb : TS} {D : Ends} {σ : St} {H : Hp} (Pv : Nat → St → Hp → Prop) (h0 : Pv 0 σ H) (hl : ∀ i σ H, i ≤ xs.length → Pv i σ H → SqL K H a xs)
   (hs : ∀ i x σ H, i < xs.length → xs[xs.length - 1 - i]? = some x → Pv i σ H → g x σ H fun σ2 H2 => tb { D with nx := Pv (i + 1), ct := Pv (i + 1), bk := D.nx } σ2 H2) (hd : ∀ σ H, Pv xs.length σ H → D.nx σ H) : ForR (Itv K a xs.length) g tb D σ H := by
 refine ⟨fun i m σ H => i ≤ xs.length ∧ m = xs.length - i ∧ Pv i σ H, ⟨_, Nat.zero_le _, rfl, h0⟩, fun i m σ H ⟨hi, hm, hp⟩ => ?_⟩
 have q1 := hl i σ H hi hp
 by_cases c : i = xs.length
 · subst c
   exact .inl ⟨⟨xs, q1, rfl, Nat.le_refl _⟩, hd σ H hp⟩
 · have hlt : i < xs.length := by omega
   refine .inr ⟨⟨xs, q1, rfl, hlt⟩, Pv (i + 1), fun σ' H' hn => ⟨xs.length - (i + 1), by omega, by omega, rfl, hn⟩, fun z H' hz => ?_⟩
   obtain ⟨rfl, e1⟩ := hz
   exact hs i z σ _ hlt (e1 xs q1) hp
def TabI (K : PySem.W.Frag) (a : Addr) (D : List (Str × Int)) : Prop :=
 (a == sysModules) = false ∧ ∃ o es ep, K.lookup a = some o ∧ o.ExactDict ∧ o.data = .dict es ep ∧ KTD.Rows (fun (n : Int) (v : Value) => ∃ t, v = .int n t) es.toList D
theorem tabI_mk {K : PySem.W.Frag} {a : Addr} {oc : Value} {od : Option Addr} {es : Array DictEntry} {ep : Nat} {sl : Array (Option Value)} {D : List (Str × Int)} (h : K.lookup a = some ⟨oc, od, .dict es ep, sl⟩) (hs : (a == sysModules) = false) (hc : oc = .type "dict") (hd : od = none) (hsl : sl = #[]) (hr : KTD.Rows (fun (n : Int) (v : Value) => ∃ t, v = .int n t) es.toList D) : TabI K a D := by
 subst hc hd hsl
 exact ⟨hs, _, es, ep, h, ⟨rfl, rfl, rfl⟩, rfl, hr⟩
theorem datum_lookI (z : Str) : ∀ D : List (Str × Int), KTD.datumAt z (D.map fun p => (p.1, KTD.Dat.flat (.int p.2))) = (D.lookup z).map fun b => KTD.Dat.flat (.int b)
 | [] => rfl
 | (x, b) :: D => by
   show (if decide (z = x) = true then some (KTD.Dat.flat (.int b)) else KTD.datumAt z (D.map fun p => (p.1, KTD.Dat.flat (.int p.2)))) = _
   rw [datum_lookI z D, List.lookup_cons]
   by_cases h : z = x
   · subst h; rw [if_pos (decide_eq_true rfl), beq_self_eq_true]; rfl
   · rw [if_neg (by simpa using h), beq_eq_false_iff_ne.mpr h]
section
variable {X : Cx}
theorem pe_gsub {x : Str} {a : Addr} {D : List (Str × Int)} {e : Expr} {te : TE} {np pos : Pos} (hg : Gl X x) (hm : X.mg x = some (.ref a)) (hT : TabI X.K a D) (he : PE X e te) (hs : NoSl e) (hdb : (x == ("__debug__" : Str)) = false := by decide) :
   PE X (.Subscript (.Name x np) e pos) (fun σ H Q => te σ H fun v H1 => ∃ z n, v = .str z ∧ D.lookup z = some n ∧ Q (.int n) H1) := by
 intro pins s σ H Q I h
 obtain ⟨lo, o, es, ep, lk, hc, hd, hr⟩ := hT
 have T0 : KTD.TextTab X.base a (D.map fun p => (p.1, KTD.Dat.flat (.int p.2))) :=
   ⟨lo, o, es, ep, I.ok.mod.kin _ _ lk, hc, hd, hr.mono (f := fun b => KTD.Dat.flat (.int b)) fun d v e => by obtain ⟨t, e⟩ := e; subst e; exact PyProof.V.Flat.int d t⟩
 have T : ∀ {pins : List (Addr × Obj)} {σ : St} {H : Hp} {s : Shared}, Inv X pins σ H s → KTD.Here X.base s.heap a (D.map fun p => (p.1, KTD.Dat.flat (.int p.2))) := fun I => ⟨T0, I.bk⟩
 refine subD_of PySem.F.slot_dict_getitem.lookup hs (ld_glob I hg hm (thn (he pins s σ H _ I h) fun iv s2 ⟨y, H2, I2, ry, z, n, ez, hl, q2⟩ => ?_) hdb)
 subst ez
 obtain ⟨t, rfl⟩ := ry
 refine ⟨(T I2).typeIs, ?_⟩
 unfold getItem
 try with_reducible refine wpAny_holding ?_
 refine wpAny_bind (wpAny_sequenceKey (T I2).typeIs (by decide) ?_)
 refine wpAny_bind (wpAny_callSpecial?_slot (name := Str.ofString "__getitem__") (T I2).typeIs PySem.F.slot_dict_getitem
   (wpAny_call_entry PySem.F.slot_dict_getitem (T I2).typeIs PySem.F.entry_dict_getitem ?_ (PySem.F.args_dict_getitem_2 _ _)))
 show wpAny _ _ (dictGet a (.str z t) >>= _) _ _ s2
 refine wpAny_bind (KTD.dictGet_text (T I2) (fun d v ha hv => wpAny_pure ⟨v, rfl, wpAny_pure ?_⟩) fun hn => ?_)
 · rw [datum_lookI, hl] at ha
   cases ha
   obtain ⟨t', hv'⟩ := PyProof.V.Flat.int_inv hv
   subst hv'
   exact ⟨.int n, H2, I2.tok _, ⟨t', rfl⟩, q2⟩
 · rw [datum_lookI, hl] at hn
   cases hn
theorem op_notIn_rng : OpR X (compareOp .NotIn) (fun x y H Q => ∃ (i : Int) (p : Addr) (n : Nat), x = .int i ∧ y = .ref p ∧ H p = some (.rng 0 n) ∧ Q (.bl (!decide (0 ≤ i ∧ i < n))) H) := by
 intro pins s σ H x y v u Q I rx ry h
 obtain ⟨i, p, n, rfl, rfl, hp, q⟩ := h
 obtain ⟨t, rfl⟩ := rx
 cases ry
 obtain ⟨t0, u0, v0, hr⟩ := (show ObjOk X.prog X.w H s.heap p (.rng 0 n) from I.hok p _ hp)
 have ty : s.TypeIs (.ref p) "range" := ⟨_, hr, rfl⟩
 show wpAny _ _ (do return Value.bool (!(← contains (.ref p) (.int i t)))) _ _ s
 refine wpAny_bind ?_
 unfold contains
 try with_reducible refine wpAny_holding ?_
 refine wpAny_bind (wpAny_specialOf ty PySem.F.slot_range_contains.lookup ?_)
 show wpAny _ _ (if (some (Value.builtin "range.__contains__") == some Value.none) = true then _ else _) _ _ s
 rw [if_neg (by decide)]
 refine wpAny_bind (wpAny_callSpecialUnlessNone?_slot (name := Str.ofString "__contains__") ty PySem.F.slot_range_contains
   (wpAny_call_entry PySem.F.slot_range_contains ty PySem.F.entry_range_contains ?_ (PySem.F.args_range_contains_2 _ _)))
 unfold Builtin.«range.__contains__»
 refine wpAny_bind (wpAny_of_eq (a := (Value.ref p, [Value.int i t])) rfl ?_)
 show wpAny _ _ (rule "range.contains.reckoned" >>= _) _ _ _
 refine wpAny_bind (wpAny_rule ?_)
 refine wpAny_bind ?_
 unfold Builtin.Range.rangeFields
 refine wpAny_bind (wpAny_field hr rfl (x := .int 0 t0) rfl ?_)
 refine wpAny_bind (wpAny_of_eq (a := some (0 : Int)) rfl ?_)
 refine wpAny_bind (wpAny_field hr rfl (x := .int n u0) rfl ?_)
 refine wpAny_bind (wpAny_of_eq (a := some ((n : Nat) : Int)) rfl ?_)
 refine wpAny_bind (wpAny_field hr rfl (x := .int 1 v0) rfl ?_)
 refine wpAny_bind (wpAny_of_eq (a := some (1 : Int)) rfl ?_)
 refine wpAny_pure (wpAny_pure ⟨_, rfl, wpAny_truthy_bool (wpAny_pure ⟨.bl _, H, I, rfl, ?_⟩)⟩)
 have e : (Builtin.Range.rangePlace? 0 ((n : Nat) : Int) 1 i).isSome = decide (0 ≤ i ∧ i < n) := by
   unfold Builtin.Range.rangePlace?
   by_cases c : 0 ≤ i ∧ i < n
   · rw [decide_eq_true c]
     have h1 : (i - 0) % 1 = 0 := Int.emod_one _
     simp [c.1, c.2]
   · rw [decide_eq_false c]
     simp
     intro h1
     omega
 rw [e]
 exact q
theorem sl_tup3 : SlR X (fun x lo hi H Q => ∃ a xs, x = .ref a ∧ SqT X.K H a xs ∧ ((HT.sIx xs.length 0 lo = 0 ∧ HT.sIx xs.length xs.length hi = xs.length) ∧ Q (.ref a) H ∨ ¬ (HT.sIx xs.length 0 lo = 0 ∧ HT.sIx xs.length xs.length hi = xs.length) ∧ ∀ p, H p = none → Q (.ref p) (upd H p (.tup (cutV xs lo hi))))) := by
 intro pins s σ H x v vl vu lo hi sl Q I rx hs pl pu h
 obtain ⟨a, xs, rfl, hx, q⟩ := h
 rcases q with ⟨hw, q⟩ | ⟨hw, q⟩
 · cases rx
   obtain ⟨its, r, ht, hz⟩ := I.tuple hx
   have hlen : its.toArray.size = xs.length := by rw [List.size_toArray]; exact r.length.symm
   refine ⟨"tuple", _, PyProof.Rows.slot_tuple_getitem.lookup, ht.typeIs, ?_⟩
   exact HT.getItem_tuple_whole ht hs pl pu (by rw [hlen]; exact hw) ⟨.ref a, H, I, rfl, q⟩
 · exact sl_tup pins s σ H (.ref a) v vl vu lo hi sl Q I rx hs pl pu ⟨a, xs, rfl, hx, hw, q⟩
end
end L2
namespace K71
open PySem L2
def top (i : Nat) : Stmt := PySem.Challenge.pw_askpaper_k71_pages_of_plain_papers.main.body.getD i (.Pass ⟨0, 0, 0, 0⟩)
abbrev s_is_whole : Stmt := top 12
abbrev s_are_figures : Stmt := top 15
abbrev s_figures_worth : Stmt := top 16
abbrev s_number_of : Stmt := top 17
abbrev s_number_or_none : Stmt := top 18
abbrev s_c_Kind___init : Stmt := inClass (top 27) 0
abbrev s_c_Whole_fits : Stmt := inClass (top 29) 0
abbrev s_c_Whole_shown : Stmt := inClass (top 29) 2
abbrev s_c_Whole_rank : Stmt := inClass (top 29) 3
abbrev s_c_Whole_bounds : Stmt := inClass (top 29) 5
abbrev s_c_Whole_told : Stmt := inClass (top 29) 6
abbrev s_are_bounds : Stmt := top 33
abbrev s_whole_or_none : Stmt := top 34
abbrev s_kind_or_none : Stmt := top 38
abbrev s_kind_of : Stmt := top 39
abbrev s_c_Row___init : Stmt := inClass (top 41) 0
abbrev s_c_Ask___init : Stmt := inClass (top 42) 0
abbrev s_c_Sheet___init : Stmt := inClass (top 43) 0
abbrev s_c_Paper___init : Stmt := inClass (top 44) 0
abbrev s_kinds_of : Stmt := top 46
abbrev s_eaches_of : Stmt := top 47
abbrev s_without_leads : Stmt := top 60
abbrev s_leads_of : Stmt := top 61
abbrev s_c_PageMaker___init : Stmt := inClass (top 62) 0
abbrev s_c_PageMaker_put : Stmt := inClass (top 62) 1
abbrev s_c_PageMaker_put_saying : Stmt := inClass (top 62) 4
abbrev s_c_PageMaker_put_row : Stmt := inClass (top 62) 5
abbrev s_c_PageMaker_put_rows : Stmt := inClass (top 62) 6
abbrev s_c_PageMaker_put_sheet : Stmt := inClass (top 62) 8
abbrev s_c_PageMaker_put_all : Stmt := inClass (top 62) 9
abbrev s_reached_from : Stmt := top 63
abbrev s_pages_of : Stmt := top 64
abbrev s_c_Run___init : Stmt := inClass (top 68) 0
abbrev s_c_Run_thing_by : Stmt := inClass (top 68) 1
abbrev s_c_Run_take_ask : Stmt := inClass (top 68) 2
abbrev s_c_Run_take_page : Stmt := inClass (top 68) 7
abbrev s_run : Stmt := top 69
abbrev s_law_cell : Stmt := top 71
abbrev s_law_name : Stmt := top 72
abbrev s_law_sheets : Stmt := top 73
abbrev s_law_told : Stmt := top 74
abbrev s_law : Stmt := top 75
set_option genInjectivity false
set_option genSizeOf false
structure Adr where
 f_is_whole : Addr
 d_is_whole : FuncData
 f_are_figures : Addr
 d_are_figures : FuncData
 f_figures_worth : Addr
 d_figures_worth : FuncData
 f_number_of : Addr
 d_number_of : FuncData
 ds_number_of : List Value
 f_number_or_none : Addr
 d_number_or_none : FuncData
 f_c_Kind___init : Addr
 d_c_Kind___init : FuncData
 f_c_Whole_fits : Addr
 d_c_Whole_fits : FuncData
 f_c_Whole_shown : Addr
 d_c_Whole_shown : FuncData
 f_c_Whole_rank : Addr
 d_c_Whole_rank : FuncData
 f_c_Whole_bounds : Addr
 d_c_Whole_bounds : FuncData
 f_c_Whole_told : Addr
 d_c_Whole_told : FuncData
 f_are_bounds : Addr
 d_are_bounds : FuncData
 f_whole_or_none : Addr
 d_whole_or_none : FuncData
 f_kind_or_none : Addr
 d_kind_or_none : FuncData
 f_kind_of : Addr
 d_kind_of : FuncData
 f_c_Row___init : Addr
 d_c_Row___init : FuncData
 f_c_Ask___init : Addr
 d_c_Ask___init : FuncData
 ds_c_Ask___init : List Value
 f_c_Sheet___init : Addr
 d_c_Sheet___init : FuncData
 f_c_Paper___init : Addr
 d_c_Paper___init : FuncData
 f_kinds_of : Addr
 d_kinds_of : FuncData
 f_eaches_of : Addr
 d_eaches_of : FuncData
 f_without_leads : Addr
 d_without_leads : FuncData
 f_leads_of : Addr
 d_leads_of : FuncData
 f_c_PageMaker___init : Addr
 d_c_PageMaker___init : FuncData
 f_c_PageMaker_put : Addr
 d_c_PageMaker_put : FuncData
 f_c_PageMaker_put_saying : Addr
 d_c_PageMaker_put_saying : FuncData
 f_c_PageMaker_put_row : Addr
 d_c_PageMaker_put_row : FuncData
 f_c_PageMaker_put_rows : Addr
 d_c_PageMaker_put_rows : FuncData
 f_c_PageMaker_put_sheet : Addr
 d_c_PageMaker_put_sheet : FuncData
 f_c_PageMaker_put_all : Addr
 d_c_PageMaker_put_all : FuncData
 f_reached_from : Addr
 d_reached_from : FuncData
 f_pages_of : Addr
 d_pages_of : FuncData
 f_c_Run___init : Addr
 d_c_Run___init : FuncData
 f_c_Run_thing_by : Addr
 d_c_Run_thing_by : FuncData
 f_c_Run_take_ask : Addr
 d_c_Run_take_ask : FuncData
 f_c_Run_take_page : Addr
 d_c_Run_take_page : FuncData
 f_run : Addr
 d_run : FuncData
 f_law_cell : Addr
 d_law_cell : FuncData
 f_law_name : Addr
 d_law_name : FuncData
 f_law_sheets : Addr
 d_law_sheets : FuncData
 f_law_told : Addr
 d_law_told : FuncData
 f_law : Addr
 d_law : FuncData
 a_LEADS : Addr
 c_Ask : Addr
 c_Kind : Addr
 c_NoNumber : Addr
 c_PageMaker : Addr
 c_Paper : Addr
 c_Row : Addr
 c_Run : Addr
 c_Sheet : Addr
 c_Whole : Addr
structure Txt (K : W.Frag) (mg : Str → Option Value) (A : Adr) : Prop where
 F_is_whole : Fun K "is_whole" "is_whole" s_is_whole A.f_is_whole A.d_is_whole
 b_is_whole : Binds K A.d_is_whole ["thing"] []
 k_is_whole : W.keepIn K (.ref A.f_is_whole) = true
 m_is_whole : mg "is_whole" = some (.ref A.f_is_whole)
 F_are_figures : Fun K "are_figures" "are_figures" s_are_figures A.f_are_figures A.d_are_figures
 b_are_figures : Binds K A.d_are_figures ["text"] []
 k_are_figures : W.keepIn K (.ref A.f_are_figures) = true
 m_are_figures : mg "are_figures" = some (.ref A.f_are_figures)
 F_figures_worth : Fun K "figures_worth" "figures_worth" s_figures_worth A.f_figures_worth A.d_figures_worth
 b_figures_worth : Binds K A.d_figures_worth ["figures"] []
 k_figures_worth : W.keepIn K (.ref A.f_figures_worth) = true
 m_figures_worth : mg "figures_worth" = some (.ref A.f_figures_worth)
 F_number_of : FunD K "number_of" "number_of" s_number_of A.ds_number_of A.f_number_of A.d_number_of
 bd_number_of : Binds K A.d_number_of ["text", "most"] A.ds_number_of
 dv_number_of : Vals [(.int 60)] A.ds_number_of
 k_number_of : W.keepIn K (.ref A.f_number_of) = true
 m_number_of : mg "number_of" = some (.ref A.f_number_of)
 F_number_or_none : Fun K "number_or_none" "number_or_none" s_number_or_none A.f_number_or_none A.d_number_or_none
 b_number_or_none : Binds K A.d_number_or_none ["text"] []
 k_number_or_none : W.keepIn K (.ref A.f_number_or_none) = true
 m_number_or_none : mg "number_or_none" = some (.ref A.f_number_or_none)
 F_c_Kind___init : Fun K "__init__" "Kind.__init__" s_c_Kind___init A.f_c_Kind___init A.d_c_Kind___init
 b_c_Kind___init : Binds K A.d_c_Kind___init ["self", "low", "high"] []
 F_c_Whole_fits : Fun K "fits" "Whole.fits" s_c_Whole_fits A.f_c_Whole_fits A.d_c_Whole_fits
 b_c_Whole_fits : Binds K A.d_c_Whole_fits ["self", "thing"] []
 F_c_Whole_shown : Fun K "shown" "Whole.shown" s_c_Whole_shown A.f_c_Whole_shown A.d_c_Whole_shown
 b_c_Whole_shown : Binds K A.d_c_Whole_shown ["self", "answer"] []
 F_c_Whole_rank : Fun K "rank" "Whole.rank" s_c_Whole_rank A.f_c_Whole_rank A.d_c_Whole_rank
 b_c_Whole_rank : Binds K A.d_c_Whole_rank ["self", "answer"] []
 F_c_Whole_bounds : Fun K "bounds" "Whole.bounds" s_c_Whole_bounds A.f_c_Whole_bounds A.d_c_Whole_bounds
 b_c_Whole_bounds : Binds K A.d_c_Whole_bounds ["self"] []
 F_c_Whole_told : Fun K "told" "Whole.told" s_c_Whole_told A.f_c_Whole_told A.d_c_Whole_told
 b_c_Whole_told : Binds K A.d_c_Whole_told ["self"] []
 F_are_bounds : Fun K "are_bounds" "are_bounds" s_are_bounds A.f_are_bounds A.d_are_bounds
 b_are_bounds : Binds K A.d_are_bounds ["numbers"] []
 k_are_bounds : W.keepIn K (.ref A.f_are_bounds) = true
 m_are_bounds : mg "are_bounds" = some (.ref A.f_are_bounds)
 F_whole_or_none : Fun K "whole_or_none" "whole_or_none" s_whole_or_none A.f_whole_or_none A.d_whole_or_none
 b_whole_or_none : Binds K A.d_whole_or_none ["words"] []
 k_whole_or_none : W.keepIn K (.ref A.f_whole_or_none) = true
 m_whole_or_none : mg "whole_or_none" = some (.ref A.f_whole_or_none)
 F_kind_or_none : Fun K "kind_or_none" "kind_or_none" s_kind_or_none A.f_kind_or_none A.d_kind_or_none
 b_kind_or_none : Binds K A.d_kind_or_none ["first", "words"] []
 k_kind_or_none : W.keepIn K (.ref A.f_kind_or_none) = true
 m_kind_or_none : mg "kind_or_none" = some (.ref A.f_kind_or_none)
 F_kind_of : Fun K "kind_of" "kind_of" s_kind_of A.f_kind_of A.d_kind_of
 b_kind_of : Binds K A.d_kind_of ["text"] []
 k_kind_of : W.keepIn K (.ref A.f_kind_of) = true
 m_kind_of : mg "kind_of" = some (.ref A.f_kind_of)
 F_c_Row___init : Fun K "__init__" "Row.__init__" s_c_Row___init A.f_c_Row___init A.d_c_Row___init
 b_c_Row___init : Binds K A.d_c_Row___init ["self", "name"] []
 F_c_Ask___init : FunD K "__init__" "Ask.__init__" s_c_Ask___init A.ds_c_Ask___init A.f_c_Ask___init A.d_c_Ask___init
 bd_c_Ask___init : Binds K A.d_c_Ask___init ["self", "name", "kind", "when"] A.ds_c_Ask___init
 dv_c_Ask___init : Vals [.non] A.ds_c_Ask___init
 F_c_Sheet___init : Fun K "__init__" "Sheet.__init__" s_c_Sheet___init A.f_c_Sheet___init A.d_c_Sheet___init
 b_c_Sheet___init : Binds K A.d_c_Sheet___init ["self", "name", "each", "rows", "ways"] []
 F_c_Paper___init : Fun K "__init__" "Paper.__init__" s_c_Paper___init A.f_c_Paper___init A.d_c_Paper___init
 b_c_Paper___init : Binds K A.d_c_Paper___init ["self", "name", "sheets", "totals"] []
 F_kinds_of : Fun K "kinds_of" "kinds_of" s_kinds_of A.f_kinds_of A.d_kinds_of
 b_kinds_of : Binds K A.d_kinds_of ["paper"] []
 k_kinds_of : W.keepIn K (.ref A.f_kinds_of) = true
 m_kinds_of : mg "kinds_of" = some (.ref A.f_kinds_of)
 F_eaches_of : Fun K "eaches_of" "eaches_of" s_eaches_of A.f_eaches_of A.d_eaches_of
 b_eaches_of : Binds K A.d_eaches_of ["paper"] []
 k_eaches_of : W.keepIn K (.ref A.f_eaches_of) = true
 m_eaches_of : mg "eaches_of" = some (.ref A.f_eaches_of)
 F_without_leads : Fun K "without_leads" "without_leads" s_without_leads A.f_without_leads A.d_without_leads
 b_without_leads : Binds K A.d_without_leads ["page"] []
 k_without_leads : W.keepIn K (.ref A.f_without_leads) = true
 m_without_leads : mg "without_leads" = some (.ref A.f_without_leads)
 F_leads_of : Fun K "leads_of" "leads_of" s_leads_of A.f_leads_of A.d_leads_of
 b_leads_of : Binds K A.d_leads_of ["page"] []
 k_leads_of : W.keepIn K (.ref A.f_leads_of) = true
 m_leads_of : mg "leads_of" = some (.ref A.f_leads_of)
 F_c_PageMaker___init : Fun K "__init__" "PageMaker.__init__" s_c_PageMaker___init A.f_c_PageMaker___init A.d_c_PageMaker___init
 b_c_PageMaker___init : Binds K A.d_c_PageMaker___init ["self", "paper"] []
 F_c_PageMaker_put : Fun K "put" "PageMaker.put" s_c_PageMaker_put A.f_c_PageMaker_put A.d_c_PageMaker_put
 b_c_PageMaker_put : Binds K A.d_c_PageMaker_put ["self", "page"] []
 F_c_PageMaker_put_saying : Fun K "put_saying" "PageMaker.put_saying" s_c_PageMaker_put_saying A.f_c_PageMaker_put_saying A.d_c_PageMaker_put_saying
 b_c_PageMaker_put_saying : Binds K A.d_c_PageMaker_put_saying ["self", "saying", "yes", "no"] []
 F_c_PageMaker_put_row : Fun K "put_row" "PageMaker.put_row" s_c_PageMaker_put_row A.f_c_PageMaker_put_row A.d_c_PageMaker_put_row
 b_c_PageMaker_put_row : Binds K A.d_c_PageMaker_put_row ["self", "row", "each", "behind"] []
 F_c_PageMaker_put_rows : Fun K "put_rows" "PageMaker.put_rows" s_c_PageMaker_put_rows A.f_c_PageMaker_put_rows A.d_c_PageMaker_put_rows
 b_c_PageMaker_put_rows : Binds K A.d_c_PageMaker_put_rows ["self", "sheet", "behind"] []
 F_c_PageMaker_put_sheet : Fun K "put_sheet" "PageMaker.put_sheet" s_c_PageMaker_put_sheet A.f_c_PageMaker_put_sheet A.d_c_PageMaker_put_sheet
 b_c_PageMaker_put_sheet : Binds K A.d_c_PageMaker_put_sheet ["self", "sheet", "starts", "behind"] []
 F_c_PageMaker_put_all : Fun K "put_all" "PageMaker.put_all" s_c_PageMaker_put_all A.f_c_PageMaker_put_all A.d_c_PageMaker_put_all
 b_c_PageMaker_put_all : Binds K A.d_c_PageMaker_put_all ["self"] []
 F_reached_from : Fun K "reached_from" "reached_from" s_reached_from A.f_reached_from A.d_reached_from
 b_reached_from : Binds K A.d_reached_from ["pages", "start"] []
 k_reached_from : W.keepIn K (.ref A.f_reached_from) = true
 m_reached_from : mg "reached_from" = some (.ref A.f_reached_from)
 F_pages_of : Fun K "pages_of" "pages_of" s_pages_of A.f_pages_of A.d_pages_of
 b_pages_of : Binds K A.d_pages_of ["paper"] []
 k_pages_of : W.keepIn K (.ref A.f_pages_of) = true
 m_pages_of : mg "pages_of" = some (.ref A.f_pages_of)
 F_c_Run___init : Fun K "__init__" "Run.__init__" s_c_Run___init A.f_c_Run___init A.d_c_Run___init
 b_c_Run___init : Binds K A.d_c_Run___init ["self", "book"] []
 F_c_Run_thing_by : Fun K "thing_by" "Run.thing_by" s_c_Run_thing_by A.f_c_Run_thing_by A.d_c_Run_thing_by
 b_c_Run_thing_by : Binds K A.d_c_Run_thing_by ["self", "each"] []
 F_c_Run_take_ask : Fun K "take_ask" "Run.take_ask" s_c_Run_take_ask A.f_c_Run_take_ask A.d_c_Run_take_ask
 b_c_Run_take_ask : Binds K A.d_c_Run_take_ask ["self", "question", "kind", "each", "behind"] []
 F_c_Run_take_page : Fun K "take_page" "Run.take_page" s_c_Run_take_page A.f_c_Run_take_page A.d_c_Run_take_page
 b_c_Run_take_page : Binds K A.d_c_Run_take_page ["self", "page"] []
 F_run : Fun K "run" "run" s_run A.f_run A.d_run
 b_run : Binds K A.d_run ["pages", "book"] []
 k_run : W.keepIn K (.ref A.f_run) = true
 m_run : mg "run" = some (.ref A.f_run)
 F_law_cell : Fun K "_law_cell" "_law_cell" s_law_cell A.f_law_cell A.d_law_cell
 b_law_cell : Binds K A.d_law_cell ["_law_script", "_law_k"] []
 k_law_cell : W.keepIn K (.ref A.f_law_cell) = true
 m_law_cell : mg "_law_cell" = some (.ref A.f_law_cell)
 F_law_name : Fun K "_law_name" "_law_name" s_law_name A.f_law_name A.d_law_name
 b_law_name : Binds K A.d_law_name ["_law_script", "_law_k"] []
 k_law_name : W.keepIn K (.ref A.f_law_name) = true
 m_law_name : mg "_law_name" = some (.ref A.f_law_name)
 F_law_sheets : Fun K "_law_sheets" "_law_sheets" s_law_sheets A.f_law_sheets A.d_law_sheets
 b_law_sheets : Binds K A.d_law_sheets ["_law_script"] []
 k_law_sheets : W.keepIn K (.ref A.f_law_sheets) = true
 m_law_sheets : mg "_law_sheets" = some (.ref A.f_law_sheets)
 F_law_told : Fun K "_law_told" "_law_told" s_law_told A.f_law_told A.d_law_told
 b_law_told : Binds K A.d_law_told ["_law_pages"] []
 k_law_told : W.keepIn K (.ref A.f_law_told) = true
 m_law_told : mg "_law_told" = some (.ref A.f_law_told)
 F_law : Fun K "law" "law" s_law A.f_law A.d_law
 m_law : mg "law" = some (.ref A.f_law)
 g_FIGURES : GlobV mg "FIGURES" (.str "0123456789")
 m_LEADS : mg "LEADS" = some (.ref A.a_LEADS)
 t_LEADS : TabI K A.a_LEADS [("ask", 1), ("compare", 2), ("total", 2), ("first", 1), ("more", 2), ("on", 1), ("pass", 1), ("warn", 1), ("held", 0), ("end", 0)]
 n_all : mg "all" = none
 n_bool : mg "bool" = none
 n_dict : mg "dict" = none
 n_enumerate : mg "enumerate" = none
 n_int : mg "int" = none
 n_isinstance : mg "isinstance" = none
 n_len : mg "len" = none
 n_list : mg "list" = none
 n_range : mg "range" = none
 n_reversed : mg "reversed" = none
 n_str : mg "str" = none
 n_tuple : mg "tuple" = none
 i_NoneType_bool : W.kitOne K (.type "NoneType") (.type "bool") = some false
 i_int_bool : W.kitOne K (.type "int") (.type "bool") = some false
 i_NoneType_int : W.kitOne K (.type "NoneType") (.type "int") = some false
 i_int_int : W.kitOne K (.type "int") (.type "int") = some true
 i_str_str : W.kitOne K (.type "str") (.type "str") = some true
 i_list_list : W.kitOne K (.type "list") (.type "list") = some true
 i_tuple_tuple : W.kitOne K (.type "tuple") (.type "tuple") = some true
 m_Ask : mg "Ask" = some (.ref A.c_Ask)
 v_Ask : GlobV mg "Ask" (.ref A.c_Ask)
 m_NoNumber : mg "NoNumber" = some (.ref A.c_NoNumber)
 m_PageMaker : mg "PageMaker" = some (.ref A.c_PageMaker)
 m_Paper : mg "Paper" = some (.ref A.c_Paper)
 m_Row : mg "Row" = some (.ref A.c_Row)
 m_Run : mg "Run" = some (.ref A.c_Run)
 m_Sheet : mg "Sheet" = some (.ref A.c_Sheet)
 m_Whole : mg "Whole" = some (.ref A.c_Whole)
 x_NoNumber : W.excIn K A.c_NoNumber mroVE "ValueError.__new__" = true
 em_NoNumber_NoNumber : W.exmOne K (.ref A.c_NoNumber) (.ref A.c_NoNumber) = some true
 kr_Ask_Ask : W.kitOne K (.ref A.c_Ask) (.ref A.c_Ask) = some true
 cl_Whole : Cls K A.c_Whole
 mk_Whole : Mk K A.c_Whole A.f_c_Kind___init
 me_Whole_shown : Meth K A.c_Whole "shown" A.f_c_Whole_shown
 me_Whole_told : Meth K A.c_Whole "told" A.f_c_Whole_told
 me_Whole_bounds : Meth K A.c_Whole "bounds" A.f_c_Whole_bounds
 me_Whole_fits : Meth K A.c_Whole "fits" A.f_c_Whole_fits
 me_Whole_rank : Meth K A.c_Whole "rank" A.f_c_Whole_rank
 no_Whole_low : NoAttr K A.c_Whole "low"
 no_Whole_high : NoAttr K A.c_Whole "high"
 cl_Ask : Cls K A.c_Ask
 ty_Ask : ∀ (H : Hp) (a dx : Addr) (fs : List (Str × V)), H a = some (.ins A.c_Ask dx fs) → TyOf K H (.ref a) (.ref A.c_Ask)
 mk_Ask : Mk K A.c_Ask A.f_c_Ask___init
 no_Ask_name : NoAttr K A.c_Ask "name"
 no_Ask_kind : NoAttr K A.c_Ask "kind"
 no_Ask_when : NoAttr K A.c_Ask "when"
 cl_Sheet : Cls K A.c_Sheet
 mk_Sheet : Mk K A.c_Sheet A.f_c_Sheet___init
 no_Sheet_name : NoAttr K A.c_Sheet "name"
 no_Sheet_each : NoAttr K A.c_Sheet "each"
 no_Sheet_rows : NoAttr K A.c_Sheet "rows"
 no_Sheet_ways : NoAttr K A.c_Sheet "ways"
 cl_Paper : Cls K A.c_Paper
 mk_Paper : Mk K A.c_Paper A.f_c_Paper___init
 no_Paper_name : NoAttr K A.c_Paper "name"
 no_Paper_sheets : NoAttr K A.c_Paper "sheets"
 no_Paper_totals : NoAttr K A.c_Paper "totals"
 cl_PageMaker : Cls K A.c_PageMaker
 mk_PageMaker : Mk K A.c_PageMaker A.f_c_PageMaker___init
 me_PageMaker_put : Meth K A.c_PageMaker "put" A.f_c_PageMaker_put
 me_PageMaker_put_saying : Meth K A.c_PageMaker "put_saying" A.f_c_PageMaker_put_saying
 me_PageMaker_put_row : Meth K A.c_PageMaker "put_row" A.f_c_PageMaker_put_row
 me_PageMaker_put_rows : Meth K A.c_PageMaker "put_rows" A.f_c_PageMaker_put_rows
 me_PageMaker_put_sheet : Meth K A.c_PageMaker "put_sheet" A.f_c_PageMaker_put_sheet
 me_PageMaker_put_all : Meth K A.c_PageMaker "put_all" A.f_c_PageMaker_put_all
 no_PageMaker_paper : NoAttr K A.c_PageMaker "paper"
 no_PageMaker_kinds : NoAttr K A.c_PageMaker "kinds"
 no_PageMaker_eaches : NoAttr K A.c_PageMaker "eaches"
 no_PageMaker_made : NoAttr K A.c_PageMaker "made"
 cl_Run : Cls K A.c_Run
 mk_Run : Mk K A.c_Run A.f_c_Run___init
 me_Run_thing_by : Meth K A.c_Run "thing_by" A.f_c_Run_thing_by
 me_Run_take_ask : Meth K A.c_Run "take_ask" A.f_c_Run_take_ask
 me_Run_take_page : Meth K A.c_Run "take_page" A.f_c_Run_take_page
 no_Run_book : NoAttr K A.c_Run "book"
 no_Run_ranks : NoAttr K A.c_Run "ranks"
 no_Run_place : NoAttr K A.c_Run "place"
 no_Run_thing : NoAttr K A.c_Run "thing"
 no_Run_log : NoAttr K A.c_Run "log"
 cf_Row_init : ClsFn K A.c_Row "__init__" A.f_c_Row___init
theorem sc_is_whole : FnScope ["thing"] ["thing"] (defScope s_is_whole) := ⟨rfl, rfl, rfl, by symm, rfl, by symm, by symm⟩
theorem sc_are_figures : FnScope ["text"] ["text"] (defScope s_are_figures) := ⟨rfl, rfl, rfl, by symm, rfl, by symm, by symm⟩
theorem sc_figures_worth : FnScope ["figures", "worth", "sign"] ["figures"] (defScope s_figures_worth) := ⟨rfl, rfl, rfl, by symm, rfl, by symm, by symm⟩
theorem sc_number_of : FnScope ["text", "most", "below", "figures", "worth"] ["text", "most"] (defScope s_number_of) := ⟨rfl, rfl, rfl, by symm, rfl, by symm, by symm⟩
theorem sc_number_or_none : FnScope ["text"] ["text"] (defScope s_number_or_none) := ⟨rfl, rfl, rfl, by symm, rfl, by symm, by symm⟩
theorem sc_c_Kind___init : FnScope ["self", "low", "high"] ["self", "low", "high"] (defScope s_c_Kind___init) := ⟨rfl, rfl, rfl, by symm, rfl, by symm, by symm⟩
theorem sc_c_Whole_fits : FnScope ["self", "thing"] ["self", "thing"] (defScope s_c_Whole_fits) := ⟨rfl, rfl, rfl, by symm, rfl, by symm, by symm⟩
theorem sc_c_Whole_shown : FnScope ["self", "answer"] ["self", "answer"] (defScope s_c_Whole_shown) := ⟨rfl, rfl, rfl, by symm, rfl, by symm, by symm⟩
theorem sc_c_Whole_rank : FnScope ["self", "answer"] ["self", "answer"] (defScope s_c_Whole_rank) := ⟨rfl, rfl, rfl, by symm, rfl, by symm, by symm⟩
theorem sc_c_Whole_bounds : FnScope ["self"] ["self"] (defScope s_c_Whole_bounds) := ⟨rfl, rfl, rfl, by symm, rfl, by symm, by symm⟩
theorem sc_c_Whole_told : FnScope ["self"] ["self"] (defScope s_c_Whole_told) := ⟨rfl, rfl, rfl, by symm, rfl, by symm, by symm⟩
theorem sc_are_bounds : FnScope ["numbers"] ["numbers"] (defScope s_are_bounds) := ⟨rfl, rfl, rfl, by symm, rfl, by symm, by symm⟩
theorem sc_whole_or_none : FnScope ["words", "numbers"] ["words"] (defScope s_whole_or_none) := ⟨rfl, rfl, rfl, by symm, rfl, by symm, by symm⟩
theorem sc_kind_or_none : FnScope ["first", "words"] ["first", "words"] (defScope s_kind_or_none) := ⟨rfl, rfl, rfl, by symm, rfl, by symm, by symm⟩
theorem sc_kind_of : FnScope ["text", "words", "kind"] ["text"] (defScope s_kind_of) := ⟨rfl, rfl, rfl, by symm, rfl, by symm, by symm⟩
theorem sc_c_Row___init : FnScope ["self", "name"] ["self", "name"] (defScope s_c_Row___init) := ⟨rfl, rfl, rfl, by symm, rfl, by symm, by symm⟩
theorem sc_c_Ask___init : FnScope ["self", "name", "kind", "when"] ["self", "name", "kind", "when"] (defScope s_c_Ask___init) := ⟨rfl, rfl, rfl, by symm, rfl, by symm, by symm⟩
theorem sc_c_Sheet___init : FnScope ["self", "name", "each", "rows", "ways"] ["self", "name", "each", "rows", "ways"] (defScope s_c_Sheet___init) := ⟨rfl, rfl, rfl, by symm, rfl, by symm, by symm⟩
theorem sc_c_Paper___init : FnScope ["self", "name", "sheets", "totals"] ["self", "name", "sheets", "totals"] (defScope s_c_Paper___init) := ⟨rfl, rfl, rfl, by symm, rfl, by symm, by symm⟩
theorem sc_kinds_of : FnScope ["paper", "kinds", "sheet", "row"] ["paper"] (defScope s_kinds_of) := ⟨rfl, rfl, rfl, by symm, rfl, by symm, by symm⟩
theorem sc_eaches_of : FnScope ["paper", "eaches", "sheet", "row"] ["paper"] (defScope s_eaches_of) := ⟨rfl, rfl, rfl, by symm, rfl, by symm, by symm⟩
theorem sc_without_leads : FnScope ["page"] ["page"] (defScope s_without_leads) := ⟨rfl, rfl, rfl, by symm, rfl, by symm, by symm⟩
theorem sc_leads_of : FnScope ["page"] ["page"] (defScope s_leads_of) := ⟨rfl, rfl, rfl, by symm, rfl, by symm, by symm⟩
theorem sc_c_PageMaker___init : FnScope ["self", "paper"] ["self", "paper"] (defScope s_c_PageMaker___init) := ⟨rfl, rfl, rfl, by symm, rfl, by symm, by symm⟩
theorem sc_c_PageMaker_put : FnScope ["self", "page"] ["self", "page"] (defScope s_c_PageMaker_put) := ⟨rfl, rfl, rfl, by symm, rfl, by symm, by symm⟩
theorem sc_c_PageMaker_put_saying : FnScope ["self", "saying", "yes", "no"] ["self", "saying", "yes", "no"] (defScope s_c_PageMaker_put_saying) := ⟨rfl, rfl, rfl, by symm, rfl, by symm, by symm⟩
theorem sc_c_PageMaker_put_row : FnScope ["self", "row", "each", "behind", "asking", "passing", "failing"] ["self", "row", "each", "behind"] (defScope s_c_PageMaker_put_row) := ⟨rfl, rfl, rfl, by symm, rfl, by symm, by symm⟩
theorem sc_c_PageMaker_put_rows : FnScope ["self", "sheet", "behind", "row"] ["self", "sheet", "behind"] (defScope s_c_PageMaker_put_rows) := ⟨rfl, rfl, rfl, by symm, rfl, by symm, by symm⟩
theorem sc_c_PageMaker_put_sheet : FnScope ["self", "sheet", "starts", "behind", "target", "saying"] ["self", "sheet", "starts", "behind"] (defScope s_c_PageMaker_put_sheet) := ⟨rfl, rfl, rfl, by symm, rfl, by symm, by symm⟩
theorem sc_c_PageMaker_put_all : FnScope ["self", "start", "starts", "sheet"] ["self"] (defScope s_c_PageMaker_put_all) := ⟨rfl, rfl, rfl, by symm, rfl, by symm, by symm⟩
theorem sc_reached_from : FnScope ["pages", "start", "found", "walked", "number"] ["pages", "start"] (defScope s_reached_from) := ⟨rfl, rfl, rfl, by symm, rfl, by symm, by symm⟩
theorem sc_pages_of : FnScope ["paper", "maker", "start", "found", "numbers", "pages", "number", "page"] ["paper"] (defScope s_pages_of) := ⟨rfl, rfl, rfl, by symm, rfl, by symm, by symm⟩
theorem sc_c_Run___init : FnScope ["self", "book"] ["self", "book"] (defScope s_c_Run___init) := ⟨rfl, rfl, rfl, by symm, rfl, by symm, by symm⟩
theorem sc_c_Run_thing_by : FnScope ["self", "each"] ["self", "each"] (defScope s_c_Run_thing_by) := ⟨rfl, rfl, rfl, by symm, rfl, by symm, by symm⟩
theorem sc_c_Run_take_ask : FnScope ["self", "question", "kind", "each", "behind", "key", "answer"] ["self", "question", "kind", "each", "behind"] (defScope s_c_Run_take_ask) := ⟨rfl, rfl, rfl, by symm, rfl, by symm, by symm⟩
theorem sc_c_Run_take_page : FnScope ["self", "page", "word"] ["self", "page"] (defScope s_c_Run_take_page) := ⟨rfl, rfl, rfl, by symm, rfl, by symm, by symm⟩
theorem sc_run : FnScope ["pages", "book", "going", "number"] ["pages", "book"] (defScope s_run) := ⟨rfl, rfl, rfl, by symm, rfl, by symm, by symm⟩
theorem sc_law_cell : FnScope ["_law_script", "_law_k", "_law_number"] ["_law_script", "_law_k"] (defScope s_law_cell) := ⟨rfl, rfl, rfl, by symm, rfl, by symm, by symm⟩
theorem sc_law_name : FnScope ["_law_script", "_law_k", "_law_some", "_law_pad"] ["_law_script", "_law_k"] (defScope s_law_name) := ⟨rfl, rfl, rfl, by symm, rfl, by symm, by symm⟩
theorem sc_law_sheets : FnScope ["_law_script", "_law_sheets_here", "_law_number", "_law_s", "_law_rows", "_law_r", "_law_cell_here", "_law_low"] ["_law_script"] (defScope s_law_sheets) := ⟨rfl, rfl, rfl, by symm, rfl, by symm, by symm⟩
theorem sc_law_told : FnScope ["_law_pages", "_law_told_here", "_law_at"] ["_law_pages"] (defScope s_law_told) := ⟨rfl, rfl, rfl, by symm, rfl, by symm, by symm⟩
theorem sc_law : FnScope ["_law_script", "_law_sheets_here", "_law_made", "_law_asked", "_law_s", "_law_rows", "_law_paper", "_law_pages", "_law_due", "_law_stop", "_law_book", "_law_log", "_law_k", "_law_row", "_law_last", "_law_kept"] ["_law_script"] (defScope s_law) := ⟨rfl, rfl, rfl, by symm, rfl, by symm, by symm⟩
end K71
set_option maxHeartbeats 4000000
namespace K71
open PySem L2
seal PE PT PW PA PS PSs PG PGs PI PO PSet OpR UnR CallR TruR IxR SlR PC PPs
local macro_rules | `(tactic| walk_at "rd1") => `(tactic| first
 | (refine And.intro rfl ?_)
 | (refine And.intro (by assumption) ?_)
 | (refine And.intro (fun _ e => e) ?_)
 | (refine And.intro (TyOf.str _) ?_) | (refine And.intro (TyOf.int _) ?_) | (refine And.intro (TyOf.bl _) ?_) | (refine And.intro TyOf.non ?_)
 | (refine iteT ?_) | (refine iteF ?_)
 | (apply Exists.intro))
local macro_rules | `(tactic| walk_at "rd") => `(tactic| repeat (walk_at "rd1"))
def spFig : Sp := fun vs H Q _ => ∃ z, vs = [.str z] ∧ z.length ≤ sizeLine ∧ ∀ H', Same H H' → Q (.bl (figB (cd z))) H'
def spWorth : Sp := fun vs H Q _ => ∃ z, vs = [.str z] ∧ z.length ≤ 1000 ∧ (cd z).all inF = true ∧ Q (.int (val (cd z))) H
def spNum (K : W.Frag) (A : Adr) : Sp := fun vs H Q E => ∃ x most, vs = [x, .int most] ∧ 1 ≤ most ∧ ((∃ z, x = .str z ∧ Fine 1000 z ∧ (∀ n H', Same H H' → numB (cd z) most = some n → Q (.int n) H') ∧ (∀ H', Same H H' → numB (cd z) most = none → E (.ref A.c_NoNumber) none H')) ∨ (∃ t, TyE K H x t ∧ W.kitOne K t (.type "str") = some false ∧ ∀ H', Same H H' → E (.ref A.c_NoNumber) none H'))
section
variable {P : Program} {w : World} {K : W.Frag} {mg : Str → Option Value} {base : Heap} {A : Adr}
theorem ok_are_figures (T : Txt K mg A) : FnOk P w K mg base CX0 1 A.f_are_figures A.d_are_figures ["text"] spFig := by
 refine T.F_are_figures.ok sc_are_figures (fun vs H Q E h => ?_) (fun cdv A0 outer s H vs Q E hr h => ?_)
 · obtain ⟨x, rfl, _⟩ := h
   rfl
 obtain ⟨z, rfl, hz, q⟩ := h
 refine ⟨_, (zF (zO (pe_and (pe_cmpR op_gt (zQ call_len_str (by rfl) T.n_len PySem.boot_len (zA (pv 0) zD)) zJ (zX _)) (pe_one (zQ (call_all rfl) (by rfl) T.n_all Bt.all (zA (pe_compR (compOk_of (x := "sign") (M := ["text"]) rfl (by rfl)) rfl (pi_str (pv 0)) (fun _ _ _ _ => (pe_cmpR op_in_str (pv 0) (pe_gv rfl T.g_FIGURES) (by rfl)))) zD)))))), ?_⟩
 walk_at "rd"
 refine ite2 (fun c => ?_) (fun c => ?_)
 · walk_at "rd"
   refine comp_strR hz (fun i ys H' => H' = H ∧ ys = ((cd z).take i).map fun c => V.bl (inF c)) ⟨rfl, rfl⟩ (fun i c ys H' hc hl hw => ?_) (fun ys H' hl hw p hp => ?_)
   · obtain ⟨rfl, rfl⟩ := hw
     walk_at "rd"
     rw [List.take_succ, hc]
     simp [inF, FIG]
   · obtain ⟨rfl, rfl⟩ := hw
     have e : (cd z).take z.length = cd z := List.take_of_length_le (by rw [yX]; exact Nat.le_refl _)
     rw [e]
     refine ⟨p, (cd z).map inF, rfl, SqL.of (by rw [zB, List.map_map]; rfl), ?_⟩
     have e2 : figB (cd z) = ((cd z).map inF).all id := by
       unfold figB
       have c' : (0 : Int) < z.length := of_decide_eq_true c
       rw [decide_eq_true (by rw [← yX]; omega), List.all_map]
       rfl
     rw [e2] at q
     exact q _ (zH hp _)
 · have e : figB (cd z) = false := by
     unfold figB
     have c' : ¬ (0 : Int) < z.length := of_decide_eq_false (Bool.eq_false_iff.mpr c)
     rw [decide_eq_false (by rw [← yX]; omega)]
     rfl
   rw [e] at q
   exact q _ (Same.refl _)
theorem ok_figures_worth (T : Txt K mg A) : FnOk P w K mg base CX0 1 A.f_figures_worth A.d_figures_worth ["figures"] spWorth := by
 refine T.F_figures_worth.ok sc_figures_worth (fun vs H Q E h => ?_) (fun cdv A0 outer s H vs Q E hr h => ?_)
 · obtain ⟨x, rfl, _⟩ := h
   rfl
 obtain ⟨z, rfl, hz, hF, q⟩ := h
 refine ⟨_, (zC (zK (i := 1) sc_figures_worth.nd rfl (by first | exact Or.inl rfl | exact Or.inr rfl) zJ)
     (zC (yT PassesOwn.never rfl (pi_str (pv 0)) (yH (i := 2) sc_figures_worth.nd rfl (by first | exact Or.inl rfl | exact Or.inr rfl)) (zF (zK (i := 1) sc_figures_worth.nd rfl (by first | exact Or.inl rfl | exact Or.inr rfl) (zM op_add (zM op_mulB (pv 1) zJ) (pe_bm PySem.F.plainAttrs_str PySem.F.slot_str_find PySem.F.type_str_find mt_find (pe_gv rfl T.g_FIGURES) (zA (pv 2) zD))))))
     (zF (zO (pv 1))))), ?_⟩
 walk_at "rd"
 refine for_strR (fun i σ H' => H' = H ∧ ∃ v, σ = [some (.str z), some (.int (val ((cd z).take i))), v]) ⟨rfl, ⟨_, rfl⟩⟩ (fun i c σ H' hc hp => ?_) (fun σ H' hp => ?_)
 · obtain ⟨rfl, v, rfl⟩ := hp
   have hi : i < (cd z).length := (List.getElem?_eq_some_iff.mp hc).1
   have hcF : inF c = true := List.all_eq_true.mp hF c (List.mem_of_getElem? hc)
   have hb := val_bound i ((cd z).take i) (by rw [List.length_take]; omega) (by
     rw [List.all_eq_true]; intro x hx; exact List.all_eq_true.mp hF x (List.mem_of_mem_take hx))
   have hb2 := pow10_ib hb.1 hb.2
   rw [← yX] at hi
   refine ⟨_, rfl, _, _, rfl, rfl, ⟨by show ib _ ≤ 60000000; omega, by decide⟩, ?_⟩
   walk_at "rd"
   have e : Txt.find FIG (S [c]) = ((c - 48 : Nat) : Int) := findF hcF
   show some _ :: some (V.int (val ((cd z).take i) * 10 + Txt.find FIG (S [c]))) :: _ = _
   rw [e, val_take hc]
   rfl
 · obtain ⟨rfl, v, rfl⟩ := hp
   have e : (cd z).take z.length = cd z := List.take_of_length_le (by rw [yX]; exact Nat.le_refl _)
   rw [e]
   exact ⟨_, rfl, q⟩
theorem ok_number_of (T : Txt K mg A) : FnOk P w K mg base (CXW P w) 2 A.f_number_of A.d_number_of ["text", "most"] (spNum K A) := by
 have G_are_figures := ok_are_figures (P := P) (w := w) (base := base) T
 have G_figures_worth := ok_figures_worth (P := P) (w := w) (base := base) T
 refine T.F_number_of.okX sc_number_of (fun vs H Q E h => ?_) (fun cdv A0 outer s H vs Q E hr h => ?_)
 · obtain ⟨x, most, rfl, _⟩ := h
   rfl
 obtain ⟨x, most, rfl, hm, h⟩ := h
 refine ⟨_, (zC (yK (pt_not (pt_val (zQ xA (by rfl) T.n_isinstance Bt.isinstance (zA (pv 0) (zA (pe_bltn (v := .ty "str") rfl T.n_str Bt.str rfl) zD))))) (zF (ps_raise T.m_NoNumber T.x_NoNumber (zA zN zD) rfl)) zW)
     (zC (yK (zR op_eq (pv 0) zN (zX _)) (zF (zO zJ)) zW)
     (zC (zK (i := 2) sc_number_of.nd rfl (by first | exact Or.inl rfl | exact Or.inr rfl) (pe_bm PySem.F.plainAttrs_str PySem.F.slot_str_startswith PySem.F.type_str_startswith mt_startswith (pv 0) (zA zN zD)))
     (zC (zK (i := 3) sc_number_of.nd rfl (by first | exact Or.inl rfl | exact Or.inr rfl) (pe_ifExp (pt_val (pv 2)) (pe_slice sl_str (pv 0) (po_some zJ) po_none) (pv 0)))
     (zC (yK (PW.pt (pw_or (pt_not (pt_val (yB G_are_figures (hr.mono (by first | decide | omega)) rfl T.m_are_figures T.k_are_figures T.b_are_figures .nil zU (zA (pv 3) zD)))) (pw_or (zR op_eq (zV ix_str (pv 3) zJ (fun _ _ => rfl)) zN (zX _)) (pw_or1 (zR op_gt (zQ call_len_str (by rfl) T.n_len PySem.boot_len (zA (pv 3) zD)) (pv 1) (zX _)))))) (zF (ps_raise T.m_NoNumber T.x_NoNumber (zA (pe_fstrR (pv 0)) zD) rfl)) zW)
     (zC (zK (i := 4) sc_number_of.nd rfl (by first | exact Or.inl rfl | exact Or.inr rfl) (yB G_figures_worth (hr.mono (by first | decide | omega)) rfl T.m_figures_worth T.k_figures_worth T.b_figures_worth .nil zU (zA (pv 3) zD)))
     (zF (zO (pe_ifExp (pt_val (pv 2)) (pe_un un_neg (pv 4)) (pv 4)))))))))), ?_⟩
 rcases h with ⟨z, rfl, hz, qs, qn⟩ | ⟨t, ty, kt, q⟩
 · refine ⟨_, rfl, _, _, _, _, rfl, rfl, .old (.str z), T.i_str_str, _, rfl, iteF ?_⟩
   refine ⟨_, rfl, rfl, _, rfl, ?_⟩
   refine ite2 (fun c => ?_) (fun c => ?_) <;> rw [dec_cd, show cd (Str.ofString "0") = [48] by symm] at c
   · have c' : cd z = [48] := of_decide_eq_true c
     refine qs _ _ (Same.refl _) ?_
     rw [c']; exact numB_zero hm
   have c0 : cd z ≠ [48] := of_decide_eq_false (Bool.eq_false_iff.mpr c)
   have es := starts1 z 45
   rw [show S [45] = (Str.ofString "-") by symm] at es
   have hz2 : z.length ≤ sizeLine := hz.size
   cases hb : PySem.Txt.startswith z (Str.ofString "-") <;> rw [hb] at es
   · have c1 : ¬ (cd z).take 1 = [45] := of_decide_eq_false es.symm
     obtain ⟨f, rfl⟩ : ∃ f, z = f := ⟨z, rfl⟩
     have ef : cd z = fig (cd z) := (if_neg c1).symm
     have hf1 : z.length ≤ 1000 := hz.len
     have hf2 := hz2
     walk_at "rd"
     rw [hb]
     walk_at "rd"
     intro H1 s1
     cases hf : figB (cd z)
     · refine ⟨_, rfl, iteT ⟨_, rfl, z, rfl, Nat.le_trans hz.len (by decide), hz.cod, fun y => ⟨(by show 1 ≤ sizeLine; decide), qn _ s1 (numB_no1 (by rw [← ef]; exact hf))⟩⟩⟩
     refine ⟨_, rfl, iteF ?_⟩
     obtain ⟨f1, f2⟩ := (figB_iff _).mp hf
     obtain ⟨k, hk, hk1⟩ := take1_at (l := cd z) f1
     refine ⟨_, rfl, z, 0, k, rfl, rfl, hf2, hk, rfl, _, rfl, ?_⟩
     refine ite2 (fun c2 => ?_) (fun c2 => ?_) <;> rw [dec_cd, show cd (Str.ofString "0") = [48] by symm] at c2
     · have c3 : (fig (cd z)).take 1 = [48] := by rw [← ef, hk1]; exact of_decide_eq_true c2
       exact ⟨_, rfl, z, rfl, Nat.le_trans hz.len (by decide), hz.cod, fun y => ⟨(by show 1 ≤ sizeLine; decide), qn _ s1 (numB_no2 c3 c0)⟩⟩
     have c3 : ¬ (fig (cd z)).take 1 = [48] := by rw [← ef, hk1]; exact of_decide_eq_false (Bool.eq_false_iff.mpr c2)
     refine ⟨_, rfl, _, rfl, hf2, _, rfl, _, _, rfl, rfl, _, rfl, ?_⟩
     rw [yX z, ef]
     refine ite2 (fun c4 => ?_) (fun c4 => ?_)
     · have c5 : most < ((fig (cd z)).length : Nat) := of_decide_eq_true c4
       exact ⟨_, rfl, z, rfl, Nat.le_trans hz.len (by decide), hz.cod, fun y => ⟨(by show 1 ≤ sizeLine; decide), qn _ s1 (numB_no3 c5)⟩⟩
     have c5 : ¬ most < ((fig (cd z)).length : Nat) := of_decide_eq_false (Bool.eq_false_iff.mpr c4)
     have yes := numB_yes (by rw [← ef]; exact hf) c3 c5
     rw [if_neg c1, ← ef] at yes
     refine ⟨_, rfl, z, rfl, hf1, f2, ?_⟩
     walk_at "rd"
     exact qs _ _ s1 yes
   · have c1 : (cd z).take 1 = [45] := of_decide_eq_true es.symm
     walk_at "rd"
     rw [hb]
     walk_at "rd"
     obtain ⟨f, hfe⟩ : ∃ f, S (cutN (cd z) (some 1) none) = f := ⟨_, rfl⟩
     rw [hfe]
     have ef : cd f = fig (cd z) := by rw [← hfe, cd_S]; exact (cutFrom (cd z) 1).trans (if_pos c1).symm
     have hf1 : f.length ≤ 1000 := by rw [← hfe]; exact (hz.cut _ _).len
     have hf2 : f.length ≤ sizeLine := by rw [← hfe]; exact (hz.cut _ _).size
     refine ⟨hf2, ?_⟩
     intro H1 s1
     cases hf : figB (cd f)
     · refine ⟨_, rfl, iteT ⟨_, rfl, z, rfl, Nat.le_trans hz.len (by decide), hz.cod, fun y => ⟨(by show 1 ≤ sizeLine; decide), qn _ s1 (numB_no1 (by rw [← ef]; exact hf))⟩⟩⟩
     refine ⟨_, rfl, iteF ?_⟩
     obtain ⟨f1, f2⟩ := (figB_iff _).mp hf
     obtain ⟨k, hk, hk1⟩ := take1_at (l := cd f) f1
     refine ⟨_, rfl, f, 0, k, rfl, rfl, hf2, hk, rfl, _, rfl, ?_⟩
     refine ite2 (fun c2 => ?_) (fun c2 => ?_) <;> rw [dec_cd, show cd (Str.ofString "0") = [48] by symm] at c2
     · have c3 : (fig (cd z)).take 1 = [48] := by rw [← ef, hk1]; exact of_decide_eq_true c2
       exact ⟨_, rfl, z, rfl, Nat.le_trans hz.len (by decide), hz.cod, fun y => ⟨(by show 1 ≤ sizeLine; decide), qn _ s1 (numB_no2 c3 c0)⟩⟩
     have c3 : ¬ (fig (cd z)).take 1 = [48] := by rw [← ef, hk1]; exact of_decide_eq_false (Bool.eq_false_iff.mpr c2)
     refine ⟨_, rfl, _, rfl, hf2, _, rfl, _, _, rfl, rfl, _, rfl, ?_⟩
     rw [yX f, ef]
     refine ite2 (fun c4 => ?_) (fun c4 => ?_)
     · have c5 : most < ((fig (cd z)).length : Nat) := of_decide_eq_true c4
       exact ⟨_, rfl, z, rfl, Nat.le_trans hz.len (by decide), hz.cod, fun y => ⟨(by show 1 ≤ sizeLine; decide), qn _ s1 (numB_no3 c5)⟩⟩
     have c5 : ¬ most < ((fig (cd z)).length : Nat) := of_decide_eq_false (Bool.eq_false_iff.mpr c4)
     have yes := numB_yes (by rw [← ef]; exact hf) c3 c5
     rw [if_pos c1, ← ef] at yes
     refine ⟨_, rfl, f, rfl, hf1, f2, ?_⟩
     walk_at "rd"
     exact qs _ _ s1 yes
 · refine ⟨_, rfl, _, _, _, _, rfl, rfl, ty, kt, _, rfl, iteT ?_⟩
   refine ⟨(by show 1 ≤ sizeLine; decide), q _ (Same.refl _)⟩
end
end K71
set_option maxHeartbeats 4000000
namespace K71
open PySem L2
seal PE PT PW PA PS PSs PG PGs PI PO PSet OpR UnR CallR TruR IxR SlR PC PPs
local macro_rules | `(tactic| walk_at "rd1") => `(tactic| first
 | (refine And.intro rfl ?_)
 | (refine And.intro (by assumption) ?_)
 | (refine And.intro (fun _ e => e) ?_)
 | (refine And.intro (TyOf.str _) ?_) | (refine And.intro (TyOf.int _) ?_) | (refine And.intro (TyOf.bl _) ?_) | (refine And.intro TyOf.non ?_)
 | (refine iteT ?_) | (refine iteF ?_)
 | (apply Exists.intro))
local macro_rules | `(tactic| walk_at "rd") => `(tactic| repeat (walk_at "rd1"))
theorem xB (x y : Str) : (x ++ y).length = x.length + y.length := by rw [yX, cd_app, List.length_append, ← yX, ← yX]
theorem seq_mid {t u : TS} {D : Ends} {σ : St} {H : Hp} (R : St → Hp → Prop) (hk : ∀ σ' H', R σ' H' → u D σ' H') (hm : ∀ N : St → Hp → Prop, (∀ σ' H', R σ' H' → N σ' H') → t { D with nx := N } σ H) : tSeq t u D σ H := hm _ hk
theorem let_at (i : Int) (h0 : 0 ≤ i) (h1 : i < 26) : atI ("abcdefghijklmnopqrstuvwxyz" : Str).cps.toList i = some (97 + i.toNat) := by
 have e : ("abcdefghijklmnopqrstuvwxyz" : Str).cps.toList = (List.range 26).map (97 + ·) := by symm
 obtain ⟨c, hc, hc2⟩ := at_some (l := ("abcdefghijklmnopqrstuvwxyz" : Str).cps.toList) h0 (by rw [e]; simpa using h1)
 rw [hc]
 rw [e, List.getElem?_map, List.getElem?_range (by omega)] at hc2
 exact hc2.symm
theorem ib_e {x : Int} (h0 : 0 ≤ x) (h : x < 2 ^ 63) : ib x ≤ 60000000 := Nat.le_trans (ib_small (by omega) (by omega)) (by decide)
theorem ibc {x : Int} (h : x.natAbs < 2 ^ 256) : ib x ≤ 60000000 := Nat.le_trans (ib_big (m := 256) h) (by decide)
theorem iteB {c : Bool} {A B : Prop} (h : c = true) (k : A) : if c = true then A else B := by rw [if_pos h]; exact k
theorem iteO {c : Bool} {A B : Prop} (h : c = false) (k : B) : if c = true then A else B := by rw [if_neg (by rw [h]; decide)]; exact k
theorem tt_true {σ : St} {H : Hp} {a b : Hp → Prop} (h : a H) : tTrue σ H (fun c H3 => if c = true then a H3 else b H3) := by
 show if true = true then a H else b H
 exact iteT h
theorem zE {α β : Type} {R R' : α → β → Prop} {as : List α} {bs : List β} (h : Paired R as bs) (f : ∀ a b, R a b → R' a b) : Paired R' as bs := by
 induction h with
 | nil => exact .nil
 | cons r _ ih => exact .cons (f _ _ r) ih
theorem zZ {α β : Type} {R : α → β → Prop} {as as' : List α} {bs bs' : List β} (h : Paired R as bs) (k : Paired R as' bs') : Paired R (as ++ as') (bs ++ bs') := by
 induction h with
 | nil => exact k
 | cons r _ ih => exact .cons r ih
theorem yF {α β : Type} {R : α → β → Prop} : ∀ {as : List α} {bs : List β} {i : Nat} {a : α}, Paired R as bs → as[i]? = some a → ∃ b, bs[i]? = some b ∧ R a b
 | _, _, 0, _, .cons h _, e => by cases e; exact ⟨_, rfl, h⟩
 | _, _, i + 1, _, .cons _ t, e => yF (i := i) t e
theorem yM {α β : Type} {R : α → β → Prop} : ∀ {as : List α} {bs : List β} {i : Nat} {b : β}, Paired R as bs → bs[i]? = some b → ∃ a, as[i]? = some a ∧ R a b
 | _, _, 0, _, .cons h _, e => by cases e; exact ⟨_, rfl, h⟩
 | _, _, i + 1, _, .cons _ t, e => yM (i := i) t e
theorem zL {α β : Type} {R : α → β → Prop} {as : List α} {bs : List β} (h : Paired R as bs) : as.length = bs.length := Paired.length h
theorem yI {α : Type} {l : List α} {i : Nat} {x : α} (h : l[i]? = some x) : l.take (i + 1) = l.take i ++ [x] := by rw [List.take_succ, h]; rfl
def sqm (m : Int) : Int := m * m % 2147483629
def cellF (ns : List Int) (k : Nat) : Int :=
 if k < ns.length then ns.getD k 0 else sqm (if 0 < ns.length then (k : Int) * 48271 + 11 + ns.getD (k * 7 % ns.length) 0 % 2147483647 * 69621 else (k : Int) * 48271 + 11)
def Ns (ns : List Int) : Prop := ∀ n ∈ ns, ib n ≤ 1048576
def spCell (K : W.Frag) : Sp := fun vs H Q _ => ∃ (a : Addr) (ns : List Int) (k : Nat), vs = [.ref a, .int k] ∧ SqL K H a (ns.map V.int) ∧ k < 1000 ∧ ns.length ≤ 1000 ∧ Ns ns ∧ Q (.int (cellF ns k)) H
section
variable {P : Program} {w : World} {K : W.Frag} {mg : Str → Option Value} {base : Heap} {A : Adr}
theorem ok_law_cell (T : Txt K mg A) : FnOk P w K mg base CX0 1 A.f_law_cell A.d_law_cell ["_law_script", "_law_k"] (spCell K) := by
 refine T.F_law_cell.ok sc_law_cell (fun vs H Q E h => ?_) (fun cdv A0 outer s H vs Q E hr h => ?_)
 · obtain ⟨a, ns, k, rfl, _⟩ := h
   rfl
 obtain ⟨a, ns, k, rfl, hS, hk, hl, hb, q⟩ := h
 refine ⟨_, (zC (yK (zR op_lt (pv 1) (zQ zS (by rfl) T.n_len PySem.boot_len (zA (pv 0) zD)) (zX _)) (zF (zO (zV yE (pv 0) (pv 1) (fun _ _ => rfl)))) zW)
     (zC (zK (i := 2) sc_law_cell.nd rfl (by first | exact Or.inl rfl | exact Or.inr rfl) (zM op_add (zM op_mulB (pv 1) zJ) zJ))
     (zC (yK (zR op_gt (zQ zS (by rfl) T.n_len PySem.boot_len (zA (pv 0) zD)) zJ (zX _)) (zF (zK (i := 2) sc_law_cell.nd rfl (by first | exact Or.inl rfl | exact Or.inr rfl) (zM op_add (pv 2) (zM op_mulB (zM xD (zV yE (pv 0) (zM xD (zM op_mulB (pv 1) zJ) (zQ zS (by rfl) T.n_len PySem.boot_len (zA (pv 0) zD))) (fun _ _ => rfl)) zJ) zJ)))) zW)
     (zF (zO (zM xD (zM op_mulB (pv 2) (pv 2)) zJ)))))), ?_⟩
 have eL : ((ns.map V.int).length : Nat) = ns.length := List.length_map ..
 refine ⟨_, rfl, _, rfl, a, _, rfl, .inl hS, _, _, rfl, rfl, _, rfl, ?_⟩
 refine ite2 (fun c => ?_) (fun c => ?_)
 · have c' : (k : Int) < ((ns.map V.int).length : Nat) := of_decide_eq_true c
   have c2 : k < ns.length := by rw [eL] at c'; omega
   obtain ⟨v, hv, hv2⟩ := at_some (l := ns.map V.int) (i := (k : Int)) (by omega) c'
   obtain ⟨n, hn, rfl⟩ := map_get hv2
   have e : cellF ns k = n := by
     unfold cellF
     rw [if_pos c2, List.getD_eq_getElem?_getD, show ns[k]? = some n from hn]
     rfl
   exact ⟨_, rfl, _, rfl, a, _, _, _, rfl, rfl, hS, hv, by rw [← e]; exact q⟩
 · have c2 : ¬ k < ns.length := fun z => c (decide_eq_true (by rw [eL]; omega))
   unfold cellF at q
   rw [if_neg c2] at q
   refine ⟨_, rfl, _, _, rfl, rfl, ⟨ib_e (by omega) (by omega), ib_e (by omega) (by omega)⟩, _, _, rfl, rfl, ?_⟩
   refine ⟨_, rfl, a, _, rfl, .inl hS, _, _, rfl, rfl, _, rfl, ?_⟩
   refine ite2 (fun d => ?_) (fun d => ?_)
   · have d' : (((ns.map V.int).length : Nat) : Int) > 0 := of_decide_eq_true d
     have d2 : 0 < ns.length := by rw [eL] at d'; omega
     rw [if_pos d2] at q
     have hx : ((k : Int) * 7 % ((ns.map V.int).length : Nat)) = ((k * 7 % ns.length : Nat) : Int) := by rw [eL, Int.natCast_emod, Int.natCast_mul]; rfl
     have hlt : k * 7 % ns.length < ns.length := Nat.mod_lt _ d2
     obtain ⟨v, hv, hv2⟩ := at_some (l := ns.map V.int) (i := (k : Int) * 7 % ((ns.map V.int).length : Nat)) (by rw [hx]; omega) (by rw [hx, eL]; omega)
     obtain ⟨n, hn, rfl⟩ := map_get hv2
     have e : ns.getD (k * 7 % ns.length) 0 = n := by
       rw [hx] at hn
       rw [List.getD_eq_getElem?_getD, show ns[k * 7 % ns.length]? = some n from hn]
       rfl
     rw [e] at q
     have a0 := Int.emod_nonneg n (b := 2147483647) (by decide)
     have a1 := Int.emod_lt_of_pos n (b := 2147483647) (by decide)
     refine ⟨_, rfl, _, rfl, _, rfl, _, _, rfl, rfl, ⟨ib_e (by omega) (by omega), ib_e (by decide) (by decide)⟩, _, rfl, a, _, rfl, .inl hS, _, _, rfl, rfl, (by rw [eL]; omega), a, _, _, _, rfl, rfl, hS, hv, _, _, rfl, rfl, (by show (0 : Int) < 2147483647; decide), _, _, rfl, rfl, ⟨ib_e (by show (0 : Int) ≤ n % 2147483647; omega) (by show n % 2147483647 < 2 ^ 63; omega), ib_e (by decide) (by decide)⟩, _, _, rfl, rfl, ?_⟩
     refine ⟨_, rfl, _, rfl, _, _, rfl, rfl, ⟨ibc ?_, ibc ?_⟩, _, _, rfl, rfl, (by show (0 : Int) < 2147483629; decide), q⟩
     · show ((k : Int) * 48271 + 11 + n % 2147483647 * 69621).natAbs < 2 ^ 256
       omega
     · show ((k : Int) * 48271 + 11 + n % 2147483647 * 69621).natAbs < 2 ^ 256
       omega
   · have d2 : ¬ 0 < ns.length := fun z => d (decide_eq_true (by rw [eL]; omega))
     rw [if_neg d2] at q
     refine ⟨_, rfl, _, rfl, _, _, rfl, rfl, ⟨ibc ?_, ibc ?_⟩, _, _, rfl, rfl, (by show (0 : Int) < 2147483629; decide), q⟩
     · show ((k : Int) * 48271 + 11).natAbs < 2 ^ 256
       omega
     · show ((k : Int) * 48271 + 11).natAbs < 2 ^ 256
       omega
end
def nmF (p : Int) (k : Nat) : Str := S (repN [120] (p % 4).toNat) ++ S [97 + k % 26] ++ S [97 + k / 26 % 26] ++ S (repN [121] (p / 4 % 5).toNat)
theorem rep_le (l : List Nat) (p : Int) (m : Nat) (h : p.toNat ≤ m) (hl : l.length = 1) : (repN l p.toNat).length ≤ m := by rw [repN_len, hl]; omega
theorem nm_cd (p : Int) (k : Nat) : cd (nmF p k) = repN [120] (p % 4).toNat ++ [97 + k % 26] ++ [97 + k / 26 % 26] ++ repN [121] (p / 4 % 5).toNat := by
 unfold nmF
 rw [cd_app, cd_app, cd_app]
 rfl
theorem nm_inj {p : Int} {j k : Nat} (hj : j < 26) (hk : k < 26) (e : nmF p j = nmF p k) : j = k := by
 have e2 := congrArg cd e
 rw [nm_cd, nm_cd, List.append_assoc, List.append_assoc, List.append_assoc, List.append_assoc] at e2
 have e3 := List.append_cancel_left e2
 have e4 := List.head_eq_of_cons_eq e3
 omega
def spName (K : W.Frag) : Sp := fun vs H Q _ => ∃ (a : Addr) (ns : List Int) (k : Nat), vs = [.ref a, .int k] ∧ SqL K H a (ns.map V.int) ∧ k < 26 ∧ ns.length ≤ 1000 ∧ Ns ns ∧ Q (.str (nmF (cellF ns 0) k)) H
section
variable {P : Program} {w : World} {K : W.Frag} {mg : Str → Option Value} {base : Heap} {A : Adr}
theorem ok_law_name (T : Txt K mg A) : FnOk P w K mg base CX0 2 A.f_law_name A.d_law_name ["_law_script", "_law_k"] (spName K) := by
 have G_law_cell := ok_law_cell (P := P) (w := w) (base := base) T
 refine T.F_law_name.ok sc_law_name (fun vs H Q E h => ?_) (fun cdv A0 outer s H vs Q E hr h => ?_)
 · obtain ⟨a, ns, k, rfl, _⟩ := h
   rfl
 obtain ⟨a, ns, k, rfl, hS, hk, hl, hb, q⟩ := h
 refine ⟨_, (zC (zK (i := 2) sc_law_name.nd rfl (by first | exact Or.inl rfl | exact Or.inr rfl) zN)
     (zC (zK (i := 3) sc_law_name.nd rfl (by first | exact Or.inl rfl | exact Or.inr rfl) (yB G_law_cell (hr.mono (by first | decide | omega)) rfl T.m_law_cell T.k_law_cell T.b_law_cell .nil zU (zA (pv 0) (zA zJ zD))))
     (zF (zO (zM yN (zM yN (zM yN (zM op_mul_str zN (zM xD (pv 3) zJ)) (zV ix_str (pv 2) (zM xD (pv 1) zJ) (fun _ _ => rfl))) (zV ix_str (pv 2) (zM xD (zM op_fdiv (pv 1) zJ) zJ) (fun _ _ => rfl))) (zM op_mul_str zN (zM xD (zM op_fdiv (pv 3) zJ) zJ))))))), ?_⟩
 refine ⟨_, rfl, a, ns, 0, rfl, hS, by decide, hl, hb, ?_⟩
 generalize cellF ns 0 = p at q
 have a0 := Int.emod_nonneg p (b := 4) (by decide)
 have a1 := Int.emod_lt_of_pos p (b := 4) (by decide)
 have b0 := Int.emod_nonneg (p / 4) (b := 5) (by decide)
 have b1 := Int.emod_lt_of_pos (p / 4) (b := 5) (by decide)
 have r1 := rep_le [120] (p % 4) 4 (by omega) rfl
 have r2 := rep_le [121] (p / 4 % 5) 5 (by omega) rfl
 have l1 : (S (repN (cd (Str.ofString "x")) (p % 4).toNat)).length ≤ 4 := by rw [yX, cd_S]; exact r1
 have l2 : (S (repN (cd (Str.ofString "y")) (p / 4 % 5).toNat)).length ≤ 5 := by rw [yX, cd_S]; exact r2
 have lx : (Str.ofString "x").length = 1 := by symm
 have ly : (Str.ofString "y").length = 1 := by symm
 have lz : ("abcdefghijklmnopqrstuvwxyz" : Str).length = 26 := by symm
 have k0 : ((k : Int) % 26).toNat = k % 26 := by omega
 have k1 : ((k : Int) / 26 % 26).toNat = k / 26 % 26 := by omega
 have c0 := let_at ((k : Int) % 26) (by omega) (by omega)
 have c1 := let_at ((k : Int) / 26 % 26) (by omega) (by omega)
 rw [k0] at c0
 rw [k1] at c1
 have ls : ∀ c : Nat, (⟨#[c]⟩ : Str).length = 1 := fun c => rfl
 refine ⟨_, rfl, _, _, rfl, rfl, (by show (0 : Int) < 4; decide), _, _, rfl, rfl, a0, (by omega), (by rw [lx]; omega), (by rw [lx]; omega), ?_⟩
 refine ⟨_, rfl, _, rfl, _, _, rfl, rfl, (by show (0 : Int) < 26; decide), _, _, _, rfl, rfl, (by rw [lz, sizeLine_eq]; omega), c0, ?_⟩
 refine ⟨_, _, rfl, rfl, (by rw [sizeLine_eq]; have := ls (97 + k % 26); omega), ?_⟩
 refine ⟨_, rfl, _, rfl, _, _, rfl, rfl, ⟨by decide, by decide⟩, _, _, rfl, rfl, (by show (0 : Int) < 26; decide), _, _, _, rfl, rfl, (by rw [lz, sizeLine_eq]; omega), c1, ?_⟩
 refine ⟨_, _, rfl, rfl, (by rw [sizeLine_eq, xB]; have := ls (97 + k % 26); have := ls (97 + k / 26 % 26); omega), ?_⟩
 refine ⟨_, rfl, _, _, rfl, rfl, ⟨by decide, by decide⟩, _, _, rfl, rfl, (by show (0 : Int) < 5; decide), _, _, rfl, rfl, b0, (by omega), (by rw [ly]; omega), (by rw [ly]; omega), ?_⟩
 exact ⟨_, _, rfl, rfl, (by rw [sizeLine_eq, xB, xB]; have := ls (97 + k % 26); have := ls (97 + k / 26 % 26); omega), q⟩
end
end K71
set_option maxHeartbeats 4000000
namespace K71
open PySem L2
seal PE PT PW PA PS PSs PG PGs PI PO PSet OpR UnR CallR TruR IxR SlR PC PPs
local macro_rules | `(tactic| walk_at "rd1") => `(tactic| first
 | (refine And.intro rfl ?_)
 | (refine And.intro (by assumption) ?_)
 | (refine And.intro (fun _ e => e) ?_)
 | (refine And.intro (TyOf.str _) ?_) | (refine And.intro (TyOf.int _) ?_) | (refine And.intro (TyOf.bl _) ?_) | (refine And.intro TyOf.non ?_)
 | (refine iteT ?_) | (refine iteF ?_)
 | (apply Exists.intro))
local macro_rules | `(tactic| walk_at "rd") => `(tactic| repeat (walk_at "rd1"))
theorem upd_none {H : Hp} {a b : Addr} {o : HO} (h : upd H a o b = none) : b ≠ a ∧ H b = none := by
 by_cases e : b = a
 · subst e; rw [zB] at h; cases h
 · exact ⟨e, by rw [zI e] at h; exact h⟩
theorem same_none {H H' : Hp} (s : Same H H') {b : Addr} (h : H' b = none) : H b = none := by
 cases e : H b with
 | none => rfl
 | some o => rw [s b o e] at h; cases h
def Fr (M : List Addr) (H H' : Hp) : Prop := ∀ b o, H b = some o → b ∉ M → H' b = some o
theorem Fr.of {M : List Addr} {H H' : Hp} (s : Same H H') : Fr M H H' := fun b o h _ => s b o h
theorem Fr.trans {M : List Addr} {H H' H'' : Hp} (a : Fr M H H') (b : Fr M H' H'') : Fr M H H'' := fun x o h n => b x o (a x o h n) n
theorem Fr.upd {M : List Addr} {H H' : Hp} (a : Fr M H H') {m : Addr} (h : m ∈ M) (o : HO) : Fr M H (upd H' m o) := fun x u hx n => by
 rw [zI (fun e => n (by rw [e]; exact h))]; exact a x u hx n
theorem Fr.new {M : List Addr} {H H' : Hp} (a : Fr M H H') {m : Addr} (h : H' m = none) (o : HO) : Fr M H (L2.upd H' m o) := fun x u hx n => by
 have := a x u hx n
 rw [zI (zG this h)]; exact this
theorem Fr.more {M M' : List Addr} {H H' : Hp} (a : Fr M H H') (h : ∀ m ∈ M, m ∈ M') : Fr M' H H' := fun x u hx n => a x u hx fun e => n (h x e)
theorem fr_none {M : List Addr} {H H' : Hp} (a : Fr M H H') {b : Addr} (n : b ∉ M) (h : H' b = none) : H b = none := by
 cases e : H b with
 | none => rfl
 | some o => rw [a b o e n] at h; cases h
theorem ni1 {x a : Addr} (h : x ≠ a) : x ∉ [a] := fun e => h (List.mem_singleton.mp e)
abbrev oAsk (A : Adr) (dx : Addr) (u1 u2 u3 : V) : HO := .ins A.c_Ask dx [("name", u1), ("kind", u2), ("when", u3)]
abbrev oSh (A : Adr) (dx : Addr) (u1 u2 : V) (q1 q2 : Addr) : HO := .ins A.c_Sheet dx [("name", u1), ("each", u2), ("rows", .ref q1), ("ways", .ref q2)]
abbrev oPa (A : Adr) (dx : Addr) (u1 : V) (q1 q2 : Addr) : HO := .ins A.c_Paper dx [("name", u1), ("sheets", .ref q1), ("totals", .ref q2)]
def spRowI (K : W.Frag) : Sp := fun vs H Q _ => ∃ p C dx u1, vs = [.ref p, u1] ∧ H p = some (.ins C dx []) ∧ Cls K C ∧ NoAttr K C "name" ∧ Q .non (upd H p (.ins C dx [("name", u1)]))
def spAskI (A : Adr) : Sp := fun vs H Q _ => ∃ p dx u1 u2 u3, vs = [.ref p, u1, u2, u3] ∧ H p = some (.ins A.c_Ask dx []) ∧ Q .non (upd H p (oAsk A dx u1 u2 u3))
def spSheetI (A : Adr) (K : W.Frag) : Sp := fun vs H Q _ => ∃ p dx u1 u2 l1 l2 xs ys, vs = [.ref p, u1, u2, .ref l1, .ref l2] ∧ H p = some (.ins A.c_Sheet dx []) ∧ H l1 = some (.lst xs) ∧ H l2 = some (.lst ys) ∧
 ∀ q1 q2 H', q1 ≠ q2 → H q1 = none → H q2 = none → Fr [p] H H' → H' p = some (oSh A dx u1 u2 q1 q2) → H' q1 = some (.lst xs) → H' q2 = some (.lst ys) → Q .non H'
abbrev Part := Int × Option Str
def nv : Option Str → V
 | none => .non
 | some z => .str z
def PtR (H : Hp) (x : V) (p : Part) : Prop := ∃ a, x = .ref a ∧ H a = some (.tup [.int p.1, nv p.2])
def PsR (H : Hp) (l : Addr) (ps : List Part) : Prop := ∃ xs, H l = some (.lst xs) ∧ Paired (PtR H) xs ps
abbrev Tot := Str × List Part
def TtR (H : Hp) (x : V) (t : Tot) : Prop := ∃ a l, x = .ref a ∧ H a = some (.tup [.str t.1, .ref l]) ∧ PsR H l t.2
def TsR (H : Hp) (l : Addr) (ts : List Tot) : Prop := ∃ xs, H l = some (.lst xs) ∧ Paired (TtR H) xs ts
def Kp (H H' : Hp) : Prop := ∀ b o, H b = some o → ((∃ t, o = .tup t) ∨ ∃ l, o = .lst l) → H' b = some o
theorem Kp.of {H H' : Hp} (s : Same H H') : Kp H H' := fun b o h _ => s b o h
theorem Fr.kp {p : Addr} {H H' : Hp} {C dx : Addr} {fs : List (Str × V)} (F : Fr [p] H H') (hp : H p = some (.ins C dx fs)) : Kp H H' := fun b o h k => F b o h (ni1 (yG h hp (by
 rcases k with ⟨t, rfl⟩ | ⟨l, rfl⟩ <;> (intro z; cases z))))
theorem PtR.kp {H H' : Hp} (s : Kp H H') {x : V} {p : Part} (h : PtR H x p) : PtR H' x p := let ⟨a, e, h1⟩ := h; ⟨a, e, s _ _ h1 (.inl ⟨_, rfl⟩)⟩
theorem PsR.kp {H H' : Hp} (s : Kp H H') {l : Addr} {ps : List Part} (h : PsR H l ps) : PsR H' l ps := let ⟨xs, e, h1⟩ := h; ⟨xs, s _ _ e (.inr ⟨_, rfl⟩), zE h1 fun _ _ r => r.kp s⟩
theorem TtR.kp {H H' : Hp} (s : Kp H H') {x : V} {t : Tot} (h : TtR H x t) : TtR H' x t := let ⟨a, l, e, h1, h2⟩ := h; ⟨a, l, e, s _ _ h1 (.inl ⟨_, rfl⟩), h2.kp s⟩
theorem TsR.kp {H H' : Hp} (s : Kp H H') {l : Addr} {ts : List Tot} (h : TsR H l ts) : TsR H' l ts := let ⟨xs, e, h1⟩ := h; ⟨xs, s _ _ e (.inr ⟨_, rfl⟩), zE h1 fun _ _ r => r.kp s⟩
def spInit (K : W.Frag) : Sp := fun vs H Q _ => ∃ p C dx lo hi, vs = [.ref p, lo, hi] ∧ H p = some (.ins C dx []) ∧ Cls K C ∧ NoAttr K C "low" ∧ NoAttr K C "high" ∧ Q .non (upd H p (.ins C dx [("low", lo), ("high", hi)]))
def spPaperI (A : Adr) (K : W.Frag) : Sp := fun vs H Q _ => ∃ p dx u1 l1 l2 xs ts, vs = [.ref p, u1, .ref l1, .ref l2] ∧ H p = some (.ins A.c_Paper dx []) ∧ H l1 = some (.lst xs) ∧ TsR H l2 ts ∧ ts.length ≤ 100 ∧
 ∀ q1 q2 H', Fr [p] H H' → H' p = some (oPa A dx u1 q1 q2) → H' q1 = some (.lst xs) → TsR H' q2 ts → Q .non H'
section
variable {P : Program} {w : World} {K : W.Frag} {mg : Str → Option Value} {base : Heap} {A : Adr}
theorem ok_kind_init (T : Txt K mg A) : FnOk P w K mg base CX0 1 A.f_c_Kind___init A.d_c_Kind___init ["self", "low", "high"] (spInit K) := by
 refine T.F_c_Kind___init.ok sc_c_Kind___init (fun vs H Q E h => ?_) (fun cdv A0 outer s H vs Q E hr h => ?_)
 · obtain ⟨p, C, dx, lo, hi, rfl, _⟩ := h
   rfl
 obtain ⟨p, C, dx, lo, hi, rfl, hp, cl, n1, n2, q⟩ := h
 refine ⟨_, (zC (yO (pv 0) (pv 1) rfl)
     (zF (yO (pv 0) (pv 2) rfl))), ?_⟩
 refine ⟨_, rfl, _, rfl, p, C, dx, _, rfl, hp, cl, n1, by decide, ?_⟩
 refine ⟨_, rfl, _, rfl, p, C, dx, _, rfl, zB, cl, n2, (by show 1 < 1000; decide), ?_⟩
 rw [upd_upd]
 exact q
theorem ok_row_init (T : Txt K mg A) : FnOk P w K mg base CX0 1 A.f_c_Row___init A.d_c_Row___init ["self", "name"] (spRowI K) := by
 refine T.F_c_Row___init.ok sc_c_Row___init (fun vs H Q E h => ?_) (fun cdv A0 outer s H vs Q E hr h => ?_)
 · obtain ⟨p, C, dx, u1, rfl, _⟩ := h
   rfl
 obtain ⟨p, C, dx, u1, rfl, hp, cl, na, q⟩ := h
 refine ⟨_, (zF (yO (pv 0) (pv 1) rfl)), ?_⟩
 exact ⟨_, rfl, _, rfl, p, _, dx, _, rfl, hp, cl, na, by decide, q⟩
theorem ok_ask_init (T : Txt K mg A) : FnOk P w K mg base CX0 3 A.f_c_Ask___init A.d_c_Ask___init ["self", "name", "kind", "when"] (spAskI A) := by
 have G_c_Row___init := ok_row_init (P := P) (w := w) (base := base) T
 refine T.F_c_Ask___init.ok sc_c_Ask___init (fun vs H Q E h => ?_) (fun cdv A0 outer s H vs Q E hr h => ?_)
 · obtain ⟨p, dx, u1, u2, u3, rfl, _⟩ := h
   rfl
 obtain ⟨p, dx, u1, u2, u3, rfl, hp, q⟩ := h
 refine ⟨_, (zC (yU (pe_clsfn T.cf_Row_init G_c_Row___init (hr.mono (by first | decide | omega)) rfl T.m_Row T.b_c_Row___init zU (zA (pv 0) (zA (pv 1) zD))))
     (zC (yO (pv 0) (pv 2) rfl)
     (zF (yO (pv 0) (pv 3) rfl)))), ?_⟩
 refine ⟨_, rfl, _, rfl, p, _, dx, u1, rfl, hp, T.cl_Ask, T.no_Ask_name, ?_⟩
 refine ⟨_, rfl, _, rfl, p, _, dx, _, rfl, zB, T.cl_Ask, T.no_Ask_kind, (by show 1 < 1000; decide), ?_⟩
 refine ⟨_, rfl, _, rfl, p, _, dx, _, rfl, zB, T.cl_Ask, T.no_Ask_when, (by show 2 < 1000; decide), ?_⟩
 rw [upd_upd, upd_upd]
 exact q
theorem ok_sheet_init (T : Txt K mg A) : FnOk P w K mg base CX0 1 A.f_c_Sheet___init A.d_c_Sheet___init ["self", "name", "each", "rows", "ways"] (spSheetI A K) := by
 refine T.F_c_Sheet___init.ok sc_c_Sheet___init (fun vs H Q E h => ?_) (fun cdv A0 outer s H vs Q E hr h => ?_)
 · obtain ⟨p, dx, u1, u2, l1, l2, xs, ys, rfl, _⟩ := h
   rfl
 obtain ⟨p, dx, u1, u2, l1, l2, xs, ys, rfl, hp, h1, h2, q⟩ := h
 refine ⟨_, (zC (yO (pv 0) (pv 1) rfl)
     (zC (yO (pv 0) (pv 2) rfl)
     (zC (yO (pv 0) (yR xE (by rfl) T.n_list Bt.list (zA (pv 3) zD)) rfl)
     (zF (yO (pv 0) (yR xE (by rfl) T.n_list Bt.list (zA (pv 4) zD)) rfl))))), ?_⟩
 have n1 : l1 ≠ p := yG h1 hp (by intro z; cases z)
 have n2 : l2 ≠ p := yG h2 hp (by intro z; cases z)
 refine ⟨_, rfl, _, rfl, p, _, dx, _, rfl, hp, T.cl_Sheet, T.no_Sheet_name, by decide, ?_⟩
 refine ⟨_, rfl, _, rfl, p, _, dx, _, rfl, zB, T.cl_Sheet, T.no_Sheet_each, (by show 1 < 1000; decide), ?_⟩
 rw [upd_upd]
 refine ⟨_, rfl, l1, xs, rfl, .inl (SqL.of (by rw [zI n1]; exact h1)), fun q1 hq1 => ?_⟩
 obtain ⟨e1, f1⟩ := upd_none hq1
 refine ⟨_, rfl, p, _, dx, _, rfl, (by rw [zI (Ne.symm e1)]; exact zB), T.cl_Sheet, T.no_Sheet_rows, (by show 2 < 1000; decide), ?_⟩
 refine ⟨_, rfl, l2, ys, rfl, .inl (SqL.of (by rw [zI n2, zI (zG h2 f1), zI n2]; exact h2)), fun q2 hq2 => ?_⟩
 obtain ⟨e2, g2⟩ := upd_none hq2
 obtain ⟨e3, g3⟩ := upd_none g2
 obtain ⟨e4, f2⟩ := upd_none g3
 refine ⟨_, rfl, p, _, dx, _, rfl, (by rw [zI (Ne.symm e2)]; exact zB), T.cl_Sheet, T.no_Sheet_ways, (by show 3 < 1000; decide), ?_⟩
 refine q q1 q2 _ (Ne.symm e3) f1 f2 (fun b o hb hn => ?_) zB ?_ ?_
 · have nb : b ≠ p := fun e => hn (by rw [e]; exact List.mem_singleton.mpr rfl)
   rw [zI nb, zI (zG hb f2), zI nb, zI (zG hb f1), zI nb]; exact hb
 · rw [zI e1, zI (Ne.symm e3), zI e1]; exact zB
 · rw [zI e2]; exact zB
theorem ok_paper_init (T : Txt K mg A) : FnOk P w K mg base CX0 1 A.f_c_Paper___init A.d_c_Paper___init ["self", "name", "sheets", "totals"] (spPaperI A K) := by
 refine T.F_c_Paper___init.ok sc_c_Paper___init (fun vs H Q E h => ?_) (fun cdv A0 outer s H vs Q E hr h => ?_)
 · obtain ⟨p, dx, u1, l1, l2, xs, ts, rfl, _⟩ := h
   rfl
 obtain ⟨p, dx, u1, l1, l2, xs, ts, rfl, hp, h1, ht, hz, q⟩ := h
 obtain ⟨ys, h2, hys⟩ := id ht
 refine ⟨_, (zC (yO (pv 0) (pv 1) rfl)
     (zC (yO (pv 0) (yR xE (by rfl) T.n_list Bt.list (zA (pv 2) zD)) rfl)
     (zF (yO (pv 0) (pe_compT (compOk2_of (compOk_of (x := "total") (M := ["self", "name", "sheets", "totals"]) rfl (by rfl)) (by rfl) (by symm)) rfl (pi_list (pv 3)) (fun _ _ _ _ => pifs_nil) (fun _ _ _ _ => pe_eqv (by exact (yQ (zA (pv 0) (zA (yR xE (by rfl) T.n_list Bt.list (zA (pv 1) zD)) zD)))) (by dsimp only [compCx2] <;> rfl))) rfl)))), ?_⟩
 have n1 : l1 ≠ p := yG h1 hp (by intro z; cases z)
 have n2 : l2 ≠ p := yG h2 hp (by intro z; cases z)
 refine ⟨_, rfl, _, rfl, p, _, dx, _, rfl, hp, T.cl_Paper, T.no_Paper_name, by decide, ?_⟩
 refine ⟨_, rfl, l1, xs, rfl, .inl (SqL.of (by rw [zI n1]; exact h1)), fun q1 hq1 => ?_⟩
 obtain ⟨e1, f1⟩ := upd_none hq1
 refine ⟨_, rfl, p, _, dx, _, rfl, (by rw [zI (Ne.symm e1)]; exact zB), T.cl_Paper, T.no_Paper_sheets, (by show 1 < 1000; decide), ?_⟩
 generalize hG : upd (upd (upd H p (.ins A.c_Paper dx (putF (Str.ofString "name") u1 []))) q1 (.lst xs)) p (.ins A.c_Paper dx (putF (Str.ofString "sheets") (V.ref q1) (putF (Str.ofString "name") u1 []))) = H1
 have F1 : Fr [p] H H1 := by rw [← hG]; exact (((Fr.of (Same.refl _)).upd (List.mem_singleton.mpr rfl) _).new hq1 _).upd (List.mem_singleton.mpr rfl) _
 have hp1 : H1 p = some (.ins A.c_Paper dx [("name", u1), ("sheets", .ref q1)]) := by rw [← hG]; exact zB
 have hq1' : H1 q1 = some (.lst xs) := by rw [← hG, zI e1]; exact zB
 have hl2 : H1 l2 = some (.lst ys) := F1 _ _ h2 (ni1 n2)
 have K1 : Kp H H1 := F1.kp hp
 have lys : ys.length ≤ 100 := by rw [zL hys]; exact hz
 refine ⟨_, rfl, l2, rfl, ⟨_, SqL.of hl2⟩, ?_⟩
 refine comp_listT (xs := ys) (zP (m := 100) lys) (fun i zs H' => Same H1 H' ∧ Paired (TtR H') zs (ts.take i)) ⟨Same.refl _, .nil⟩ (fun i zs H' hw => SqL.of (hw.1 _ _ hl2)) (fun i x zs H' hx hlen hw => ?_) (fun zs H' hw p2 hp2 => ?_)
 · obtain ⟨s1, hp'⟩ := hw
   obtain ⟨t, ht', a, l, rfl, ha, us, hus, hpu⟩ := yF hys hx
   have k2 : Kp H H' := fun b o h k => s1 _ _ (K1 b o h k)
   refine ⟨a, .str t.1, .ref l, rfl, SqT.of (k2 _ _ ha (.inl ⟨_, rfl⟩)), tt_true ?_⟩
   refine ⟨_, rfl, _, rfl, l, us, rfl, .inl (SqL.of (k2 _ _ hus (.inr ⟨_, rfl⟩))), fun l' hl' => ?_⟩
   have s2 := zH hl' (.lst us)
   refine ⟨(by show 2 ≤ sizeLine; decide), fun a' ha' => ?_⟩
   have s3 := zH ha' (.tup [.str t.1, .ref l'])
   refine ⟨(s1.trans s2).trans s3, ?_⟩
   rw [yI ht']
   exact zZ (zE hp' fun _ _ r => r.kp (.of (s2.trans s3))) (.cons ⟨a', l', rfl, zB, us, s3 _ _ zB, zE hpu fun _ _ r => (r.kp k2).kp (.of (s2.trans s3))⟩ .nil)
 obtain ⟨s1, hp'⟩ := hw
 rw [zL hys, List.take_length] at hp'
 have s2 := s1.trans (zH hp2 (.lst zs))
 have np2 : p2 ≠ p := fun e => by rw [e, s1 _ _ hp1] at hp2; cases hp2
 refine ⟨_, rfl, p, _, dx, _, rfl, s2 _ _ hp1, T.cl_Paper, T.no_Paper_totals, (by show 2 < 1000; decide), ?_⟩
 have F2 : Fr [p] H1 (upd (upd H' p2 (.lst zs)) p (oPa A dx u1 q1 p2)) := (Fr.of s2).upd (List.mem_singleton.mpr rfl) _
 have K3 : Kp (upd H' p2 (.lst zs)) (upd (upd H' p2 (.lst zs)) p (oPa A dx u1 q1 p2)) := ((Fr.of (Same.refl _)).upd (List.mem_singleton.mpr rfl) _ : Fr [p] _ _).kp (s2 _ _ hp1)
 refine q q1 p2 _ (F1.trans F2) zB (F2 _ _ hq1' (ni1 e1)) ?_
 refine TsR.kp K3 ⟨zs, zB, zE hp' fun _ _ r => r.kp (.of (zH hp2 (.lst zs)))⟩
end
end K71
set_option maxHeartbeats 4000000
namespace K71
open PySem L2
seal PE PT PW PA PS PSs PG PGs PI PO PSet OpR UnR CallR TruR IxR SlR PC PPs
local macro_rules | `(tactic| walk_at "rd1") => `(tactic| first
 | (refine And.intro rfl ?_)
 | (refine And.intro (by assumption) ?_)
 | (refine And.intro (fun _ e => e) ?_)
 | (refine And.intro (TyOf.str _) ?_) | (refine And.intro (TyOf.int _) ?_) | (refine And.intro (TyOf.bl _) ?_) | (refine And.intro TyOf.non ?_)
 | (refine iteT ?_) | (refine iteF ?_)
 | (apply Exists.intro))
local macro_rules | `(tactic| walk_at "rd") => `(tactic| repeat (walk_at "rd1"))
abbrev oW (A : Adr) (dk : Addr) (lo hi : Int) : HO := .ins A.c_Whole dk [("low", .int lo), ("high", .int hi)]
def tdW (lo hi : Int) : Str := Str.ofString "whole " ++ (S (numL lo) ++ Str.ofString " " ++ S (numL hi))
def GW (lo hi : Int) : Prop := lo ≤ hi ∧ lo.natAbs < 10 ^ 60 ∧ hi.natAbs < 10 ^ 60
theorem numL_le {n : Int} (h : n.natAbs < 10 ^ 60) : (numL n).length ≤ 61 := by
 have := dig_len (k := 60) (by decide) h
 unfold numL
 split
 · rw [List.length_cons]; omega
 · omega
theorem numL_sg {n : Int} {c : Nat} (h : c ∈ numL n) : c = 45 ∨ 48 ≤ c ∧ c ≤ 57 := by
 unfold numL at h
 split at h
 · rcases List.mem_cons.mp h with h | h
   · exact .inl h
   · exact .inr (dig_fig h)
 · exact .inr (dig_fig h)
theorem numL_free (n : Int) : 32 ∉ numL n := fun h => by
 have := numL_sg h
 omega
theorem numL_fine {n : Int} (h : n.natAbs < 10 ^ 60) : Fine 100 (S (numL n)) := ⟨by rw [len_S]; have := numL_le h; omega, fun c hc => by
 rw [cd_S] at hc
 have := numL_sg hc
 omega⟩
theorem td_cd (lo hi : Int) : cd (tdW lo hi) = joinL [32] [cd (Str.ofString "whole"), numL lo, numL hi] := by
 unfold tdW
 rw [cd_app, cd_app, cd_app, cd_S, cd_S, show cd (Str.ofString "whole ") = cd (Str.ofString "whole") ++ [32] by symm, show cd (Str.ofString " ") = [32] by symm]
 show _ = cd (Str.ofString "whole") ++ [32] ++ (numL lo ++ [32] ++ numL hi)
 rfl
theorem td_split (lo hi : Int) : (Txt.split (tdW lo hi) (Str.ofString " ")).map V.str = [.str (Str.ofString "whole"), .str (S (numL lo)), .str (S (numL hi))] := by
 rw [show Str.ofString " " = S [32] by symm, split_is, td_cd, splitL_of (by simp) (fun p hp => ?_)]
 · show [V.str (S (cd (Str.ofString "whole"))), _, _] = _
   rw [S_cd]
 · rcases List.mem_cons.mp hp with rfl | hp
   · decide +kernel
   rcases List.mem_cons.mp hp with rfl | hp
   · exact numL_free _
   rw [List.mem_singleton.mp hp]
   exact numL_free _
theorem td_len {lo hi : Int} (g : GW lo hi) : (tdW lo hi).length ≤ 200 := by
 unfold tdW
 rw [xB, xB, xB, len_S, len_S]
 have h1 := numL_le g.2.1
 have h2 := numL_le g.2.2
 have z0 : (Str.ofString " ").length = 1 := by symm
 have z1 : (Str.ofString "whole ").length = 6 := by symm
 omega
def spIsW (K : W.Frag) : Sp := fun vs H Q _ => ∃ x t bi bb, vs = [x] ∧ TyE K H x t ∧ W.kitOne K t (.type "int") = some bi ∧ W.kitOne K t (.type "bool") = some bb ∧ Q (.bl (bi && !bb)) H
def spNon : Sp := fun vs H Q _ => ∃ z, vs = [.str z] ∧ Fine 1000 z ∧ ∀ H', Same H H' → Q (numV (numB (cd z) 60)) H'
def spBd (K : W.Frag) : Sp := fun vs H Q _ => ∃ (p : Addr) (a b : Int), vs = [.ref p] ∧ SqL K H p [.int a, .int b] ∧ Q (.bl (decide (a ≤ b))) H
def spWon (A : Adr) : Sp := fun vs H Q _ => ∃ (p : Addr) (lo hi : Int), vs = [.ref p] ∧ H p = some (.lst [.str (S (numL lo)), .str (S (numL hi))]) ∧ GW lo hi ∧ ∀ k dk H', Same H H' → H' k = some (oW A dk lo hi) → Q (.ref k) H'
def spKon (A : Adr) : Sp := fun vs H Q _ => ∃ (p : Addr) (lo hi : Int), vs = [.str (Str.ofString "whole"), .ref p] ∧ H p = some (.lst [.str (S (numL lo)), .str (S (numL hi))]) ∧ GW lo hi ∧ ∀ k dk H', Same H H' → H' k = some (oW A dk lo hi) → Q (.ref k) H'
def spKof (A : Adr) : Sp := fun vs H Q _ => ∃ lo hi : Int, vs = [.str (tdW lo hi)] ∧ GW lo hi ∧ ∀ k dk H', Same H H' → H' k = some (oW A dk lo hi) → Q (.ref k) H'
def oI : Option Int → V
 | some n => .int n
 | none => .non
def fitO (lo hi : Int) : Option Int → Bool
 | some n => decide (lo ≤ n) && decide (n ≤ hi)
 | none => false
def spFitO (A : Adr) : Sp := fun vs H Q _ => ∃ k dk lo hi o, vs = [.ref k, oI o] ∧ H k = some (oW A dk lo hi) ∧ Q (.bl (fitO lo hi o)) H
section
variable {P : Program} {w : World} {K : W.Frag} {mg : Str → Option Value} {base : Heap} {A : Adr}
theorem mk_same {H : Hp} {a dx : Addr} (o : HO) (nx : H a = none) (nd : H dx = none) : Same H (upd (upd H dx (.own a)) a o) := fun b u e => by
 rw [zI (zG e nx), zI (zG e nd)]; exact e
theorem ok_is_whole (T : Txt K mg A) : FnOk P w K mg base CX0 1 A.f_is_whole A.d_is_whole ["thing"] (spIsW K) := by
 refine T.F_is_whole.ok sc_is_whole (fun vs H Q E h => ?_) (fun cdv A0 outer s H vs Q E hr h => ?_)
 · obtain ⟨x, _, _, _, rfl, _⟩ := h
   rfl
 obtain ⟨x, t, bi, bb, rfl, ty, k1, k2, q⟩ := h
 refine ⟨_, (zF (zO (pe_and (zQ xA (by rfl) T.n_isinstance Bt.isinstance (zA (pv 0) (zA (pe_bltn (v := .ty "int") rfl T.n_int Bt.int rfl) zD))) (pe_one (pe_not (zQ xA (by rfl) T.n_isinstance Bt.isinstance (zA (pv 0) (zA (pe_bltn (v := .ty "bool") rfl T.n_bool Bt.bool rfl) zD)))))))), ?_⟩
 refine ⟨_, rfl, _, _, _, _, rfl, rfl, ty, k1, _, rfl, ?_⟩
 cases bi with
 | false => exact iteF q
 | true => exact iteT ⟨_, rfl, _, _, _, _, rfl, rfl, ty, k2, _, rfl, q⟩
theorem ok_number_or_none (T : Txt K mg A) : FnOk P w K mg base CX0 3 A.f_number_or_none A.d_number_or_none ["text"] spNon := by
 have G_number_of := ok_number_of (P := P) (w := w) (base := base) T
 refine T.F_number_or_none.ok sc_number_or_none (fun vs H Q E h => ?_) (fun cdv A0 outer s H vs Q E hr h => ?_)
 · obtain ⟨x, rfl, _⟩ := h
   rfl
 obtain ⟨z, rfl, hz, q⟩ := h
 refine ⟨_, (zF (ps_try rfl rfl (psx_one (psx_ret (pex_call G_number_of (hr.mono (by first | decide | omega)) rfl T.m_number_of T.k_number_of T.bd_number_of T.dv_number_of (zA (pv 0) zD)))) rfl T.m_NoNumber (fun _ => (zF (zO xC))))), ?_⟩
 refine ⟨_, rfl, _, _, rfl, by decide, .inl ⟨z, rfl, hz, fun n H' s1 e => ?_, fun H' s1 e => ?_⟩⟩
 · rw [e] at q; exact q _ s1
 · refine ⟨T.em_NoNumber_NoNumber, ?_⟩
   rw [e] at q; exact q _ s1
theorem ok_wshown (T : Txt K mg A) : FnOk P w K mg base CX0 1 A.f_c_Whole_shown A.d_c_Whole_shown ["self", "answer"] (fun vs H Q _ => ∃ p n, vs = [p, .int n] ∧ n.natAbs < 10 ^ 60 ∧ ∀ H', Same H H' → Q (.str (S (numL n))) H') := by
 refine T.F_c_Whole_shown.ok sc_c_Whole_shown (fun vs H Q E h => ?_) (fun cdv A0 outer s H vs Q E hr h => ?_)
 · obtain ⟨p, z, rfl, _⟩ := h
   rfl
 obtain ⟨p, n, rfl, hn, q⟩ := h
 refine ⟨_, (zF (zO (yR call_str_int (by rfl) T.n_str Bt.str (zA (pv 1) zD)))), ?_⟩
 refine ⟨_, rfl, n, rfl, logOk (Nat.lt_trans hn (by symm)), ?_⟩
 rw [str_is]
 exact q _ (Same.refl _)
def JWs (T : Txt K mg A) : MethJ P w K mg base CX0 3 A.c_Whole "shown" := ⟨_, _, _, _, [], [], T.cl_Whole, T.me_Whole_shown, (ok_wshown T).mono (by decide), T.b_c_Whole_shown, .nil⟩
theorem ok_bounds (T : Txt K mg A) : FnOk P w K mg base CX0 4 A.f_c_Whole_bounds A.d_c_Whole_bounds ["self"] (fun vs H Q _ => ∃ k dk lo hi, vs = [.ref k] ∧ H k = some (oW A dk lo hi) ∧ GW lo hi ∧ ∀ H', Same H H' → Q (.str (S (numL lo) ++ Str.ofString " " ++ S (numL hi))) H') := by
 refine T.F_c_Whole_bounds.ok sc_c_Whole_bounds (fun vs H Q E h => ?_) (fun cdv A0 outer s H vs Q E hr h => ?_)
 · obtain ⟨k, dk, lo, hi, rfl, _⟩ := h
   rfl
 obtain ⟨k, dk, lo, hi, rfl, hk, g, q⟩ := h
 have z1 := (numL_fine g.2.1).len
 have z2 := (numL_fine g.2.2).len
 have z0 : (Str.ofString " ").length = 1 := by symm
 refine ⟨_, (zF (zO (zM yN (zM yN (yJ (CX := CX0) (k := 3) (hr.mono (by first | decide | omega)) zU (pv 0) (zA (zY (pv 0) rfl) zD)) zN) (yJ (CX := CX0) (k := 3) (hr.mono (by first | decide | omega)) zU (pv 0) (zA (zY (pv 0) rfl) zD))))), ?_⟩
 refine ⟨_, rfl, k, _, dk, _, JWs T, rfl, hk, rfl, _, rfl, k, _, dk, _, _, rfl, hk, T.cl_Whole, T.no_Whole_low, rfl, _, lo, rfl, g.2.1, fun H1 s1 => ?_⟩
 refine ⟨_, _, rfl, rfl, zP (m := 1000) (by omega), ?_⟩
 refine ⟨_, rfl, k, _, dk, _, JWs T, rfl, s1 _ _ hk, rfl, _, rfl, k, _, dk, _, _, rfl, s1 _ _ hk, T.cl_Whole, T.no_Whole_high, rfl, _, hi, rfl, g.2.2, fun H2 s2 => ?_⟩
 exact ⟨_, _, rfl, rfl, zP (m := 1000) (by rw [xB]; omega), q _ (s1.trans s2)⟩
def JWb (T : Txt K mg A) : MethJ P w K mg base CX0 4 A.c_Whole "bounds" := ⟨_, _, _, _, [], [], T.cl_Whole, T.me_Whole_bounds, (ok_bounds T).mono (by decide), T.b_c_Whole_bounds, .nil⟩
theorem ok_wtold (T : Txt K mg A) : FnOk P w K mg base CX0 5 A.f_c_Whole_told A.d_c_Whole_told ["self"] (fun vs H Q _ => ∃ k dk lo hi, vs = [.ref k] ∧ H k = some (oW A dk lo hi) ∧ GW lo hi ∧ ∀ H', Same H H' → Q (.str (tdW lo hi)) H') := by
 refine T.F_c_Whole_told.ok sc_c_Whole_told (fun vs H Q E h => ?_) (fun cdv A0 outer s H vs Q E hr h => ?_)
 · obtain ⟨k, dk, lo, hi, rfl, _⟩ := h
   rfl
 obtain ⟨k, dk, lo, hi, rfl, hk, g, q⟩ := h
 refine ⟨_, (zF (zO (zM yN zN (pe_methG0 (CX := CX0) (k := 4) (hr.mono (by first | decide | omega)) zU (pv 0))))), ?_⟩
 refine ⟨_, rfl, k, _, dk, _, JWb T, rfl, hk, rfl, k, dk, lo, hi, rfl, hk, g, fun H1 s1 => ?_⟩
 have z1 := (numL_fine g.2.1).len
 have z2 := (numL_fine g.2.2).len
 have z0 : (Str.ofString " ").length = 1 := by symm
 have z3 : (Str.ofString "whole ").length = 6 := by symm
 exact ⟨_, _, rfl, rfl, zP (m := 1000) (by rw [xB, xB]; omega), q _ s1⟩
def JWt (T : Txt K mg A) : MethJ P w K mg base CX0 6 A.c_Whole "told" := ⟨_, _, _, _, [], [], T.cl_Whole, T.me_Whole_told, (ok_wtold T).mono (by decide), T.b_c_Whole_told, .nil⟩
theorem ok_wrank (T : Txt K mg A) : FnOk P w K mg base CX0 1 A.f_c_Whole_rank A.d_c_Whole_rank ["self", "answer"] (fun vs H Q _ => ∃ p x, vs = [p, x] ∧ Q x H) := by
 refine T.F_c_Whole_rank.ok sc_c_Whole_rank (fun vs H Q E h => ?_) (fun cdv A0 outer s H vs Q E hr h => ?_)
 · obtain ⟨p, x, rfl, _⟩ := h
   rfl
 obtain ⟨p, x, rfl, q⟩ := h
 exact ⟨_, (zF (zO (pv 1))), _, rfl, q⟩
def JWr (T : Txt K mg A) : MethJ P w K mg base CX0 1 A.c_Whole "rank" := ⟨_, _, _, _, [], [], T.cl_Whole, T.me_Whole_rank, ok_wrank T, T.b_c_Whole_rank, .nil⟩
theorem ok_wfits (T : Txt K mg A) : FnOk P w K mg base CX0 2 A.f_c_Whole_fits A.d_c_Whole_fits ["self", "thing"] (spFitO A) := by
 have G_is_whole := ok_is_whole (P := P) (w := w) (base := base) T
 refine T.F_c_Whole_fits.ok sc_c_Whole_fits (fun vs H Q E h => ?_) (fun cdv A0 outer s H vs Q E hr h => ?_)
 · obtain ⟨k, dk, lo, hi, o, rfl, _⟩ := h
   rfl
 obtain ⟨k, dk, lo, hi, o, rfl, hk, q⟩ := h
 refine ⟨_, (zF (zO (pe_and (yB G_is_whole (hr.mono (by first | decide | omega)) rfl T.m_is_whole T.k_is_whole T.b_is_whole .nil zU (zA (pv 1) zD)) (pe_one (pe_chain op_le op_le (zY (pv 0) rfl) (pv 1) (zY (pv 0) rfl)))))), ?_⟩
 cases o with
 | none => exact ⟨_, rfl, _, _, _, _, rfl, .old .non, T.i_NoneType_int, T.i_NoneType_bool, _, rfl, iteF q⟩
 | some n =>
   refine ⟨_, rfl, _, _, _, _, rfl, .old (.int n), T.i_int_int, T.i_int_bool, _, rfl, iteT ?_⟩
   refine ⟨_, rfl, k, _, dk, _, _, rfl, hk, T.cl_Whole, T.no_Whole_low, rfl, _, rfl, _, _, rfl, rfl, _, rfl, ite2 (fun c => ?_) (fun c => ?_)⟩
   · refine ⟨_, rfl, k, _, dk, _, _, rfl, hk, T.cl_Whole, T.no_Whole_high, rfl, _, _, rfl, rfl, ?_⟩
     have : fitO lo hi (some n) = decide (n ≤ hi) := by
       show (decide (lo ≤ n) && decide (n ≤ hi)) = _
       rw [show decide (lo ≤ n) = true from c]; rfl
     rw [this] at q
     exact q
   · have : fitO lo hi (some n) = false := by
       show (decide (lo ≤ n) && decide (n ≤ hi)) = _
       rw [show decide (lo ≤ n) = false from Bool.eq_false_iff.mpr c]; rfl
     rw [this] at q
     exact q
def JWf (T : Txt K mg A) : MethJ P w K mg base CX0 4 A.c_Whole "fits" := ⟨_, _, _, _, [], [], T.cl_Whole, T.me_Whole_fits, (ok_wfits T).mono (by decide), T.b_c_Whole_fits, .nil⟩
theorem ok_are_bounds (T : Txt K mg A) : FnOk P w K mg base CX0 1 A.f_are_bounds A.d_are_bounds ["numbers"] (spBd K) := by
 refine T.F_are_bounds.ok sc_are_bounds (fun vs H Q E h => ?_) (fun cdv A0 outer s H vs Q E hr h => ?_)
 · obtain ⟨p, a, b, rfl, _⟩ := h
   rfl
 obtain ⟨p, a, b, rfl, hq, q⟩ := h
 refine ⟨_, (zF (zO (pe_and (pe_cmpR op_eq (zQ zS (by rfl) T.n_len PySem.boot_len (zA (pv 0) zD)) zJ (zX _)) (pe_and (pe_cmpR op_notIn_seq xC (pv 0) (by rfl)) (pe_one (pe_cmpR op_le (zV yE (pv 0) zJ (fun _ _ => rfl)) (zV yE (pv 0) zJ (fun _ _ => rfl)) (zX _))))))), ?_⟩
 refine ⟨_, rfl, p, _, rfl, .inl hq, rfl, _, rfl, iteT ?_⟩
 refine ⟨_, rfl, p, _, rfl, .inl hq, rfl, rfl, _, rfl, iteY rfl ?_⟩
 exact ⟨_, rfl, p, _, _, _, rfl, rfl, hq, yC (j := 0) rfl, _, rfl, p, _, _, _, rfl, rfl, hq, yC (j := 1) rfl, _, _, rfl, rfl, q⟩
theorem ok_whole_or_none (T : Txt K mg A) : FnOk P w K mg base CX0 4 A.f_whole_or_none A.d_whole_or_none ["words"] (spWon A) := by
 have G_number_or_none := ok_number_or_none (P := P) (w := w) (base := base) T
 have G_are_bounds := ok_are_bounds (P := P) (w := w) (base := base) T
 have G_c_Kind___init := ok_kind_init (P := P) (w := w) (base := base) T
 refine T.F_whole_or_none.ok sc_whole_or_none (fun vs H Q E h => ?_) (fun cdv A0 outer s H vs Q E hr h => ?_)
 · obtain ⟨p, lo, hi, rfl, _⟩ := h
   rfl
 obtain ⟨p, lo, hi, rfl, hp, g, q⟩ := h
 refine ⟨_, (zC (ps_compR (i := 1) sc_whole_or_none.nd rfl (by first | exact Or.inl rfl | exact Or.inr rfl) (compOk_of (x := "word") (M := ["words", "numbers"]) rfl (by rfl)) rfl (pi_list (pv 0)) (fun _ _ _ _ => (yB G_number_or_none (hr.mono (by first | decide | omega)) rfl T.m_number_or_none T.k_number_or_none T.b_number_or_none .nil zU (zA (pv 0) zD))))
     (zF (zO (pe_ifExp (pt_val (yB G_are_bounds (hr.mono (by first | decide | omega)) rfl T.m_are_bounds T.k_are_bounds T.b_are_bounds .nil zU (zA (pv 1) zD))) (pe_make T.mk_Whole G_c_Kind___init (hr.mono (by first | decide | omega)) rfl T.m_Whole T.b_c_Kind___init .nil zU (zA (zV yE (pv 1) zJ (fun _ _ => rfl)) (zA (zV yE (pv 1) zJ (fun _ _ => rfl)) zD))) xC)))), ?_⟩
 refine ⟨_, rfl, p, rfl, ⟨_, SqL.of hp⟩, ?_⟩
 refine comp_listR (xs := [lo, hi].map fun n => V.str (S (numL n))) (by show 2 ≤ sizeLine; decide) (fun i ys H' => Same H H' ∧ ys = ([lo, hi].take i).map V.int) ⟨Same.refl _, rfl⟩ (fun i ys H' hw => SqL.of (hw.1 _ _ hp)) (fun i x ys H' hx _ hw => ?_) (fun ys H' _ hw p2 hp2 => ?_)
 · obtain ⟨sH, rfl⟩ := hw
   obtain ⟨n, hn, rfl⟩ := map_get hx
   have hn6 : n.natAbs < 10 ^ 60 := by
     rcases List.mem_cons.mp (List.mem_of_getElem? hn) with rfl | h
     · exact g.2.1
     · rw [List.mem_singleton.mp h]; exact g.2.2
   refine ⟨_, rfl, S (numL n), rfl, (numL_fine hn6).mono (by decide), fun H2 s2 => ⟨sH.trans s2, ?_⟩⟩
   rw [cd_S, numB_str hn6, yI hn, List.map_append]; rfl
 obtain ⟨sH, rfl⟩ := hw
 rw [show ([lo, hi].take ([lo, hi].map fun n => V.str (S (numL n))).length).map V.int = [V.int lo, .int hi] from rfl]
 have s2 := zH hp2 (.lst [.int lo, .int hi])
 have e2 : (upd H' p2 (.lst [.int lo, .int hi])) p2 = some (.lst [.int lo, .int hi]) := zB
 generalize upd H' p2 (.lst [.int lo, .int hi]) = H2 at s2 e2
 dsimp only [gName, List.set_cons_succ, List.set_cons_zero]
 refine ⟨_, rfl, p2, lo, hi, rfl, SqL.of e2, _, rfl, ?_⟩
 rw [decide_eq_true g.1]
 refine iteT ⟨_, rfl, p2, _, _, _, rfl, rfl, SqL.of e2, yC (j := 0) rfl, _, rfl, p2, _, _, _, rfl, rfl, SqL.of e2, yC (j := 1) rfl, ?_⟩
 intro x dx nx nd ne
 refine ⟨x, A.c_Whole, dx, _, _, rfl, zB, T.cl_Whole, T.no_Whole_low, T.no_Whole_high, rfl, ?_⟩
 rw [upd_upd]
 exact q x dx _ ((sH.trans s2).trans (mk_same _ nx nd)) zB
theorem ok_kind_or_none (T : Txt K mg A) : FnOk P w K mg base CX0 5 A.f_kind_or_none A.d_kind_or_none ["first", "words"] (spKon A) := by
 have G_whole_or_none := ok_whole_or_none (P := P) (w := w) (base := base) T
 refine T.F_kind_or_none.ok sc_kind_or_none (fun vs H Q E h => ?_) (fun cdv A0 outer s H vs Q E hr h => ?_)
 · obtain ⟨p, lo, hi, rfl, _⟩ := h
   rfl
 obtain ⟨p, lo, hi, rfl, hp, g, q⟩ := h
 refine ⟨_, (zC (yK (zR op_eq (pv 0) zN (zX _)) (zF ps_no) zW)
     (zC (yK (zR op_eq (pv 0) zN (zX _)) (zF (zO (yB G_whole_or_none (hr.mono (by first | decide | omega)) rfl T.m_whole_or_none T.k_whole_or_none T.b_whole_or_none .nil zU (zA (pv 1) zD)))) zW)
     (zC (yK (zR op_eq (pv 0) zN (zX _)) (zF ps_no) zW)
     (zC (yK (zR op_eq (pv 0) zN (zX _)) (zF ps_no) zW)
     (zC (yK (zR op_eq (pv 0) zN (zX _)) (zF ps_no) zW)
     (zF (zO xC))))))), ?_⟩
 refine ⟨_, rfl, rfl, _, rfl, iteO (by symm) ?_⟩
 exact ⟨_, rfl, rfl, _, rfl, iteB (decide_eq_true rfl) ⟨_, rfl, p, lo, hi, rfl, hp, g, q⟩⟩
theorem ok_kind_of (T : Txt K mg A) : FnOk P w K mg base CX0 6 A.f_kind_of A.d_kind_of ["text"] (spKof A) := by
 have G_kind_or_none := ok_kind_or_none (P := P) (w := w) (base := base) T
 refine T.F_kind_of.ok sc_kind_of (fun vs H Q E h => ?_) (fun cdv A0 outer s H vs Q E hr h => ?_)
 · obtain ⟨lo, hi, rfl, _⟩ := h
   rfl
 obtain ⟨lo, hi, rfl, g, q⟩ := h
 refine ⟨_, (zC (yK (pt_not (pt_val (zQ xA (by rfl) T.n_isinstance Bt.isinstance (zA (pv 0) (zA (pe_bltn (v := .ty "str") rfl T.n_str Bt.str rfl) zD))))) (zF ps_no) zW)
     (zC (zK (i := 1) sc_kind_of.nd rfl (by first | exact Or.inl rfl | exact Or.inr rfl) (pe_bm PySem.F.plainAttrs_str PySem.F.slot_str_split PySem.F.type_str_split mt_split (pv 0) (zA zN zD)))
     (zC (zK (i := 2) sc_kind_of.nd rfl (by first | exact Or.inl rfl | exact Or.inr rfl) (yB G_kind_or_none (hr.mono (by first | decide | omega)) rfl T.m_kind_or_none T.k_kind_or_none T.b_kind_or_none .nil zU (zA (zV yE (pv 1) zJ (fun _ _ => rfl)) (zA (pe_slice sl_list (pv 1) (po_some zJ) po_none) zD))))
     (zC (yK (zR op_isN (pv 2) xC (zX _)) (zF ps_no) zW)
     (zF (zO (pv 2))))))), ?_⟩
 refine ⟨_, rfl, _, _, _, _, rfl, rfl, .old (.str _), T.i_str_str, _, rfl, iteF ?_⟩
 refine ⟨_, rfl, rfl, _, _, rfl, rfl, (by symm), Nat.le_trans (td_len g) (by decide), fun l hl => ?_⟩
 rw [td_split]
 have s1 := zH hl (.lst [.str (Str.ofString "whole"), .str (S (numL lo)), .str (S (numL hi))])
 have e1 : (upd H l (.lst [.str (Str.ofString "whole"), .str (S (numL lo)), .str (S (numL hi))])) l = some (.lst [.str (Str.ofString "whole"), .str (S (numL lo)), .str (S (numL hi))]) := zB
 generalize upd H l (.lst [.str (Str.ofString "whole"), .str (S (numL lo)), .str (S (numL hi))]) = H1 at s1 e1
 dsimp only [gName, List.set_cons_succ, List.set_cons_zero]
 refine ⟨_, rfl, l, _, _, _, rfl, rfl, SqL.of e1, yC (j := 0) rfl, _, rfl, _, rfl, l, _, rfl, SqL.of e1, fun pc hpc => ?_⟩
 rw [show cutV [V.str (Str.ofString "whole"), .str (S (numL lo)), .str (S (numL hi))] (some 1) none = [.str (S (numL lo)), .str (S (numL hi))] from rfl]
 have s2 := zH hpc (.lst [.str (S (numL lo)), .str (S (numL hi))])
 refine ⟨pc, lo, hi, rfl, zB, g, fun k dk H3 s3 hk => ?_⟩
 exact ⟨_, rfl, rfl, _, rfl, iteF ⟨_, rfl, q k dk _ ((s1.trans s2).trans s3) hk⟩⟩
end
end K71
set_option maxHeartbeats 4000000
namespace K71
open PySem L2
seal PE PT PW PA PS PSs PG PGs PI PO PSet OpR UnR CallR TruR IxR SlR PC PPs
local macro_rules | `(tactic| walk_at "rd1") => `(tactic| first
 | (refine And.intro rfl ?_)
 | (refine And.intro (by assumption) ?_)
 | (refine And.intro (fun _ e => e) ?_)
 | (refine And.intro (TyOf.str _) ?_) | (refine And.intro (TyOf.int _) ?_) | (refine And.intro (TyOf.bl _) ?_) | (refine And.intro TyOf.non ?_)
 | (refine iteT ?_) | (refine iteF ?_)
 | (apply Exists.intro))
local macro_rules | `(tactic| walk_at "rd") => `(tactic| repeat (walk_at "rd1"))
theorem yY {t u : TS} {D : Ends} {σ : St} {H : Hp} (hm : ∀ N : St → Hp → Prop, (∀ σ' H', u D σ' H' → N σ' H') → t { D with nx := N } σ H) : tSeq t u D σ H := hm _ fun _ _ h => h
abbrev Qn := Str × Int × Int
def Qn.G (q : Qn) : Prop := GW q.2.1 q.2.2
def AskR (A : Adr) (H : Hp) (x : V) (q : Qn) : Prop := ∃ r dr k dk, x = .ref r ∧ H r = some (oAsk A dr (.str q.1) (.ref k) .non) ∧ H k = some (oW A dk q.2.1 q.2.2)
def ShR (A : Adr) (H : Hp) (x : V) (rows : List Qn) : Prop := ∃ sa ds z qr qw xs, x = .ref sa ∧ H sa = some (oSh A ds (.str z) .non qr qw) ∧ H qr = some (.lst xs) ∧ Paired (AskR A H) xs rows ∧ H qw = some (.lst [])
def PaR (A : Adr) (H : Hp) (a : Addr) (S : List (List Qn)) : Prop := ∃ da u q1 q2 xs, H a = some (oPa A da u q1 q2) ∧ H q1 = some (.lst xs) ∧ Paired (ShR A H) xs S
theorem AskR.fr {A : Adr} {m : Addr} {H H' : Hp} {o : HO} (F : Fr [m] H H') (hm : H m = some o) (no : ∀ C dx fs, o ≠ .ins C dx fs) {x : V} {q : Qn} (h : AskR A H x q) : AskR A H' x q := by
 obtain ⟨r, dr, k, dk, e, h1, h2⟩ := h
 exact ⟨r, dr, k, dk, e, F _ _ h1 (ni1 (yG h1 hm (fun z => no _ _ _ z.symm))), F _ _ h2 (ni1 (yG h2 hm (fun z => no _ _ _ z.symm)))⟩
theorem AskR.same {A : Adr} {H H' : Hp} (s : Same H H') {x : V} {q : Qn} (h : AskR A H x q) : AskR A H' x q := by
 obtain ⟨r, dr, k, dk, e, h1, h2⟩ := h
 exact ⟨r, dr, k, dk, e, s _ _ h1, s _ _ h2⟩
theorem ShR.same {A : Adr} {H H' : Hp} (s : Same H H') {x : V} {r : List Qn} (h : ShR A H x r) : ShR A H' x r := by
 obtain ⟨sa, ds, z, qr, qw, xs, e, h1, h2, h3, h4⟩ := h
 exact ⟨sa, ds, z, qr, qw, xs, e, s _ _ h1, s _ _ h2, zE h3 fun _ _ r => r.same s, s _ _ h4⟩
theorem PaR.same {A : Adr} {H H' : Hp} (s : Same H H') {a : Addr} {S : List (List Qn)} (h : PaR A H a S) : PaR A H' a S := by
 obtain ⟨da, u, q1, q2, xs, h1, h2, h3⟩ := h
 exact ⟨da, u, q1, q2, xs, s _ _ h1, s _ _ h2, zE h3 fun _ _ r => r.same s⟩
def GS (S : List (List Qn)) : Prop := S.length ≤ 10 ∧ ∀ r ∈ S, r.length ≤ 10 ∧ ∀ q ∈ r, q.G
def spKinds (A : Adr) : Sp := fun vs H Q _ => ∃ a S, vs = [.ref a] ∧ PaR A H a S ∧ GS S ∧ ∀ d H', Same H H' → Q (.ref d) H'
section
variable {P : Program} {w : World} {K : W.Frag} {mg : Str → Option Value} {base : Heap} {A : Adr}
theorem ok_kinds_of (T : Txt K mg A) : FnOk P w K mg base CX0 1 A.f_kinds_of A.d_kinds_of ["paper"] (spKinds A) := by
 refine T.F_kinds_of.ok sc_kinds_of (fun vs H Q E h => ?_) (fun cdv A0 outer s H vs Q E hr h => ?_)
 · obtain ⟨a, S, rfl, _⟩ := h
   rfl
 obtain ⟨a, S, rfl, ⟨da, u, q1, q2, xs, ha, hq1, hS⟩, g, q⟩ := h
 refine ⟨_, (zC (zK (i := 1) sc_kinds_of.nd rfl (by first | exact Or.inl rfl | exact Or.inr rfl) pe_dnewK)
     (zC (yT PassesOwn.never rfl (pi_list (zY (pv 0) rfl)) (yH (i := 2) sc_kinds_of.nd rfl (by first | exact Or.inl rfl | exact Or.inr rfl)) (zF (yT PassesOwn.never rfl (pi_list (zY (pv 2) rfl)) (yH (i := 3) sc_kinds_of.nd rfl (by first | exact Or.inl rfl | exact Or.inr rfl)) (zF (yK (pt_val (zQ xA (by rfl) T.n_isinstance Bt.isinstance (zA (pv 3) (zA (pe_gv rfl T.v_Ask) zD)))) (zF (ps_dput (hu_of hr) (pv 1) (zY (pv 3) rfl) (zY (pv 3) rfl) rfl)) zW)))))
     (zF (zO (pv 1))))), ?_⟩
 intro d hd
 have s0 := zH hd (.dK [])
 have nd1 : ∀ {b : Addr} {o : HO} {G : Hp}, Fr [d] (upd H d (.dK [])) G → H b = some o → G b = some o := fun {b o G} F hb => F _ _ (s0 _ _ hb) (ni1 (zG hb hd))
 have lxs := zL hS
 refine ⟨_, rfl, a, _, da, _, _, rfl, s0 _ _ ha, T.cl_Paper, T.no_Paper_sheets, rfl, q1, rfl, ⟨_, SqL.of (s0 _ _ hq1)⟩, ?_⟩
 refine for_listR (xs := xs) (fun i σ G => ∃ u v kvs, σ = [some (.ref a), some (.ref d), u, v] ∧ Fr [d] (upd H d (.dK [])) G ∧ G d = some (.dK kvs) ∧ kvs.length ≤ i * 10) ⟨_, _, [], rfl, Fr.of (Same.refl _), zB, Nat.zero_le _⟩ (fun i σ G hi hw => ?_) (fun i x σ G hx hw => ?_) (fun σ G hw => ?_)
 · obtain ⟨u, v, kvs, rfl, F, _⟩ := hw
   exact SqL.of (nd1 F hq1)
 · obtain ⟨u, v, kvs, rfl, F, hd', hk⟩ := hw
   obtain ⟨rows, hri, sa, ds, z, qr, qw, ys, rfl, a1, a2, a3, a4⟩ := yF hS hx
   have li := (List.getElem?_eq_some_iff.mp hri).1
   have hr10 := (g.2 rows (List.mem_of_getElem? hri)).1
   have g1 := g.1
   have lys := zL a3
   refine ⟨_, rfl, sa, _, ds, _, _, rfl, nd1 F a1, T.cl_Sheet, T.no_Sheet_rows, rfl, qr, rfl, ⟨_, SqL.of (nd1 F a2)⟩, ?_⟩
   refine for_listR (xs := ys) (fun j σ G => ∃ v kvs, σ = [some (.ref a), some (.ref d), some (.ref sa), v] ∧ Fr [d] (upd H d (.dK [])) G ∧ G d = some (.dK kvs) ∧ kvs.length ≤ i * 10 + j) ⟨_, kvs, rfl, F, hd', hk⟩ (fun j σ G2 hj hw => ?_) (fun j x σ G2 hx2 hw => ?_) (fun σ G2 hw => ?_)
   · obtain ⟨v, kvs, rfl, F, _⟩ := hw
     exact SqL.of (nd1 F a2)
   · obtain ⟨v, kvs, rfl, F, hd', hk⟩ := hw
     obtain ⟨qq, hq, ra, rdx, kk, dk, rfl, hr, hkk⟩ := yF a3 hx2
     have lj := (List.getElem?_eq_some_iff.mp hq).1
     have hr2 := nd1 F hr
     refine ⟨_, rfl, _, _, _, _, rfl, rfl, .old (T.ty_Ask G2 ra rdx _ hr2), T.kr_Ask_Ask, _, rfl, iteT ?_⟩
     refine ⟨_, rfl, ra, _, rdx, _, _, rfl, hr2, T.cl_Ask, T.no_Ask_kind, rfl, _, rfl, _, rfl, ra, _, rdx, _, _, rfl, hr2, T.cl_Ask, T.no_Ask_name, rfl, d, _, rfl, DPut.k (k := .inr qq.1) hd' (zP (m := 1000) (by omega)), ?_⟩
     exact ⟨_, _, rfl, F.upd (List.mem_singleton.mpr rfl) _, zB, Nat.le_trans (yS ..) (by omega)⟩
   · obtain ⟨v, kvs, rfl, F, hd', hk⟩ := hw
     exact ⟨_, _, kvs, rfl, F, hd', by omega⟩
 · obtain ⟨u, v, kvs, rfl, F, hd', hk⟩ := hw
   exact ⟨_, rfl, q d G (fun b o hb => nd1 F hb)⟩
theorem ok_eaches_of (T : Txt K mg A) : FnOk P w K mg base CX0 1 A.f_eaches_of A.d_eaches_of ["paper"] (spKinds A) := by
 refine T.F_eaches_of.ok sc_eaches_of (fun vs H Q E h => ?_) (fun cdv A0 outer s H vs Q E hr h => ?_)
 · obtain ⟨a, S, rfl, _⟩ := h
   rfl
 obtain ⟨a, S, rfl, ⟨da, u, q1, q2, xs, ha, hq1, hS⟩, g, q⟩ := h
 refine ⟨_, (zC (zK (i := 1) sc_eaches_of.nd rfl (by first | exact Or.inl rfl | exact Or.inr rfl) pe_dnewK)
     (zC (yT PassesOwn.never rfl (pi_list (zY (pv 0) rfl)) (yH (i := 2) sc_eaches_of.nd rfl (by first | exact Or.inl rfl | exact Or.inr rfl)) (zF (yT PassesOwn.never rfl (pi_list (zY (pv 2) rfl)) (yH (i := 3) sc_eaches_of.nd rfl (by first | exact Or.inl rfl | exact Or.inr rfl)) (zF (yK (pt_val (zQ xA (by rfl) T.n_isinstance Bt.isinstance (zA (pv 3) (zA (pe_gv rfl T.v_Ask) zD)))) (zF (ps_dput (hu_of hr) (pv 1) (zY (pv 3) rfl) (zY (pv 2) rfl) rfl)) zW)))))
     (zF (zO (pv 1))))), ?_⟩
 intro d hd
 have s0 := zH hd (.dK [])
 have nd1 : ∀ {b : Addr} {o : HO} {G : Hp}, Fr [d] (upd H d (.dK [])) G → H b = some o → G b = some o := fun {b o G} F hb => F _ _ (s0 _ _ hb) (ni1 (zG hb hd))
 have lxs := zL hS
 refine ⟨_, rfl, a, _, da, _, _, rfl, s0 _ _ ha, T.cl_Paper, T.no_Paper_sheets, rfl, q1, rfl, ⟨_, SqL.of (s0 _ _ hq1)⟩, ?_⟩
 refine for_listR (xs := xs) (fun i σ G => ∃ u v kvs, σ = [some (.ref a), some (.ref d), u, v] ∧ Fr [d] (upd H d (.dK [])) G ∧ G d = some (.dK kvs) ∧ kvs.length ≤ i * 10) ⟨_, _, [], rfl, Fr.of (Same.refl _), zB, Nat.zero_le _⟩ (fun i σ G hi hw => ?_) (fun i x σ G hx hw => ?_) (fun σ G hw => ?_)
 · obtain ⟨u, v, kvs, rfl, F, _⟩ := hw
   exact SqL.of (nd1 F hq1)
 · obtain ⟨u, v, kvs, rfl, F, hd', hk⟩ := hw
   obtain ⟨rows, hri, sa, ds, z, qr, qw, ys, rfl, a1, a2, a3, a4⟩ := yF hS hx
   have li := (List.getElem?_eq_some_iff.mp hri).1
   have hr10 := (g.2 rows (List.mem_of_getElem? hri)).1
   have g1 := g.1
   have lys := zL a3
   refine ⟨_, rfl, sa, _, ds, _, _, rfl, nd1 F a1, T.cl_Sheet, T.no_Sheet_rows, rfl, qr, rfl, ⟨_, SqL.of (nd1 F a2)⟩, ?_⟩
   refine for_listR (xs := ys) (fun j σ G => ∃ v kvs, σ = [some (.ref a), some (.ref d), some (.ref sa), v] ∧ Fr [d] (upd H d (.dK [])) G ∧ G d = some (.dK kvs) ∧ kvs.length ≤ i * 10 + j) ⟨_, kvs, rfl, F, hd', hk⟩ (fun j σ G2 hj hw => ?_) (fun j x σ G2 hx2 hw => ?_) (fun σ G2 hw => ?_)
   · obtain ⟨v, kvs, rfl, F, _⟩ := hw
     exact SqL.of (nd1 F a2)
   · obtain ⟨v, kvs, rfl, F, hd', hk⟩ := hw
     obtain ⟨qq, hq, ra, rdx, kk, dk, rfl, hr, hkk⟩ := yF a3 hx2
     have lj := (List.getElem?_eq_some_iff.mp hq).1
     have hr2 := nd1 F hr
     have hs2 := nd1 F a1
     refine ⟨_, rfl, _, _, _, _, rfl, rfl, .old (T.ty_Ask G2 ra rdx _ hr2), T.kr_Ask_Ask, _, rfl, iteT ?_⟩
     refine ⟨_, rfl, sa, _, ds, _, _, rfl, hs2, T.cl_Sheet, T.no_Sheet_each, rfl, _, rfl, _, rfl, ra, _, rdx, _, _, rfl, hr2, T.cl_Ask, T.no_Ask_name, rfl, d, _, rfl, DPut.k (k := .inr qq.1) hd' (zP (m := 1000) (by omega)), ?_⟩
     exact ⟨_, _, rfl, F.upd (List.mem_singleton.mpr rfl) _, zB, Nat.le_trans (yS ..) (by omega)⟩
   · obtain ⟨v, kvs, rfl, F, hd', hk⟩ := hw
     exact ⟨_, _, kvs, rfl, F, hd', by omega⟩
 · obtain ⟨u, v, kvs, rfl, F, hd', hk⟩ := hw
   exact ⟨_, rfl, q d G (fun b o hb => nd1 F hb)⟩
end
inductive Pg where
 | en
 | ask (q : Qn) (b : Nat)
def pgV : Pg → List V
 | .en => [.str "end"]
 | .ask q b => [.str "ask", .str q.1, .str (tdW q.2.1 q.2.2), .non, .int (b : Nat)]
def PgR (H : Hp) (x : V) (pg : Pg) : Prop := ∃ t, x = .ref t ∧ H t = some (.tup (pgV pg))
theorem PgR.same {H H' : Hp} (s : Same H H') {x : V} {pg : Pg} (h : PgR H x pg) : PgR H' x pg := by
 obtain ⟨t, e, h⟩ := h
 exact ⟨t, e, s _ _ h⟩
theorem PgR.fr {m : Addr} {H H' : Hp} {us : List V} (F : Fr [m] H H') (hm : H m = some (.lst us)) {x : V} {pg : Pg} (h : PgR H x pg) : PgR H' x pg := by
 obtain ⟨t, e, h⟩ := h
 exact ⟨t, e, F _ _ h (ni1 (yG h hm (by intro z; cases z)))⟩
def mkL (done : List Qn) : List Pg := Pg.en :: done.mapIdx fun i q => Pg.ask q i
theorem mkL_snoc (done : List Qn) (q : Qn) : mkL (done ++ [q]) = mkL done ++ [.ask q done.length] := by
 unfold mkL
 rw [List.mapIdx_append, List.cons_append]
 congr 2
 show [Pg.ask q (0 + done.length)] = _
 rw [Nat.zero_add]
theorem mkL_len (done : List Qn) : (mkL done).length = done.length + 1 := by unfold mkL; rw [List.length_cons, List.length_mapIdx]
def pgL : Pg → List V
 | .en => []
 | .ask _ b => [.int (b : Nat)]
def pgW : Pg → List V
 | .en => [.str "end"]
 | .ask q _ => [.str "ask", .str q.1, .str (tdW q.2.1 q.2.2), .non]
def spLeads : Sp := fun vs H Q _ => ∃ t pg, vs = [.ref t] ∧ H t = some (.tup (pgV pg)) ∧ ∀ l H', Same H H' → H' l = some (.tup (pgL pg)) → Q (.ref l) H'
def spWithout : Sp := fun vs H Q _ => ∃ t pg, vs = [.ref t] ∧ H t = some (.tup (pgV pg)) ∧ ∀ l H', Same H H' → H' l = some (.tup (pgW pg)) → Q (.ref l) H'
section
variable {P : Program} {w : World} {K : W.Frag} {mg : Str → Option Value} {base : Heap} {A : Adr}
theorem ok_leads_of (T : Txt K mg A) : FnOk P w K mg base CX0 1 A.f_leads_of A.d_leads_of ["page"] spLeads := by
 refine T.F_leads_of.ok sc_leads_of (fun vs H Q E h => ?_) (fun cdv A0 outer s H vs Q E hr h => ?_)
 · obtain ⟨t, pg, rfl, _⟩ := h
   rfl
 obtain ⟨t, pg, rfl, ht, q⟩ := h
 refine ⟨_, (zF (zO (pe_slice sl_tup3 (pv 0) (po_some (zM op_sub (zQ zS (by rfl) T.n_len PySem.boot_len (zA (pv 0) zD)) (pe_gsub rfl T.m_LEADS T.t_LEADS (zV yD (pv 0) zJ (fun _ _ => rfl)) (fun _ _ => rfl)))) po_none))), ?_⟩
 cases pg with
 | en => exact ⟨_, rfl, _, rfl, t, _, rfl, .inr (SqT.of ht), _, rfl, t, _, _, _, rfl, rfl, SqT.of ht, rfl, _, _, rfl, rfl, _, _, rfl, rfl, _, rfl, t, _, rfl, SqT.of ht, .inr ⟨(by intro h; exact absurd h.1 (by decide)), fun l hl => q l _ (zH hl _) zB⟩⟩
 | ask qq b => exact ⟨_, rfl, _, rfl, t, _, rfl, .inr (SqT.of ht), _, rfl, t, _, _, _, rfl, rfl, SqT.of ht, rfl, _, _, rfl, rfl, _, _, rfl, rfl, _, rfl, t, _, rfl, SqT.of ht, .inr ⟨(by intro h; exact absurd h.1 (show ¬ HT.sIx 5 0 (some (((5 : Nat) : Int) - 1)) = 0 by decide)), fun l hl => q l _ (zH hl _) zB⟩⟩
theorem ok_without_leads (T : Txt K mg A) : FnOk P w K mg base CX0 1 A.f_without_leads A.d_without_leads ["page"] spWithout := by
 refine T.F_without_leads.ok sc_without_leads (fun vs H Q E h => ?_) (fun cdv A0 outer s H vs Q E hr h => ?_)
 · obtain ⟨t, pg, rfl, _⟩ := h
   rfl
 obtain ⟨t, pg, rfl, ht, q⟩ := h
 refine ⟨_, (zF (zO (pe_slice sl_tup3 (pv 0) po_none (po_some (zM op_sub (zQ zS (by rfl) T.n_len PySem.boot_len (zA (pv 0) zD)) (pe_gsub rfl T.m_LEADS T.t_LEADS (zV yD (pv 0) zJ (fun _ _ => rfl)) (fun _ _ => rfl))))))), ?_⟩
 cases pg with
 | en => exact ⟨_, rfl, _, rfl, t, _, rfl, .inr (SqT.of ht), _, rfl, t, _, _, _, rfl, rfl, SqT.of ht, rfl, _, _, rfl, rfl, _, _, rfl, rfl, _, rfl, t, _, rfl, SqT.of ht, .inl ⟨⟨rfl, rfl⟩, q t _ (Same.refl _) ht⟩⟩
 | ask qq b => exact ⟨_, rfl, _, rfl, t, _, rfl, .inr (SqT.of ht), _, rfl, t, _, _, _, rfl, rfl, SqT.of ht, rfl, _, _, rfl, rfl, _, _, rfl, rfl, _, rfl, t, _, rfl, SqT.of ht, .inr ⟨(by intro h; exact absurd h.2 (show ¬ HT.sIx 5 5 (some (((5 : Nat) : Int) - 1)) = 5 by decide)), fun l hl => q l _ (zH hl _) zB⟩⟩
end
end K71
set_option maxHeartbeats 4000000
namespace K71
open PySem L2
seal PE PT PW PA PS PSs PG PGs PI PO PSet OpR UnR CallR TruR IxR SlR PC PPs
local macro_rules | `(tactic| walk_at "rd1") => `(tactic| first
 | (refine And.intro rfl ?_)
 | (refine And.intro (by assumption) ?_)
 | (refine And.intro (fun _ e => e) ?_)
 | (refine And.intro (TyOf.str _) ?_) | (refine And.intro (TyOf.int _) ?_) | (refine And.intro (TyOf.bl _) ?_) | (refine And.intro TyOf.non ?_)
 | (refine iteT ?_) | (refine iteF ?_)
 | (apply Exists.intro))
local macro_rules | `(tactic| walk_at "rd") => `(tactic| repeat (walk_at "rd1"))
abbrev oPm (A : Adr) (dp : Addr) (a : Addr) (d1 d2 : V) (lm : Addr) : HO := .ins A.c_PageMaker dp [("paper", .ref a), ("kinds", d1), ("eaches", d2), ("made", .ref lm)]
theorem same_fr {m : Addr} {B H H' : Hp} (s : Same B H) (hm : B m = none) (F : Fr [m] H H') : Same B H' := fun b o h => F _ _ (s _ _ h) (ni1 (zG h hm))
def MkR (A : Adr) (H : Hp) (p a lm : Addr) (done : List Qn) : Prop := (∃ dp d1 d2, H p = some (oPm A dp a d1 d2 lm)) ∧ ∃ xs, H lm = some (.lst xs) ∧ Paired (PgR H) xs (mkL done)
def spPmI (A : Adr) : Sp := fun vs H Q _ => ∃ p dx a S B, vs = [.ref p, .ref a] ∧ H p = some (.ins A.c_PageMaker dx []) ∧ Same B H ∧ B p = none ∧ PaR A B a S ∧ GS S ∧ ∀ d1 d2 lm H', Same B H' → H' p = some (oPm A dx a d1 d2 lm) → B lm = none → H' lm = some (.lst []) → Q .non H'
def spPut (A : Adr) : Sp := fun vs H Q _ => ∃ p dp a d1 d2 lm t xs, vs = [.ref p, .ref t] ∧ H p = some (oPm A dp a d1 d2 lm) ∧ H lm = some (.lst xs) ∧ xs.length ≤ 1000 ∧ Q (.int (xs.length : Nat)) (upd H lm (.lst (xs ++ [.ref t])))
def spSay : Sp := fun vs H Q _ => ∃ p y n, vs = [p, .non, y, n] ∧ Q y H
def spRow (A : Adr) : Sp := fun vs H Q _ => ∃ p a lm x q done B, vs = [.ref p, x, .non, .int (done.length : Nat)] ∧ MkR A H p a lm done ∧ Same B H ∧ B lm = none ∧ AskR A B x q ∧ q.G ∧ done.length ≤ 900 ∧
 ∀ H', Fr [lm] H H' → MkR A H' p a lm (done ++ [q]) → Q (.int ((done ++ [q]).length : Nat)) H'
def spRows (A : Adr) : Sp := fun vs H Q _ => ∃ p a lm sa ds u1 qr qw xs rows done B, vs = [.ref p, .ref sa, .int (done.length : Nat)] ∧ MkR A H p a lm done ∧ Same B H ∧ B lm = none ∧ B sa = some (oSh A ds u1 .non qr qw) ∧ B qr = some (.lst xs) ∧ Paired (AskR A B) xs rows ∧ (∀ q ∈ rows, q.G) ∧ done.length + rows.length ≤ 900 ∧
 ∀ H', Fr [lm] H H' → MkR A H' p a lm (done ++ rows.reverse) → Q (.int ((done ++ rows.reverse).length : Nat)) H'
def spSheet (A : Adr) : Sp := fun vs H Q _ => ∃ p a lm x y rows done B, vs = [.ref p, x, y, .int (done.length : Nat)] ∧ MkR A H p a lm done ∧ Same B H ∧ B lm = none ∧ ShR A B x rows ∧ (∀ q ∈ rows, q.G) ∧ done.length + rows.length ≤ 900 ∧
 ∀ H', Fr [lm] H H' → MkR A H' p a lm (done ++ rows.reverse) → Q (.int ((done ++ rows.reverse).length : Nat)) H'
def spAll (A : Adr) : Sp := fun vs H Q _ => ∃ p dp d1 d2 a lm S B, vs = [.ref p] ∧ H p = some (oPm A dp a d1 d2 lm) ∧ H lm = some (.lst []) ∧ Same B H ∧ B lm = none ∧ PaR A B a S ∧ GS S ∧
 ∀ H', Fr [lm] H H' → MkR A H' p a lm S.flatten.reverse → Q (.int (S.flatten.reverse.length : Nat)) H'
theorem MkR.same {A : Adr} {H H' : Hp} (s : Same H H') {p a lm : Addr} {done : List Qn} (h : MkR A H p a lm done) : MkR A H' p a lm done := by
 obtain ⟨⟨dp, d1, d2, h1⟩, xs, h2, h3⟩ := h
 exact ⟨⟨dp, d1, d2, s _ _ h1⟩, xs, s _ _ h2, zE h3 fun _ _ r => r.same s⟩
section
variable {P : Program} {w : World} {K : W.Frag} {mg : Str → Option Value} {base : Heap} {A : Adr}
theorem ok_pm_init (T : Txt K mg A) : FnOk P w K mg base CX0 2 A.f_c_PageMaker___init A.d_c_PageMaker___init ["self", "paper"] (spPmI A) := by
 have G_kinds_of := ok_kinds_of (P := P) (w := w) (base := base) T
 have G_eaches_of := ok_eaches_of (P := P) (w := w) (base := base) T
 refine T.F_c_PageMaker___init.ok sc_c_PageMaker___init (fun vs H Q E h => ?_) (fun cdv A0 outer s H vs Q E hr h => ?_)
 · obtain ⟨p, dx, a, S, B, rfl, _⟩ := h
   rfl
 obtain ⟨p, dx, a, S, B, rfl, hp, sB, hBp, hP, g, q⟩ := h
 refine ⟨_, (zC (yO (pv 0) (pv 1) rfl)
     (zC (yO (pv 0) (yB G_kinds_of (hr.mono (by first | decide | omega)) rfl T.m_kinds_of T.k_kinds_of T.b_kinds_of .nil zU (zA (pv 1) zD)) rfl)
     (zC (yO (pv 0) (yB G_eaches_of (hr.mono (by first | decide | omega)) rfl T.m_eaches_of T.k_eaches_of T.b_eaches_of .nil zU (zA (pv 1) zD)) rfl)
     (zF (yO (pv 0) (pe_lst zD) rfl))))), ?_⟩
 refine ⟨_, rfl, _, rfl, p, _, dx, _, rfl, hp, T.cl_PageMaker, T.no_PageMaker_paper, by decide, ?_⟩
 have s1 : Same B (upd H p (.ins A.c_PageMaker dx [("paper", .ref a)])) := fun b o hb => by rw [zI (zG hb hBp)]; exact sB _ _ hb
 have e1 : (upd H p (.ins A.c_PageMaker dx [("paper", .ref a)])) p = some (.ins A.c_PageMaker dx [("paper", .ref a)]) := zB
 show tSeq _ _ _ _ (upd H p (.ins A.c_PageMaker dx [("paper", .ref a)]))
 generalize upd H p (.ins A.c_PageMaker dx [("paper", .ref a)]) = H1 at s1 e1
 refine ⟨_, rfl, a, S, rfl, hP.same s1, g, fun d1 H2 s2 => ?_⟩
 have e2 := s2 _ _ e1
 refine ⟨_, rfl, p, _, dx, _, rfl, e2, T.cl_PageMaker, T.no_PageMaker_kinds, (by show 1 < 1000; decide), ?_⟩
 have s3 : Same B (upd H2 p (.ins A.c_PageMaker dx [("paper", .ref a), ("kinds", .ref d1)])) := fun b o hb => by rw [zI (zG hb hBp)]; exact s2 _ _ (s1 _ _ hb)
 have e3 : (upd H2 p (.ins A.c_PageMaker dx [("paper", .ref a), ("kinds", .ref d1)])) p = some (.ins A.c_PageMaker dx [("paper", .ref a), ("kinds", .ref d1)]) := zB
 show tSeq _ _ _ _ (upd H2 p (.ins A.c_PageMaker dx [("paper", .ref a), ("kinds", .ref d1)]))
 generalize upd H2 p (.ins A.c_PageMaker dx [("paper", .ref a), ("kinds", .ref d1)]) = H3 at s3 e3
 refine ⟨_, rfl, a, S, rfl, hP.same s3, g, fun d2 H4 s4 => ?_⟩
 have e4 := s4 _ _ e3
 refine ⟨_, rfl, p, _, dx, _, rfl, e4, T.cl_PageMaker, T.no_PageMaker_eaches, (by show 2 < 1000; decide), ?_⟩
 have s5 : Same B (upd H4 p (.ins A.c_PageMaker dx [("paper", .ref a), ("kinds", .ref d1), ("eaches", .ref d2)])) := fun b o hb => by rw [zI (zG hb hBp)]; exact s4 _ _ (s3 _ _ hb)
 have e5 : (upd H4 p (.ins A.c_PageMaker dx [("paper", .ref a), ("kinds", .ref d1), ("eaches", .ref d2)])) p = some (.ins A.c_PageMaker dx [("paper", .ref a), ("kinds", .ref d1), ("eaches", .ref d2)]) := zB
 have e50 : ∀ {G}, G = upd H4 p (.ins A.c_PageMaker dx [("paper", .ref a), ("kinds", .ref d1), ("eaches", .ref d2)]) → Same B G ∧ G p = some (.ins A.c_PageMaker dx [("paper", .ref a), ("kinds", .ref d1), ("eaches", .ref d2)]) := fun e => by subst e; exact ⟨s5, e5⟩
 refine ⟨(by show 0 ≤ sizeLine; decide), fun lm hlm => ?_⟩
 obtain ⟨s6, e6⟩ := e50 (G := _) (Eq.refl (upd H4 p (.ins A.c_PageMaker dx (putF (Str.ofString "eaches") (V.ref d2) [("paper", .ref a), ("kinds", .ref d1)]))))
 have s7 := zH hlm (.lst [])
 have npl : p ≠ lm := zG e6 hlm
 refine ⟨_, rfl, p, _, dx, _, rfl, s7 _ _ e6, T.cl_PageMaker, T.no_PageMaker_made, (by show 3 < 1000; decide), ?_⟩
 refine q (.ref d1) (.ref d2) lm _ (fun b o hb => ?_) zB (same_none s6 hlm) (by rw [zI (Ne.symm npl)]; exact zB)
 rw [zI (zG hb hBp)]
 exact s7 _ _ (s6 _ _ hb)
theorem ok_put (T : Txt K mg A) : FnOk P w K mg base CX0 1 A.f_c_PageMaker_put A.d_c_PageMaker_put ["self", "page"] (spPut A) := by
 refine T.F_c_PageMaker_put.ok sc_c_PageMaker_put (fun vs H Q E h => ?_) (fun cdv A0 outer s H vs Q E hr h => ?_)
 · obtain ⟨p, dp, a, d1, d2, lm, t, xs, rfl, _⟩ := h
   rfl
 obtain ⟨p, dp, a, d1, d2, lm, t, xs, rfl, hp, hl, hz, q⟩ := h
 refine ⟨_, (zC (yU (pe_bm PySem.F.plainAttrs_list PySem.F.slot_list_append PySem.F.type_list_append yP (zY (pv 0) rfl) (zA (pv 1) zD)))
     (zF (zO (zM op_sub (zQ zS (by rfl) T.n_len PySem.boot_len (zA (zY (pv 0) rfl) zD)) zJ)))), ?_⟩
 refine ⟨_, rfl, p, _, dp, _, _, rfl, hp, T.cl_PageMaker, T.no_PageMaker_made, rfl, .inl ⟨rfl, _, SqL.of hl⟩, _, rfl, lm, _, _, rfl, rfl, hl, zP (m := 2000) (by omega), ?_⟩
 have npl : p ≠ lm := yG hp hl (by intro z; cases z)
 refine ⟨_, rfl, p, _, dp, _, _, rfl, (by rw [zI npl]; exact hp), T.cl_PageMaker, T.no_PageMaker_made, rfl, lm, _, rfl, .inl (SqL.of zB), _, _, rfl, rfl, ?_⟩
 dsimp only
 rw [List.length_append, List.length_singleton, show (((xs.length + 1 : Nat) : Int) - 1) = ((xs.length : Nat) : Int) by omega]
 exact q
def JPut (T : Txt K mg A) : MethJ P w K mg base CX0 1 A.c_PageMaker "put" := ⟨_, _, _, _, [], [], T.cl_PageMaker, T.me_PageMaker_put, ok_put T, T.b_c_PageMaker_put, .nil⟩
theorem ok_put_saying (T : Txt K mg A) : FnOk P w K mg base CX0 1 A.f_c_PageMaker_put_saying A.d_c_PageMaker_put_saying ["self", "saying", "yes", "no"] spSay := by
 refine T.F_c_PageMaker_put_saying.ok sc_c_PageMaker_put_saying (fun vs H Q E h => ?_) (fun cdv A0 outer s H vs Q E hr h => ?_)
 · obtain ⟨p, y, n, rfl, _⟩ := h
   rfl
 obtain ⟨p, y, n, rfl, q⟩ := h
 refine ⟨_, (zF (zO (pe_ifExp (zR op_isN (pv 1) xC (zX _)) (pv 2) pe_no))), ?_⟩
 exact ⟨_, rfl, rfl, _, rfl, iteT ⟨_, rfl, q⟩⟩
def JSay (T : Txt K mg A) : MethJ P w K mg base CX0 2 A.c_PageMaker "put_saying" := ⟨_, _, _, _, [], [], T.cl_PageMaker, T.me_PageMaker_put_saying, (ok_put_saying T).mono (by decide), T.b_c_PageMaker_put_saying, .nil⟩
theorem ok_put_row (T : Txt K mg A) : FnOk P w K mg base CX0 7 A.f_c_PageMaker_put_row A.d_c_PageMaker_put_row ["self", "row", "each", "behind"] (spRow A) := by
 refine T.F_c_PageMaker_put_row.ok sc_c_PageMaker_put_row (fun vs H Q E h => ?_) (fun cdv A0 outer s H vs Q E hr h => ?_)
 · obtain ⟨p, a, lm, x, qq, done, B, rfl, _⟩ := h
   rfl
 obtain ⟨p, a, lm, x, qq, done, B, rfl, ⟨⟨dp, d1, d2, hp⟩, xs, hl, hxs⟩, sB, hBl, ⟨ra, rdx, k, dk, rfl, hr0, hk0⟩, g, hz, q⟩ := h
 refine ⟨_, (zC (yK (pt_val (zQ xA (by rfl) T.n_isinstance Bt.isinstance (zA (pv 1) (zA (pe_gv rfl T.v_Ask) zD)))) (zC (zK (i := 4) sc_c_PageMaker_put_row.nd rfl (by first | exact Or.inl rfl | exact Or.inr rfl) (yJ (CX := CX0) (k := 1) (hr.mono (by first | decide | omega)) zU (pv 0) (zA (yQ (zA zN (zA (zY (pv 1) rfl) (zA (pe_methG0 (CX := CX0) (k := 6) (hr.mono (by first | decide | omega)) zU (zY (pv 1) rfl)) (zA (pv 2) (zA (pv 3) zD)))))) zD)))
     (zF (zO (yJ (CX := CX0) (k := 2) (hr.mono (by first | decide | omega)) zU (pv 0) (zA (zY (pv 1) rfl) (zA (pv 4) (zA (pv 3) zD))))))) zW)
     (zC ps_no
     (zC ps_no
     (zF ps_no)))), ?_⟩
 have hr1 := sB _ _ hr0
 have hk1 := sB _ _ hk0
 have lxs := zL hxs
 rw [mkL_len] at lxs
 have npl : p ≠ lm := yG hp hl (by intro z; cases z)
 have nrl : ra ≠ lm := yG hr1 hl (by intro z; cases z)
 refine ⟨_, rfl, _, _, _, _, rfl, rfl, .old (T.ty_Ask H ra rdx _ hr1), T.kr_Ask_Ask, _, rfl, iteT ?_⟩
 refine ⟨_, rfl, p, _, dp, _, JPut T, rfl, hp, rfl, _, rfl, ra, _, rdx, _, _, rfl, hr1, T.cl_Ask, T.no_Ask_name, rfl, _, rfl, ra, _, rdx, _, _, rfl, hr1, T.cl_Ask, T.no_Ask_kind, rfl, k, _, dk, _, JWt T, rfl, hk1, rfl, k, dk, qq.2.1, qq.2.2, rfl, hk1, g, fun H1 s1 => ?_⟩
 refine ⟨_, rfl, _, rfl, (by show 5 ≤ sizeLine; decide), fun t ht => ?_⟩
 have s2 := zH ht (.tup (pgV (.ask qq done.length)))
 have e2 : (upd H1 t (.tup (pgV (.ask qq done.length)))) t = some (.tup (pgV (.ask qq done.length))) := zB
 have s12 := s1.trans s2
 refine ⟨p, dp, a, d1, d2, lm, t, xs, rfl, s12 _ _ hp, s12 _ _ hl, by omega, ?_⟩
 have hl2 := s12 _ _ hl
 have hx2 : Paired (PgR (upd H1 t (.tup (pgV (.ask qq done.length))))) (xs ++ [.ref t]) (mkL (done ++ [qq])) := by
   rw [mkL_snoc]
   exact zZ (zE hxs fun _ _ r => r.same s12) (.cons ⟨t, rfl, e2⟩ .nil)
 have Fu : Fr [lm] (upd H1 t (.tup (pgV (.ask qq done.length)))) (upd (upd H1 t (.tup (pgV (.ask qq done.length)))) lm (.lst (xs ++ [.ref t]))) := (Fr.of (Same.refl _)).upd (List.mem_singleton.mpr rfl) _
 have hx3 : Paired (PgR (upd (upd H1 t (.tup (pgV (.ask qq done.length)))) lm (.lst (xs ++ [.ref t])))) (xs ++ [.ref t]) (mkL (done ++ [qq])) := zE hx2 fun _ _ r => r.fr Fu hl2
 have hp3 := Fu _ _ (s12 _ _ hp) (ni1 npl)
 have hr3 := Fu _ _ (s12 _ _ hr1) (ni1 nrl)
 have F3 : Fr [lm] H (upd (upd H1 t (.tup (pgV (.ask qq done.length)))) lm (.lst (xs ++ [.ref t]))) := (Fr.of s12).trans Fu
 have e3 : (upd (upd H1 t (.tup (pgV (.ask qq done.length)))) lm (.lst (xs ++ [.ref t]))) lm = some (.lst (xs ++ [.ref t])) := zB
 show gName _ _ _ (upd (upd H1 t (.tup (pgV (.ask qq done.length)))) lm (.lst (xs ++ [.ref t]))) _
 generalize upd (upd H1 t (.tup (pgV (.ask qq done.length)))) lm (.lst (xs ++ [.ref t])) = H3 at hx3 hp3 hr3 F3 e3
 dsimp only [gName, List.set_cons_succ, List.set_cons_zero]
 have hq := q H3 F3 ⟨⟨dp, d1, d2, hp3⟩, _, e3, hx3⟩
 rw [show (done ++ [qq]).length = xs.length by rw [List.length_append, List.length_singleton, lxs]] at hq
 exact ⟨_, rfl, p, _, dp, _, JSay T, rfl, hp3, rfl, _, rfl, ra, _, rdx, _, _, rfl, hr3, T.cl_Ask, T.no_Ask_when, rfl, _, rfl, _, rfl, _, _, _, rfl, hq⟩
end
end K71
set_option maxHeartbeats 4000000
namespace K71
open PySem L2
seal PE PT PW PA PS PSs PG PGs PI PO PSet OpR UnR CallR TruR IxR SlR PC PPs
local macro_rules | `(tactic| walk_at "rd1") => `(tactic| first
 | (refine And.intro rfl ?_)
 | (refine And.intro (by assumption) ?_)
 | (refine And.intro (fun _ e => e) ?_)
 | (refine And.intro (TyOf.str _) ?_) | (refine And.intro (TyOf.int _) ?_) | (refine And.intro (TyOf.bl _) ?_) | (refine And.intro TyOf.non ?_)
 | (refine iteT ?_) | (refine iteF ?_)
 | (apply Exists.intro))
local macro_rules | `(tactic| walk_at "rd") => `(tactic| repeat (walk_at "rd1"))
def iN (M : List Nat) : List V := M.map fun k => V.int (k : Nat)
theorem iN_len (M : List Nat) : (iN M).length = M.length := List.length_map ..
theorem iN_app (a b : List Nat) : iN (a ++ b) = iN a ++ iN b := List.map_append
theorem iN_flat (b : List Nat) : (iN b).all flatV = true := List.all_eq_true.mpr fun x hx => by
 obtain ⟨k, _, rfl⟩ := List.mem_map.mp hx
 rfl
theorem inV_iN (k : Nat) (M : List Nat) : inV (.int (k : Nat)) (iN M) = decide (k ∈ M) := by
 unfold inV iN
 rw [List.any_map, Bool.eq_iff_iff, List.any_eq_true, decide_eq_true_iff]
 constructor
 · rintro ⟨y, hy, e⟩
   have : y = k := by have : ((y : Nat) : Int) = (k : Nat) := eq_of_beq e; omega
   rw [← this]; exact hy
 · intro h; exact ⟨k, h, by show (((k : Nat) : Int) == (k : Nat)) = true; exact beq_self_eq_true _⟩
theorem valV_out {kvs : List (Key × V)} {k : Key} (h : k ∉ kvs.map (·.1)) : valV kvs k = none := by
 cases e : valV kvs k with
 | none => rfl
 | some v => exact absurd (valV_in e) h
theorem merge_app : ∀ (rows acc : List (Key × V)), ((acc ++ rows).map (·.1)).Nodup → mergeK acc rows = acc ++ rows
 | [], acc, _ => by rw [List.append_nil]; rfl
 | r :: rs, acc, h => by
   have h1 : r.1 ∉ acc.map (·.1) := fun hm => by
     rw [List.map_append, List.nodup_append] at h
     exact h.2.2 _ hm _ (List.mem_cons_self ..) rfl
   show mergeK (putK acc r.1 r.2) rs = _
   rw [putK_new _ (valV_out h1), merge_app rs (acc ++ [(r.1, r.2)]) (by rw [List.append_assoc]; exact h), List.append_assoc]
   rfl
theorem mkD_nd {rows : List (Key × V)} (h : (rows.map (·.1)).Nodup) : mkD rows = rows := by
 show mergeK [] rows = rows
 rw [merge_app rows [] (by simpa using h)]; rfl
section
variable {P : Program} {w : World} {K : W.Frag} {mg : Str → Option Value} {base : Heap} {A : Adr}
def JRow (T : Txt K mg A) : MethJ P w K mg base CX0 8 A.c_PageMaker "put_row" := ⟨_, _, _, _, [], [], T.cl_PageMaker, T.me_PageMaker_put_row, (ok_put_row T).mono (by decide), T.b_c_PageMaker_put_row, .nil⟩
theorem rev_at {α : Type} {l : List α} {i : Nat} {x : α} (hi : i < l.length) (h : l[l.length - 1 - i]? = some x) : l.reverse[i]? = some x := by
 rw [List.getElem?_reverse hi]; exact h
theorem ok_put_rows (T : Txt K mg A) : FnOk P w K mg base CX0 9 A.f_c_PageMaker_put_rows A.d_c_PageMaker_put_rows ["self", "sheet", "behind"] (spRows A) := by
 refine T.F_c_PageMaker_put_rows.ok sc_c_PageMaker_put_rows (fun vs H Q E h => ?_) (fun cdv A0 outer s H vs Q E hr h => ?_)
 · obtain ⟨p, a, lm, sa, ds, u1, qr, qw, xs, rows, done, B, rfl, _⟩ := h
   rfl
 obtain ⟨p, a, lm, sa, ds, u1, qr, qw, xs, rows, done, B, rfl, hM, sB, hBl, hsa, hqr, hxs, g, hz, q⟩ := h
 refine ⟨_, (zC (yT PassesOwn.never rfl (pi_rev rfl T.n_reversed (zA (zY (pv 1) rfl) zD)) (yH (i := 3) sc_c_PageMaker_put_rows.nd rfl (by first | exact Or.inl rfl | exact Or.inr rfl)) (zF (zK (i := 2) sc_c_PageMaker_put_rows.nd rfl (by first | exact Or.inl rfl | exact Or.inr rfl) (yJ (CX := CX0) (k := 8) (hr.mono (by first | decide | omega)) zU (pv 0) (zA (pv 3) (zA (zY (pv 1) rfl) (zA (pv 2) zD)))))))
     (zF (zO (pv 2)))), ?_⟩
 have lxs := zL hxs
 refine ⟨_, rfl, sa, _, ds, _, _, rfl, sB _ _ hsa, T.cl_Sheet, T.no_Sheet_rows, rfl, qr, xs, rfl, SqL.of (sB _ _ hqr), ?_⟩
 refine for_revR (xs := xs) (fun i σ G => ∃ u, σ = [some (.ref p), some (.ref sa), some (.int ((done ++ rows.reverse.take i).length : Nat)), u] ∧ Fr [lm] H G ∧ MkR A G p a lm (done ++ rows.reverse.take i)) ⟨_, (by rw [List.take_zero, List.append_nil]; rfl), Fr.of (Same.refl _), (by rw [List.take_zero, List.append_nil]; exact hM)⟩ (fun i σ G _ hw => ?_) (fun i x σ G hi hx hw => ?_) (fun σ G hw => ?_)
 · obtain ⟨_, rfl, F, _⟩ := hw
   exact SqL.of (same_fr sB hBl F _ _ hqr)
 · obtain ⟨u, rfl, F, hMG⟩ := hw
   have sG := same_fr sB hBl F
   obtain ⟨qq, hqq, hA⟩ := yF hxs hx
   rw [lxs] at hqq
   have hrv := rev_at (by omega) hqq
   have hmem : qq ∈ rows := List.mem_of_getElem? hqq
   obtain ⟨⟨dp, d1, d2, hp⟩, _⟩ := id hMG
   have hln : (done ++ rows.reverse.take i).length ≤ 900 := by rw [List.length_append, List.length_take, List.length_reverse]; omega
   refine ⟨_, rfl, p, _, dp, _, JRow T, rfl, hp, rfl, _, rfl, _, rfl, sa, _, ds, _, _, rfl, sG _ _ hsa, T.cl_Sheet, T.no_Sheet_each, rfl, _, rfl, p, a, lm, _, qq, _, B, rfl, hMG, sG, hBl, hA, g qq hmem, hln, fun G2 F2 hM2 => ?_⟩
   dsimp only [gName, List.set_cons_succ, List.set_cons_zero]
   rw [List.append_assoc, ← yI hrv] at hM2 ⊢
   exact ⟨_, rfl, F.trans F2, hM2⟩
 · obtain ⟨u, rfl, F, hMG⟩ := hw
   rw [lxs, ← List.length_reverse (as := rows), List.take_length] at hMG ⊢
   exact ⟨_, rfl, q G F hMG⟩
def JRows (T : Txt K mg A) : MethJ P w K mg base CX0 9 A.c_PageMaker "put_rows" := ⟨_, _, _, _, [], [], T.cl_PageMaker, T.me_PageMaker_put_rows, ok_put_rows T, T.b_c_PageMaker_put_rows, .nil⟩
theorem ok_put_sheet (T : Txt K mg A) : FnOk P w K mg base CX0 10 A.f_c_PageMaker_put_sheet A.d_c_PageMaker_put_sheet ["self", "sheet", "starts", "behind"] (spSheet A) := by
 refine T.F_c_PageMaker_put_sheet.ok sc_c_PageMaker_put_sheet (fun vs H Q E h => ?_) (fun cdv A0 outer s H vs Q E hr h => ?_)
 · obtain ⟨p, a, lm, x, y, rows, done, B, rfl, _⟩ := h
   rfl
 obtain ⟨p, a, lm, x, y, rows, done, B, rfl, hM, sB, hBl, ⟨sa, ds, z, qr, qw, xs, rfl, hsa, hqr, hxs, hqw⟩, g, hz, q⟩ := h
 refine ⟨_, (zC (yT PassesOwn.never rfl (pi_rev rfl T.n_reversed (zA (zY (pv 1) rfl) zD)) (pg_tup rfl (pgs_cons (yH (i := 4) sc_c_PageMaker_put_sheet.nd rfl (by first | exact Or.inl rfl | exact Or.inr rfl)) (pgs_cons (yH (i := 5) sc_c_PageMaker_put_sheet.nd rfl (by first | exact Or.inl rfl | exact Or.inr rfl)) pgs_nil))) (zF (zK (i := 3) sc_c_PageMaker_put_sheet.nd rfl (by first | exact Or.inl rfl | exact Or.inr rfl) (yJ (CX := CX0) (k := 2) (hr.mono (by first | decide | omega)) zU (pv 0) (zA (pv 5) (zA (pe_dget (hu_of hr) (pv 2) (pv 4) (fun _ _ => rfl)) (zA (pv 3) zD)))))))
     (zC (yK (PW.pt (pw_or (zR op_isN (zY (pv 1) rfl) xC (zX _)) (pw_or1 (zR op_eq (zQ zS (by rfl) T.n_len PySem.boot_len (zA (zY (pv 1) rfl) zD)) zJ (zX _))))) (zF (zO (yJ (CX := CX0) (k := 9) (hr.mono (by first | decide | omega)) zU (pv 0) (zA (pv 1) (zA (pv 3) zD))))) zW)
     (zF ps_no))), ?_⟩
 have hsH := sB _ _ hsa
 obtain ⟨⟨dp, d1, d2, hp⟩, _⟩ := id hM
 refine ⟨_, rfl, sa, _, ds, _, _, rfl, hsH, T.cl_Sheet, T.no_Sheet_ways, rfl, qw, [], rfl, SqL.of (sB _ _ hqw), ?_⟩
 refine for_revR (xs := []) (fun i σ G => σ = [some (.ref p), some (.ref sa), some y, some (.int (done.length : Nat)), none, none] ∧ H = G) ⟨rfl, rfl⟩ (fun i σ G _ hw => hw.2 ▸ SqL.of (sB _ _ hqw)) (fun i x σ G hi _ _ => absurd hi (Nat.not_lt_zero _)) (fun σ G hw => ?_)
 obtain ⟨rfl, rfl⟩ := hw
 refine ⟨_, rfl, sa, _, ds, _, _, rfl, hsH, T.cl_Sheet, T.no_Sheet_each, rfl, rfl, _, rfl, iteT (iteT ?_)⟩
 exact ⟨_, rfl, p, _, dp, _, JRows T, rfl, hp, rfl, _, rfl, _, rfl, p, a, lm, sa, ds, _, qr, qw, xs, rows, done, B, rfl, hM, sB, hBl, hsa, hqr, hxs, g, hz, q⟩
def JSheet (T : Txt K mg A) : MethJ P w K mg base CX0 10 A.c_PageMaker "put_sheet" := ⟨_, _, _, _, [], [], T.cl_PageMaker, T.me_PageMaker_put_sheet, ok_put_sheet T, T.b_c_PageMaker_put_sheet, .nil⟩
theorem flat_rev {α : Type} (S : List (List α)) : (S.reverse.map List.reverse).flatten = S.flatten.reverse := by
 rw [List.reverse_flatten, List.map_reverse]
theorem flat_le {S : List (List Qn)} (g : GS S) : S.flatten.length ≤ 100 := by
 have : ∀ L : List (List Qn), (∀ r ∈ L, r.length ≤ 10) → L.flatten.length ≤ L.length * 10 := by
   intro L
   induction L with
   | nil => intro _; exact Nat.le_refl _
   | cons a r ih =>
     intro h
     rw [List.flatten_cons, List.length_append, List.length_cons]
     have h1 := h a (List.mem_cons_self ..)
     have h2 := ih fun x hx => h x (List.mem_cons_of_mem _ hx)
     omega
 have h := this S fun r hr => (g.2 r hr).1
 have := g.1
 omega
theorem ok_put_all (T : Txt K mg A) : FnOk P w K mg base CX0 11 A.f_c_PageMaker_put_all A.d_c_PageMaker_put_all ["self"] (spAll A) := by
 refine T.F_c_PageMaker_put_all.ok sc_c_PageMaker_put_all (fun vs H Q E h => ?_) (fun cdv A0 outer s H vs Q E hr h => ?_)
 · obtain ⟨p, dp, d1, d2, a, lm, S, B, rfl, _⟩ := h
   rfl
 obtain ⟨p, dp, d1, d2, a, lm, S, B, rfl, hp, hl, sB, hBl, ⟨da, u, q1, q2, xs, ha, hq1, hS⟩, g, q⟩ := h
 refine ⟨_, (zC (zK (i := 1) sc_c_PageMaker_put_all.nd rfl (by first | exact Or.inl rfl | exact Or.inr rfl) (yJ (CX := CX0) (k := 1) (hr.mono (by first | decide | omega)) zU (pv 0) (zA (yQ (zA zN zD)) zD)))
     (zC (zK (i := 2) sc_c_PageMaker_put_all.nd rfl (by first | exact Or.inl rfl | exact Or.inr rfl) (pe_disp (pps_cons zN (pv 1) pps_nil) rfl rfl (by simp) (by decide)))
     (zC (yT PassesOwn.never rfl (pi_rev rfl T.n_reversed (zA (zY (zY (pv 0) rfl) rfl) zD)) (yH (i := 3) sc_c_PageMaker_put_all.nd rfl (by first | exact Or.inl rfl | exact Or.inr rfl)) (zC (zK (i := 1) sc_c_PageMaker_put_all.nd rfl (by first | exact Or.inl rfl | exact Or.inr rfl) (yJ (CX := CX0) (k := 10) (hr.mono (by first | decide | omega)) zU (pv 0) (zA (pv 3) (zA (pv 2) (zA (pv 1) zD)))))
     (zF (ps_dput (hu_of hr) (pv 2) (zY (pv 3) rfl) (pv 1) rfl))))
     (zF (zO (pv 1)))))), ?_⟩
 have lxs := zL hS
 have npl : p ≠ lm := yG hp hl (by intro z; cases z)
 refine ⟨_, rfl, p, _, dp, _, JPut T, rfl, hp, rfl, (by show 1 ≤ sizeLine; decide), fun t ht => ?_⟩
 have s2 := zH ht (.tup [.str "end"])
 refine ⟨p, dp, a, d1, d2, lm, t, [], rfl, s2 _ _ hp, s2 _ _ hl, by decide, ?_⟩
 have Fu : Fr [lm] (upd H t (.tup [.str "end"])) (upd (upd H t (.tup [.str "end"])) lm (.lst [.ref t])) := (Fr.of (Same.refl _)).upd (List.mem_singleton.mpr rfl) _
 have F1 : Fr [lm] H (upd (upd H t (.tup [.str "end"])) lm (.lst [.ref t])) := (Fr.of s2).trans Fu
 have hM1 : MkR A (upd (upd H t (.tup [.str "end"])) lm (.lst [.ref t])) p a lm [] := ⟨⟨dp, d1, d2, F1 _ _ hp (ni1 npl)⟩, _, zB, .cons (PgR.fr Fu (s2 _ _ hl) ⟨t, rfl, zB⟩) .nil⟩
 show gName _ _ _ (upd (upd H t (.tup [.str "end"])) lm (.lst [.ref t])) _
 generalize upd (upd H t (.tup [.str "end"])) lm (.lst [.ref t]) = H1 at F1 hM1
 dsimp only [gName, List.set_cons_succ, List.set_cons_zero]
 refine fun pd hpd => ⟨_, rfl, zB, [(.inr "end", .int 0)], rfl, (by show 1 ≤ 15; decide), ?_⟩
 rw [upd_upd]
 have s3 := zH hpd (.dK (mergeK [] [(.inr "end", .int 0)]))
 have e3 : (upd H1 pd (.dK (mergeK [] [(.inr "end", .int 0)]))) pd = some (.dK [(.inr "end", .int 0)]) := zB
 have F3 := F1.trans (Fr.of s3)
 have hM3 := hM1.same s3
 have npd : H pd = none := fr_none F1 (fun e => by
   obtain ⟨_, xs, h, _⟩ := hM1
   rw [List.mem_singleton.mp e, h] at hpd; cases hpd) hpd
 have npdl : pd ≠ lm := fun e => by rw [e] at npd; rw [npd] at hl; cases hl
 generalize upd H1 pd (.dK (mergeK [] [(.inr "end", .int 0)])) = H3 at s3 e3 F3 hM3
 dsimp only [gName, List.set_cons_succ, List.set_cons_zero]
 obtain ⟨⟨dp3, d13, d23, hp3⟩, _⟩ := id hM3
 have sB3 := same_fr sB hBl F3
 refine ⟨_, rfl, p, _, dp3, _, _, rfl, hp3, T.cl_PageMaker, T.no_PageMaker_paper, rfl, a, _, da, _, _, rfl, sB3 _ _ ha, T.cl_Paper, T.no_Paper_sheets, rfl, q1, xs, rfl, SqL.of (sB3 _ _ hq1), ?_⟩
 have g1 := g.1
 refine for_revR (xs := xs) (fun i σ G => ∃ u kvs, σ = [some (.ref p), some (.int ((((S.reverse.take i).map List.reverse).flatten).length : Nat)), some (.ref pd), u] ∧ Fr [lm] H G ∧ MkR A G p a lm ((S.reverse.take i).map List.reverse).flatten ∧ G pd = some (.dK kvs) ∧ kvs.length ≤ i + 1) ⟨_, _, rfl, F3, hM3, e3, Nat.le_refl _⟩ (fun i σ G _ hw => ?_) (fun i x σ G hi hx hw => ?_) (fun σ G hw => ?_)
 · obtain ⟨_, _, rfl, F, _⟩ := hw
   exact SqL.of (same_fr sB hBl F _ _ hq1)
 · obtain ⟨u, kvs, rfl, F, hMG, hpdG, hkl⟩ := hw
   have sG := same_fr sB hBl F
   obtain ⟨rows, hrows, hSh⟩ := yF hS hx
   rw [lxs] at hrows
   have hrv := rev_at (by omega) hrows
   have hmem : rows ∈ S := List.mem_of_getElem? hrows
   obtain ⟨⟨dpG, d1G, d2G, hpG⟩, _⟩ := id hMG
   have hln : ((S.reverse.take i).map List.reverse).flatten.length + rows.length ≤ 900 := by
     have h1 := flat_le g
     have h2 : ((S.reverse.take i).map List.reverse).flatten.length ≤ ((S.reverse).map List.reverse).flatten.length := by
       have := congrArg (fun l => ((List.map List.reverse l).flatten).length) (List.take_append_drop i S.reverse)
       rw [List.map_append, List.flatten_append, List.length_append] at this
       omega
     rw [flat_rev, List.length_reverse] at h2
     have := (g.2 rows hmem).1
     omega
   obtain ⟨sa, ds, z, qr, qw, ys, rfl, hsa, _⟩ := id hSh
   refine ⟨_, rfl, p, _, dpG, _, JSheet T, rfl, hpG, rfl, _, rfl, _, rfl, _, rfl, p, a, lm, _, _, rows, _, B, rfl, hMG, sG, hBl, hSh, (g.2 rows hmem).2, hln, fun G2 F2 hM2 => ?_⟩
   have sG2 := same_fr sG hBl F2
   have hpd2 := F2 _ _ hpdG (ni1 npdl)
   have e5 : ((S.reverse.take i).map List.reverse).flatten ++ rows.reverse = ((S.reverse.take (i + 1)).map List.reverse).flatten := by
     rw [yI hrv, List.map_append, List.flatten_append]
     show _ = _ ++ (rows.reverse ++ [])
     rw [List.append_nil]
   rw [e5] at hM2 ⊢
   dsimp only [gName, List.set_cons_succ, List.set_cons_zero]
   refine ⟨_, rfl, _, rfl, _, rfl, sa, _, ds, _, _, rfl, sG2 _ _ hsa, T.cl_Sheet, T.no_Sheet_name, rfl, pd, _, rfl, DPut.k (k := .inr z) hpd2 (zP (m := 1000) (by omega)), ?_⟩
   have Fd : Fr [pd] G2 (upd G2 pd (.dK (putK kvs (.inr z) (.int ((((S.reverse.take (i + 1)).map List.reverse).flatten).length : Nat))))) := (Fr.of (Same.refl _)).upd (List.mem_singleton.mpr rfl) _
   refine ⟨_, _, rfl, fun b o hb hn => by rw [zI (zG hb npd)]; exact F2 _ _ (F _ _ hb hn) hn, ?_, zB, Nat.le_trans (yS ..) (by omega)⟩
   obtain ⟨⟨dp4, d14, d24, hp4⟩, ys4, hl4, hy4⟩ := hM2
   refine ⟨⟨dp4, d14, d24, Fd _ _ hp4 (ni1 (yG hp4 hpd2 (by intro z; cases z)))⟩, ys4, Fd _ _ hl4 (ni1 (Ne.symm npdl)), zE hy4 fun _ _ r => ?_⟩
   obtain ⟨t, e, ht⟩ := r
   exact ⟨t, e, Fd _ _ ht (ni1 (yG ht hpd2 (by intro z; cases z)))⟩
 · obtain ⟨u, kvs, rfl, F, hMG, _⟩ := hw
   rw [lxs, ← List.length_reverse (as := S), List.take_length, flat_rev] at hMG ⊢
   exact ⟨_, rfl, q G F hMG⟩
def JAll (T : Txt K mg A) : MethJ P w K mg base CX0 11 A.c_PageMaker "put_all" := ⟨_, _, _, _, [], [], T.cl_PageMaker, T.me_PageMaker_put_all, ok_put_all T, T.b_c_PageMaker_put_all, .nil⟩
end
end K71
set_option maxHeartbeats 4000000
namespace K71
open PySem L2
seal PE PT PW PA PS PSs PG PGs PI PO PSet OpR UnR CallR TruR IxR SlR PC PPs
local macro_rules | `(tactic| walk_at "rd1") => `(tactic| first
 | (refine And.intro rfl ?_)
 | (refine And.intro (by assumption) ?_)
 | (refine And.intro (fun _ e => e) ?_)
 | (refine And.intro (TyOf.str _) ?_) | (refine And.intro (TyOf.int _) ?_) | (refine And.intro (TyOf.bl _) ?_) | (refine And.intro TyOf.non ?_)
 | (refine iteT ?_) | (refine iteF ?_)
 | (apply Exists.intro))
local macro_rules | `(tactic| walk_at "rd") => `(tactic| repeat (walk_at "rd1"))
def dwn (n j : Nat) : List Nat := (List.range j).map (n - ·)
theorem dwn_len (n j : Nat) : (dwn n j).length = j := by unfold dwn; rw [List.length_map, List.length_range]
theorem dwn_at {n j k : Nat} (h : k < j) : (dwn n j)[k]? = some (n - k) := by unfold dwn; rw [List.getElem?_map, List.getElem?_range h]; rfl
theorem dwn_snoc (n j : Nat) : dwn n (j + 1) = dwn n j ++ [n - j] := by unfold dwn; rw [List.range_succ, List.map_append]; rfl
theorem dwn_out {n j : Nat} (h : j ≤ n) : n - j ∉ dwn n j := fun hm => by
 unfold dwn at hm
 obtain ⟨i, hi, e⟩ := List.mem_map.mp hm
 have := List.mem_range.mp hi
 omega
theorem mkL_at {done : List Qn} {k : Nat} (h : k ≤ done.length) : ∃ pg, (mkL done)[k]? = some pg ∧ ((k = 0 ∧ pg = .en) ∨ ∃ q, 0 < k ∧ done[k - 1]? = some q ∧ pg = .ask q (k - 1)) := by
 cases k with
 | zero => exact ⟨.en, rfl, .inl ⟨rfl, rfl⟩⟩
 | succ k =>
   have hk : done[k]? = some done[k] := List.getElem?_eq_getElem (by omega)
   refine ⟨.ask done[k] k, ?_, .inr ⟨done[k], by omega, hk, rfl⟩⟩
   show (done.mapIdx fun i q => Pg.ask q i)[k]? = _
   rw [List.getElem?_mapIdx, hk]; rfl
def spReach : Sp := fun vs H Q _ => ∃ lm n xs done, vs = [.ref lm, .int (n : Nat)] ∧ H lm = some (.lst xs) ∧ Paired (PgR H) xs (mkL done) ∧ n = done.length ∧ n ≤ 200 ∧ ∀ l H', Same H H' → H' l = some (.lst (iN (dwn n (n + 1)))) → Q (.ref l) H'
def pgs (qs : List Qn) : List Pg := (qs.mapIdx fun i q => Pg.ask q (i + 1)) ++ [.en]
theorem pgs_len (qs : List Qn) : (pgs qs).length = qs.length + 1 := by unfold pgs; rw [List.length_append, List.length_mapIdx]; rfl
theorem pgs_ask {qs : List Qn} {i : Nat} {q : Qn} (h : qs[i]? = some q) : (pgs qs)[i]? = some (.ask q (i + 1)) := by
 have li := (List.getElem?_eq_some_iff.mp h).1
 unfold pgs
 rw [List.getElem?_append_left (by rw [List.length_mapIdx]; exact li), List.getElem?_mapIdx, h]; rfl
theorem pgs_en (qs : List Qn) : (pgs qs)[qs.length]? = some .en := by
 unfold pgs
 rw [List.getElem?_append_right (by rw [List.length_mapIdx]; exact Nat.le_refl _), List.length_mapIdx, Nat.sub_self]; rfl
def spPages (A : Adr) : Sp := fun vs H Q _ => ∃ a S, vs = [.ref a] ∧ PaR A H a S ∧ GS S ∧ ∀ l xs H', Same H H' → H l = none → H' l = some (.lst xs) → Paired (PgR H') xs (pgs S.flatten) → Q (.ref l) H'
section
variable {P : Program} {w : World} {K : W.Frag} {mg : Str → Option Value} {base : Heap} {A : Adr}
theorem ok_reached_from (T : Txt K mg A) : FnOk P w K mg base CX0 2 A.f_reached_from A.d_reached_from ["pages", "start"] spReach := by
 have G_leads_of := ok_leads_of (P := P) (w := w) (base := base) T
 refine T.F_reached_from.ok sc_reached_from (fun vs H Q E h => ?_) (fun cdv A0 outer s H vs Q E hr h => ?_)
 · obtain ⟨lm, n, xs, done, rfl, _⟩ := h
   rfl
 obtain ⟨lm, n, xs, done, rfl, hlm, hxs, hn, hn2, q⟩ := h
 refine ⟨_, (zC (zK (i := 2) sc_reached_from.nd rfl (by first | exact Or.inl rfl | exact Or.inr rfl) (pe_lst (zA (pv 1) zD)))
     (zC (zK (i := 3) sc_reached_from.nd rfl (by first | exact Or.inl rfl | exact Or.inr rfl) zJ)
     (zC (ps_whileR PassesOwn.never (zR op_lt (pv 3) (zQ zS (by rfl) T.n_len PySem.boot_len (zA (pv 2) zD)) (zX _)) (zC (yT PassesOwn.never rfl (pi_tup (yB G_leads_of (hr.mono (by first | decide | omega)) rfl T.m_leads_of T.k_leads_of T.b_leads_of .nil zU (zA (zV yE (pv 0) (zV yE (pv 2) (pv 3) (fun _ _ => rfl)) (fun _ _ => rfl)) zD))) (yH (i := 4) sc_reached_from.nd rfl (by first | exact Or.inl rfl | exact Or.inr rfl)) (zF (yK (zR op_notIn_seq (pv 4) (pv 2) (by rfl)) (zF (yU (pe_bm PySem.F.plainAttrs_list PySem.F.slot_list_append PySem.F.type_list_append yP (pv 2) (zA (pv 4) zD)))) zW)))
     (zF (ps_aug (i := 3) sc_reached_from.nd rfl (by first | exact Or.inl rfl | exact Or.inr rfl) zJ in_add))))
     (zF (zO (pv 2)))))), ?_⟩
 refine ⟨_, rfl, (by show 1 ≤ sizeLine; decide), fun lf hlf => ?_⟩
 have s0 := zH hlf (.lst [.int (n : Nat)])
 have e0 : (upd H lf (.lst [.int (n : Nat)])) lf = some (.lst (iN (dwn n 1))) := zB
 generalize upd H lf (.lst [.int (n : Nat)]) = H1 at s0 e0
 dsimp only [gName, List.set_cons_succ, List.set_cons_zero]
 have sN : ∀ {G : Hp}, Fr [lf] H1 G → Same H G := fun {G} F b o hb => F _ _ (s0 _ _ hb) (ni1 (zG hb hlf))
 refine ⟨⟨fun m σ G => ∃ k u, m + k = n + 1 ∧ σ = [some (.ref lm), some (.int (n : Nat)), some (.ref lf), some (.int (k : Nat)), u] ∧ Fr [lf] H1 G ∧ G lf = some (.lst (iN (dwn n (min (k + 1) (n + 1))))), ⟨n + 1, 0, _, rfl, rfl, Fr.of (Same.refl _), by rw [Nat.min_eq_left (by omega)]; exact e0⟩, fun m σ G hw => ?_⟩⟩
 obtain ⟨k, u, hm, rfl, F, hfG⟩ := hw
 have eL : (iN (dwn n (min (k + 1) (n + 1)))).length = min (k + 1) (n + 1) := by rw [iN_len, dwn_len]
 refine ⟨_, rfl, _, rfl, lf, _, rfl, .inl (SqL.of hfG), _, _, rfl, rfl, _, rfl, ?_⟩
 rw [eL]
 by_cases hkn : k = n + 1
 · refine iteO (decide_eq_false (by rw [Nat.min_eq_right (by omega)]; omega)) ?_
   rw [Nat.min_eq_right (by omega)] at hfG
   exact ⟨_, rfl, q lf G (sN F) hfG⟩
 · have hk : k ≤ n := by omega
   rw [Nat.min_eq_left (by omega)] at hfG eL ⊢
   refine iteB (decide_eq_true (by omega)) ⟨fun σ' G' => ∃ u, σ' = [some (.ref lm), some (.int (n : Nat)), some (.ref lf), some (.int ((k + 1 : Nat) : Int)), u] ∧ Fr [lf] H1 G' ∧ G' lf = some (.lst (iN (dwn n (min (k + 1 + 1) (n + 1))))), fun σ' G' hN => ?_, ?_⟩
   · obtain ⟨u, rfl, F', hf'⟩ := hN
     exact ⟨m - 1, by omega, k + 1, u, by omega, rfl, F', hf'⟩
   have hat : (iN (dwn n (k + 1)))[k]? = some (.int ((n - k : Nat) : Int)) := by
     unfold iN
     rw [List.getElem?_map, dwn_at (by omega)]; rfl
   obtain ⟨pg, hpg, hcase⟩ := mkL_at (done := done) (k := n - k) (by omega)
   obtain ⟨x, hx, t, rfl, ht⟩ := yM hxs hpg
   refine ⟨_, rfl, _, rfl, _, rfl, lf, _, _, _, rfl, rfl, SqL.of hfG, yC hat, lm, _, _, _, rfl, rfl, SqL.of (sN F _ _ hlm), yC hx, t, pg, rfl, sN F _ _ ht, fun l G2 s2 hl => ⟨l, rfl, ⟨_, SqT.of hl⟩, ?_⟩⟩
   have F2 := F.trans (Fr.of s2)
   have hf2 := s2 _ _ hfG
   rcases hcase with ⟨h0, rfl⟩ | ⟨qq, h0, _, rfl⟩
   · refine for_tupR (xs := []) (fun i σ G3 => σ = [some (.ref lm), some (.int (n : Nat)), some (.ref lf), some (.int (k : Nat)), u] ∧ G2 = G3) ⟨rfl, rfl⟩ (fun i σ G3 _ hw => hw.2 ▸ SqT.of hl) (fun i x σ G3 hx _ => by simp at hx) (fun σ G3 hw => ?_)
     obtain ⟨rfl, rfl⟩ := hw
     refine ⟨_, rfl, _, _, rfl, rfl, u, rfl, F2, ?_⟩
     · rw [Nat.min_eq_right (by omega), show n + 1 = k + 1 by omega]; exact hf2
   · have nll : l ≠ lf := yG hl hf2 (by intro z; cases z)
     refine for_tupR (xs := [.int ((n - k - 1 : Nat) : Int)]) (fun i σ G3 => ∃ u, σ = [some (.ref lm), some (.int (n : Nat)), some (.ref lf), some (.int (k : Nat)), u] ∧ Fr [lf] G2 G3 ∧ G3 lf = some (.lst (iN (dwn n (k + 1 + i))))) ⟨_, rfl, Fr.of (Same.refl _), hf2⟩ (fun i σ G3 _ hw => ?_) (fun i x σ G3 hx hw => ?_) (fun σ G3 hw => ?_)
     · obtain ⟨_, rfl, F3, _⟩ := hw
       exact SqT.of (F3 _ _ hl (ni1 nll))
     · obtain ⟨u, rfl, F3, hf3⟩ := hw
       have hi : i = 0 := by have := (List.getElem?_eq_some_iff.mp hx).1; rw [List.length_singleton] at this; omega
       subst hi
       cases Option.some.inj hx
       dsimp only [gName, List.set_cons_succ, List.set_cons_zero]
       refine ⟨_, rfl, _, rfl, lf, _, rfl, .inl (SqL.of hf3), rfl, iN_flat _, _, rfl, ?_⟩
       show if (!inV (.int ((n - k - 1 : Nat) : Int)) (iN (dwn n (k + 1 + 0)))) = true then _ else _
       rw [inV_iN, decide_eq_false (by rw [show n - k - 1 = n - (k + 1) by omega]; exact dwn_out (by omega))]
       refine iteT ⟨_, rfl, .inl ⟨rfl, _, SqL.of hf3⟩, _, rfl, lf, _, _, rfl, rfl, hf3, zP (m := 1000) (by rw [iN_len, dwn_len]; omega), ?_⟩
       refine ⟨_, rfl, F3.upd (List.mem_singleton.mpr rfl) _, ?_⟩
       rw [zB, show dwn n (k + 1 + (0 + 1)) = dwn n (k + 1) ++ [n - (k + 1)] from dwn_snoc n (k + 1), iN_app, show n - (k + 1) = n - k - 1 by omega]
       rfl
     · obtain ⟨u, rfl, F3, hf3⟩ := hw
       refine ⟨_, rfl, _, _, rfl, rfl, u, rfl, F2.trans F3, ?_⟩
       · rw [Nat.min_eq_left (by omega)]; exact hf3
end
end K71
set_option maxHeartbeats 4000000
namespace K71
open PySem L2
seal PE PT PW PA PS PSs PG PGs PI PO PSet OpR UnR CallR TruR IxR SlR PC PPs
local macro_rules | `(tactic| walk_at "rd1") => `(tactic| first
 | (refine And.intro rfl ?_)
 | (refine And.intro (by assumption) ?_)
 | (refine And.intro (fun _ e => e) ?_)
 | (refine And.intro (TyOf.str _) ?_) | (refine And.intro (TyOf.int _) ?_) | (refine And.intro (TyOf.bl _) ?_) | (refine And.intro TyOf.non ?_)
 | (refine iteT ?_) | (refine iteF ?_)
 | (apply Exists.intro))
local macro_rules | `(tactic| walk_at "rd") => `(tactic| repeat (walk_at "rd1"))
theorem val_at {kvs : List (Key × V)} (nd : (kvs.map (·.1)).Nodup) {i : Nat} {k : Key} {v : V} (h : kvs[i]? = some (k, v)) : valV kvs k = some v := by
 cases e : valV kvs k with
 | none => exact absurd (List.mem_map.mpr ⟨_, List.mem_of_getElem? h, rfl⟩) (valV_not e)
 | some u =>
   unfold valV at e
   obtain ⟨y, hy, ey⟩ := Option.map_eq_some_iff.mp e
   have e0 := List.find?_some hy
   have e1 : y.1 = k := of_decide_eq_true e0
   obtain ⟨j, hj⟩ := List.getElem?_of_mem (List.mem_of_find?_eq_some hy)
   have lj := (List.getElem?_eq_some_iff.mp hj).1
   have : j = i := (List.getElem?_inj (l := kvs.map (·.1)) (i := j) (j := i) (by rw [List.length_map]; exact lj) nd).mp (by rw [List.getElem?_map, List.getElem?_map, hj, h]; exact congrArg some e1)
   subst this
   rw [h] at hj
   cases hj
   rw [← ey]
def numR (n : Nat) : List (Key × V) := (dwn n (n + 1)).mapIdx fun i k => (.inl (k : Nat), .int (i : Nat))
theorem numR_at {n i : Nat} (h : i ≤ n) : (numR n)[i]? = some (.inl ((n - i : Nat) : Int), .int (i : Nat)) := by
 unfold numR
 rw [List.getElem?_mapIdx, dwn_at (by omega)]; rfl
theorem numR_len (n : Nat) : (numR n).length = n + 1 := by unfold numR; rw [List.length_mapIdx, dwn_len]
theorem numR_nd (n : Nat) : ((numR n).map (·.1)).Nodup := by
 rw [List.nodup_iff_pairwise_ne, List.pairwise_iff_getElem]
 intro i j h1 h2 lt e
 rw [List.length_map, numR_len] at h1 h2
 rw [List.getElem_map, List.getElem_map] at e
 have a1 : (numR n)[i]? = some ((numR n)[i]'(by rw [numR_len]; exact h1)) := List.getElem?_eq_getElem _
 have a2 : (numR n)[j]? = some ((numR n)[j]'(by rw [numR_len]; exact h2)) := List.getElem?_eq_getElem _
 rw [numR_at (by omega)] at a1 a2
 rw [← Option.some.inj a1, ← Option.some.inj a2] at e
 have := Sum.inl.inj e
 omega
section
variable {P : Program} {w : World} {K : W.Frag} {mg : Str → Option Value} {base : Heap} {A : Adr}
theorem ok_pages_of (T : Txt K mg A) : FnOk P w K mg base CX0 12 A.f_pages_of A.d_pages_of ["paper"] (spPages A) := by
 have G_c_PageMaker___init := ok_pm_init (P := P) (w := w) (base := base) T
 have G_reached_from := ok_reached_from (P := P) (w := w) (base := base) T
 have G_leads_of := ok_leads_of (P := P) (w := w) (base := base) T
 have G_without_leads := ok_without_leads (P := P) (w := w) (base := base) T
 refine T.F_pages_of.ok sc_pages_of (fun vs H Q E h => ?_) (fun cdv A0 outer s H vs Q E hr h => ?_)
 · obtain ⟨a, S, rfl, _⟩ := h
   rfl
 obtain ⟨a, S, rfl, hP, g, q⟩ := h
 refine ⟨_, (zC (zK (i := 1) sc_pages_of.nd rfl (by first | exact Or.inl rfl | exact Or.inr rfl) (pe_make T.mk_PageMaker G_c_PageMaker___init (hr.mono (by first | decide | omega)) rfl T.m_PageMaker T.b_c_PageMaker___init .nil zU (zA (pv 0) zD)))
     (zC (zK (i := 2) sc_pages_of.nd rfl (by first | exact Or.inl rfl | exact Or.inr rfl) (pe_methG0 (CX := CX0) (k := 11) (hr.mono (by first | decide | omega)) zU (pv 1)))
     (zC (zK (i := 3) sc_pages_of.nd rfl (by first | exact Or.inl rfl | exact Or.inr rfl) (yB G_reached_from (hr.mono (by first | decide | omega)) rfl T.m_reached_from T.k_reached_from T.b_reached_from .nil zU (zA (zY (pv 1) rfl) (zA (pv 2) zD))))
     (zC (zK (i := 4) sc_pages_of.nd rfl (by first | exact Or.inl rfl | exact Or.inr rfl) (yR (call_dict_pairs rfl) (by rfl) T.n_dict Bt.dict (zA (pe_compT (compOk2_of (compOk_of (x := "place") (M := ["paper", "maker", "start", "found", "numbers", "pages", "", "page"]) rfl (by rfl)) (by rfl) (by symm)) rfl (pi_enum rfl T.n_enumerate (zA (pv 3) zD)) (fun _ _ _ _ => pifs_nil) (fun _ _ _ _ => (yQ (zA (pv 1) (zA (pv 0) zD))))) zD)))
     (zC (zK (i := 5) sc_pages_of.nd rfl (by first | exact Or.inl rfl | exact Or.inr rfl) (pe_lst zD))
     (zC (yT PassesOwn.never rfl (pi_list (pv 3)) (yH (i := 6) sc_pages_of.nd rfl (by first | exact Or.inl rfl | exact Or.inr rfl)) (zC (zK (i := 7) sc_pages_of.nd rfl (by first | exact Or.inl rfl | exact Or.inr rfl) (zV yE (zY (pv 1) rfl) (pv 6) (fun _ _ => rfl)))
     (zF (yU (pe_bm PySem.F.plainAttrs_list PySem.F.slot_list_append PySem.F.type_list_append yP (pv 5) (zA (zM op_catT (yB G_without_leads (hr.mono (by first | decide | omega)) rfl T.m_without_leads T.k_without_leads T.b_without_leads .nil zU (zA (pv 7) zD)) (yR call_tuple_of (by rfl) T.n_tuple Bt.tuple (zA (pe_compR (compOk_of (x := "lead") (M := ["paper", "maker", "start", "found", "numbers", "pages", "number", "page"]) rfl (by rfl)) rfl (pi_tup (yB G_leads_of (hr.mono (by first | decide | omega)) rfl T.m_leads_of T.k_leads_of T.b_leads_of .nil zU (zA (pv 7) zD))) (fun _ _ _ _ => (pe_dget (hu_of hr) (pv 5) (pv 0) (fun _ _ => rfl)))) zD))) zD))))))
     (zF (zO (pv 5))))))))), ?_⟩
 have hfl := flat_le g
 generalize hqs : S.flatten = qs at q hfl
 refine yY fun _ hN => ?_
 refine ⟨_, rfl, ?_⟩
 intro p dx nx nd ne
 refine ⟨p, dx, a, S, H, rfl, zB, mk_same _ nx nd, nx, hP, g, fun d1 d2 lm H1 s1 hp hBl hl => ⟨rfl, hN _ _ ?_⟩⟩
 try dsimp only [gName, List.set_cons_succ, List.set_cons_zero]
 refine yY fun _ hN => ?_
 refine ⟨_, rfl, p, _, dx, _, JAll T, rfl, hp, rfl, p, dx, d1, d2, a, lm, S, H, rfl, hp, hl, s1, hBl, hP, g, fun H2 F2 hM => hN _ _ ?_⟩
 rw [hqs] at hM ⊢
 try dsimp only [gName, List.set_cons_succ, List.set_cons_zero]
 have s2 := same_fr s1 hBl F2
 obtain ⟨⟨dp, d12, d22, hp2⟩, xs, hl2, hxs⟩ := hM
 generalize hn : qs.reverse.length = n
 have hn' : qs.length = n := by rw [← hn, List.length_reverse]
 refine yY fun _ hN => ?_
 refine ⟨_, rfl, p, _, dp, _, _, rfl, hp2, T.cl_PageMaker, T.no_PageMaker_made, rfl, _, rfl, lm, n, xs, qs.reverse, rfl, hl2, hxs, hn.symm, by omega, fun lf H3 s3 hlf => hN _ _ ?_⟩
 try dsimp only [gName, List.set_cons_succ, List.set_cons_zero]
 refine seq_mid (fun σ' G => ∃ d, σ' = [some (.ref a), some (.ref p), some (.int (n : Nat)), some (.ref lf), some (.ref d), none, none, none] ∧ Same H3 G ∧ G d = some (.dK (numR n))) (fun σ' H4 hR => ?_) (fun _ hk => ?_)
 rotate_left
 · refine ⟨_, rfl, lf, rfl, ⟨_, SqL.of hlf⟩, ?_⟩
   refine comp_enumT (xs := iN (dwn n (n + 1))) (zP (m := 1000) (by rw [iN_len, dwn_len]; omega)) (fun i ys G => Same H3 G ∧ Paired (PrR G) ys ((numR n).take i)) ⟨Same.refl _, .nil⟩ (fun i ys G hw => SqL.of (hw.1 _ _ hlf)) (fun i x ys G hx _ hw Tt hT => ?_) (fun ys G hw p2 hp2 => ?_)
   · obtain ⟨sG, hys⟩ := hw
     have li : i < n + 1 := by have := (List.getElem?_eq_some_iff.mp hx).1; rw [iN_len, dwn_len] at this; exact this
     obtain ⟨k, hki, rfl⟩ := map_get hx
     rw [dwn_at li] at hki
     cases hki
     have sT := zH hT (.tup [.int (i : Nat), .int ((n - i : Nat) : Int)])
     refine tt_true ⟨_, rfl, _, rfl, (by show 2 ≤ sizeLine; decide), fun a2 ha2 => ?_⟩
     have s6 := zH ha2 (.tup [.int ((n - i : Nat) : Int), .int (i : Nat)])
     refine ⟨(sG.trans sT).trans s6, ?_⟩
     rw [yI (numR_at (by omega))]
     refine zZ (zE hys fun _ _ r => ?_) (.cons ⟨a2, rfl, zB⟩ .nil)
     obtain ⟨b, e, hb⟩ := r
     exact ⟨b, e, s6 _ _ (sT _ _ hb)⟩
   · obtain ⟨sG, hys⟩ := hw
     rw [iN_len, dwn_len, ← numR_len n, List.take_length] at hys
     have s6 := zH hp2 (.lst ys)
     refine ⟨p2, ys, numR n, rfl, zB, zE hys fun _ _ r => ?_, fun d hd => ?_⟩
     · obtain ⟨b, e, hb⟩ := r
       exact ⟨b, e, s6 _ _ hb⟩
     rw [mkD_nd (numR_nd n)]
     exact hk _ _ ⟨d, rfl, (sG.trans s6).trans (zH hd _), zB⟩
 obtain ⟨d, rfl, s4, hd4⟩ := hR
 refine ⟨(by show 0 ≤ sizeLine; decide), fun lp hlp => ?_⟩
 have s5 := zH hlp (.lst [])
 have e5 : (upd H4 lp (.lst [])) lp = some (.lst []) := zB
 have sAll := ((s2.trans s3).trans s4)
 have hlpN : H lp = none := same_none sAll hlp
 generalize upd H4 lp (.lst []) = H5 at s5 e5
 try dsimp only [gName, List.set_cons_succ, List.set_cons_zero]
 have sN : ∀ {G : Hp}, Fr [lp] H5 G → Same H4 G := fun {G} F b o hb => F _ _ (s5 _ _ hb) (ni1 (zG hb hlp))
 have hlf4 := s4 _ _ hlf
 have hp4 := s4 _ _ (s3 _ _ hp2)
 have hl4 := s4 _ _ (s3 _ _ hl2)
 have hxs4 : Paired (PgR H4) xs (mkL qs.reverse) := zE hxs fun _ _ r => r.same (s3.trans s4)
 refine ⟨_, rfl, lf, rfl, ⟨_, SqL.of (s5 _ _ hlf4)⟩, ?_⟩
 refine for_listR (xs := iN (dwn n (n + 1))) (fun i σ G => ∃ u6 u7 zs, σ = [some (.ref a), some (.ref p), some (.int (n : Nat)), some (.ref lf), some (.ref d), some (.ref lp), u6, u7] ∧ Fr [lp] H5 G ∧ G lp = some (.lst zs) ∧ Paired (PgR G) zs ((pgs qs).take i)) ⟨_, _, [], rfl, Fr.of (Same.refl _), e5, .nil⟩ (fun i σ G _ hw => ?_) (fun i x σ G hx hw => ?_) (fun σ G hw => ?_)
 · obtain ⟨_, _, _, rfl, F, _⟩ := hw
   exact SqL.of (sN F _ _ hlf4)
 · obtain ⟨u6, u7, zs, rfl, F, hlpG, hzs⟩ := hw
   have li : i < n + 1 := by have := (List.getElem?_eq_some_iff.mp hx).1; rw [iN_len, dwn_len] at this; exact this
   obtain ⟨k, hki, rfl⟩ := map_get hx
   rw [dwn_at li] at hki
   cases hki
   obtain ⟨pg, hpg, hcase⟩ := mkL_at (done := qs.reverse) (k := n - i) (by omega)
   obtain ⟨x, hxm, t, rfl, ht⟩ := yM hxs4 hpg
   have lzs := zL hzs
   rw [List.length_take, pgs_len] at lzs
   have sG := sN F
   try dsimp only [gName, List.set_cons_succ, List.set_cons_zero]
   refine yY fun _ hN => ?_
   refine ⟨_, rfl, p, _, dp, _, _, rfl, sG _ _ hp4, T.cl_PageMaker, T.no_PageMaker_made, rfl, _, rfl, lm, _, _, _, rfl, rfl, SqL.of (sG _ _ hl4), yC hxm, hN _ _ ?_⟩
   try dsimp only [gName, List.set_cons_succ, List.set_cons_zero]
   refine ⟨_, rfl, .inl ⟨rfl, _, SqL.of hlpG⟩, _, rfl, t, pg, rfl, sG _ _ ht, fun wt G1 s1' hwt => ?_⟩
   refine ⟨_, rfl, t, pg, rfl, s1' _ _ (sG _ _ ht), fun l G2 s2' hl' => ⟨l, rfl, ⟨_, SqT.of hl'⟩, ?_⟩⟩
   have s12 := s1'.trans s2'
   have hd2 := s12 _ _ (sG _ _ hd4)
   have fin : ∀ G3, Same G2 G3 → ∀ t' pg', (pgs qs)[i]? = some pg' → G3 t' = some (.tup (pgV pg')) → ∃ u6 u7 zs', ([some (.ref a), some (.ref p), some (.int (n : Nat)), some (.ref lf), some (.ref d), some (.ref lp), some (.int ((n - i : Nat) : Int)), some (.ref t)] : St) = [some (.ref a), some (.ref p), some (.int (n : Nat)), some (.ref lf), some (.ref d), some (.ref lp), u6, u7] ∧ Fr [lp] H5 (upd G3 lp (.lst (zs ++ [.ref t']))) ∧ (upd G3 lp (.lst (zs ++ [.ref t']))) lp = some (.lst zs') ∧ Paired (PgR (upd G3 lp (.lst (zs ++ [.ref t'])))) zs' ((pgs qs).take (i + 1)) := fun G3 s3' t' pg' hpg' ht' => by
     have sg := s12.trans s3'
     have Fu : Fr [lp] G3 (upd G3 lp (.lst (zs ++ [.ref t']))) := (Fr.of (Same.refl _)).upd (List.mem_singleton.mpr rfl) _
     refine ⟨_, _, zs ++ [.ref t'], rfl, (F.trans (Fr.of sg)).trans Fu, zB, ?_⟩
     rw [yI hpg']
     exact zZ (zE hzs fun _ _ r => (r.same sg).fr Fu (sg _ _ hlpG)) (.cons (PgR.fr Fu (sg _ _ hlpG) ⟨t', rfl, ht'⟩) .nil)
   rcases hcase with ⟨h0, rfl⟩ | ⟨qq, h0, hqq, rfl⟩
   · have ei : i = qs.length := by omega
     refine comp_tup (xs := []) (Nat.zero_le _) (fun j ys G' => G2 = G' ∧ ys = []) ⟨rfl, rfl⟩ (fun j ys G' hw => hw.1 ▸ SqT.of hl') (fun j x ys G' hx _ _ => by simp at hx) (fun ys G' _ hw p3 hp3 => ?_)
     obtain ⟨rfl, rfl⟩ := hw
     have s3' := zH hp3 (.lst [])
     refine ⟨p3, [], rfl, .inl ⟨SqL.of zB, fun tp htp => ?_⟩⟩
     have s4' := zH htp (.tup [])
     have hw4 := s4' _ _ (s3' _ _ (s2' _ _ hwt))
     refine ⟨wt, tp, _, _, rfl, rfl, SqT.of hw4, SqT.of zB, (by intro z; cases z), (by show 1 ≤ sizeLine; decide), fun _ => ?_, fun h => absurd rfl h⟩
     have sg := s3'.trans s4'
     exact ⟨lp, _, _, rfl, rfl, sg _ _ (s12 _ _ hlpG), zP (m := 1000) (by omega), fin _ sg wt .en (by rw [ei]; exact pgs_en qs) hw4⟩
   · have hb : n - i - 1 ≤ n := by omega
     have hqi : qs[i]? = some qq := by
       rw [List.getElem?_reverse (by omega)] at hqq
       rw [← hqq]; congr 1; omega
     have hval := val_at (numR_nd n) (numR_at (n := n) (i := i + 1) (by omega))
     rw [show n - (i + 1) = n - i - 1 by omega] at hval
     refine comp_tup (xs := [.int ((n - i - 1 : Nat) : Int)]) (by show 1 ≤ sizeLine; decide) (fun j ys G' => G2 = G' ∧ ys = ([V.int ((i + 1 : Nat) : Int)].take j)) ⟨rfl, rfl⟩ (fun j ys G' hw => hw.1 ▸ SqT.of hl') (fun j x ys G' hx _ hw => ?_) (fun ys G' _ hw p3 hp3 => ?_)
     · obtain ⟨rfl, rfl⟩ := hw
       have hj : j = 0 := by have := (List.getElem?_eq_some_iff.mp hx).1; rw [List.length_singleton] at this; omega
       subst hj
       cases Option.some.inj hx
       have hg := DGet.k (k := .inl ((n - i - 1 : Nat) : Int)) hd2
       rw [hval] at hg
       exact ⟨_, rfl, _, rfl, d, _, rfl, hg, rfl, rfl⟩
     · obtain ⟨rfl, rfl⟩ := hw
       have s3' := zH hp3 (.lst [.int ((i + 1 : Nat) : Int)])
       refine ⟨p3, [.int ((i + 1 : Nat) : Int)], rfl, .inl ⟨SqL.of zB, fun tp htp => ?_⟩⟩
       have s4' := zH htp (.tup [.int ((i + 1 : Nat) : Int)])
       have hw4 := s4' _ _ (s3' _ _ (s2' _ _ hwt))
       refine ⟨wt, tp, _, _, rfl, rfl, SqT.of hw4, SqT.of zB, (by intro z; cases z), (by show 5 ≤ sizeLine; decide), (fun h => by cases h), fun _ tn htn => ?_⟩
       have s5' := zH htn (.tup (pgW (.ask qq (n - i - 1)) ++ [.int ((i + 1 : Nat) : Int)]))
       have sg := (s3'.trans s4').trans s5'
       exact ⟨lp, _, _, rfl, rfl, sg _ _ (s12 _ _ hlpG), zP (m := 1000) (by omega), fin _ sg tn (.ask qq (i + 1)) (pgs_ask hqi) zB⟩
 · obtain ⟨u6, u7, zs, rfl, F, hlpG, hzs⟩ := hw
   rw [iN_len, dwn_len, ← hn', ← pgs_len, List.take_length] at hzs
   exact ⟨_, rfl, q lp zs G (sAll.trans (sN F)) hlpN hlpG hzs⟩
end
end K71
set_option maxHeartbeats 4000000
namespace K71
open PySem L2
seal PE PT PW PA PS PSs PG PGs PI PO PSet OpR UnR CallR TruR IxR SlR PC PPs
local macro_rules | `(tactic| walk_at "rd1") => `(tactic| first
 | (refine And.intro rfl ?_)
 | (refine And.intro (by assumption) ?_)
 | (refine And.intro (fun _ e => e) ?_)
 | (refine And.intro (TyOf.str _) ?_) | (refine And.intro (TyOf.int _) ?_) | (refine And.intro (TyOf.bl _) ?_) | (refine And.intro TyOf.non ?_)
 | (refine iteT ?_) | (refine iteF ?_)
 | (apply Exists.intro))
local macro_rules | `(tactic| walk_at "rd") => `(tactic| repeat (walk_at "rd1"))
inductive Lg where
 | ask (z : Str) (n : Int)
 | opn (z : Str)
 | en
def lgV : Lg → List V
 | .ask z n => [.str "ask", .str z, .str "", .int n]
 | .opn z => [.str "open", .str z, .str ""]
 | .en => [.str "end"]
def LgR (H : Hp) (x : V) (l : Lg) : Prop := ∃ t, x = .ref t ∧ H t = some (.tup (lgV l))
theorem LgR.same {H H' : Hp} (s : Same H H') {x : V} {l : Lg} (h : LgR H x l) : LgR H' x l := by
 obtain ⟨t, e, h⟩ := h
 exact ⟨t, e, s _ _ h⟩
theorem ni2 {x a b : Addr} (h : x ≠ a) (k : x ≠ b) : x ∉ [a, b] := fun e => by
 rcases List.mem_cons.mp e with e | e
 · exact h e
 · exact k (List.mem_singleton.mp e)
abbrev oRun (A : Adr) (dr bk rk lg : Addr) : HO := .ins A.c_Run dr [("book", .ref bk), ("ranks", .ref rk), ("place", .int 0), ("thing", .str ""), ("log", .ref lg)]
structure RunR (A : Adr) (B H : Hp) (p bk rk lg : Addr) (L : List Lg) : Prop where
 sm : Same B H
 n1 : B rk = none
 n2 : B lg = none
 ex : ∃ dr kvs xs, H p = some (oRun A dr bk rk lg) ∧ H rk = some (.dT kvs) ∧ kvs.length ≤ L.length ∧ H lg = some (.lst xs) ∧ Paired (LgR H) xs L
theorem RunR.same {A : Adr} {B H H' : Hp} (s : Same H H') {p bk rk lg : Addr} {L : List Lg} (h : RunR A B H p bk rk lg L) : RunR A B H' p bk rk lg L := by
 obtain ⟨h1, h2, h3, dr, kvs, xs, e1, e2, e3, e4, e5⟩ := h
 exact ⟨h1.trans s, h2, h3, dr, kvs, xs, s _ _ e1, s _ _ e2, e3, s _ _ e4, zE e5 fun _ _ r => r.same s⟩
def kyQ (z : Str) : List Key := [.inr z, .inr ""]
def nextL (z : Str) (lo hi : Int) (o : Option Int) : Lg := if fitO lo hi o = true then .ask z (o.getD 0) else .opn z
def spRunI (A : Adr) : Sp := fun vs H Q _ => ∃ p dx bk B, vs = [.ref p, .ref bk] ∧ H p = some (.ins A.c_Run dx []) ∧ Same B H ∧ B p = none ∧ ∀ rk lg H', RunR A B H' p bk rk lg [] → Q .non H'
def spThing : Sp := fun vs H Q _ => ∃ p, vs = [p, .non] ∧ Q (.str "") H
def spAsk (A : Adr) : Sp := fun vs H Q _ => ∃ p z k dk lo hi b bk rk lg L B bkv o, vs = [.ref p, .str z, .ref k, .non, .int b] ∧ H k = some (oW A dk lo hi) ∧ k ≠ rk ∧ k ≠ lg ∧ RunR A B H p bk rk lg L ∧ L.length ≤ 1000 ∧ B bk = some (.dT bkv) ∧ (valV bkv (kyQ z)).getD .non = oI o ∧
 ∀ H', RunR A B H' p bk rk lg (L ++ [nextL z lo hi o]) → Q (if fitO lo hi o = true then .int b else .non) H'
section
variable {P : Program} {w : World} {K : W.Frag} {mg : Str → Option Value} {base : Heap} {A : Adr}
theorem ok_run_init (T : Txt K mg A) : FnOk P w K mg base CX0 1 A.f_c_Run___init A.d_c_Run___init ["self", "book"] (spRunI A) := by
 refine T.F_c_Run___init.ok sc_c_Run___init (fun vs H Q E h => ?_) (fun cdv A0 outer s H vs Q E hr h => ?_)
 · obtain ⟨p, dx, bk, B, rfl, _⟩ := h
   rfl
 obtain ⟨p, dx, bk, B, rfl, hp, sB, hBp, q⟩ := h
 refine ⟨_, (zC (yO (pv 0) (pv 1) rfl)
     (zC (yO (pv 0) pe_dnewT rfl)
     (zC (yO (pv 0) zJ rfl)
     (zC (yO (pv 0) zN rfl)
     (zF (yO (pv 0) (pe_lst zD) rfl)))))), ?_⟩
 refine ⟨_, rfl, _, rfl, p, _, dx, _, rfl, hp, T.cl_Run, T.no_Run_book, by decide, ?_⟩
 have s1 : Same B (upd H p (.ins A.c_Run dx [("book", .ref bk)])) := fun b o hb => by rw [zI (zG hb hBp)]; exact sB _ _ hb
 have e1 : (upd H p (.ins A.c_Run dx [("book", .ref bk)])) p = some (.ins A.c_Run dx [("book", .ref bk)]) := zB
 show tSeq _ _ _ _ (upd H p (.ins A.c_Run dx [("book", .ref bk)]))
 generalize upd H p (.ins A.c_Run dx [("book", .ref bk)]) = H1 at s1 e1
 refine fun rk hrk => ?_
 have s2 := zH hrk (.dT [])
 have npr : p ≠ rk := zG e1 hrk
 refine ⟨_, rfl, p, _, dx, _, rfl, s2 _ _ e1, T.cl_Run, T.no_Run_ranks, (by show 1 < 1000; decide), ?_⟩
 refine ⟨_, rfl, p, _, dx, _, rfl, zB, T.cl_Run, T.no_Run_place, (by show 2 < 1000; decide), ?_⟩
 rw [upd_upd]
 refine ⟨_, rfl, p, _, dx, _, rfl, zB, T.cl_Run, T.no_Run_thing, (by show 3 < 1000; decide), ?_⟩
 rw [upd_upd]
 have s3 : Same B (upd (upd H1 rk (.dT [])) p (.ins A.c_Run dx [("book", .ref bk), ("ranks", .ref rk), ("place", .int 0), ("thing", .str "")])) := fun b o hb => by rw [zI (zG hb hBp)]; exact s2 _ _ (s1 _ _ hb)
 have e3 : (upd (upd H1 rk (.dT [])) p (.ins A.c_Run dx [("book", .ref bk), ("ranks", .ref rk), ("place", .int 0), ("thing", .str "")])) p = some (.ins A.c_Run dx [("book", .ref bk), ("ranks", .ref rk), ("place", .int 0), ("thing", .str "")]) := zB
 have e4 : (upd (upd H1 rk (.dT [])) p (.ins A.c_Run dx [("book", .ref bk), ("ranks", .ref rk), ("place", .int 0), ("thing", .str "")])) rk = some (.dT []) := by rw [zI (Ne.symm npr)]; exact zB
 show _
 have key : ∀ G, G = upd (upd H1 rk (.dT [])) p (.ins A.c_Run dx [("book", .ref bk), ("ranks", .ref rk), ("place", .int 0), ("thing", .str "")]) → Same B G ∧ G p = some (.ins A.c_Run dx [("book", .ref bk), ("ranks", .ref rk), ("place", .int 0), ("thing", .str "")]) ∧ G rk = some (.dT []) := fun G e => by subst e; exact ⟨s3, e3, e4⟩
 obtain ⟨s4, e5, e6⟩ := key _ rfl
 refine ⟨(by show 0 ≤ sizeLine; decide), fun lg hlg => ?_⟩
 have s5 := zH hlg (.lst [])
 have npl : p ≠ lg := zG e5 hlg
 have nrl : rk ≠ lg := zG e6 hlg
 refine ⟨_, rfl, p, _, dx, _, rfl, s5 _ _ e5, T.cl_Run, T.no_Run_log, (by show 4 < 1000; decide), ?_⟩
 refine q rk lg _ ⟨fun b o hb => ?_, same_none s1 hrk, same_none s4 hlg, dx, [], [], zB, ?_, Nat.le_refl _, ?_, .nil⟩
 · rw [zI (zG hb hBp)]; exact s5 _ _ (s4 _ _ hb)
 · rw [zI (Ne.symm npr)]; exact s5 _ _ e6
 · rw [zI (Ne.symm npl)]; exact zB
theorem ok_thing_by (T : Txt K mg A) : FnOk P w K mg base CX0 1 A.f_c_Run_thing_by A.d_c_Run_thing_by ["self", "each"] spThing := by
 refine T.F_c_Run_thing_by.ok sc_c_Run_thing_by (fun vs H Q E h => ?_) (fun cdv A0 outer s H vs Q E hr h => ?_)
 · obtain ⟨p, rfl, _⟩ := h
   rfl
 obtain ⟨p, rfl, q⟩ := h
 exact ⟨_, (zF (zO (pe_ifExp (zR op_isN (pv 1) xC (zX _)) zN (zY (pv 0) rfl)))), _, rfl, rfl, _, rfl, iteT q⟩
def JThing (T : Txt K mg A) : MethJ P w K mg base CX0 1 A.c_Run "thing_by" := ⟨_, _, _, _, [], [], T.cl_Run, T.me_Run_thing_by, ok_thing_by T, T.b_c_Run_thing_by, .nil⟩
theorem ok_take_ask (T : Txt K mg A) : FnOk P w K mg base CX0 5 A.f_c_Run_take_ask A.d_c_Run_take_ask ["self", "question", "kind", "each", "behind"] (spAsk A) := by
 refine T.F_c_Run_take_ask.ok sc_c_Run_take_ask (fun vs H Q E h => ?_) (fun cdv A0 outer s H vs Q E hr h => ?_)
 · obtain ⟨p, z, k, dk, lo, hi, b, bk, rk, lg, L, B, bkv, o, rfl, _⟩ := h
   rfl
 obtain ⟨p, z, k, dk, lo, hi, b, bk, rk, lg, L, B, bkv, o, rfl, hk, nkr, nkl, hR, hL, hbk, hv, q⟩ := h
 refine ⟨_, (zC (zK (i := 5) sc_c_Run_take_ask.nd rfl (by first | exact Or.inl rfl | exact Or.inr rfl) (yQ (zA (pv 1) (zA (yJ (CX := CX0) (k := 1) (hr.mono (by first | decide | omega)) zU (pv 0) (zA (pv 3) zD)) zD))))
     (zC (zK (i := 6) sc_c_Run_take_ask.nd rfl (by first | exact Or.inl rfl | exact Or.inr rfl) (pe_dget1 (hu_of hr) (zY (pv 0) rfl) (pv 5) ⟨rfl, rfl, rfl, rfl⟩))
     (zC (yK (pt_not (pt_val (yJ (CX := CX0) (k := 4) (hr.mono (by first | decide | omega)) zU (pv 2) (zA (pv 6) zD)))) (zC (yU (pe_bm PySem.F.plainAttrs_list PySem.F.slot_list_append PySem.F.type_list_append yP (zY (pv 0) rfl) (zA (zM op_catT (yQ (zA zN zD)) (pv 5)) zD)))
     (zF (zO xC))) zW)
     (zC (yU (pe_bm PySem.F.plainAttrs_list PySem.F.slot_list_append PySem.F.type_list_append yP (zY (pv 0) rfl) (zA (zM op_catT (zM op_catT (yQ (zA zN zD)) (pv 5)) (yQ (zA (pv 6) zD))) zD)))
     (zC (ps_dput (hu_of hr) (zY (pv 0) rfl) (pv 5) (yJ (CX := CX0) (k := 1) (hr.mono (by first | decide | omega)) zU (pv 2) (zA (pv 6) zD)) rfl)
     (zF (zO (pv 4)))))))), ?_⟩
 obtain ⟨dr, kvs, xs, hp, hrk, hkl, hlg, hxs⟩ := id hR.ex
 refine ⟨_, rfl, _, rfl, p, _, dr, _, JThing T, rfl, hp, rfl, _, rfl, _, rfl, (by show 2 ≤ sizeLine; decide), fun kt hkt => ?_⟩
 have s1 := zH hkt (.tup ((kyQ z).map kV))
 have e1 : (upd H kt (.tup ((kyQ z).map kV))) kt = some (.tup ((kyQ z).map kV)) := zB
 have hR1 := hR.same s1
 have hk1 := s1 _ _ hk
 show gName _ _ _ (upd H kt (.tup ((kyQ z).map kV))) _
 generalize upd H kt (.tup ((kyQ z).map kV)) = H1 at s1 e1 hR1 hk1
 dsimp only [gName, List.set_cons_succ, List.set_cons_zero]
 clear hxs hlg hkl hrk hp
 obtain ⟨dr, kvs, xs, hp, hrk, hkl, hlg, hxs⟩ := id hR1.ex
 have hbk1 := hR1.sm _ _ hbk
 have lxs := zL hxs
 have npl : p ≠ lg := yG hp hlg (by intro z; cases z)
 have npr : p ≠ rk := yG hp hrk (by intro z; cases z)
 have nrl : rk ≠ lg := yG hrk hlg (by intro z; cases z)
 have ntl : kt ≠ lg := yG e1 hlg (by intro z; cases z)
 have ntr : kt ≠ rk := yG e1 hrk (by intro z; cases z)
 refine ⟨_, rfl, p, _, dr, _, _, rfl, hp, T.cl_Run, T.no_Run_book, rfl, bk, rfl, .inr ⟨bkv, .inl hbk1⟩, _, rfl, _, DGet.t hbk1 e1, ?_⟩
 rw [hv]
 dsimp only [gName, List.set_cons_succ, List.set_cons_zero]
 refine ⟨_, rfl, k, _, dk, _, JWf T, rfl, hk1, rfl, _, rfl, k, dk, lo, hi, o, rfl, hk1, _, rfl, ?_⟩
 cases hf : fitO lo hi o with
 | false =>
   rw [show nextL z lo hi o = .opn z by unfold nextL; rw [hf]; rfl, hf] at q
   refine iteT ⟨_, rfl, p, _, dr, _, _, rfl, hp, T.cl_Run, T.no_Run_log, rfl, .inl ⟨rfl, _, SqL.of hlg⟩, (by show 1 ≤ sizeLine; decide), fun t1 ht1 => ?_⟩
   have s2 := zH ht1 (.tup [.str "open"])
   refine ⟨_, rfl, t1, kt, _, _, rfl, rfl, SqT.of zB, SqT.of (s2 _ _ e1), (by intro z; cases z), (by show 3 ≤ sizeLine; decide), (fun h => by cases h), fun _ t2 ht2 => ?_⟩
   have s3 := zH ht2 (.tup (lgV (.opn z)))
   have s23 := s2.trans s3
   refine ⟨lg, _, _, rfl, rfl, s23 _ _ hlg, zP (m := 2000) (by omega), ?_⟩
   have e3 : (upd (upd H1 t1 (.tup [.str "open"])) t2 (.tup (lgV (.opn z)))) t2 = some (.tup (lgV (.opn z))) := zB
   refine q _ ⟨fun b o hb => ?_, hR1.n1, hR1.n2, dr, kvs, xs ++ [.ref t2], ?_, ?_, ?_, zB, ?_⟩
   · rw [zI (zG hb hR1.n2)]; exact s23 _ _ (hR1.sm _ _ hb)
   · rw [zI npl]; exact s23 _ _ hp
   · rw [zI nrl]; exact s23 _ _ hrk
   · rw [List.length_append]; omega
   · have hlg2 := s23 _ _ hlg
     have fr : ∀ {x l}, LgR (upd (upd H1 t1 (.tup [.str "open"])) t2 (.tup (lgV (.opn z)))) x l → LgR (upd (upd (upd H1 t1 (.tup [.str "open"])) t2 (.tup (lgV (.opn z)))) lg (.lst (xs ++ [.ref t2]))) x l := fun {x l} ⟨t, e, ht⟩ => ⟨t, e, by rw [zI (yG ht hlg2 (by intro z; cases z))]; exact ht⟩
     exact zZ (zE hxs fun _ _ r => fr (r.same s23)) (.cons (fr ⟨t2, rfl, e3⟩) .nil)
 | true =>
   obtain ⟨n, rfl⟩ : ∃ n, o = some n := by
     cases o with
     | none => cases hf
     | some n => exact ⟨n, rfl⟩
   rw [show nextL z lo hi (some n) = .ask z n by unfold nextL; rw [hf]; rfl, hf] at q
   refine iteF ?_
   refine ⟨_, rfl, p, _, dr, _, _, rfl, hp, T.cl_Run, T.no_Run_log, rfl, .inl ⟨rfl, _, SqL.of hlg⟩, (by show 1 ≤ sizeLine; decide), fun t1 ht1 => ?_⟩
   have s2 := zH ht1 (.tup [.str "ask"])
   refine ⟨_, rfl, t1, kt, _, _, rfl, rfl, SqT.of zB, SqT.of (s2 _ _ e1), (by intro z; cases z), (by show 3 ≤ sizeLine; decide), (fun h => by cases h), fun _ t2 ht2 => ?_⟩
   have s3 := zH ht2 (.tup [.str "ask", .str z, .str ""])
   refine ⟨_, rfl, (by show 1 ≤ sizeLine; decide), fun t3 ht3 => ?_⟩
   have s4 := zH ht3 (.tup [.int n])
   refine ⟨t2, t3, _, _, rfl, rfl, SqT.of (s4 _ _ zB), SqT.of zB, (by intro z; cases z), (by show 4 ≤ sizeLine; decide), (fun h => by cases h), fun _ t4 ht4 => ?_⟩
   have s5 := zH ht4 (.tup (lgV (.ask z n)))
   have sg : Same H1 (upd (upd (upd (upd H1 t1 (.tup [.str "ask"])) t2 (.tup [.str "ask", .str z, .str ""])) t3 (.tup [.int n])) t4 (.tup (lgV (.ask z n)))) := ((s2.trans s3).trans s4).trans s5
   have e5 : (upd (upd (upd (upd H1 t1 (.tup [.str "ask"])) t2 (.tup [.str "ask", .str z, .str ""])) t3 (.tup [.int n])) t4 (.tup (lgV (.ask z n)))) t4 = some (.tup (lgV (.ask z n))) := zB
   refine ⟨lg, _, _, rfl, rfl, sg _ _ hlg, zP (m := 2000) (by omega), ?_⟩
   show tSeq _ _ _ _ (upd (upd (upd (upd (upd H1 t1 (.tup [.str "ask"])) t2 (.tup [.str "ask", .str z, .str ""])) t3 (.tup [.int n])) t4 (.tup (lgV (.ask z n)))) lg (.lst (xs ++ [.ref t4])))
   generalize upd (upd (upd (upd H1 t1 (.tup [.str "ask"])) t2 (.tup [.str "ask", .str z, .str ""])) t3 (.tup [.int n])) t4 (.tup (lgV (.ask z n))) = H5 at sg e5
   have Fu : Fr [lg] H5 (upd H5 lg (.lst (xs ++ [.ref t4]))) := (Fr.of (Same.refl _)).upd (List.mem_singleton.mpr rfl) _
   have hp6 := Fu _ _ (sg _ _ hp) (ni1 npl)
   have hr6 := Fu _ _ (sg _ _ hrk) (ni1 nrl)
   have hk6 := Fu _ _ (sg _ _ hk1) (ni1 nkl)
   have ht6 := Fu _ _ (sg _ _ e1) (ni1 ntl)
   have hg6 : (upd H5 lg (.lst (xs ++ [.ref t4]))) lg = some (.lst (xs ++ [.ref t4])) := zB
   have hx6 : Paired (LgR (upd H5 lg (.lst (xs ++ [.ref t4])))) (xs ++ [.ref t4]) (L ++ [.ask z n]) := by
     have fr : ∀ {x l}, LgR H5 x l → LgR (upd H5 lg (.lst (xs ++ [.ref t4]))) x l := fun {x l} ⟨t, e, ht⟩ => ⟨t, e, Fu _ _ ht (ni1 (yG ht (sg _ _ hlg) (by intro z; cases z)))⟩
     exact zZ (zE hxs fun _ _ r => fr (r.same sg)) (.cons (fr ⟨t4, rfl, e5⟩) .nil)
   have sB6 : Same B (upd H5 lg (.lst (xs ++ [.ref t4]))) := fun b o hb => Fu _ _ (sg _ _ (hR1.sm _ _ hb)) (ni1 (zG hb hR1.n2))
   generalize upd H5 lg (.lst (xs ++ [.ref t4])) = H6 at Fu hp6 hr6 hk6 ht6 hg6 hx6 sB6
   refine ⟨_, rfl, k, _, dk, _, JWr T, rfl, hk6, rfl, _, rfl, _, _, rfl, _, rfl, p, _, dr, _, _, rfl, hp6, T.cl_Run, T.no_Run_ranks, rfl, _, rfl, rk, _, rfl, DPut.t hr6 ht6 (zP (m := 2000) (by omega)), ?_⟩
   refine ⟨_, rfl, q _ ⟨fun b o hb => ?_, hR1.n1, hR1.n2, dr, _, xs ++ [.ref t4], ?_, zB, ?_, ?_, ?_⟩⟩
   · rw [zI (zG hb hR1.n1)]; exact sB6 _ _ hb
   · rw [zI npr]; exact hp6
   · rw [List.length_append, List.length_singleton]
     exact Nat.le_trans (yS ..) (by omega)
   · rw [zI (Ne.symm nrl)]; exact hg6
   · exact zE hx6 fun _ _ ⟨t, e, ht⟩ => ⟨t, e, by rw [zI (yG ht hr6 (by intro z; cases z))]; exact ht⟩
def JAsk (T : Txt K mg A) : MethJ P w K mg base CX0 6 A.c_Run "take_ask" := ⟨_, _, _, _, [], [], T.cl_Run, T.me_Run_take_ask, (ok_take_ask T).mono (by decide), T.b_c_Run_take_ask, .nil⟩
end
end K71
set_option maxHeartbeats 4000000
namespace K71
open PySem L2
seal PE PT PW PA PS PSs PG PGs PI PO PSet OpR UnR CallR TruR IxR SlR PC PPs
local macro_rules | `(tactic| walk_at "rd1") => `(tactic| first
 | (refine And.intro rfl ?_)
 | (refine And.intro (by assumption) ?_)
 | (refine And.intro (fun _ e => e) ?_)
 | (refine And.intro (TyOf.str _) ?_) | (refine And.intro (TyOf.int _) ?_) | (refine And.intro (TyOf.bl _) ?_) | (refine And.intro TyOf.non ?_)
 | (refine iteT ?_) | (refine iteF ?_)
 | (apply Exists.intro))
local macro_rules | `(tactic| walk_at "rd") => `(tactic| repeat (walk_at "rd1"))
def stepV (pg : Pg) (o : Option Int) : V := match pg with
 | .en => .non
 | .ask q b => if fitO q.2.1 q.2.2 o = true then .int (b : Nat) else .non
def stepL (pg : Pg) (o : Option Int) : Lg := match pg with
 | .en => .en
 | .ask q _ => nextL q.1 q.2.1 q.2.2 o
def Pg.G : Pg → Prop
 | .en => True
 | .ask q _ => q.G
def spPage (A : Adr) : Sp := fun vs H Q _ => ∃ p t pg bk rk lg L B bkv o, vs = [.ref p, .ref t] ∧ H t = some (.tup (pgV pg)) ∧ pg.G ∧ RunR A B H p bk rk lg L ∧ L.length ≤ 1000 ∧ B bk = some (.dT bkv) ∧ (∀ qq b, pg = .ask qq b → (valV bkv (kyQ qq.1)).getD .non = oI o) ∧
 ∀ H', RunR A B H' p bk rk lg (L ++ [stepL pg o]) → Q (stepV pg o) H'
def runL (qs : List Qn) (an : List Int) : List Lg := (qs.zip an).map (fun p => Lg.ask p.1.1 p.2) ++ [match qs[an.length]? with
 | some q => .opn q.1
 | none => .en]
def spRun (A : Adr) : Sp := fun vs H Q _ => ∃ (lp bk : Addr) (xs : List V) (qs : List Qn) (bkv : List (List Key × V)) (an : List Int), vs = [.ref lp, .ref bk] ∧ H lp = some (.lst xs) ∧ Paired (PgR H) xs (pgs qs) ∧ (∀ q ∈ qs, q.G) ∧ qs.length ≤ 100 ∧ H bk = some (.dT bkv) ∧ an.length ≤ qs.length ∧ (∀ (i : Nat) (q : Qn) (n : Int), qs[i]? = some q → an[i]? = some n → valV bkv (kyQ q.1) = some (.int n) ∧ q.2.1 ≤ n ∧ n ≤ q.2.2) ∧ (∀ q : Qn, qs[an.length]? = some q → valV bkv (kyQ q.1) = none) ∧
 ∀ l ys H', Same H H' → H' l = some (.lst ys) → Paired (LgR H') ys (runL qs an) → Q (.ref l) H'
section
variable {P : Program} {w : World} {K : W.Frag} {mg : Str → Option Value} {base : Heap} {A : Adr}
theorem ok_take_page (T : Txt K mg A) : FnOk P w K mg base CX0 9 A.f_c_Run_take_page A.d_c_Run_take_page ["self", "page"] (spPage A) := by
 have G_kind_of := ok_kind_of (P := P) (w := w) (base := base) T
 refine T.F_c_Run_take_page.ok sc_c_Run_take_page (fun vs H Q E h => ?_) (fun cdv A0 outer s H vs Q E hr h => ?_)
 · obtain ⟨p, t, pg, bk, rk, lg, L, B, bkv, o, rfl, _⟩ := h
   rfl
 obtain ⟨p, t, pg, bk, rk, lg, L, B, bkv, o, rfl, ht, g, hR, hL, hbk, hv, q⟩ := h
 refine ⟨_, (zC (zK (i := 2) sc_c_Run_take_page.nd rfl (by first | exact Or.inl rfl | exact Or.inr rfl) (zV yD (pv 1) zJ (fun _ _ => rfl)))
     (zC (yK (zR op_eq (pv 2) zN (zX _)) (zF (zO (yJ (CX := CX0) (k := 6) (hr.mono (by first | decide | omega)) zU (pv 0) (zA (zV yD (pv 1) zJ (fun _ _ => rfl)) (zA (yB G_kind_of (hr.mono (by first | decide | omega)) rfl T.m_kind_of T.k_kind_of T.b_kind_of .nil zU (zA (zV yD (pv 1) zJ (fun _ _ => rfl)) zD)) (zA (zV yD (pv 1) zJ (fun _ _ => rfl)) (zA (zV yD (pv 1) zJ (fun _ _ => rfl)) zD))))))) zW)
     (zC (yK (zR op_eq (pv 2) zN (zX _)) (zF ps_no) zW)
     (zC (yK (zR op_eq (pv 2) zN (zX _)) (zF ps_no) zW)
     (zC (yK (zR op_eq (pv 2) zN (zX _)) (zF ps_no) zW)
     (zC (yK (zR op_in_seq (pv 2) (yQ (zA zN (zA zN zD))) (by rfl)) (zC ps_no
     (zF ps_no)) zW)
     (zC (yU (pe_bm PySem.F.plainAttrs_list PySem.F.slot_list_append PySem.F.type_list_append yP (zY (pv 0) rfl) (zA (pe_ifExp (zR op_eq (pv 2) zN (zX _)) (yQ (zA (pv 2) zD)) (yQ (zA (pv 2) (zA (zV yD (pv 1) zJ (fun _ _ => rfl)) (zA (yJ (CX := CX0) (k := 1) (hr.mono (by first | decide | omega)) zU (pv 0) (zA (zV yD (pv 1) zJ (fun _ _ => rfl)) zD)) zD))))) zD)))
     (zF (zO (pe_ifExp (zR op_in_seq (pv 2) (yQ (zA zN (zA zN zD))) (by rfl)) (zV yD (pv 1) zJ (fun _ _ => rfl)) xC)))))))))), ?_⟩
 obtain ⟨dr, kvs, xs, hp, hrk, hkl, hlg, hxs⟩ := id hR.ex
 cases pg with
 | ask qq b =>
   refine ⟨_, rfl, t, _, _, _, rfl, rfl, SqT.of ht, rfl, ?_⟩
   refine ⟨_, rfl, rfl, _, rfl, iteB (decide_eq_true rfl) ?_⟩
   refine ⟨_, rfl, p, _, dr, _, JAsk T, rfl, hp, rfl, _, rfl, t, _, _, _, rfl, rfl, SqT.of ht, rfl, _, rfl, t, _, _, _, rfl, rfl, SqT.of ht, rfl, qq.2.1, qq.2.2, rfl, g, fun k dk H1 s1 hk => ?_⟩
   have hR1 := hR.same s1
   refine ⟨_, rfl, t, _, _, _, rfl, rfl, SqT.of (s1 _ _ ht), rfl, _, rfl, t, _, _, _, rfl, rfl, SqT.of (s1 _ _ ht), rfl, ?_⟩
   exact ⟨p, qq.1, k, dk, qq.2.1, qq.2.2, _, bk, rk, lg, L, B, bkv, o, rfl, hk, yG hk (s1 _ _ hrk) (by intro z; cases z), yG hk (s1 _ _ hlg) (by intro z; cases z), hR1, hL, hbk, hv qq b rfl, q⟩
 | en =>
   refine ⟨_, rfl, t, _, _, _, rfl, rfl, SqT.of ht, rfl, ?_⟩
   refine ⟨_, rfl, rfl, _, rfl, iteO (by symm) ?_⟩
   refine ⟨_, rfl, rfl, _, rfl, iteO (by symm) ?_⟩
   refine ⟨_, rfl, rfl, _, rfl, iteO (by symm) ?_⟩
   refine ⟨_, rfl, rfl, _, rfl, iteO (by symm) ?_⟩
   refine ⟨_, rfl, (by show 2 ≤ sizeLine; decide), fun t1 ht1 => ?_⟩
   have s1 := zH ht1 (.tup [.str "first", .str "on"])
   refine ⟨t1, _, rfl, .inr (SqT.of zB), rfl, rfl, _, rfl, iteO (by symm) ?_⟩
   have hlg1 := s1 _ _ hlg
   refine ⟨_, rfl, p, _, dr, _, _, rfl, s1 _ _ hp, T.cl_Run, T.no_Run_log, rfl, .inl ⟨rfl, _, SqL.of hlg1⟩, _, rfl, rfl, _, rfl, iteB (decide_eq_true rfl) ⟨_, rfl, (by show 1 ≤ sizeLine; decide), fun t2 ht2 => ?_⟩⟩
   have s2 := zH ht2 (.tup (lgV .en))
   have e2 : (upd (upd H t1 (.tup [.str "first", .str "on"])) t2 (.tup (lgV .en))) t2 = some (.tup (lgV .en)) := zB
   have s12 := s1.trans s2
   have lxs := zL hxs
   have npl : p ≠ lg := yG hp hlg (by intro z; cases z)
   have nrl : rk ≠ lg := yG hrk hlg (by intro z; cases z)
   refine ⟨lg, _, _, rfl, rfl, s12 _ _ hlg, zP (m := 2000) (by omega), ?_⟩
   have hR2 : RunR A B (upd (upd (upd H t1 (.tup [.str "first", .str "on"])) t2 (.tup (lgV .en))) lg (.lst (xs ++ [.ref t2]))) p bk rk lg (L ++ [.en]) := by
     refine ⟨fun b o hb => ?_, hR.n1, hR.n2, dr, kvs, xs ++ [.ref t2], ?_, ?_, ?_, zB, ?_⟩
     · rw [zI (zG hb hR.n2)]; exact s12 _ _ (hR.sm _ _ hb)
     · rw [zI npl]; exact s12 _ _ hp
     · rw [zI nrl]; exact s12 _ _ hrk
     · rw [List.length_append]; omega
     · have hlg2 := s12 _ _ hlg
       have fr : ∀ {x l}, LgR (upd (upd H t1 (.tup [.str "first", .str "on"])) t2 (.tup (lgV .en))) x l → LgR (upd (upd (upd H t1 (.tup [.str "first", .str "on"])) t2 (.tup (lgV .en))) lg (.lst (xs ++ [.ref t2]))) x l := fun {x l} ⟨t, e, ht⟩ => ⟨t, e, by rw [zI (yG ht hlg2 (by intro z; cases z))]; exact ht⟩
       exact zZ (zE hxs fun _ _ r => fr (r.same s12)) (.cons (fr ⟨t2, rfl, e2⟩) .nil)
   refine ⟨_, rfl, (by show 2 ≤ sizeLine; decide), fun t3 ht3 => ?_⟩
   have s3 := zH ht3 (.tup [.str "pass", .str "warn"])
   exact ⟨t3, _, rfl, .inr (SqT.of zB), rfl, rfl, _, rfl, iteO (by symm) (q _ (hR2.same s3))⟩
def JPage (T : Txt K mg A) : MethJ P w K mg base CX0 9 A.c_Run "take_page" := ⟨_, _, _, _, [], [], T.cl_Run, T.me_Run_take_page, ok_take_page T, T.b_c_Run_take_page, .nil⟩
theorem zip_at {α β : Type} {l : List α} {m : List β} {i : Nat} {a : α} {b : β} (h1 : l[i]? = some a) (h2 : m[i]? = some b) : (l.zip m)[i]? = some (a, b) := by
 rw [List.getElem?_zip_eq_some]; exact ⟨h1, h2⟩
theorem ok_run (T : Txt K mg A) : FnOk P w K mg base CX0 10 A.f_run A.d_run ["pages", "book"] (spRun A) := by
 have G_c_Run___init := ok_run_init (P := P) (w := w) (base := base) T
 refine T.F_run.ok sc_run (fun vs H Q E h => ?_) (fun cdv A0 outer s H vs Q E hr h => ?_)
 · obtain ⟨lp, bk, xs, qs, bkv, an, rfl, _⟩ := h
   rfl
 obtain ⟨lp, bk, xs, qs, bkv, an, rfl, hlp, hxs, hg, hq1, hbk, han, hin, hout, q⟩ := h
 refine ⟨_, (zC (zK (i := 2) sc_run.nd rfl (by first | exact Or.inl rfl | exact Or.inr rfl) (pe_make T.mk_Run G_c_Run___init (hr.mono (by first | decide | omega)) rfl T.m_Run T.b_c_Run___init .nil zU (zA (pv 1) zD)))
     (zC (zK (i := 3) sc_run.nd rfl (by first | exact Or.inl rfl | exact Or.inr rfl) zJ)
     (zC (ps_whileR PassesOwn.never (zR op_notN (pv 3) xC (zX _)) (zF (zK (i := 3) sc_run.nd rfl (by first | exact Or.inl rfl | exact Or.inr rfl) (yJ (CX := CX0) (k := 9) (hr.mono (by first | decide | omega)) zU (pv 2) (zA (zV yE (pv 0) (pv 3) (fun _ _ => rfl)) zD)))))
     (zF (zO (zY (pv 2) rfl)))))), ?_⟩
 refine ⟨_, rfl, ?_⟩
 intro r dx nx nd ne
 refine ⟨r, dx, bk, H, rfl, zB, mk_same _ nx nd, nx, fun rk lg H1 hR => ⟨rfl, ?_⟩⟩
 dsimp only [gName, List.set_cons_succ, List.set_cons_zero]
 have lz : (qs.zip an).length = an.length := by rw [List.length_zip]; omega
 refine ⟨⟨fun m σ G => (∃ k, m = an.length + 2 - k ∧ k ≤ an.length ∧ σ = [some (.ref lp), some (.ref bk), some (.ref r), some (.int (k : Nat))] ∧ RunR A H G r bk rk lg (((qs.zip an).take k).map fun p => Lg.ask p.1.1 p.2)) ∨ (m = 0 ∧ σ = [some (.ref lp), some (.ref bk), some (.ref r), some .non] ∧ RunR A H G r bk rk lg (runL qs an)), ⟨_, .inl ⟨0, rfl, Nat.zero_le _, rfl, hR⟩⟩, fun m σ G hw => ?_⟩⟩
 rcases hw with ⟨k, rfl, hk, rfl, hRG⟩ | ⟨rfl, rfl, hRG⟩
 · refine ⟨_, rfl, rfl, _, rfl, iteT ?_⟩
   have sG := hRG.sm
   obtain ⟨dr, kvs, ys, hr1, _⟩ := id hRG.ex
   have lL : (((qs.zip an).take k).map fun p => Lg.ask p.1.1 p.2).length ≤ 1000 := by rw [List.length_map, List.length_take]; omega
   by_cases c : k < an.length
   · have hq : qs[k]? = some qs[k] := List.getElem?_eq_getElem (by omega)
     have ha : an[k]? = some an[k] := List.getElem?_eq_getElem c
     obtain ⟨v1, v2, v3⟩ := hin k _ _ hq ha
     obtain ⟨x, hx, t, rfl, ht⟩ := yM hxs (pgs_ask hq)
     have hfit : fitO qs[k].2.1 qs[k].2.2 (some an[k]) = true := by
       show (decide _ && decide _) = true
       rw [decide_eq_true v2, decide_eq_true v3]; rfl
     refine ⟨fun σ' G' => σ' = [some (.ref lp), some (.ref bk), some (.ref r), some (.int ((k + 1 : Nat) : Int))] ∧ RunR A H G' r bk rk lg (((qs.zip an).take (k + 1)).map fun p => Lg.ask p.1.1 p.2), fun σ' G' hN => ⟨_, ?_, .inl ⟨k + 1, rfl, by omega, hN.1, hN.2⟩⟩, ?_⟩
     · omega
     refine ⟨_, rfl, r, _, dr, _, JPage T, rfl, hr1, rfl, _, rfl, _, rfl, lp, _, _, _, rfl, rfl, SqL.of (sG _ _ hlp), yC hx, r, t, _, bk, rk, lg, _, H, bkv, some an[k], rfl, sG _ _ ht, hg _ (List.mem_of_getElem? hq), hRG, lL, hbk, (fun _ _ e => by cases e; rw [v1]; rfl), fun G2 hR2 => ?_⟩
     have e1 : stepV (.ask qs[k] (k + 1)) (some an[k]) = .int ((k + 1 : Nat) : Int) := if_pos hfit
     have e2 : stepL (.ask qs[k] (k + 1)) (some an[k]) = .ask qs[k].1 an[k] := if_pos hfit
     rw [e1]
     rw [e2] at hR2
     refine ⟨rfl, ?_⟩
     rw [yI (zip_at hq ha), List.map_append]
     exact hR2
   · have ek : k = an.length := by omega
     subst ek
     refine ⟨fun σ' G' => σ' = [some (.ref lp), some (.ref bk), some (.ref r), some .non] ∧ RunR A H G' r bk rk lg (runL qs an), fun σ' G' hN => ⟨0, by omega, .inr ⟨rfl, hN.1, hN.2⟩⟩, ?_⟩
     have et : (qs.zip an).take an.length = qs.zip an := List.take_of_length_le (by omega)
     rw [et] at hRG lL
     cases hq : qs[an.length]? with
     | some qq =>
       have v1 := hout qq hq
       obtain ⟨x, hx, t, rfl, ht⟩ := yM hxs (pgs_ask hq)
       refine ⟨_, rfl, r, _, dr, _, JPage T, rfl, hr1, rfl, _, rfl, _, rfl, lp, _, _, _, rfl, rfl, SqL.of (sG _ _ hlp), yC hx, r, t, _, bk, rk, lg, _, H, bkv, none, rfl, sG _ _ ht, hg _ (List.mem_of_getElem? hq), hRG, lL, hbk, (fun _ _ e => by cases e; rw [v1]; rfl), fun G2 hR2 => ⟨rfl, ?_⟩⟩
       unfold runL
       rw [hq]
       exact hR2
     | none =>
       have eq : an.length = qs.length := by have := List.getElem?_eq_none_iff.mp hq; omega
       have hen := pgs_en qs
       rw [← eq] at hen
       obtain ⟨x, hx, t, rfl, ht⟩ := yM hxs hen
       refine ⟨_, rfl, r, _, dr, _, JPage T, rfl, hr1, rfl, _, rfl, _, rfl, lp, _, _, _, rfl, rfl, SqL.of (sG _ _ hlp), yC hx, r, t, _, bk, rk, lg, _, H, bkv, none, rfl, sG _ _ ht, trivial, hRG, lL, hbk, (fun _ _ e => by cases e), fun G2 hR2 => ⟨rfl, ?_⟩⟩
       unfold runL
       rw [hq]
       exact hR2
 · refine ⟨_, rfl, rfl, _, rfl, iteF ?_⟩
   obtain ⟨dr, kvs, ys, hr1, _, _, hlg, hys⟩ := id hRG.ex
   exact ⟨_, rfl, r, _, dr, _, _, rfl, hr1, T.cl_Run, T.no_Run_log, rfl, q lg ys G hRG.sm hlg hys⟩
end
end K71
set_option maxHeartbeats 4000000
namespace K71
open PySem L2
seal PE PT PW PA PS PSs PG PGs PI PO PSet OpR UnR CallR TruR IxR SlR PC PPs
local macro_rules | `(tactic| walk_at "rd1") => `(tactic| first
 | (refine And.intro rfl ?_)
 | (refine And.intro (by assumption) ?_)
 | (refine And.intro (fun _ e => e) ?_)
 | (refine And.intro (TyOf.str _) ?_) | (refine And.intro (TyOf.int _) ?_) | (refine And.intro (TyOf.bl _) ?_) | (refine And.intro TyOf.non ?_)
 | (refine iteT ?_) | (refine iteF ?_)
 | (apply Exists.intro))
local macro_rules | `(tactic| walk_at "rd") => `(tactic| repeat (walk_at "rd1"))
def nmN (ns : List Int) : Nat → Str := nmF (cellF ns 0)
def QnR (H : Hp) (y : V) (q : Qn) : Prop := ∃ t, y = .ref t ∧ H t = some (.tup [.str q.1, .int q.2.1, .int q.2.2])
theorem QnR.same {H H' : Hp} (s : Same H H') {y : V} {q : Qn} (h : QnR H y q) : QnR H' y q := by
 obtain ⟨t, e, h⟩ := h
 exact ⟨t, e, s _ _ h⟩
theorem QnR.fr {m : Addr} {H H' : Hp} {us : List V} (F : Fr [m] H H') (hm : H m = some (.lst us)) {y : V} {q : Qn} (h : QnR H y q) : QnR H' y q := by
 obtain ⟨t, e, h⟩ := h
 exact ⟨t, e, F _ _ h (ni1 (yG h hm (by intro z; cases z)))⟩
def RowR (lm : Addr) (H : Hp) (y : V) (r : List Qn) : Prop := ∃ t us, y = .ref t ∧ t ≠ lm ∧ H t = some (.lst us) ∧ Paired (QnR H) us r
theorem RowR.fr {lm : Addr} {H H' : Hp} {us : List V} (F : Fr [lm] H H') (hm : H lm = some (.lst us)) {y : V} {r : List Qn} (h : RowR lm H y r) : RowR lm H' y r := by
 obtain ⟨t, vs, e, n, h1, h2⟩ := h
 exact ⟨t, vs, e, n, F _ _ h1 (ni1 n), zE h2 fun _ _ r => r.fr F hm⟩
theorem RowR.same {lm : Addr} {H H' : Hp} (s : Same H H') {y : V} {r : List Qn} (h : RowR lm H y r) : RowR lm H' y r := by
 obtain ⟨t, vs, e, n, h1, h2⟩ := h
 exact ⟨t, vs, e, n, s _ _ h1, zE h2 fun _ _ r => r.same s⟩
def BQ (q : Qn) : Prop := q.2.1.natAbs ≤ 10 ^ 18 ∧ q.2.1 ≤ q.2.2 ∧ q.2.2 - q.2.1 ≤ 10 ^ 12
def GQ (ns : List Int) (qs : List Qn) : Prop := ∀ i q, qs[i]? = some q → q.1 = nmN ns i ∧ BQ q
theorem GQ.snoc {ns : List Int} {qs : List Qn} (h : GQ ns qs) {q : Qn} (h1 : q.1 = nmN ns qs.length) (h2 : BQ q) : GQ ns (qs ++ [q]) := fun i q' hq => by
 by_cases c : i < qs.length
 · rw [List.getElem?_append_left c] at hq
   exact h i q' hq
 · rw [List.getElem?_append_right (by omega)] at hq
   have lk := (List.getElem?_eq_some_iff.mp hq).1
   rw [List.length_singleton] at lk
   have e : i = qs.length := by omega
   subst e
   rw [Nat.sub_self] at hq
   cases Option.some.inj hq
   exact ⟨h1, h2⟩
def spSheets (K : W.Frag) : Sp := fun vs H Q _ => ∃ (a : Addr) (ns : List Int), vs = [.ref a] ∧ SqL K H a (ns.map V.int) ∧ ns.length ≤ 1000 ∧ Ns ns ∧
 ∀ l xs S H', Same H H' → H' l = some (.lst xs) → Paired (RowR l H') xs S → S.length ≤ 5 → (∀ r ∈ S, r.length ≤ 4) → S.flatten.length ≤ 20 → GQ ns S.flatten → Q (.ref l) H'
def W4 (H : Hp) (y : V) (q : Qn) : Prop := ∃ t, y = .ref t ∧ H t = some (.tup (pgW (.ask q 0)))
def spTold (A : Adr) : Sp := fun vs H Q _ => ∃ lp xs qs, vs = [.ref lp] ∧ H lp = some (.lst xs) ∧ Paired (PgR H) xs (pgs qs) ∧ qs.length ≤ 100 ∧ ∀ l ys H', Same H H' → H l = none → H' l = some (.lst ys) → Paired (W4 H') ys qs → Q (.ref l) H'
theorem end_eq {X : Cx} {H : Hp} {t u : Addr} (h : H t = some (.tup [.str "end"])) (k : H u = some (.tup [.str "end"])) : EqJ X H 20 (.ref t) (.ref u) true := by
 have fl : ([V.str "end"] : List V).all flatV = true := rfl
 have := eqj_ftups (X := X) (n := 19) (SqT.of h) (SqT.of k) fl fl
 rw [eqL_self fl] at this
 exact this
theorem p40 : (10 : Int) ^ 40 < 2 ^ 200 := by symm
section
variable {P : Program} {w : World} {K : W.Frag} {mg : Str → Option Value} {base : Heap} {A : Adr}
theorem ok_law_sheets (T : Txt K mg A) : FnOk P w K mg base CX0 3 A.f_law_sheets A.d_law_sheets ["_law_script"] (spSheets K) := by
 have G_law_cell := ok_law_cell (P := P) (w := w) (base := base) T
 have G_law_name := ok_law_name (P := P) (w := w) (base := base) T
 refine T.F_law_sheets.ok sc_law_sheets (fun vs H Q E h => ?_) (fun cdv A0 outer s H vs Q E hr h => ?_)
 · obtain ⟨a, ns, rfl, _⟩ := h
   rfl
 obtain ⟨a, ns, rfl, hS, hl, hb, q⟩ := h
 refine ⟨_, (zC (zK (i := 1) sc_law_sheets.nd rfl (by first | exact Or.inl rfl | exact Or.inr rfl) (pe_lst zD))
     (zC (zK (i := 2) sc_law_sheets.nd rfl (by first | exact Or.inl rfl | exact Or.inr rfl) zJ)
     (zC (yT PassesOwn.never rfl (pi_range1 rfl T.n_range (zA (zM op_add zJ (zM xD (yB G_law_cell (hr.mono (by first | decide | omega)) rfl T.m_law_cell T.k_law_cell T.b_law_cell .nil zU (zA (pv 0) (zA zJ zD))) zJ)) zD)) (yH (i := 3) sc_law_sheets.nd rfl (by first | exact Or.inl rfl | exact Or.inr rfl)) (zC (zK (i := 4) sc_law_sheets.nd rfl (by first | exact Or.inl rfl | exact Or.inr rfl) (pe_lst zD))
     (zC (yT PassesOwn.never rfl (pi_range1 rfl T.n_range (zA (zM xD (yB G_law_cell (hr.mono (by first | decide | omega)) rfl T.m_law_cell T.k_law_cell T.b_law_cell .nil zU (zA (pv 0) (zA (zM op_add zJ (pv 3)) zD))) zJ) zD)) (yH (i := 5) sc_law_sheets.nd rfl (by first | exact Or.inl rfl | exact Or.inr rfl)) (zC (zK (i := 6) sc_law_sheets.nd rfl (by first | exact Or.inl rfl | exact Or.inr rfl) (zM xD (yB G_law_cell (hr.mono (by first | decide | omega)) rfl T.m_law_cell T.k_law_cell T.b_law_cell .nil zU (zA (pv 0) (zA (zM op_add zJ (pv 2)) zD))) (zM op_pow zJ zJ)))
     (zC (zK (i := 7) sc_law_sheets.nd rfl (by first | exact Or.inl rfl | exact Or.inr rfl) (zM op_sub (zM xD (zM op_mulB (pv 6) zJ) (zM op_mulB zJ (zM op_pow zJ zJ))) (zM op_pow zJ zJ)))
     (zC (yU (pe_bm PySem.F.plainAttrs_list PySem.F.slot_list_append PySem.F.type_list_append yP (pv 4) (zA (yQ (zA (yB G_law_name (hr.mono (by first | decide | omega)) rfl T.m_law_name T.k_law_name T.b_law_name .nil zU (zA (pv 0) (zA (pv 2) zD))) (zA (pv 7) (zA (zM op_add (pv 7) (zM xD (zM op_fdiv (pv 6) zJ) (zM op_pow zJ zJ))) zD)))) zD)))
     (zF (zK (i := 2) sc_law_sheets.nd rfl (by first | exact Or.inl rfl | exact Or.inr rfl) (zM op_add (pv 2) zJ)))))))
     (zF (yU (pe_bm PySem.F.plainAttrs_list PySem.F.slot_list_append PySem.F.type_list_append yP (pv 1) (zA (pv 4) zD)))))))
     (zF (zO (pv 1)))))), ?_⟩
 refine ⟨(by show 0 ≤ sizeLine; decide), fun lm hlm => ?_⟩
 have s0 := zH hlm (.lst [])
 have e0 : (upd H lm (.lst [])) lm = some (.lst []) := zB
 generalize upd H lm (.lst []) = H1 at s0 e0
 dsimp only [gName, List.set_cons_succ, List.set_cons_zero]
 have d0 := Int.emod_nonneg (cellF ns 1) (b := 5) (by decide)
 have d1 := Int.emod_lt_of_pos (cellF ns 1) (b := 5) (by decide)
 refine ⟨_, rfl, a, ns, 1, rfl, s0.seq hS, by decide, hl, hb, _, _, rfl, rfl, (show (0 : Int) < 5 by decide), _, _, rfl, rfl, _, rfl, (by omega), (by omega), ?_⟩
 obtain ⟨N, hN, hN5⟩ : ∃ N : Nat, (1 + cellF ns 1 % 5).toNat = N ∧ N ≤ 5 := ⟨_, rfl, by omega⟩
 rw [hN]
 refine for_rangeR (fun i σ G => ∃ u3 u4 u5 u6 u7 ys S, σ = [some (.ref a), some (.ref lm), some (.int (S.flatten.length : Nat)), u3, u4, u5, u6, u7] ∧ Same H G ∧ G lm = some (.lst ys) ∧ Paired (RowR lm G) ys S ∧ S.length = i ∧ (∀ r ∈ S, r.length ≤ 4) ∧ S.flatten.length ≤ 4 * i ∧ GQ ns S.flatten) ⟨_, _, _, _, _, [], [], rfl, s0, e0, .nil, rfl, (fun r h => by cases h), Nat.zero_le _, fun i q h => by simp at h⟩ (fun i σ G hi hw => ?_) (fun σ G hw => ?_)
 rotate_left
 · obtain ⟨u3, u4, u5, u6, u7, ys, S, rfl, sG, hG, hp, hm, h4, hf, gq⟩ := hw
   exact ⟨_, rfl, q lm ys S G sG hG hp (by omega) h4 (by omega) gq⟩
 obtain ⟨u3, u4, u5, u6, u7, ys, S, rfl, sG, hG, hp, hm, h4, hf, gq⟩ := hw
 have lys := zL hp
 refine ⟨(by show 0 ≤ sizeLine; decide), fun ld hld => ?_⟩
 have s2 := zH hld (.lst [])
 have hldN : H ld = none := same_none sG hld
 have ndm : ld ≠ lm := Ne.symm (zG hG hld)
 have hld1 : (upd G ld (.lst [])) ld = some (.lst []) := zB
 generalize upd G ld (.lst []) = G1 at s2 hld1
 dsimp only [gName, List.set_cons_succ, List.set_cons_zero]
 have sG1 := sG.trans s2
 refine seq_mid (fun σ' G' => ∃ u5 u6 u7 us r, σ' = [some (.ref a), some (.ref lm), some (.int ((S.flatten ++ r).length : Nat)), some (.int (0 + (i : Nat))), some (.ref ld), u5, u6, u7] ∧ Fr [ld] G1 G' ∧ G' ld = some (.lst us) ∧ Paired (QnR G') us r ∧ r.length ≤ 4 ∧ GQ ns (S.flatten ++ r)) (fun σ' G' hR => ?_) (fun _ hk2 => ?_)
 · obtain ⟨u5', u6', u7', us, r, rfl, F, hld2, hus, hr4, gq2⟩ := hR
   have sF : Same G G' := fun b o hb' => F _ _ (s2 _ _ hb') (ni1 (zG hb' hld))
   refine ⟨_, rfl, .inl ⟨rfl, _, SqL.of (sF _ _ hG)⟩, _, rfl, lm, _, _, rfl, rfl, sF _ _ hG, zP (m := 100) (by omega), ?_⟩
   have Fu : Fr [lm] G' (upd G' lm (.lst (ys ++ [.ref ld]))) := (Fr.of (Same.refl _)).upd (List.mem_singleton.mpr rfl) _
   have ef : (S ++ [r]).flatten = S.flatten ++ r := by rw [List.flatten_append]; show _ ++ (r ++ []) = _; rw [List.append_nil]
   refine ⟨_, _, _, _, _, ys ++ [.ref ld], S ++ [r], (by rw [ef]), fun b o hb' => by rw [zI (zG hb' hlm)]; exact sF _ _ (sG _ _ hb'), zB, zZ (zE hp fun _ _ x => (x.same sF).fr Fu (sF _ _ hG)) (.cons ⟨ld, us, rfl, ndm, by rw [zI ndm]; exact hld2, zE hus fun _ _ x => x.fr Fu (sF _ _ hG)⟩ .nil), by rw [List.length_append, hm]; rfl, fun r' hr' => ?_, by rw [ef, List.length_append]; omega, by rw [ef]; exact gq2⟩
   rcases List.mem_append.mp hr' with h | h
   · exact h4 r' h
   · rw [List.mem_singleton.mp h]; exact hr4
 have d0 := Int.emod_nonneg (cellF ns (2 + i)) (b := 5) (by decide)
 have d1 := Int.emod_lt_of_pos (cellF ns (2 + i)) (b := 5) (by decide)
 refine ⟨_, rfl, _, rfl, _, _, rfl, rfl, a, ns, 2 + i, (by dsimp only; rw [show ((2 : Int) + (0 + (i : Nat))) = ((2 + i : Nat) : Int) by omega]; rfl), sG1.seq hS, (by omega), hl, hb, _, _, rfl, rfl, (show (0 : Int) < 5 by decide), _, rfl, (by omega), (by omega), ?_⟩
 obtain ⟨nk, hnk, hnk4⟩ : ∃ nk : Nat, (cellF ns (2 + i) % 5).toNat = nk ∧ nk ≤ 4 := ⟨_, rfl, by omega⟩
 rw [hnk]
 refine for_rangeR (fun j σ G' => ∃ u5 u6 u7 us r, σ = [some (.ref a), some (.ref lm), some (.int ((S.flatten ++ r).length : Nat)), some (.int (0 + (i : Nat))), some (.ref ld), u5, u6, u7] ∧ Fr [ld] G1 G' ∧ G' ld = some (.lst us) ∧ Paired (QnR G') us r ∧ r.length = j ∧ GQ ns (S.flatten ++ r)) ⟨_, _, _, [], [], (by rw [List.append_nil]), Fr.of (Same.refl _), hld1, .nil, rfl, by rw [List.append_nil]; exact gq⟩ (fun j σ G' hj hw => ?_) (fun σ G' hw => ?_)
 · obtain ⟨u5', u6', u7', us, r, rfl, F, hld2, hus, hrj, gq2⟩ := hw
   have lus := zL hus
   have sF : Same H G' := fun b o hb' => F _ _ (sG1 _ _ hb') (ni1 (zG hb' hldN))
   generalize hn : (S.flatten ++ r).length = n at *
   have hn20 : n < 26 := by rw [← hn, List.length_append]; omega
   have hp40 := p40
   have f0 := Int.emod_nonneg (cellF ns (8 + n)) (b := 10 ^ 40) (by decide)
   have f1 := Int.emod_lt_of_pos (cellF ns (8 + n)) (b := 10 ^ 40) (by decide)
   dsimp only [gName, List.set_cons_succ, List.set_cons_zero]
   refine ⟨_, rfl, _, rfl, _, _, rfl, rfl, a, ns, 8 + n, (by dsimp only; rw [show ((8 : Int) + (n : Nat)) = ((8 + n : Nat) : Int) by omega]; rfl), sF.seq hS, (by omega), hl, hb, _, _, rfl, rfl, ⟨by decide, by decide⟩, _, _, rfl, rfl, (show (0 : Int) < 10 ^ 40 by decide), ?_⟩
   dsimp only [gName, List.set_cons_succ, List.set_cons_zero]
   generalize hc : cellF ns (8 + n) % 10 ^ Int.toNat 40 = c
   have hc : cellF ns (8 + n) % 10 ^ 40 = c := hc
   rw [hc] at f0 f1
   have ic : ib c ≤ 60000000 := ibc (by omega)
   refine ⟨_, rfl, _, _, rfl, rfl, ⟨ic, by decide⟩, _, _, rfl, rfl, ⟨by decide, by decide⟩, _, _, rfl, rfl, ⟨by decide, by decide⟩, _, _, rfl, rfl, (show (0 : Int) < 2 * 10 ^ 18 by decide), _, _, rfl, rfl, ⟨by decide, by decide⟩, _, _, rfl, rfl, ?_⟩
   dsimp only [gName, List.set_cons_succ, List.set_cons_zero]
   generalize hlo : (c * 48271 % (2 * 10 ^ Int.toNat 18) - 10 ^ Int.toNat 18 : Int) = lo
   have hlo : c * 48271 % (2 * 10 ^ 18) - 10 ^ 18 = lo := hlo
   have l1 : lo.natAbs ≤ 10 ^ 18 := by
     have := Int.emod_nonneg (c * 48271) (show (2 * 10 ^ 18 : Int) ≠ 0 by decide)
     have := Int.emod_lt_of_pos (c * 48271) (show (0 : Int) < 2 * 10 ^ 18 by decide)
     omega
   refine ⟨_, rfl, .inl ⟨rfl, _, SqL.of hld2⟩, _, rfl, _, rfl, a, ns, n, rfl, sF.seq hS, hn20, hl, hb, _, rfl, _, rfl, _, rfl, _, _, rfl, rfl, ⟨(show (0 : Int) < 3 by decide), (show (3 : Int) < 1073741824 by decide)⟩, _, _, rfl, rfl, ⟨by decide, by decide⟩, _, _, rfl, rfl, (show (0 : Int) < 10 ^ 12 by decide), _, _, rfl, rfl, (by show 3 ≤ sizeLine; decide), fun T2 hT2 => ?_⟩
   have m1 := Int.emod_nonneg (c / 3) (show (10 ^ 12 : Int) ≠ 0 by decide)
   have m2 := Int.emod_lt_of_pos (c / 3) (show (0 : Int) < 10 ^ 12 by decide)
   have s5 := zH hT2 (.tup [.str (nmN ns n), .int lo, .int (lo + c / 3 % 10 ^ 12)])
   have e5 : (upd G' T2 (.tup [.str (nmN ns n), .int lo, .int (lo + c / 3 % 10 ^ 12)])) T2 = some (.tup [.str (nmN ns n), .int lo, .int (lo + c / 3 % 10 ^ 12)]) := zB
   have h5 := s5 _ _ hld2
   refine ⟨ld, _, _, rfl, rfl, h5, zP (m := 100) (by omega), ?_⟩
   have Fu : Fr [ld] (upd G' T2 (.tup [.str (nmN ns n), .int lo, .int (lo + c / 3 % 10 ^ 12)])) (upd (upd G' T2 (.tup [.str (nmN ns n), .int lo, .int (lo + c / 3 % 10 ^ 12)])) ld (.lst (us ++ [.ref T2]))) := (Fr.of (Same.refl _)).upd (List.mem_singleton.mpr rfl) _
   refine ⟨_, rfl, _, _, rfl, rfl, some (.int (0 + (j : Nat))), some (.int c), some (.int lo), us ++ [.ref T2], r ++ [(nmN ns n, lo, lo + c / 3 % 10 ^ 12)], ?_, (F.trans (Fr.of s5)).trans Fu, zB, zZ (zE hus fun _ _ x => (x.same s5).fr Fu h5) (.cons (QnR.fr Fu h5 ⟨T2, rfl, e5⟩) .nil), by rw [List.length_append, hrj]; rfl, ?_⟩
   · rw [← List.append_assoc, List.length_append, hn]; rfl
   · rw [← List.append_assoc]
     exact gq2.snoc (by rw [hn]) ⟨l1, by show lo ≤ lo + c / 3 % 10 ^ 12; omega, by show lo + c / 3 % 10 ^ 12 - lo ≤ 10 ^ 12; omega⟩
 · obtain ⟨u5', u6', u7', us, r, rfl, F, hld2, hus, hrj, gq2⟩ := hw
   exact hk2 _ _ ⟨_, _, _, us, r, rfl, F, hld2, hus, by omega, gq2⟩
theorem ok_law_told (T : Txt K mg A) : FnOk P w K mg base CX0 1 A.f_law_told A.d_law_told ["_law_pages"] (spTold A) := by
 refine T.F_law_told.ok sc_law_told (fun vs H Q E h => ?_) (fun cdv A0 outer s H vs Q E hr h => ?_)
 · obtain ⟨lp, xs, qs, rfl, _⟩ := h
   rfl
 obtain ⟨lp, xs, qs, rfl, hlp, hxs, hq1, q⟩ := h
 refine ⟨_, (zC (zK (i := 1) sc_law_told.nd rfl (by first | exact Or.inl rfl | exact Or.inr rfl) (pe_lst zD))
     (zC (zK (i := 2) sc_law_told.nd rfl (by first | exact Or.inl rfl | exact Or.inr rfl) zJ)
     (zC (ps_whileR PassesOwn.never (PW.pt (pw_and (zR op_lt (zQ zS (by rfl) T.n_len PySem.boot_len (zA (pv 1) zD)) (zQ zS (by rfl) T.n_len PySem.boot_len (zA (pv 0) zD)) (zX _)) (pw_and (pt_val (zQ xA (by rfl) T.n_isinstance Bt.isinstance (zA (zV yE (pv 0) (pv 2) (fun _ _ => rfl)) (zA (pe_bltn (v := .ty "tuple") rfl T.n_tuple Bt.tuple rfl) zD)))) (pw_and (zR op_eq (zQ zS (by rfl) T.n_len PySem.boot_len (zA (zV yE (pv 0) (pv 2) (fun _ _ => rfl)) zD)) zJ (zX _)) (pw_and1 (zR op_eq (zV yD (zV yE (pv 0) (pv 2) (fun _ _ => rfl)) zJ (fun _ _ => rfl)) zN (zX _))))))) (zC (yU (pe_bm PySem.F.plainAttrs_list PySem.F.slot_list_append PySem.F.type_list_append yP (pv 1) (zA (pe_slice sl_tup (zV yE (pv 0) (pv 2) (fun _ _ => rfl)) po_none (po_some zJ)) zD)))
     (zC (yK (PW.pt (pw_or (pt_not (pt_val (zQ xA (by rfl) T.n_isinstance Bt.isinstance (zA (zV yD (zV yE (pv 0) (pv 2) (fun _ _ => rfl)) zJ (fun _ _ => rfl)) (zA (pe_bltn (v := .ty "int") rfl T.n_int Bt.int rfl) zD))))) (pw_or1 (zR op_notIn_rng (zV yD (zV yE (pv 0) (pv 2) (fun _ _ => rfl)) zJ (fun _ _ => rfl)) (yR call_rangeV (by rfl) T.n_range PyProof.Rows.boot_range (zA (zQ zS (by rfl) T.n_len PySem.boot_len (zA (pv 0) zD)) zD)) (by rfl))))) (zF (zO xC)) zW)
     (zF (zK (i := 2) sc_law_told.nd rfl (by first | exact Or.inl rfl | exact Or.inr rfl) (zV yD (zV yE (pv 0) (pv 2) (fun _ _ => rfl)) zJ (fun _ _ => rfl)))))))
     (zC (yK (zR (op_neJ (hu20 hr)) (zV yE (pv 0) (pv 2) (fun _ _ => rfl)) (yQ (zA zN zD)) (zX _)) (zF (zO xC)) zW)
     (zF (zO (pv 1))))))), ?_⟩
 have lxs := zL hxs
 rw [pgs_len] at lxs
 refine ⟨(by show 0 ≤ sizeLine; decide), fun lt hlt => ?_⟩
 have s0 := zH hlt (.lst [])
 have e0 : (upd H lt (.lst [])) lt = some (.lst []) := zB
 generalize upd H lt (.lst []) = H1 at s0 e0
 dsimp only [gName, List.set_cons_succ, List.set_cons_zero]
 have sN : ∀ {G : Hp}, Fr [lt] H1 G → Same H G := fun {G} F b o hb => F _ _ (s0 _ _ hb) (ni1 (zG hb hlt))
 show tSeq (tWhileR _ _) _ _ [some (.ref lp), some (.ref lt), some (.int 0)] H1
 refine seq_mid (fun σ' G => ∃ ys, σ' = [some (.ref lp), some (.ref lt), some (.int (qs.length : Nat))] ∧ Fr [lt] H1 G ∧ G lt = some (.lst ys) ∧ Paired (W4 G) ys qs) (fun σ' G hR => ?_) (fun _ hk => ?_)
 · obtain ⟨ys, rfl, F, hG, hys⟩ := hR
   obtain ⟨x, hx, t, rfl, ht⟩ := yM hxs (pgs_en qs)
   refine ⟨_, rfl, _, rfl, lp, _, _, _, rfl, rfl, SqL.of (sN F _ _ hlp), yC hx, (by show 1 ≤ sizeLine; decide), fun t2 ht2 => ?_⟩
   have s2 := zH ht2 (.tup [.str "end"])
   refine ⟨true, end_eq (s2 _ _ (sN F _ _ ht)) zB, _, rfl, iteF ⟨_, rfl, ?_⟩⟩
   exact q lt ys _ ((sN F).trans s2) hlt (s2 _ _ hG) (zE hys fun _ _ ⟨t, e, ht⟩ => ⟨t, e, s2 _ _ ht⟩)
 refine ⟨⟨fun m σ G => ∃ k ys, m + k = qs.length + 1 ∧ k ≤ qs.length ∧ σ = [some (.ref lp), some (.ref lt), some (.int (k : Nat))] ∧ Fr [lt] H1 G ∧ G lt = some (.lst ys) ∧ Paired (W4 G) ys (qs.take k), ⟨qs.length + 1, 0, [], rfl, Nat.zero_le _, rfl, Fr.of (Same.refl _), e0, .nil⟩, fun m σ G hw => ?_⟩⟩
 obtain ⟨k, ys, hm, hkq, rfl, F, hG, hys⟩ := hw
 have lys := zL hys
 rw [List.length_take, Nat.min_eq_left hkq] at lys
 have hlpG := sN F _ _ hlp
 refine ⟨_, rfl, lt, _, rfl, .inl (SqL.of hG), _, rfl, lp, _, rfl, .inl (SqL.of hlpG), _, _, rfl, rfl, _, rfl, ?_⟩
 rw [lys, lxs]
 refine iteB (decide_eq_true (by omega)) ?_
 by_cases c : k < qs.length
 · have hq : qs[k]? = some qs[k] := List.getElem?_eq_getElem c
   obtain ⟨x, hx, t, rfl, ht⟩ := yM hxs (pgs_ask hq)
   have htG := sN F _ _ ht
   refine ⟨_, rfl, _, rfl, lp, _, _, _, rfl, rfl, SqL.of hlpG, yC hx, _, _, _, _, rfl, rfl, .tpl (SqT.of htG), T.i_tuple_tuple, _, rfl, iteT ?_⟩
   refine ⟨_, rfl, _, rfl, lp, _, _, _, rfl, rfl, SqL.of hlpG, yC hx, t, _, rfl, .inr (SqT.of htG), rfl, _, rfl, iteT ?_⟩
   refine ⟨_, rfl, _, rfl, lp, _, _, _, rfl, rfl, SqL.of hlpG, yC hx, t, _, _, _, rfl, rfl, SqT.of htG, rfl, rfl, _, rfl, iteB (decide_eq_true rfl) ?_⟩
   refine ⟨fun σ' G' => ∃ ys, σ' = [some (.ref lp), some (.ref lt), some (.int ((k + 1 : Nat) : Int))] ∧ Fr [lt] H1 G' ∧ G' lt = some (.lst ys) ∧ Paired (W4 G') ys (qs.take (k + 1)), fun σ' G' hN => ?_, ?_⟩
   · obtain ⟨ys, rfl, F', h1, h2⟩ := hN
     exact ⟨m - 1, by omega, k + 1, ys, by omega, by omega, rfl, F', h1, h2⟩
   refine ⟨_, rfl, .inl ⟨rfl, _, SqL.of hG⟩, _, rfl, _, rfl, lp, _, _, _, rfl, rfl, SqL.of hlpG, yC hx, _, rfl, t, _, rfl, SqT.of htG, (by intro h; exact absurd h.2 (show ¬ HT.sIx 5 5 (some 4) = 5 by decide)), fun t4 ht4 => ?_⟩
   have s4 := zH ht4 (.tup (pgW (.ask qs[k] 0)))
   have e4 : (upd G t4 (.tup (pgW (.ask qs[k] 0)))) t4 = some (.tup (pgW (.ask qs[k] 0))) := zB
   have hG4 := s4 _ _ hG
   refine ⟨lt, _, _, rfl, rfl, hG4, zP (m := 1000) (by omega), ?_⟩
   have Fu : Fr [lt] (upd G t4 (.tup (pgW (.ask qs[k] 0)))) (upd (upd G t4 (.tup (pgW (.ask qs[k] 0)))) lt (.lst (ys ++ [.ref t4]))) := (Fr.of (Same.refl _)).upd (List.mem_singleton.mpr rfl) _
   have F5 := (F.trans (Fr.of s4)).trans Fu
   have h5 : Paired (W4 (upd (upd G t4 (.tup (pgW (.ask qs[k] 0)))) lt (.lst (ys ++ [.ref t4])))) (ys ++ [.ref t4]) (qs.take (k + 1)) := by
     rw [yI hq]
     have fr : ∀ {x l}, W4 (upd G t4 (.tup (pgW (.ask qs[k] 0)))) x l → W4 (upd (upd G t4 (.tup (pgW (.ask qs[k] 0)))) lt (.lst (ys ++ [.ref t4]))) x l := fun {x l} ⟨t, e, ht⟩ => ⟨t, e, Fu _ _ ht (ni1 (yG ht hG4 (by intro z; cases z)))⟩
     exact zZ (zE hys fun _ _ ⟨t, e, ht⟩ => fr ⟨t, e, s4 _ _ ht⟩) (.cons (fr ⟨t4, rfl, e4⟩) .nil)
   have hg5 : (upd (upd G t4 (.tup (pgW (.ask qs[k] 0)))) lt (.lst (ys ++ [.ref t4]))) lt = some (.lst (ys ++ [.ref t4])) := zB
   show tSeq _ _ _ _ (upd (upd G t4 (.tup (pgW (.ask qs[k] 0)))) lt (.lst (ys ++ [.ref t4])))
   generalize upd (upd G t4 (.tup (pgW (.ask qs[k] 0)))) lt (.lst (ys ++ [.ref t4])) = G5 at F5 h5 hg5
   have hlp5 := sN F5 _ _ hlp
   have ht5 := sN F5 _ _ ht
   refine ⟨_, rfl, _, rfl, lp, _, _, _, rfl, rfl, SqL.of hlp5, yC hx, t, _, _, _, rfl, rfl, SqT.of ht5, rfl, _, _, _, _, rfl, rfl, .old (.int _), T.i_int_int, _, rfl, iteF ?_⟩
   refine ⟨_, rfl, _, rfl, lp, _, _, _, rfl, rfl, SqL.of hlp5, yC hx, t, _, _, _, rfl, rfl, SqT.of ht5, rfl, _, rfl, lp, _, rfl, .inl (SqL.of hlp5), xs.length, rfl, fun rp hrp => ?_⟩
   have s6 := zH hrp (.rng 0 (xs.length : Nat))
   refine ⟨_, rp, _, rfl, rfl, zB, _, rfl, iteO ?_ ?_⟩
   · rw [decide_eq_true (by constructor <;> omega)]; rfl
   refine ⟨_, rfl, _, rfl, lp, _, _, _, rfl, rfl, SqL.of (s6 _ _ hlp5), yC hx, t, _, _, _, rfl, rfl, SqT.of (s6 _ _ ht5), rfl, ?_⟩
   exact ⟨_, rfl, F5.trans (Fr.of s6), s6 _ _ hg5, zE h5 fun _ _ ⟨t, e, ht⟩ => ⟨t, e, s6 _ _ ht⟩⟩
 · have ek : k = qs.length := by omega
   subst ek
   obtain ⟨x, hx, t, rfl, ht⟩ := yM hxs (pgs_en qs)
   have htG := sN F _ _ ht
   refine ⟨_, rfl, _, rfl, lp, _, _, _, rfl, rfl, SqL.of hlpG, yC hx, _, _, _, _, rfl, rfl, .tpl (SqT.of htG), T.i_tuple_tuple, _, rfl, iteT ?_⟩
   refine ⟨_, rfl, _, rfl, lp, _, _, _, rfl, rfl, SqL.of hlpG, yC hx, t, _, rfl, .inr (SqT.of htG), rfl, _, rfl, iteF (iteO rfl ?_)⟩
   rw [List.take_length] at hys
   exact hk _ _ ⟨ys, rfl, F, hG, hys⟩
end
end K71
set_option maxHeartbeats 4000000
namespace K71
open PySem L2
seal PE PT PW PA PS PSs PG PGs PI PO PSet OpR UnR CallR TruR IxR SlR PC PPs
local macro_rules | `(tactic| walk_at "rd1") => `(tactic| first
 | (refine And.intro rfl ?_)
 | (refine And.intro (by assumption) ?_)
 | (refine And.intro (fun _ e => e) ?_)
 | (refine And.intro (TyOf.str _) ?_) | (refine And.intro (TyOf.int _) ?_) | (refine And.intro (TyOf.bl _) ?_) | (refine And.intro TyOf.non ?_)
 | (refine iteT ?_) | (refine iteF ?_)
 | (apply Exists.intro))
local macro_rules | `(tactic| walk_at "rd") => `(tactic| repeat (walk_at "rd1"))
theorem tps_eq {X : Cx} {H : Hp} {α : Type} {f : α → List V} (fl : ∀ a, (f a).all flatV = true) {p q : Addr} {xs ys : List V} {L : List α} (h : H p = some (.lst xs)) (k : H q = some (.lst ys)) (p1 : Paired (fun y a => ∃ t, y = .ref t ∧ H t = some (.tup (f a))) xs L) (p2 : Paired (fun y a => ∃ t, y = .ref t ∧ H t = some (.tup (f a))) ys L) : EqJ X H 20 (.ref p) (.ref q) true := by
 have key2 := eqj_lists (X := X) (n := 19) (e := fun _ => true) (SqL.of h) (SqL.of k) ((zL p1).trans (zL p2).symm) (fun j x y hx hy => ?_)
 · rw [List.all_eq_true.mpr (fun _ _ => rfl)] at key2
   exact key2
 obtain ⟨a, ha, t, rfl, ht⟩ := yF p1 hx
 obtain ⟨b, hb, u, rfl, hu⟩ := yF p2 hy
 rw [ha] at hb
 cases hb
 have := eqi_ftups (X := X) (n := 18) (SqT.of ht) (SqT.of hu) (fl a) (fl a) (fun _ => rfl)
 rw [eqL_self (fl a)] at this
 exact this
theorem fl_w4 (q : Qn) : (pgW (.ask q 0)).all flatV = true := rfl
theorem fl_pg (p : Pg) : (pgV p).all flatV = true := by cases p <;> rfl
theorem fl_lg (l : Lg) : (lgV l).all flatV = true := by cases l <;> rfl
theorem td_alt (lo hi : Int) : ((Str.ofString "whole " ++ S (numL lo)) ++ Str.ofString " ") ++ S (numL hi) = tdW lo hi := by
 unfold tdW
 refine cd_inj ?_
 rw [cd_app, cd_app, cd_app, cd_app, cd_app, cd_app, List.append_assoc, List.append_assoc, List.append_assoc]
theorem cut_take (xs : List V) (n : Nat) : cutV xs none (some (n : Int)) = xs.take n := by
 unfold cutV
 have e1 : HT.sIx xs.length 0 none = 0 := rfl
 have e2 : HT.sIx xs.length xs.length (some (n : Int)) = min n xs.length := by
   show (if (n : Int) < 0 then ((n : Int) + xs.length).toNat else min ((n : Int)).toNat xs.length) = _
   rw [if_neg (by omega)]; rfl
 rw [e1, e2, List.drop_zero, Nat.sub_zero]
 by_cases c : n ≤ xs.length
 · rw [Nat.min_eq_left c]
 · rw [Nat.min_eq_right (by omega), List.take_length, List.take_of_length_le (by omega)]
def ShX (E : List Addr) (A : Adr) (H : Hp) (x : V) (rows : List Qn) : Prop := ∃ sa ds z qr qw xs, x = .ref sa ∧ H sa = some (oSh A ds (.str z) .non qr qw) ∧ H qr = some (.lst xs) ∧ Paired (AskR A H) xs rows ∧ H qw = some (.lst []) ∧ qr ∉ E ∧ qw ∉ E
theorem ShX.r {E : List Addr} {A : Adr} {H : Hp} {x : V} {rows : List Qn} (h : ShX E A H x rows) : ShR A H x rows := by
 obtain ⟨sa, ds, z, qr, qw, xs, e, h1, h2, h3, h4, _⟩ := h
 exact ⟨sa, ds, z, qr, qw, xs, e, h1, h2, h3, h4⟩
theorem ShX.fr {E : List Addr} {A : Adr} {H H' : Hp} (F : Fr E H H') (hm : ∀ m ∈ E, ∃ us, H m = some (.lst us)) {x : V} {rows : List Qn} (h : ShX E A H x rows) : ShX E A H' x rows := by
 have no : ∀ {b C dx fs}, H b = some (.ins C dx fs) → b ∉ E := fun hb hE => by
   obtain ⟨us, hu⟩ := hm _ hE
   rw [hb] at hu; cases hu
 obtain ⟨sa, ds, z, qr, qw, xs, e, h1, h2, h3, h4, n1, n2⟩ := h
 refine ⟨sa, ds, z, qr, qw, xs, e, F _ _ h1 (no h1), F _ _ h2 n1, zE h3 fun _ _ r => ?_, F _ _ h4 n2, n1, n2⟩
 obtain ⟨r, dr, k, dk, e, h1, h2⟩ := r
 exact ⟨r, dr, k, dk, e, F _ _ h1 (no h1), F _ _ h2 (no h2)⟩
theorem QnR.frE {E : List Addr} {H H' : Hp} (F : Fr E H H') (hm : ∀ m ∈ E, ∃ us, H m = some (.lst us)) {y : V} {q : Qn} (h : QnR H y q) : QnR H' y q := by
 obtain ⟨t, e, h⟩ := h
 exact ⟨t, e, F _ _ h fun hE => by obtain ⟨us, hu⟩ := hm _ hE; rw [h] at hu; cases hu⟩
def lstL : Option Qn → Lg
 | some q => .opn q.1
 | none => .en
def anF (ns : List Int) (j : Nat) (q : Qn) : Int := q.2.1 + cellF ns (30 + j) % (q.2.2 - q.2.1 + 1)
def anL (ns : List Int) (qs : List Qn) : List Int := qs.mapIdx (anF ns)
theorem an_in {ns : List Int} {j : Nat} {q : Qn} (h : BQ q) : q.2.1 ≤ anF ns j q ∧ anF ns j q ≤ q.2.2 := by
 have h1 := Int.emod_nonneg (cellF ns (30 + j)) (show q.2.2 - q.2.1 + 1 ≠ 0 by have := h.2.1; omega)
 have h2 := Int.emod_lt_of_pos (cellF ns (30 + j)) (show 0 < q.2.2 - q.2.1 + 1 by have := h.2.1; omega)
 unfold anF
 omega
theorem BQ.g {q : Qn} (h : BQ q) : q.G := by
 have b : (10 : Nat) ^ 18 + 10 ^ 12 < 10 ^ 60 := by symm
 obtain ⟨h1, h2, h3⟩ := h
 exact ⟨h2, by omega, by omega⟩
theorem ky_inj {a b : Str} (h : kyQ a = kyQ b) : a = b := Sum.inr.inj (List.cons.inj h).1
def sp_law (K : W.Frag) : Sp := fun vs H Q _ => ∃ (a : Addr) (ns : List Int), vs = [.ref a] ∧ SqL K H a (ns.map V.int) ∧ ns.length ≤ 63 ∧ (∀ n ∈ ns, ib n ≤ 1048576) ∧ ∀ H', Q (.bl true) H'
theorem abc_at {i : Nat} (h : i < 5) : ∃ c, atI (Str.ofString "abcde").cps.toList (i : Int) = some c := by
 rcases (by omega : i = 0 ∨ i = 1 ∨ i = 2 ∨ i = 3 ∨ i = 4) with rfl | rfl | rfl | rfl | rfl <;> exact ⟨_, rfl⟩
section
variable {P : Program} {w : World} {K : W.Frag} {mg : Str → Option Value} {base : Heap} {A : Adr}
theorem ok_law (T : Txt K mg A) : FnOk P w K mg base CX0 40 A.f_law A.d_law ["_law_script"] (sp_law K) := by
 have G_law_cell := ok_law_cell (P := P) (w := w) (base := base) T
 have G_law_sheets := ok_law_sheets (P := P) (w := w) (base := base) T
 have G_law_told := ok_law_told (P := P) (w := w) (base := base) T
 have G_pages_of := ok_pages_of (P := P) (w := w) (base := base) T
 have G_run := ok_run (P := P) (w := w) (base := base) T
 have G_c_Kind___init := ok_kind_init (P := P) (w := w) (base := base) T
 have G_c_Ask___init := ok_ask_init (P := P) (w := w) (base := base) T
 have G_c_Sheet___init := ok_sheet_init (P := P) (w := w) (base := base) T
 have G_c_Paper___init := ok_paper_init (P := P) (w := w) (base := base) T
 refine T.F_law.ok sc_law (fun vs H Q E h => ?_) (fun cdv A0 outer s H vs Q E hr h => ?_)
 · obtain ⟨a, ns, rfl, _⟩ := h
   rfl
 obtain ⟨a, ns, rfl, hS, hl, hb, q⟩ := h
 have hNs : Ns ns := hb
 have hl' : ns.length ≤ 1000 := by omega
 refine ⟨_, (zC (zK (i := 1) sc_law.nd rfl (by first | exact Or.inl rfl | exact Or.inr rfl) (yB G_law_sheets (hr.mono (by first | decide | omega)) rfl T.m_law_sheets T.k_law_sheets T.b_law_sheets .nil zU (zA (pv 0) zD)))
     (zC (zK (i := 2) sc_law.nd rfl (by first | exact Or.inl rfl | exact Or.inr rfl) (pe_lst zD))
     (zC (zK (i := 3) sc_law.nd rfl (by first | exact Or.inl rfl | exact Or.inr rfl) (pe_lst zD))
     (zC (yT PassesOwn.never rfl (pi_enum rfl T.n_enumerate (zA (pv 1) zD)) (pg_tup rfl (pgs_cons (yH (i := 4) sc_law.nd rfl (by first | exact Or.inl rfl | exact Or.inr rfl)) (pgs_cons (yH (i := 5) sc_law.nd rfl (by first | exact Or.inl rfl | exact Or.inr rfl)) pgs_nil))) (zC (yU (pe_bm PySem.F.plainAttrs_list PySem.F.slot_list_append PySem.F.type_list_append yP (pv 2) (zA (pe_make T.mk_Sheet G_c_Sheet___init (hr.mono (by first | decide | omega)) rfl T.m_Sheet T.b_c_Sheet___init .nil zU (zA (zM yN zN (zV ix_str zN (pv 4) (fun _ _ => rfl))) (zA xC (zA (pe_compR (compOk_of (x := "_law_row") (M := ["_law_script", "_law_sheets_here", "_law_made", "_law_asked", "_law_s", "_law_rows", "_law_paper", "_law_pages", "_law_due", "_law_stop", "_law_book", "_law_log", "_law_k", "", "_law_last", "_law_kept"]) rfl (by rfl)) rfl (pi_list (pv 5)) (fun _ _ _ _ => pe_eqv (by exact (pe_make T.mk_Ask G_c_Ask___init (hr.mono (by first | decide | omega)) rfl T.m_Ask T.bd_c_Ask___init T.dv_c_Ask___init zU (zA (zV yD (pv 0) zJ (fun _ _ => rfl)) (zA (pe_make T.mk_Whole G_c_Kind___init (hr.mono (by first | decide | omega)) rfl T.m_Whole T.b_c_Kind___init .nil zU (zA (zV yD (pv 0) zJ (fun _ _ => rfl)) (zA (zV yD (pv 0) zJ (fun _ _ => rfl)) zD))) zD)))) (by dsimp only [compCx] <;> rfl))) (zA (pe_lst zD) zD))))) zD)))
     (zF (yU (pe_bm PySem.F.plainAttrs_list PySem.F.slot_list_extend PySem.F.type_list_extend mt_extend (pv 3) (zA (pv 5) zD))))))
     (zC (zK (i := 6) sc_law.nd rfl (by first | exact Or.inl rfl | exact Or.inr rfl) (pe_make T.mk_Paper G_c_Paper___init (hr.mono (by first | decide | omega)) rfl T.m_Paper T.b_c_Paper___init .nil zU (zA zN (zA (pv 2) (zA (pe_lst zD) zD)))))
     (zC (zK (i := 7) sc_law.nd rfl (by first | exact Or.inl rfl | exact Or.inr rfl) (yB G_pages_of (hr.mono (by first | decide | omega)) rfl T.m_pages_of T.k_pages_of T.b_pages_of .nil zU (zA (pv 6) zD)))
     (zC (yK (PW.pt (pw_or (pt_not (pt_val (zQ xA (by rfl) T.n_isinstance Bt.isinstance (zA (pv 7) (zA (pe_bltn (v := .ty "list") rfl T.n_list Bt.list rfl) zD))))) (pw_or1 (zR op_ne (zQ zS (by rfl) T.n_len PySem.boot_len (zA (pv 7) zD)) (zM op_add (zQ zS (by rfl) T.n_len PySem.boot_len (zA (pv 3) zD)) zJ) (zX _))))) (zF (zO pe_bl)) zW)
     (zC (ps_compR (i := 8) sc_law.nd rfl (by first | exact Or.inl rfl | exact Or.inr rfl) (compOk_of (x := "_law_row") (M := ["_law_script", "_law_sheets_here", "_law_made", "_law_asked", "_law_s", "_law_rows", "_law_paper", "_law_pages", "_law_due", "_law_stop", "_law_book", "_law_log", "_law_k", "", "_law_last", "_law_kept"]) rfl (by rfl)) rfl (pi_list (pv 3)) (fun _ _ _ _ => pe_eqv (by exact (yQ (zA zN (zA (zV yD (pv 0) zJ (fun _ _ => rfl)) (zA (zM yN (zM yN (zM yN zN (yR call_str_int (by rfl) T.n_str Bt.str (zA (zV yD (pv 0) zJ (fun _ _ => rfl)) zD))) zN) (yR call_str_int (by rfl) T.n_str Bt.str (zA (zV yD (pv 0) zJ (fun _ _ => rfl)) zD))) (zA xC zD)))))) (by dsimp only [compCx] <;> rfl)))
     (zC (yK (zR (op_neJ (hu20 hr)) (yB G_law_told (hr.mono (by first | decide | omega)) rfl T.m_law_told T.k_law_told T.b_law_told .nil zU (zA (pv 7) zD)) (pv 8) (zX _)) (zF (zO pe_bl)) zW)
     (zC (zK (i := 9) sc_law.nd rfl (by first | exact Or.inl rfl | exact Or.inr rfl) (zM xD (yB G_law_cell (hr.mono (by first | decide | omega)) rfl T.m_law_cell T.k_law_cell T.b_law_cell .nil zU (zA (pv 0) (zA zJ zD))) zJ))
     (zC (zK (i := 10) sc_law.nd rfl (by first | exact Or.inl rfl | exact Or.inr rfl) pe_dnewT)
     (zC (zK (i := 11) sc_law.nd rfl (by first | exact Or.inl rfl | exact Or.inr rfl) (pe_lst zD))
     (zC (yT PassesOwn.never rfl (pi_enum rfl T.n_enumerate (zA (pe_slice sl_list (pv 3) po_none (po_some (pv 9))) zD)) (pg_tup rfl (pgs_cons (yH (i := 12) sc_law.nd rfl (by first | exact Or.inl rfl | exact Or.inr rfl)) (pgs_cons (yH (i := 13) sc_law.nd rfl (by first | exact Or.inl rfl | exact Or.inr rfl)) pgs_nil))) (zC (ps_dput (hu_of hr) (pv 10) (yQ (zA (zV yD (pv 13) zJ (fun _ _ => rfl)) (zA zN zD))) (zM op_add (zV yD (pv 13) zJ (fun _ _ => rfl)) (zM xD (yB G_law_cell (hr.mono (by first | decide | omega)) rfl T.m_law_cell T.k_law_cell T.b_law_cell .nil zU (zA (pv 0) (zA (zM op_add zJ (pv 12)) zD))) (zM op_add (zM op_sub (zV yD (pv 13) zJ (fun _ _ => rfl)) (zV yD (pv 13) zJ (fun _ _ => rfl))) zJ))) rfl)
     (zF (yU (pe_bm PySem.F.plainAttrs_list PySem.F.slot_list_append PySem.F.type_list_append yP (pv 11) (zA (yQ (zA zN (zA (zV yD (pv 13) zJ (fun _ _ => rfl)) (zA zN (zA (pe_dget (hu_of hr) (pv 10) (yQ (zA (zV yD (pv 13) zJ (fun _ _ => rfl)) (zA zN zD))) (fun _ _ => rfl)) zD))))) zD))))))
     (zC (zK (i := 14) sc_law.nd rfl (by first | exact Or.inl rfl | exact Or.inr rfl) (yQ (zA zN zD)))
     (zC (yK (zR op_lt (pv 9) (zQ zS (by rfl) T.n_len PySem.boot_len (zA (pv 3) zD)) (zX _)) (zF (zK (i := 14) sc_law.nd rfl (by first | exact Or.inl rfl | exact Or.inr rfl) (yQ (zA zN (zA (zV yD (zV yE (pv 3) (pv 9) (fun _ _ => rfl)) zJ (fun _ _ => rfl)) (zA zN zD)))))) zW)
     (zC (zK (i := 15) sc_law.nd rfl (by first | exact Or.inl rfl | exact Or.inr rfl) (yR xE (by rfl) T.n_list Bt.list (zA (pv 7) zD)))
     (zC (yK (PW.pt (pw_or (zR (op_neJ (hu20 hr)) (yB G_run (hr.mono (by first | decide | omega)) rfl T.m_run T.k_run T.b_run .nil zU (zA (pv 7) (zA (pv 10) zD))) (zM op_cat (pv 11) (pe_lst (zA (pv 14) zD))) (zX _)) (pw_or1 (zR (op_neJ (hu20 hr)) (pv 7) (pv 15) (zX _))))) (zF (zO pe_bl)) zW)
     (zC (yU (pe_bm0 PySem.F.plainAttrs_list PySem.F.slot_list_clear PySem.F.type_list_clear mt_clear (pv 7)))
     (zF (zO (pe_cmpR (op_eqJ (hu20 hr)) (yB G_pages_of (hr.mono (by first | decide | omega)) rfl T.m_pages_of T.k_pages_of T.b_pages_of .nil zU (zA (pv 6) zD)) (pv 15) (zX _)))))))))))))))))))))), ?_⟩
 generalize h0 : L2.start _ [V.ref a] = σ0
 have h0 : σ0 = [some (.ref a), none, none, none, none, none, none, none, none, none, none, none, none, none, none, none] := by rw [← h0]; rfl
 subst h0
 refine yY fun _ hN => ?_
 refine ⟨_, rfl, a, ns, rfl, hS, hl', hNs, fun ls xs S H1 s1 hls hxs h5 h4 h20 gq => hN _ _ ?_⟩
 dsimp only [gName, List.set_cons_succ, List.set_cons_zero]
 have lxs := zL hxs
 generalize hqs : S.flatten = qs at h20 gq
 refine ⟨(by show 0 ≤ sizeLine; decide), fun lm hlm => ?_⟩
 have s2 := zH hlm (.lst [])
 have e2 : (upd H1 lm (.lst [])) lm = some (.lst []) := zB
 generalize upd H1 lm (.lst []) = H2 at s2 e2
 dsimp only [gName, List.set_cons_succ, List.set_cons_zero]
 refine ⟨(by show 0 ≤ sizeLine; decide), fun la hla => ?_⟩
 have s3 := zH hla (.lst [])
 have e3 : (upd H2 la (.lst [])) la = some (.lst []) := zB
 have e23 := s3 _ _ e2
 have nml : lm ≠ la := zG e2 hla
 generalize upd H2 la (.lst []) = H3 at s3 e3 e23
 dsimp only [gName, List.set_cons_succ, List.set_cons_zero]
 have s13 := s2.trans s3
 have sN : ∀ {G : Hp}, Fr [lm, la] H3 G → Same H1 G := fun {G} F b o hb' => F _ _ (s13 _ _ hb') (ni2 (zG hb' hlm) (zG (s2 _ _ hb') hla))
 have m1 : lm ∈ [lm, la] := List.mem_cons_self
 have m2 : la ∈ [lm, la] := List.mem_cons_of_mem _ (List.mem_singleton.mpr rfl)
 refine seq_mid (fun σ' G => ∃ u4 u5 ms us, σ' = [some (.ref a), some (.ref ls), some (.ref lm), some (.ref la), u4, u5, none, none, none, none, none, none, none, none, none, none] ∧ Same H1 G ∧ G lm = some (.lst ms) ∧ Paired (ShR A G) ms S ∧ G la = some (.lst us) ∧ Paired (QnR G) us qs) (fun σ' H4 hR => ?_) (fun _ hk => ?_)
 rotate_left
 · refine ⟨_, rfl, ls, rfl, ⟨_, SqL.of (s13 _ _ hls)⟩, ?_⟩
   refine for_enumR (xs := xs) (fun i σ G => ∃ u4 u5 ms us, σ = [some (.ref a), some (.ref ls), some (.ref lm), some (.ref la), u4, u5, none, none, none, none, none, none, none, none, none, none] ∧ Fr [lm, la] H3 G ∧ G lm = some (.lst ms) ∧ Paired (ShX [lm, la] A G) ms (S.take i) ∧ G la = some (.lst us) ∧ Paired (QnR G) us (S.take i).flatten) ⟨_, _, [], [], rfl, Fr.of (Same.refl _), e23, .nil, e3, .nil⟩ (fun i σ G _ hw => ?_) (fun i x σ G hxi hw Tt hT => ?_) (fun σ G hw => ?_)
   · obtain ⟨_, _, _, _, rfl, F, _⟩ := hw
     exact SqL.of (sN F _ _ hls)
   rotate_left
   · obtain ⟨u4, u5, ms, us, rfl, F, hm, hms, hu, hus⟩ := hw
     rw [lxs, List.take_length] at hms hus
     rw [hqs] at hus
     exact hk _ _ ⟨_, _, ms, us, rfl, sN F, hm, zE hms fun _ _ r => r.r, hu, hus⟩
   obtain ⟨u4, u5, ms, us, rfl, F, hm, hms, hu, hus⟩ := hw
   obtain ⟨r, hri, t, ws, rfl, ntl, ht, hws⟩ := yF hxs hxi
   have li := (List.getElem?_eq_some_iff.mp hri).1
   have hr4 := h4 r (List.mem_of_getElem? hri)
   have lws := zL hws
   have lms := zL hms
   rw [List.length_take] at lms
   have lus := zL hus
   have lfl : (S.take i).flatten.length ≤ 20 := by
     have := congrArg (fun l => (List.flatten l).length) (List.take_append_drop i S)
     rw [List.flatten_append, List.length_append, hqs] at this
     omega
   have hE : ∀ {G' : Hp}, Same G G' → ∀ m ∈ [lm, la], ∃ us, G' m = some (.lst us) := fun {G'} sx m hm' => by
     rcases List.mem_cons.mp hm' with rfl | hm'
     · exact ⟨_, sx _ _ hm⟩
     · rw [List.mem_singleton.mp hm']; exact ⟨_, sx _ _ hu⟩
   have sT := zH hT (.tup [.int (i : Nat), .ref t])
   refine ⟨Tt, _, rfl, SqT.of zB, rfl, _, _, rfl, _, _, rfl, rfl, ?_⟩
   generalize upd G Tt (.tup [.int (i : Nat), .ref t]) = G1 at sT
   dsimp only [gName, List.set_cons_succ, List.set_cons_zero]
   have s11 : Same H1 G1 := (sN F).trans sT
   obtain ⟨c, hc⟩ := abc_at (i := i) (by omega)
   refine yY fun _ hN => ?_
   refine ⟨_, rfl, .inl ⟨rfl, _, SqL.of (sT _ _ hm)⟩, _, rfl, _, _, c, rfl, rfl, (by symm), hc, _, _, rfl, rfl, (by show (Str.ofString "sheet").length + 1 ≤ sizeLine; decide +kernel), _, rfl, t, rfl, ⟨_, SqL.of (s11 _ _ ht)⟩, ?_⟩
   refine comp_listR (xs := ws) (zP (m := 100) (by omega)) (fun j ys G' => Same G1 G' ∧ Paired (AskR A G') ys (r.take j)) ⟨Same.refl _, .nil⟩ (fun j ys G' hw => SqL.of (hw.1 _ _ (s11 _ _ ht))) (fun j y ys G' hy _ hw => ?_) (fun ys G' _ hw p hp => ?_)
   · obtain ⟨sG, hys⟩ := hw
     obtain ⟨qq, hqj, Tq, rfl, hTq⟩ := yF hws hy
     have hTG := sG _ _ (s11 _ _ hTq)
     refine ⟨_, rfl, Tq, _, _, _, rfl, rfl, SqT.of hTG, rfl, _, rfl, Tq, _, _, _, rfl, rfl, SqT.of hTG, rfl, _, rfl, Tq, _, _, _, rfl, rfl, SqT.of hTG, rfl, ?_⟩
     intro x1 d1 nx1 nd1 ne1
     refine ⟨x1, A.c_Whole, d1, _, _, rfl, zB, T.cl_Whole, T.no_Whole_low, T.no_Whole_high, rfl, ?_⟩
     rw [upd_upd]
     have sw := mk_same (oW A d1 qq.2.1 qq.2.2) nx1 nd1
     have ew : (upd (upd G' d1 (.own x1)) x1 (oW A d1 qq.2.1 qq.2.2)) x1 = some (oW A d1 qq.2.1 qq.2.2) := zB
     generalize upd (upd G' d1 (.own x1)) x1 (oW A d1 qq.2.1 qq.2.2) = G2 at sw ew
     intro x2 d2 nx2 nd2 ne2
     refine ⟨x2, d2, _, _, _, rfl, zB, rfl, ?_⟩
     rw [upd_upd]
     have sa' := mk_same (oAsk A d2 (.str qq.1) (.ref x1) .non) nx2 nd2
     have s12 := sw.trans sa'
     refine ⟨sG.trans s12, ?_⟩
     rw [yI hqj]
     exact zZ (zE hys fun _ _ r => r.same s12) (.cons ⟨x2, d2, x1, d1, rfl, zB, sa' _ _ ew⟩ .nil)
   obtain ⟨sG, hys⟩ := hw
   rw [lws, List.take_length] at hys
   have s5 := zH hp (.lst ys)
   have e5 : (upd G' p (.lst ys)) p = some (.lst ys) := zB
   have hys5 : Paired (AskR A (upd G' p (.lst ys))) ys r := zE hys fun _ _ r => r.same s5
   have s15 := sG.trans s5
   generalize upd G' p (.lst ys) = G5 at s5 e5 hys5 s15
   refine ⟨(by show 0 ≤ sizeLine; decide), fun lw hlw => ?_⟩
   have s6 := zH hlw (.lst [])
   have e6 : (upd G5 lw (.lst [])) lw = some (.lst []) := zB
   generalize upd G5 lw (.lst []) = G6 at s6 e6
   intro x dx nx nd ne
   have s7 := mk_same (.ins A.c_Sheet dx []) nx nd
   refine ⟨x, dx, _, _, p, lw, ys, [], rfl, zB, s7 _ _ (s6 _ _ e5), s7 _ _ e6, fun q1 q2 H' nq nq1 nq2 F' hx hq1 hq2 => ⟨rfl, ?_⟩⟩
   have s8 : Same G6 H' := fun b o hb' => F' _ _ (s7 _ _ hb') (ni1 (zG hb' nx))
   have sGH : Same G H' := ((sT.trans s15).trans s6).trans s8
   have hm8 := sGH _ _ hm
   have hu8 := sGH _ _ hu
   have nq1' : q1 ∉ [lm, la] := ni2 (fun e => by subst e; rw [s7 _ _ (s6 _ _ (s15 _ _ (sT _ _ hm)))] at nq1; cases nq1) (fun e => by subst e; rw [s7 _ _ (s6 _ _ (s15 _ _ (sT _ _ hu)))] at nq1; cases nq1)
   have nq2' : q2 ∉ [lm, la] := ni2 (fun e => by subst e; rw [s7 _ _ (s6 _ _ (s15 _ _ (sT _ _ hm)))] at nq2; cases nq2) (fun e => by subst e; rw [s7 _ _ (s6 _ _ (s15 _ _ (sT _ _ hu)))] at nq2; cases nq2)
   have hnew : ShX [lm, la] A H' (.ref x) r := ⟨x, dx, _, q1, q2, ys, rfl, hx, hq1, zE hys5 fun _ _ r => r.same (s6.trans s8), hq2, nq1', nq2'⟩
   refine ⟨lm, _, _, rfl, rfl, hm8, zP (m := 100) (by omega), hN _ _ ?_⟩
   have Fu : Fr [lm, la] H' (upd H' lm (.lst (ms ++ [.ref x]))) := (Fr.of (Same.refl _)).upd m1 _
   have hE8 := hE sGH
   have hms9 : Paired (ShX [lm, la] A (upd H' lm (.lst (ms ++ [.ref x])))) (ms ++ [.ref x]) (S.take (i + 1)) := by
     rw [yI hri]
     exact zZ (zE hms fun _ _ r => (r.fr (Fr.of sGH) (hE (Same.refl _))).fr Fu hE8) (.cons (hnew.fr Fu hE8) .nil)
   have hus9 : Paired (QnR (upd H' lm (.lst (ms ++ [.ref x])))) us (S.take i).flatten := zE hus fun _ _ r => (r.same sGH).frE Fu hE8
   have F9 : Fr [lm, la] H3 (upd H' lm (.lst (ms ++ [.ref x]))) := (F.trans (Fr.of sGH)).trans Fu
   have hm9 : (upd H' lm (.lst (ms ++ [.ref x]))) lm = some (.lst (ms ++ [.ref x])) := zB
   have hu9 : (upd H' lm (.lst (ms ++ [.ref x]))) la = some (.lst us) := by rw [zI (Ne.symm nml)]; exact hu8
   generalize upd H' lm (.lst (ms ++ [.ref x])) = H9 at hms9 hus9 F9 hm9 hu9
   have ht9 := sN F9 _ _ ht
   have hws9 : Paired (QnR H9) ws r := zE hws fun _ _ r => r.same (sN F9)
   refine ⟨_, rfl, .inl ⟨rfl, _, SqL.of hu9⟩, _, rfl, la, t, _, _, rfl, rfl, hu9, ht9, zP (m := 100) (by omega), ?_⟩
   have Fv : Fr [lm, la] H9 (upd H9 la (.lst (us ++ ws))) := (Fr.of (Same.refl _)).upd m2 _
   have hE9 : ∀ m ∈ [lm, la], ∃ us, H9 m = some (.lst us) := fun m hm' => by
     rcases List.mem_cons.mp hm' with rfl | hm'
     · exact ⟨_, hm9⟩
     · rw [List.mem_singleton.mp hm']; exact ⟨_, hu9⟩
   refine ⟨_, _, ms ++ [.ref x], us ++ ws, rfl, F9.trans Fv, by rw [zI nml]; exact hm9, zE hms9 fun _ _ r => r.fr Fv hE9, zB, ?_⟩
   rw [yI hri, List.flatten_append]
   show Paired _ _ (_ ++ (r ++ []))
   rw [List.append_nil]
   exact zE (zZ hus9 hws9) fun _ _ r => r.frE Fv hE9
 obtain ⟨u4, u5, ms, us, rfl, sH4, hm4, hms4, hu4, hus4⟩ := hR
 have gS : GS S := ⟨by omega, fun r hr => ⟨by have := h4 r hr; omega, fun qq hq => by
   have hmem : qq ∈ qs := by rw [← hqs]; exact List.mem_flatten.mpr ⟨r, hr, hq⟩
   obtain ⟨i, hi⟩ := List.getElem?_of_mem hmem
   exact (gq i qq hi).2.g⟩⟩
 have hGq : ∀ qq ∈ qs, qq.G := fun qq hmem => by
   obtain ⟨i, hi⟩ := List.getElem?_of_mem hmem
   exact (gq i qq hi).2.g
 have sA4 := s1.trans sH4
 have lus4 := zL hus4
 refine seq_mid (fun σ' G => ∃ pa, σ' = [some (.ref a), some (.ref ls), some (.ref lm), some (.ref la), u4, u5, some (.ref pa), none, none, none, none, none, none, none, none, none] ∧ Same H4 G ∧ PaR A G pa S) (fun σ' H5 hR => ?_) (fun _ hk => ?_)
 rotate_left
 · refine ⟨_, rfl, (by show 0 ≤ sizeLine; decide), fun le hle => ?_⟩
   have s5 := zH hle (.lst [])
   have e5 : (upd H4 le (.lst [])) le = some (.lst []) := zB
   generalize upd H4 le (.lst []) = G5 at s5 e5
   intro x dx nx nd ne
   have s6 := mk_same (.ins A.c_Paper dx []) nx nd
   refine ⟨x, dx, _, lm, le, ms, [], rfl, zB, s6 _ _ (s5 _ _ hm4), ⟨[], s6 _ _ e5, .nil⟩, by decide, fun q1 q2 H' F hp hq1 hts => ⟨rfl, ?_⟩⟩
   have s7 : Same G5 H' := fun b o hb' => F _ _ (s6 _ _ hb') (ni1 (zG hb' nx))
   exact hk _ _ ⟨x, rfl, s5.trans s7, dx, _, q1, q2, ms, hp, hq1, zE hms4 fun _ _ r => r.same (s5.trans s7)⟩
 obtain ⟨pa, rfl, sH5, hPa⟩ := hR
 refine yY fun _ hN => ?_
 refine ⟨_, rfl, pa, S, rfl, hPa, gS, fun lp ps H6 sH6 hlpN hlp hps => hN _ _ ?_⟩
 rw [hqs] at hps
 dsimp only [gName, List.set_cons_succ, List.set_cons_zero]
 have lps := zL hps
 rw [pgs_len] at lps
 have hu6 := sH6 _ _ (sH5 _ _ hu4)
 have hus6 : Paired (QnR H6) us qs := zE hus4 fun _ _ r => r.same (sH5.trans sH6)
 have sA6 := (sA4.trans sH5).trans sH6
 refine yY fun _ hN => ?_
 refine ⟨_, rfl, _, _, _, _, rfl, rfl, .old (.lst hlp), T.i_list_list, _, rfl, iteF ⟨_, rfl, lp, _, rfl, .inl (SqL.of hlp), _, rfl, la, _, rfl, .inl (SqL.of hu6), _, _, rfl, rfl, rfl, _, rfl, iteO ?_ (hN _ _ ?_)⟩⟩
 · rw [lps, lus4, decide_eq_true (by rfl)]; rfl
 refine seq_mid (fun σ' G => ∃ l8 ys, σ' = [some (.ref a), some (.ref ls), some (.ref lm), some (.ref la), u4, u5, some (.ref pa), some (.ref lp), some (.ref l8), none, none, none, none, none, none, none] ∧ Same H6 G ∧ G l8 = some (.lst ys) ∧ Paired (W4 G) ys qs) (fun σ' H7 hR => ?_) (fun _ hk => ?_)
 rotate_left
 · refine ⟨_, rfl, la, rfl, ⟨_, SqL.of hu6⟩, ?_⟩
   refine comp_listR (xs := us) (zP (m := 100) (by omega)) (fun i ys G => Same H6 G ∧ Paired (W4 G) ys (qs.take i)) ⟨Same.refl _, .nil⟩ (fun i ys G hw => SqL.of (hw.1 _ _ hu6)) (fun i x ys G hx _ hw => ?_) (fun ys G _ hw p hp => ?_)
   · obtain ⟨sG, hys⟩ := hw
     obtain ⟨qq, hqi, Tq, rfl, hTq⟩ := yF hus6 hx
     have g := hGq qq (List.mem_of_getElem? hqi)
     have hTG := sG _ _ hTq
     have z1 := (numL_fine g.2.1).len
     have z2 := (numL_fine g.2.2).len
     have z3 : (Str.ofString "whole ").length = 6 := by symm
     have z0 : (Str.ofString " ").length = 1 := by symm
     refine ⟨_, rfl, Tq, _, _, _, rfl, rfl, SqT.of hTG, rfl, _, rfl, Tq, _, _, _, rfl, rfl, SqT.of hTG, rfl, _, rfl, logOk (Nat.lt_trans g.2.1 (by symm)), ?_⟩
     rw [str_is]
     refine ⟨_, _, rfl, rfl, zP (m := 1000) (by omega), _, _, rfl, rfl, zP (m := 1000) (by rw [xB]; omega), _, rfl, Tq, _, _, _, rfl, rfl, SqT.of hTG, rfl, _, rfl, logOk (Nat.lt_trans g.2.2 (by symm)), ?_⟩
     rw [str_is]
     refine ⟨_, _, rfl, rfl, zP (m := 1000) (by rw [xB, xB]; omega), (by show 4 ≤ sizeLine; decide), fun t4 ht4 => ?_⟩
     rw [td_alt]
     have s8 := zH ht4 (.tup (pgW (.ask qq 0)))
     refine ⟨sG.trans s8, ?_⟩
     rw [yI hqi]
     exact zZ (zE hys fun _ _ ⟨t, e, ht⟩ => ⟨t, e, s8 _ _ ht⟩) (.cons ⟨t4, rfl, zB⟩ .nil)
   · obtain ⟨sG, hys⟩ := hw
     rw [lus4, List.take_length] at hys
     have s8 := zH hp (.lst ys)
     exact hk _ _ ⟨p, ys, rfl, sG.trans s8, zB, zE hys fun _ _ ⟨t, e, ht⟩ => ⟨t, e, s8 _ _ ht⟩⟩
 obtain ⟨l8, ys8, rfl, sH7, hl8, hys8⟩ := hR
 have hlp7 := sH7 _ _ hlp
 have hps7 : Paired (PgR H7) ps (pgs qs) := zE hps fun _ _ r => r.same sH7
 refine seq_mid (fun σ' G => σ' = [some (.ref a), some (.ref ls), some (.ref lm), some (.ref la), u4, u5, some (.ref pa), some (.ref lp), some (.ref l8), none, none, none, none, none, none, none] ∧ Same H7 G) (fun σ' H8 hR => ?_) (fun _ hk => ?_)
 rotate_left
 · refine ⟨_, rfl, lp, ps, qs, rfl, hlp7, hps7, by omega, fun l9 zs G s9 _ hl9 hzs => ⟨_, rfl, true, ?_, _, rfl, iteF (hk _ _ ⟨rfl, s9⟩)⟩⟩
   exact tps_eq (f := fun q => pgW (.ask q 0)) fl_w4 hl9 (s9 _ _ hl8) hzs (zE hys8 fun _ _ ⟨t, e, ht⟩ => ⟨t, e, s9 _ _ ht⟩)
 obtain ⟨rfl, sH8⟩ := hR
 have sA8 := (sA6.trans sH7).trans sH8
 have d0 := Int.emod_nonneg (cellF ns 7) (b := 24) (by decide)
 have d1 := Int.emod_lt_of_pos (cellF ns 7) (b := 24) (by decide)
 refine yY fun _ hN => ?_
 refine ⟨_, rfl, a, ns, 7, rfl, sA8.seq hS, by decide, hl', hNs, _, _, rfl, rfl, (show (0 : Int) < 24 by decide), hN _ _ ?_⟩
 obtain ⟨st, hst, hst24⟩ : ∃ st : Nat, cellF ns 7 % 24 = (st : Nat) ∧ st < 24 := ⟨(cellF ns 7 % 24).toNat, by omega, by omega⟩
 dsimp only [gName, List.set_cons_succ, List.set_cons_zero]
 rw [hst]
 refine fun bk hbk => ?_
 have s9 := zH hbk (.dT [])
 have e9 : (upd H8 bk (.dT [])) bk = some (.dT []) := zB
 generalize upd H8 bk (.dT []) = H9 at s9 e9
 dsimp only [gName, List.set_cons_succ, List.set_cons_zero]
 refine ⟨(by show 0 ≤ sizeLine; decide), fun lg hlg => ?_⟩
 have s10 := zH hlg (.lst [])
 have e10 : (upd H9 lg (.lst [])) lg = some (.lst []) := zB
 have e9' := s10 _ _ e9
 have nbl : bk ≠ lg := zG e9 hlg
 generalize upd H9 lg (.lst []) = H10 at s10 e10 e9'
 dsimp only [gName, List.set_cons_succ, List.set_cons_zero]
 have s810 := s9.trans s10
 have sM : ∀ {G : Hp}, Fr [bk, lg] H10 G → Same H8 G := fun {G} F b o hb' => F _ _ (s810 _ _ hb') (ni2 (zG hb' hbk) (zG (s9 _ _ hb') hlg))
 have m1' : bk ∈ [bk, lg] := List.mem_cons_self
 have m2' : lg ∈ [bk, lg] := List.mem_cons_of_mem _ (List.mem_singleton.mpr rfl)
 have s68 := sH7.trans sH8
 have hu8 := s68 _ _ hu6
 have hus8 : Paired (QnR H8) us qs := zE hus6 fun _ _ r => r.same s68
 have hnmQ : ∀ (i j : Nat) (qi qj : Qn), qs[i]? = some qi → qs[j]? = some qj → qi.1 = qj.1 → i = j := fun i j qi qj hi hj e => by
   have li := (List.getElem?_eq_some_iff.mp hi).1
   have lj := (List.getElem?_eq_some_iff.mp hj).1
   rw [(gq i qi hi).1, (gq j qj hj).1] at e
   exact nm_inj (by omega) (by omega) e
 refine seq_mid (fun σ' G => ∃ u12 u13 bkv zs, σ' = [some (.ref a), some (.ref ls), some (.ref lm), some (.ref la), u4, u5, some (.ref pa), some (.ref lp), some (.ref l8), some (.int (st : Nat)), some (.ref bk), some (.ref lg), u12, u13, none, none] ∧ Same H8 G ∧ G bk = some (.dT bkv) ∧ (∀ (j : Nat) (qq : Qn), qs[j]? = some qq → valV bkv (kyQ qq.1) = if j < min st qs.length then some (.int (anF ns j qq)) else none) ∧ G lg = some (.lst zs) ∧ Paired (LgR G) zs (((qs.zip (anL ns qs)).take (min st qs.length)).map fun p => Lg.ask p.1.1 p.2)) (fun σ' H11 hR => ?_) (fun _ hk => ?_)
 rotate_left
 · refine ⟨_, rfl, _, rfl, _, rfl, la, us, rfl, SqL.of (s810 _ _ hu8), fun lc hlc => ⟨lc, rfl, ⟨_, SqL.of zB⟩, ?_⟩⟩
   rw [cut_take]
   have s11 := zH hlc (.lst (us.take st))
   have e11 : (upd H10 lc (.lst (us.take st))) lc = some (.lst (us.take st)) := zB
   have nlb : lc ≠ bk := fun e => by rw [e, e9'] at hlc; cases hlc
   have nll : lc ≠ lg := fun e => by rw [e, e10] at hlc; cases hlc
   have ltk : (us.take st).length = min st qs.length := by rw [List.length_take, lus4]
   generalize upd H10 lc (.lst (us.take st)) = G11 at s11 e11
   refine for_enumR (xs := us.take st) (fun i σ G => ∃ u12 u13 bkv zs, σ = [some (.ref a), some (.ref ls), some (.ref lm), some (.ref la), u4, u5, some (.ref pa), some (.ref lp), some (.ref l8), some (.int (st : Nat)), some (.ref bk), some (.ref lg), u12, u13, none, none] ∧ Fr [bk, lg] G11 G ∧ G bk = some (.dT bkv) ∧ bkv.length ≤ i ∧ (∀ (j : Nat) (qq : Qn), qs[j]? = some qq → valV bkv (kyQ qq.1) = if j < i then some (.int (anF ns j qq)) else none) ∧ G lg = some (.lst zs) ∧ Paired (LgR G) zs (((qs.zip (anL ns qs)).take i).map fun p => Lg.ask p.1.1 p.2)) ⟨_, _, [], [], rfl, Fr.of (Same.refl _), s11 _ _ e9', Nat.le_refl _, (fun j qq _ => by rw [if_neg (Nat.not_lt_zero _)]; rfl), s11 _ _ e10, .nil⟩ (fun i σ G _ hw => ?_) (fun i x σ G hxi hw Tt hT => ?_) (fun σ G hw => ?_)
   · obtain ⟨_, _, _, _, rfl, F, _⟩ := hw
     exact SqL.of (F _ _ e11 (ni2 nlb nll))
   rotate_left
   · obtain ⟨u12, u13, bkv, zs, rfl, F, hbG, _, hval, hgG, hzs⟩ := hw
     rw [ltk] at hval hzs
     exact hk _ _ ⟨_, _, bkv, zs, rfl, sM ((Fr.of s11).trans F), hbG, hval, hgG, hzs⟩
   obtain ⟨u12, u13, bkv, zs, rfl, F, hbG, hbl, hval, hgG, hzs⟩ := hw
   have li : i < min st qs.length := by have := (List.getElem?_eq_some_iff.mp hxi).1; rw [ltk] at this; exact this
   rw [List.getElem?_take_of_lt (by omega)] at hxi
   obtain ⟨qq, hqi, Tq, rfl, hTq⟩ := yF hus8 hxi
   have F0 : Fr [bk, lg] H10 G := (Fr.of s11).trans F
   have sG := sM F0
   have lzs := zL hzs
   rw [List.length_map, List.length_take] at lzs
   have sT := zH hT (.tup [.int (i : Nat), .ref Tq])
   refine ⟨Tt, _, rfl, SqT.of zB, rfl, _, _, rfl, _, _, rfl, rfl, ?_⟩
   have hb1 := sT _ _ hbG
   have hg1 := sT _ _ hgG
   have hz1 : Paired (LgR (upd G Tt (.tup [.int (i : Nat), .ref Tq]))) zs (((qs.zip (anL ns qs)).take i).map fun p => Lg.ask p.1.1 p.2) := zE hzs fun _ _ r => r.same sT
   have F1 := F.trans (Fr.of sT)
   have s81 := sG.trans sT
   generalize upd G Tt (.tup [.int (i : Nat), .ref Tq]) = G1 at sT hb1 hg1 hz1 F1 s81
   dsimp only [gName, List.set_cons_succ, List.set_cons_zero]
   have hq1 := s81 _ _ hTq
   have hBQ := (gq i qq hqi).2
   have hgeq : 0 < qq.2.2 - qq.2.1 + 1 := by have := hBQ.2.1; omega
   refine ⟨_, rfl, Tq, _, _, _, rfl, rfl, SqT.of hq1, rfl, _, rfl, _, rfl, _, _, rfl, rfl, a, ns, 30 + i, (by dsimp only; rw [show ((30 : Int) + (i : Nat)) = ((30 + i : Nat) : Int) by omega]; rfl), (sA8.trans s81).seq hS, (by omega), hl', hNs, _, rfl, Tq, _, _, _, rfl, rfl, SqT.of hq1, rfl, _, rfl, Tq, _, _, _, rfl, rfl, SqT.of hq1, rfl, _, _, rfl, rfl, _, _, rfl, rfl, _, _, rfl, rfl, hgeq, _, _, rfl, rfl, ?_⟩
   refine ⟨_, rfl, _, rfl, Tq, _, _, _, rfl, rfl, SqT.of hq1, rfl, (by show 2 ≤ sizeLine; decide), fun kt hkt => ?_⟩
   have s12 := zH hkt (.tup ((kyQ qq.1).map kV))
   have e12 : (upd G1 kt (.tup ((kyQ qq.1).map kV))) kt = some (.tup ((kyQ qq.1).map kV)) := zB
   have hb2 := s12 _ _ hb1
   have hg2 := s12 _ _ hg1
   refine ⟨bk, upd (upd G1 kt (.tup ((kyQ qq.1).map kV))) bk (.dT (putK bkv (kyQ qq.1) (.int (anF ns i qq)))), rfl, DPut.t (k := kyQ qq.1) hb2 e12 (zP (m := 1000) (by omega)), ?_⟩
   have Fb : Fr [bk, lg] (upd G1 kt (.tup ((kyQ qq.1).map kV))) (upd (upd G1 kt (.tup ((kyQ qq.1).map kV))) bk (.dT (putK bkv (kyQ qq.1) (.int (anF ns i qq))))) := (Fr.of (Same.refl _)).upd m1' _
   have F2 := (F1.trans (Fr.of s12)).trans Fb
   have hb3 : (upd (upd G1 kt (.tup ((kyQ qq.1).map kV))) bk (.dT (putK bkv (kyQ qq.1) (.int (anF ns i qq))))) bk = some (.dT (putK bkv (kyQ qq.1) (.int (anF ns i qq)))) := zB
   have hg3 : (upd (upd G1 kt (.tup ((kyQ qq.1).map kV))) bk (.dT (putK bkv (kyQ qq.1) (.int (anF ns i qq))))) lg = some (.lst zs) := by rw [zI (Ne.symm nbl)]; exact hg2
   have hz3 : Paired (LgR (upd (upd G1 kt (.tup ((kyQ qq.1).map kV))) bk (.dT (putK bkv (kyQ qq.1) (.int (anF ns i qq)))))) zs (((qs.zip (anL ns qs)).take i).map fun p => Lg.ask p.1.1 p.2) := zE hz1 fun _ _ ⟨t, e, ht⟩ => ⟨t, e, by rw [zI (yG (s12 _ _ ht) hb2 (by intro z; cases z))]; exact s12 _ _ ht⟩
   generalize upd (upd G1 kt (.tup ((kyQ qq.1).map kV))) bk (.dT (putK bkv (kyQ qq.1) (.int (anF ns i qq)))) = G3 at F2 hb3 hg3 hz3 Fb
   have hq3 := sM ((Fr.of s11).trans F2) _ _ hTq
   have hvv : valV (putK bkv (kyQ qq.1) (.int (anF ns i qq))) (kyQ qq.1) = some (.int (anF ns i qq)) := by rw [valV_put, if_pos rfl]
   refine ⟨_, rfl, .inl ⟨rfl, _, SqL.of hg3⟩, _, rfl, Tq, _, _, _, rfl, rfl, SqT.of hq3, rfl, _, rfl, _, rfl, Tq, _, _, _, rfl, rfl, SqT.of hq3, rfl, (by show 2 ≤ sizeLine; decide), fun kt2 hkt2 => ?_⟩
   have s14 := zH hkt2 (.tup ((kyQ qq.1).map kV))
   have hdg := DGet.t (k := kyQ qq.1) (s14 _ _ hb3) (zB (H := G3) (a := kt2) (o := .tup ((kyQ qq.1).map kV)))
   rw [hvv] at hdg
   refine ⟨bk, _, rfl, hdg, (by show 4 ≤ sizeLine; decide), fun t4 ht4 => ?_⟩
   have s15 := zH ht4 (.tup (lgV (.ask qq.1 (anF ns i qq))))
   have sg : Same G3 (upd (upd G3 kt2 (.tup ((kyQ qq.1).map kV))) t4 (.tup (lgV (.ask qq.1 (anF ns i qq))))) := s14.trans s15
   have e15 : (upd (upd G3 kt2 (.tup ((kyQ qq.1).map kV))) t4 (.tup (lgV (.ask qq.1 (anF ns i qq))))) t4 = some (.tup (lgV (.ask qq.1 (anF ns i qq)))) := zB
   refine ⟨lg, _, _, rfl, rfl, sg _ _ hg3, zP (m := 1000) (by omega), ?_⟩
   have hg5 := sg _ _ hg3
   have Fl : Fr [bk, lg] (upd (upd G3 kt2 (.tup ((kyQ qq.1).map kV))) t4 (.tup (lgV (.ask qq.1 (anF ns i qq))))) (upd (upd (upd G3 kt2 (.tup ((kyQ qq.1).map kV))) t4 (.tup (lgV (.ask qq.1 (anF ns i qq))))) lg (.lst (zs ++ [.ref t4]))) := (Fr.of (Same.refl _)).upd m2' _
   have han : (anL ns qs)[i]? = some (anF ns i qq) := by unfold anL; rw [List.getElem?_mapIdx, hqi]; rfl
   refine ⟨_, _, _, zs ++ [.ref t4], rfl, (F2.trans (Fr.of sg)).trans Fl, by rw [zI nbl]; exact sg _ _ hb3, Nat.le_trans (yS ..) (by omega), fun j qj hj => ?_, zB, ?_⟩
   · rw [valV_put]
     by_cases c : j = i
     · subst c
       rw [hqi] at hj
       cases hj
       rw [if_pos rfl, if_pos (by omega)]
     · rw [if_neg (fun e => c (hnmQ j i qj qq hj hqi (ky_inj e))), hval j qj hj]
       by_cases d : j < i
       · rw [if_pos d, if_pos (by omega)]
       · rw [if_neg d, if_neg (by omega)]
   · rw [yI (zip_at hqi han), List.map_append]
     have fr : ∀ {x l}, LgR (upd (upd G3 kt2 (.tup ((kyQ qq.1).map kV))) t4 (.tup (lgV (.ask qq.1 (anF ns i qq))))) x l → LgR (upd (upd (upd G3 kt2 (.tup ((kyQ qq.1).map kV))) t4 (.tup (lgV (.ask qq.1 (anF ns i qq))))) lg (.lst (zs ++ [.ref t4]))) x l := fun {x l} ⟨t, e, ht⟩ => ⟨t, e, by rw [zI (yG ht hg5 (by intro z; cases z))]; exact ht⟩
     exact zZ (zE hz3 fun _ _ r => fr (r.same sg)) (.cons (fr ⟨t4, rfl, e15⟩) .nil)
 obtain ⟨u12, u13, bkv, zs, rfl, sH11, hb11, hval, hg11, hz11⟩ := hR
 have lz : (qs.zip (anL ns qs)).length = qs.length := by unfold anL; rw [List.length_zip, List.length_mapIdx, Nat.min_self]
 generalize hmn : min st qs.length = mn at hval hz11
 have hmn1 : mn ≤ qs.length := by omega
 have lzs := zL hz11
 rw [List.length_map, List.length_take, lz] at lzs
 have hu11 := sH11 _ _ hu8
 have hus11 : Paired (QnR H11) us qs := zE hus8 fun _ _ r => r.same sH11
 have hlp8 := sH8 _ _ hlp7
 have hps8 : Paired (PgR H8) ps (pgs qs) := zE hps7 fun _ _ r => r.same sH8
 refine ⟨(by show 1 ≤ sizeLine; decide), fun te hte => ?_⟩
 have s12 := zH hte (.tup (lgV .en))
 have e12 : (upd H11 te (.tup (lgV .en))) te = some (.tup (lgV .en)) := zB
 show gName _ _ _ (upd H11 te (.tup (lgV .en))) _
 generalize upd H11 te (.tup (lgV .en)) = H12 at s12 e12
 dsimp only [gName, List.set_cons_succ, List.set_cons_zero]
 obtain ⟨lastL, hlast⟩ : ∃ l, lstL qs[mn]? = l := ⟨_, rfl⟩
 refine seq_mid (fun σ' G => ∃ tl, σ' = [some (.ref a), some (.ref ls), some (.ref lm), some (.ref la), u4, u5, some (.ref pa), some (.ref lp), some (.ref l8), some (.int (st : Nat)), some (.ref bk), some (.ref lg), u12, u13, some (.ref tl), none] ∧ Same H12 G ∧ G tl = some (.tup (lgV lastL))) (fun σ' H13 hR => ?_) (fun _ hk => ?_)
 rotate_left
 · have hu12 := s12 _ _ hu11
   refine ⟨_, rfl, _, rfl, la, _, rfl, .inl (SqL.of hu12), _, _, rfl, rfl, _, rfl, ?_⟩
   rw [lus4]
   by_cases c : st < qs.length
   · have emn : mn = st := by omega
     have hq : qs[st]? = some qs[st] := List.getElem?_eq_getElem c
     rw [emn, hq] at hlast
     obtain ⟨x, hx, Tq, rfl, hTq⟩ := yM hus11 hq
     refine iteB (decide_eq_true (by omega)) ⟨_, rfl, _, rfl, la, _, _, _, rfl, rfl, SqL.of hu12, yC hx, Tq, _, _, _, rfl, rfl, SqT.of (s12 _ _ hTq), rfl, (by show 3 ≤ sizeLine; decide), fun to hto => ?_⟩
     exact hk _ _ ⟨to, rfl, zH hto _, by rw [zB, ← hlast]; rfl⟩
   · have emn : mn = qs.length := by omega
     rw [emn, List.getElem?_eq_none (Nat.le_refl _)] at hlast
     exact iteO (decide_eq_false (by omega)) (hk _ _ ⟨te, rfl, Same.refl _, by rw [← hlast]; exact e12⟩)
 obtain ⟨tl, rfl, s13', htl⟩ := hR
 have s813 : Same H8 H13 := (sH11.trans s12).trans s13'
 have s1113 := s12.trans s13'
 refine yY fun _ hN => ?_
 refine ⟨_, rfl, lp, ps, rfl, .inl (SqL.of (s813 _ _ hlp8)), fun lk hlk => hN _ _ ?_⟩
 have s14 := zH hlk (.lst ps)
 have e14 : (upd H13 lk (.lst ps)) lk = some (.lst ps) := zB
 generalize upd H13 lk (.lst ps) = H14 at s14 e14
 dsimp only [gName, List.set_cons_succ, List.set_cons_zero]
 have s814 := s813.trans s14
 have hlp14 := s814 _ _ hlp8
 have hps14 : Paired (PgR H14) ps (pgs qs) := zE hps8 fun _ _ r => r.same s814
 have hb14 := s14 _ _ (s1113 _ _ hb11)
 have hg14 := s14 _ _ (s1113 _ _ hg11)
 have hz14 := zE hz11 fun _ _ (r : LgR H11 _ _) => r.same (s1113.trans s14)
 have ht14 := s14 _ _ htl
 have npk : lp ≠ lk := zG (s813 _ _ hlp8) hlk
 have hlan : ((anL ns qs).take mn).length = mn := by unfold anL; rw [List.length_take, List.length_mapIdx]; omega
 have ezip : (qs.zip ((anL ns qs).take mn)) = (qs.zip (anL ns qs)).take mn := by
   refine List.ext_getElem? fun j => ?_
   by_cases c : j < mn
   · have hq : qs[j]? = some qs[j] := List.getElem?_eq_getElem (by omega)
     have ha : (anL ns qs)[j]? = some (anF ns j qs[j]) := by unfold anL; rw [List.getElem?_mapIdx, hq]; rfl
     rw [List.getElem?_take_of_lt c, zip_at hq ha, zip_at hq (by rw [List.getElem?_take_of_lt c]; exact ha)]
   · rw [List.getElem?_eq_none (by rw [List.length_zip, hlan]; omega), List.getElem?_eq_none (by rw [List.length_take, lz]; omega)]
 have erun : runL qs ((anL ns qs).take mn) = ((qs.zip (anL ns qs)).take mn).map (fun p => Lg.ask p.1.1 p.2) ++ [lastL] := by
   unfold runL
   rw [ezip, hlan, ← hlast]
   rfl
 refine yY fun _ hN => ?_
 refine ⟨_, rfl, _, rfl, lp, bk, ps, qs, bkv, (anL ns qs).take mn, rfl, hlp14, hps14, hGq, by omega, hb14, by omega, (fun i qq n hi hn => ?_), (fun qq hq => ?_), fun l15 ys15 H15 s15 hl15 hys15 => ?_⟩
 · have ln := (List.getElem?_eq_some_iff.mp hn).1
   rw [hlan] at ln
   rw [List.getElem?_take_of_lt ln] at hn
   have ha : (anL ns qs)[i]? = some (anF ns i qq) := by unfold anL; rw [List.getElem?_mapIdx, hi]; rfl
   rw [ha] at hn
   cases hn
   rw [hval i qq hi, if_pos ln]
   obtain ⟨b1, b2⟩ := an_in (ns := ns) (j := i) (gq i qq hi).2
   exact ⟨rfl, b1, b2⟩
 · rw [hlan] at hq
   rw [hval mn qq hq, if_neg (Nat.lt_irrefl _)]
 rw [erun] at hys15
 refine ⟨_, rfl, _, rfl, (by show 1 ≤ sizeLine; decide), fun l16 hl16 => ?_⟩
 have s16 := zH hl16 (.lst [.ref tl])
 refine ⟨lg, l16, _, _, rfl, rfl, s16 _ _ (s15 _ _ hg14), zB, zP (m := 1000) (by show zs.length + 1 ≤ 1000; omega), fun l17 hl17 => ?_⟩
 have s17 := zH hl17 (.lst (zs ++ [.ref tl]))
 have sg := s16.trans s17
 have s1517 := s15.trans sg
 refine ⟨true, tps_eq (f := lgV) fl_lg (sg _ _ hl15) zB (zE hys15 fun _ _ (r : LgR _ _ _) => r.same sg) (zZ (zE hz14 fun _ _ (r : LgR _ _ _) => r.same s1517) (.cons ⟨tl, rfl, s1517 _ _ ht14⟩ .nil)), _, rfl, iteF ?_⟩
 refine ⟨_, rfl, _, rfl, true, tps_eq (f := pgV) fl_pg (s1517 _ _ hlp14) (s1517 _ _ e14) (zE hps14 fun _ _ (r : PgR _ _ _) => r.same s1517) (zE hps14 fun _ _ (r : PgR _ _ _) => r.same s1517), _, rfl, iteF (hN _ _ ?_)⟩
 have hPa14 : PaR A H5 pa S := hPa
 have hlp17 := s1517 _ _ hlp14
 refine ⟨_, rfl, .inl ⟨rfl, _, SqL.of hlp17⟩, lp, _, rfl, rfl, hlp17, ?_⟩
 have hlpN5 : H5 lp = none := hlpN
 have s517 := ((((sH6.trans sH7).trans sH8).trans s814).trans s1517)
 refine ⟨_, rfl, pa, S, rfl, hPa14.same (fun b o hb' => ?_), gS, fun l18 ps18 H18 s18 _ hl18 hps18 => ⟨_, rfl, true, ?_, q _⟩⟩
 · rw [zI (zG hb' hlpN5)]; exact s517 _ _ hb'
 rw [hqs] at hps18
 have hk18 := s18 _ _ (show (upd _ lp (.lst [])) lk = some (.lst ps) by rw [zI (Ne.symm npk)]; exact s1517 _ _ e14)
 refine tps_eq (f := pgV) fl_pg hl18 hk18 hps18 (zE hps14 fun _ _ ⟨t, e, ht⟩ => ⟨t, e, s18 _ _ ?_⟩)
 rw [zI (yG (s1517 _ _ ht) hlp17 (by intro z; cases z))]; exact s1517 _ _ ht
end
end K71
set_option maxHeartbeats 4000000
namespace K71
open PySem L2
theorem elS {us : List Value} {n : Nat} (h : us.length = n + 1) : ∃ a r, us = a :: r ∧ r.length = n := by
 cases us with
 | nil => cases h
 | cons a r => exact ⟨a, r, rfl, Nat.succ.inj h⟩
theorem el0 {us : List Value} (h : us.length = 0) : us = [] := List.eq_nil_of_length_eq_zero h
@[elab_as_elim] theorem el1 {motive : List Value → Prop} (us : List Value) (hl : us.length = 1) (h : ∀ a, motive [a]) : motive us := by
 obtain ⟨a, r0, e0, h0⟩ := elS hl
 rw [e0, el0 h0]
 exact h a
@[elab_as_elim] theorem el2 {motive : List Value → Prop} (us : List Value) (hl : us.length = 2) (h : ∀ a b, motive [a, b]) : motive us := by
 obtain ⟨a, r0, e0, h0⟩ := elS hl
 obtain ⟨b, r1, e1, h1⟩ := elS h0
 rw [e0, e1, el0 h1]
 exact h a b
@[elab_as_elim] theorem el3 {motive : List Value → Prop} (us : List Value) (hl : us.length = 3) (h : ∀ a b c, motive [a, b, c]) : motive us := by
 obtain ⟨a, r0, e0, h0⟩ := elS hl
 obtain ⟨b, r1, e1, h1⟩ := elS h0
 obtain ⟨c, r2, e2, h2⟩ := elS h1
 rw [e0, e1, e2, el0 h2]
 exact h a b c
@[elab_as_elim] theorem el4 {motive : List Value → Prop} (us : List Value) (hl : us.length = 4) (h : ∀ a b c d, motive [a, b, c, d]) : motive us := by
 obtain ⟨a, r0, e0, h0⟩ := elS hl
 obtain ⟨b, r1, e1, h1⟩ := elS h0
 obtain ⟨c, r2, e2, h2⟩ := elS h1
 obtain ⟨d, r3, e3, h3⟩ := elS h2
 rw [e0, e1, e2, e3, el0 h3]
 exact h a b c d
@[elab_as_elim] theorem el5 {motive : List Value → Prop} (us : List Value) (hl : us.length = 5) (h : ∀ a b c d e, motive [a, b, c, d, e]) : motive us := by
 obtain ⟨a, r0, e0, h0⟩ := elS hl
 obtain ⟨b, r1, e1, h1⟩ := elS h0
 obtain ⟨c, r2, e2, h2⟩ := elS h1
 obtain ⟨d, r3, e3, h3⟩ := elS h2
 obtain ⟨e, r4, e4, h4⟩ := elS h3
 rw [e0, e1, e2, e3, e4, el0 h4]
 exact h a b c d e
theorem txt_mk {K : W.Frag} {h : Heap} {mg : Str → Option Value} (X : K.In h) (G : h.Ns mainGlobals mg)
{f0 f1 f2 f3 dT3 f4 f5 f6 f7 f8 f9 f10 f11 f12 f13 f14 f15 f16 dT16 f17 f18 f19 f20 f21 f22 f23 f24 f25 f26 f27 f28 f29 f30 f31 f32 f33 f34 f35 f36 f37 f38 f39 f40 f41 : Addr} {od0 an0 od1 an1 od2 an2 od3 an3 dD3 od4 an4 od5 an5 od6 an6 od7 an7 od8 an8 od9 an9 od10 an10 od11 an11 od12 an12 od13 an13 od14 an14 od15 an15 od16 an16 dD16 od17 an17 od18 an18 od19 an19 od20 an20 od21 an21 od22 an22 od23 an23 od24 an24 od25 an25 od26 an26 od27 an27 od28 an28 od29 an29 od30 an30 od31 an31 od32 an32 od33 an33 od34 an34 od35 an35 od36 an36 od37 an37 od38 an38 od39 an39 od40 an40 od41 an41 : Option Addr} {sl0 sl1 sl2 sl3 dS3 sl4 sl5 sl6 sl7 sl8 sl9 sl10 sl11 sl12 sl13 sl14 sl15 sl16 dS16 sl17 sl18 sl19 sl20 sl21 sl22 sl23 sl24 sl25 sl26 sl27 sl28 sl29 sl30 sl31 sl32 sl33 sl34 sl35 sl36 sl37 sl38 sl39 sl40 sl41 : Array (Option Value)} {oc0 kV0 dc0 pm0 cd0 ct0 oc1 kV1 dc1 pm1 cd1 ct1 oc2 kV2 dc2 pm2 cd2 ct2 oc3 kV3 dc3 pm3 cd3 ct3 oc4 kV4 dc4 pm4 cd4 ct4 oc5 kV5 dc5 pm5 cd5 ct5 oc6 kV6 dc6 pm6 cd6 ct6 oc7 kV7 dc7 pm7 cd7 ct7 oc8 kV8 dc8 pm8 cd8 ct8 oc9 kV9 dc9 pm9 cd9 ct9 oc10 kV10 dc10 pm10 cd10 ct10 oc11 kV11 dc11 pm11 cd11 ct11 oc12 kV12 dc12 pm12 cd12 ct12 oc13 kV13 dc13 pm13 cd13 ct13 oc14 kV14 dc14 pm14 cd14 ct14 oc15 kV15 dc15 pm15 cd15 ct15 oc16 kV16 dc16 pm16 cd16 ct16 oc17 kV17 dc17 pm17 cd17 ct17 oc18 kV18 dc18 pm18 cd18 ct18 oc19 kV19 dc19 pm19 cd19 ct19 oc20 kV20 dc20 pm20 cd20 ct20 oc21 kV21 dc21 pm21 cd21 ct21 oc22 kV22 dc22 pm22 cd22 ct22 oc23 kV23 dc23 pm23 cd23 ct23 oc24 kV24 dc24 pm24 cd24 ct24 oc25 kV25 dc25 pm25 cd25 ct25 oc26 kV26 dc26 pm26 cd26 ct26 oc27 kV27 dc27 pm27 cd27 ct27 oc28 kV28 dc28 pm28 cd28 ct28 oc29 kV29 dc29 pm29 cd29 ct29 oc30 kV30 dc30 pm30 cd30 ct30 oc31 kV31 dc31 pm31 cd31 ct31 oc32 kV32 dc32 pm32 cd32 ct32 oc33 kV33 dc33 pm33 cd33 ct33 oc34 kV34 dc34 pm34 cd34 ct34 oc35 kV35 dc35 pm35 cd35 ct35 oc36 kV36 dc36 pm36 cd36 ct36 oc37 kV37 dc37 pm37 cd37 ct37 oc38 kV38 dc38 pm38 cd38 ct38 oc39 kV39 dc39 pm39 cd39 ct39 oc40 kV40 dc40 pm40 cd40 ct40 oc41 kV41 dc41 pm41 cd41 ct41 : Value} {dN3 dN16 : Nat} {dt3_0 gt0 : Tok}
 {ga1 : Addr} {go1 : Value} {gd1 : Option Addr} {gn1 : Nat} {ge1 : Array DictEntry} {gs1 : Array (Option Value)}
{k_Ask k_Kind k_NoNumber k_PageMaker k_Paper k_Row k_Run k_Sheet k_Whole : Addr} {kd_NoNumber : ClassData}
 (h5a : W.nsIn K mainGlobals "Ask" = some (some (.ref k_Ask)))
 (h5b : W.nsIn K mainGlobals "Kind" = some (some (.ref k_Kind)))
 (h5c : W.nsIn K mainGlobals "NoNumber" = some (some (.ref k_NoNumber)))
 (h5d : W.nsIn K mainGlobals "PageMaker" = some (some (.ref k_PageMaker)))
 (h5e : W.nsIn K mainGlobals "Paper" = some (some (.ref k_Paper)))
 (h5f : W.nsIn K mainGlobals "Row" = some (some (.ref k_Row)))
 (h5g : W.nsIn K mainGlobals "Run" = some (some (.ref k_Run)))
 (h5h : W.nsIn K mainGlobals "Sheet" = some (some (.ref k_Sheet)))
 (h5i : W.nsIn K mainGlobals "Whole" = some (some (.ref k_Whole)))
 (h00 : W.nsIn K mainGlobals "is_whole" = some (some (.ref f0)))
 (h01 : K.lookup f0 = some ⟨oc0, od0, .func (W.fnOf "is_whole" "is_whole" (defArgs s_is_whole) (defBody s_is_whole) (defScope s_is_whole) .none kV0 dc0 pm0 an0 cd0 ct0), sl0⟩)
 (h02 : W.codeIn K cd0 "is_whole" = true)
 (h03 : W.keepIn K (.ref f0) = true)
 (h04 : W.nsIn K mainGlobals "are_figures" = some (some (.ref f1)))
 (h05 : K.lookup f1 = some ⟨oc1, od1, .func (W.fnOf "are_figures" "are_figures" (defArgs s_are_figures) (defBody s_are_figures) (defScope s_are_figures) .none kV1 dc1 pm1 an1 cd1 ct1), sl1⟩)
 (h06 : W.codeIn K cd1 "are_figures" = true)
 (h07 : W.keepIn K (.ref f1) = true)
 (h08 : W.nsIn K mainGlobals "figures_worth" = some (some (.ref f2)))
 (h09 : K.lookup f2 = some ⟨oc2, od2, .func (W.fnOf "figures_worth" "figures_worth" (defArgs s_figures_worth) (defBody s_figures_worth) (defScope s_figures_worth) .none kV2 dc2 pm2 an2 cd2 ct2), sl2⟩)
 (h0a : W.codeIn K cd2 "figures_worth" = true)
 (h0b : W.keepIn K (.ref f2) = true)
 (h0c : W.nsIn K mainGlobals "number_of" = some (some (.ref f3)))
 (h0d : K.lookup f3 = some ⟨oc3, od3, .func (W.fnOf "number_of" "number_of" (defArgs s_number_of) (defBody s_number_of) (defScope s_number_of) (.ref dT3) kV3 dc3 pm3 an3 cd3 ct3), sl3⟩)
 (h0e : W.codeIn K cd3 "number_of" = true)
 (h0f : W.keepIn K (.ref f3) = true)
 (h0g : K.lookup dT3 = some ⟨.type "tuple", dD3, .seq ([(.int 60 dt3_0)] : List Value).toArray dN3, dS3⟩)
 (h0h : W.nsIn K mainGlobals "number_or_none" = some (some (.ref f4)))
 (h0i : K.lookup f4 = some ⟨oc4, od4, .func (W.fnOf "number_or_none" "number_or_none" (defArgs s_number_or_none) (defBody s_number_or_none) (defScope s_number_or_none) .none kV4 dc4 pm4 an4 cd4 ct4), sl4⟩)
 (h0j : W.codeIn K cd4 "number_or_none" = true)
 (h0k : W.keepIn K (.ref f4) = true)
 (h0l : W.findIn K (.ref k_Kind) "__init__" = some (some (.ref f5)))
 (h0m : K.lookup f5 = some ⟨oc5, od5, .func (W.fnOf "__init__" "Kind.__init__" (defArgs s_c_Kind___init) (defBody s_c_Kind___init) (defScope s_c_Kind___init) .none kV5 dc5 pm5 an5 cd5 ct5), sl5⟩)
 (h0n : W.codeIn K cd5 "Kind.__init__" = true)
 (h0o : W.keepIn K (.ref f5) = true)
 (h0p : W.findIn K (.ref k_Whole) "fits" = some (some (.ref f6)))
 (h0q : K.lookup f6 = some ⟨oc6, od6, .func (W.fnOf "fits" "Whole.fits" (defArgs s_c_Whole_fits) (defBody s_c_Whole_fits) (defScope s_c_Whole_fits) .none kV6 dc6 pm6 an6 cd6 ct6), sl6⟩)
 (h0r : W.codeIn K cd6 "Whole.fits" = true)
 (h0s : W.keepIn K (.ref f6) = true)
 (h0t : W.findIn K (.ref k_Whole) "shown" = some (some (.ref f7)))
 (h0u : K.lookup f7 = some ⟨oc7, od7, .func (W.fnOf "shown" "Whole.shown" (defArgs s_c_Whole_shown) (defBody s_c_Whole_shown) (defScope s_c_Whole_shown) .none kV7 dc7 pm7 an7 cd7 ct7), sl7⟩)
 (h0v : W.codeIn K cd7 "Whole.shown" = true)
 (h0w : W.keepIn K (.ref f7) = true)
 (h0x : W.findIn K (.ref k_Whole) "rank" = some (some (.ref f8)))
 (h0y : K.lookup f8 = some ⟨oc8, od8, .func (W.fnOf "rank" "Whole.rank" (defArgs s_c_Whole_rank) (defBody s_c_Whole_rank) (defScope s_c_Whole_rank) .none kV8 dc8 pm8 an8 cd8 ct8), sl8⟩)
 (h0z : W.codeIn K cd8 "Whole.rank" = true)
 (h10 : W.keepIn K (.ref f8) = true)
 (h11 : W.findIn K (.ref k_Whole) "bounds" = some (some (.ref f9)))
 (h12 : K.lookup f9 = some ⟨oc9, od9, .func (W.fnOf "bounds" "Whole.bounds" (defArgs s_c_Whole_bounds) (defBody s_c_Whole_bounds) (defScope s_c_Whole_bounds) .none kV9 dc9 pm9 an9 cd9 ct9), sl9⟩)
 (h13 : W.codeIn K cd9 "Whole.bounds" = true)
 (h14 : W.keepIn K (.ref f9) = true)
 (h15 : W.findIn K (.ref k_Whole) "told" = some (some (.ref f10)))
 (h16 : K.lookup f10 = some ⟨oc10, od10, .func (W.fnOf "told" "Whole.told" (defArgs s_c_Whole_told) (defBody s_c_Whole_told) (defScope s_c_Whole_told) .none kV10 dc10 pm10 an10 cd10 ct10), sl10⟩)
 (h17 : W.codeIn K cd10 "Whole.told" = true)
 (h18 : W.keepIn K (.ref f10) = true)
 (h19 : W.nsIn K mainGlobals "are_bounds" = some (some (.ref f11)))
 (h1a : K.lookup f11 = some ⟨oc11, od11, .func (W.fnOf "are_bounds" "are_bounds" (defArgs s_are_bounds) (defBody s_are_bounds) (defScope s_are_bounds) .none kV11 dc11 pm11 an11 cd11 ct11), sl11⟩)
 (h1b : W.codeIn K cd11 "are_bounds" = true)
 (h1c : W.keepIn K (.ref f11) = true)
 (h1d : W.nsIn K mainGlobals "whole_or_none" = some (some (.ref f12)))
 (h1e : K.lookup f12 = some ⟨oc12, od12, .func (W.fnOf "whole_or_none" "whole_or_none" (defArgs s_whole_or_none) (defBody s_whole_or_none) (defScope s_whole_or_none) .none kV12 dc12 pm12 an12 cd12 ct12), sl12⟩)
 (h1f : W.codeIn K cd12 "whole_or_none" = true)
 (h1g : W.keepIn K (.ref f12) = true)
 (h1h : W.nsIn K mainGlobals "kind_or_none" = some (some (.ref f13)))
 (h1i : K.lookup f13 = some ⟨oc13, od13, .func (W.fnOf "kind_or_none" "kind_or_none" (defArgs s_kind_or_none) (defBody s_kind_or_none) (defScope s_kind_or_none) .none kV13 dc13 pm13 an13 cd13 ct13), sl13⟩)
 (h1j : W.codeIn K cd13 "kind_or_none" = true)
 (h1k : W.keepIn K (.ref f13) = true)
 (h1l : W.nsIn K mainGlobals "kind_of" = some (some (.ref f14)))
 (h1m : K.lookup f14 = some ⟨oc14, od14, .func (W.fnOf "kind_of" "kind_of" (defArgs s_kind_of) (defBody s_kind_of) (defScope s_kind_of) .none kV14 dc14 pm14 an14 cd14 ct14), sl14⟩)
 (h1n : W.codeIn K cd14 "kind_of" = true)
 (h1o : W.keepIn K (.ref f14) = true)
 (h1p : W.findIn K (.ref k_Row) "__init__" = some (some (.ref f15)))
 (h1q : K.lookup f15 = some ⟨oc15, od15, .func (W.fnOf "__init__" "Row.__init__" (defArgs s_c_Row___init) (defBody s_c_Row___init) (defScope s_c_Row___init) .none kV15 dc15 pm15 an15 cd15 ct15), sl15⟩)
 (h1r : W.codeIn K cd15 "Row.__init__" = true)
 (h1s : W.keepIn K (.ref f15) = true)
 (h1t : W.findIn K (.ref k_Ask) "__init__" = some (some (.ref f16)))
 (h1u : K.lookup f16 = some ⟨oc16, od16, .func (W.fnOf "__init__" "Ask.__init__" (defArgs s_c_Ask___init) (defBody s_c_Ask___init) (defScope s_c_Ask___init) (.ref dT16) kV16 dc16 pm16 an16 cd16 ct16), sl16⟩)
 (h1v : W.codeIn K cd16 "Ask.__init__" = true)
 (h1w : W.keepIn K (.ref f16) = true)
 (h1x : K.lookup dT16 = some ⟨.type "tuple", dD16, .seq ([.none] : List Value).toArray dN16, dS16⟩)
 (h1y : W.findIn K (.ref k_Sheet) "__init__" = some (some (.ref f17)))
 (h1z : K.lookup f17 = some ⟨oc17, od17, .func (W.fnOf "__init__" "Sheet.__init__" (defArgs s_c_Sheet___init) (defBody s_c_Sheet___init) (defScope s_c_Sheet___init) .none kV17 dc17 pm17 an17 cd17 ct17), sl17⟩)
 (h20 : W.codeIn K cd17 "Sheet.__init__" = true)
 (h21 : W.keepIn K (.ref f17) = true)
 (h22 : W.findIn K (.ref k_Paper) "__init__" = some (some (.ref f18)))
 (h23 : K.lookup f18 = some ⟨oc18, od18, .func (W.fnOf "__init__" "Paper.__init__" (defArgs s_c_Paper___init) (defBody s_c_Paper___init) (defScope s_c_Paper___init) .none kV18 dc18 pm18 an18 cd18 ct18), sl18⟩)
 (h24 : W.codeIn K cd18 "Paper.__init__" = true)
 (h25 : W.keepIn K (.ref f18) = true)
 (h26 : W.nsIn K mainGlobals "kinds_of" = some (some (.ref f19)))
 (h27 : K.lookup f19 = some ⟨oc19, od19, .func (W.fnOf "kinds_of" "kinds_of" (defArgs s_kinds_of) (defBody s_kinds_of) (defScope s_kinds_of) .none kV19 dc19 pm19 an19 cd19 ct19), sl19⟩)
 (h28 : W.codeIn K cd19 "kinds_of" = true)
 (h29 : W.keepIn K (.ref f19) = true)
 (h2a : W.nsIn K mainGlobals "eaches_of" = some (some (.ref f20)))
 (h2b : K.lookup f20 = some ⟨oc20, od20, .func (W.fnOf "eaches_of" "eaches_of" (defArgs s_eaches_of) (defBody s_eaches_of) (defScope s_eaches_of) .none kV20 dc20 pm20 an20 cd20 ct20), sl20⟩)
 (h2c : W.codeIn K cd20 "eaches_of" = true)
 (h2d : W.keepIn K (.ref f20) = true)
 (h2e : W.nsIn K mainGlobals "without_leads" = some (some (.ref f21)))
 (h2f : K.lookup f21 = some ⟨oc21, od21, .func (W.fnOf "without_leads" "without_leads" (defArgs s_without_leads) (defBody s_without_leads) (defScope s_without_leads) .none kV21 dc21 pm21 an21 cd21 ct21), sl21⟩)
 (h2g : W.codeIn K cd21 "without_leads" = true)
 (h2h : W.keepIn K (.ref f21) = true)
 (h2i : W.nsIn K mainGlobals "leads_of" = some (some (.ref f22)))
 (h2j : K.lookup f22 = some ⟨oc22, od22, .func (W.fnOf "leads_of" "leads_of" (defArgs s_leads_of) (defBody s_leads_of) (defScope s_leads_of) .none kV22 dc22 pm22 an22 cd22 ct22), sl22⟩)
 (h2k : W.codeIn K cd22 "leads_of" = true)
 (h2l : W.keepIn K (.ref f22) = true)
 (h2m : W.findIn K (.ref k_PageMaker) "__init__" = some (some (.ref f23)))
 (h2n : K.lookup f23 = some ⟨oc23, od23, .func (W.fnOf "__init__" "PageMaker.__init__" (defArgs s_c_PageMaker___init) (defBody s_c_PageMaker___init) (defScope s_c_PageMaker___init) .none kV23 dc23 pm23 an23 cd23 ct23), sl23⟩)
 (h2o : W.codeIn K cd23 "PageMaker.__init__" = true)
 (h2p : W.keepIn K (.ref f23) = true)
 (h2q : W.findIn K (.ref k_PageMaker) "put" = some (some (.ref f24)))
 (h2r : K.lookup f24 = some ⟨oc24, od24, .func (W.fnOf "put" "PageMaker.put" (defArgs s_c_PageMaker_put) (defBody s_c_PageMaker_put) (defScope s_c_PageMaker_put) .none kV24 dc24 pm24 an24 cd24 ct24), sl24⟩)
 (h2s : W.codeIn K cd24 "PageMaker.put" = true)
 (h2t : W.keepIn K (.ref f24) = true)
 (h2u : W.findIn K (.ref k_PageMaker) "put_saying" = some (some (.ref f25)))
 (h2v : K.lookup f25 = some ⟨oc25, od25, .func (W.fnOf "put_saying" "PageMaker.put_saying" (defArgs s_c_PageMaker_put_saying) (defBody s_c_PageMaker_put_saying) (defScope s_c_PageMaker_put_saying) .none kV25 dc25 pm25 an25 cd25 ct25), sl25⟩)
 (h2w : W.codeIn K cd25 "PageMaker.put_saying" = true)
 (h2x : W.keepIn K (.ref f25) = true)
 (h2y : W.findIn K (.ref k_PageMaker) "put_row" = some (some (.ref f26)))
 (h2z : K.lookup f26 = some ⟨oc26, od26, .func (W.fnOf "put_row" "PageMaker.put_row" (defArgs s_c_PageMaker_put_row) (defBody s_c_PageMaker_put_row) (defScope s_c_PageMaker_put_row) .none kV26 dc26 pm26 an26 cd26 ct26), sl26⟩)
 (h30 : W.codeIn K cd26 "PageMaker.put_row" = true)
 (h31 : W.keepIn K (.ref f26) = true)
 (h32 : W.findIn K (.ref k_PageMaker) "put_rows" = some (some (.ref f27)))
 (h33 : K.lookup f27 = some ⟨oc27, od27, .func (W.fnOf "put_rows" "PageMaker.put_rows" (defArgs s_c_PageMaker_put_rows) (defBody s_c_PageMaker_put_rows) (defScope s_c_PageMaker_put_rows) .none kV27 dc27 pm27 an27 cd27 ct27), sl27⟩)
 (h34 : W.codeIn K cd27 "PageMaker.put_rows" = true)
 (h35 : W.keepIn K (.ref f27) = true)
 (h36 : W.findIn K (.ref k_PageMaker) "put_sheet" = some (some (.ref f28)))
 (h37 : K.lookup f28 = some ⟨oc28, od28, .func (W.fnOf "put_sheet" "PageMaker.put_sheet" (defArgs s_c_PageMaker_put_sheet) (defBody s_c_PageMaker_put_sheet) (defScope s_c_PageMaker_put_sheet) .none kV28 dc28 pm28 an28 cd28 ct28), sl28⟩)
 (h38 : W.codeIn K cd28 "PageMaker.put_sheet" = true)
 (h39 : W.keepIn K (.ref f28) = true)
 (h3a : W.findIn K (.ref k_PageMaker) "put_all" = some (some (.ref f29)))
 (h3b : K.lookup f29 = some ⟨oc29, od29, .func (W.fnOf "put_all" "PageMaker.put_all" (defArgs s_c_PageMaker_put_all) (defBody s_c_PageMaker_put_all) (defScope s_c_PageMaker_put_all) .none kV29 dc29 pm29 an29 cd29 ct29), sl29⟩)
 (h3c : W.codeIn K cd29 "PageMaker.put_all" = true)
 (h3d : W.keepIn K (.ref f29) = true)
 (h3e : W.nsIn K mainGlobals "reached_from" = some (some (.ref f30)))
 (h3f : K.lookup f30 = some ⟨oc30, od30, .func (W.fnOf "reached_from" "reached_from" (defArgs s_reached_from) (defBody s_reached_from) (defScope s_reached_from) .none kV30 dc30 pm30 an30 cd30 ct30), sl30⟩)
 (h3g : W.codeIn K cd30 "reached_from" = true)
 (h3h : W.keepIn K (.ref f30) = true)
 (h3i : W.nsIn K mainGlobals "pages_of" = some (some (.ref f31)))
 (h3j : K.lookup f31 = some ⟨oc31, od31, .func (W.fnOf "pages_of" "pages_of" (defArgs s_pages_of) (defBody s_pages_of) (defScope s_pages_of) .none kV31 dc31 pm31 an31 cd31 ct31), sl31⟩)
 (h3k : W.codeIn K cd31 "pages_of" = true)
 (h3l : W.keepIn K (.ref f31) = true)
 (h3m : W.findIn K (.ref k_Run) "__init__" = some (some (.ref f32)))
 (h3n : K.lookup f32 = some ⟨oc32, od32, .func (W.fnOf "__init__" "Run.__init__" (defArgs s_c_Run___init) (defBody s_c_Run___init) (defScope s_c_Run___init) .none kV32 dc32 pm32 an32 cd32 ct32), sl32⟩)
 (h3o : W.codeIn K cd32 "Run.__init__" = true)
 (h3p : W.keepIn K (.ref f32) = true)
 (h3q : W.findIn K (.ref k_Run) "thing_by" = some (some (.ref f33)))
 (h3r : K.lookup f33 = some ⟨oc33, od33, .func (W.fnOf "thing_by" "Run.thing_by" (defArgs s_c_Run_thing_by) (defBody s_c_Run_thing_by) (defScope s_c_Run_thing_by) .none kV33 dc33 pm33 an33 cd33 ct33), sl33⟩)
 (h3s : W.codeIn K cd33 "Run.thing_by" = true)
 (h3t : W.keepIn K (.ref f33) = true)
 (h3u : W.findIn K (.ref k_Run) "take_ask" = some (some (.ref f34)))
 (h3v : K.lookup f34 = some ⟨oc34, od34, .func (W.fnOf "take_ask" "Run.take_ask" (defArgs s_c_Run_take_ask) (defBody s_c_Run_take_ask) (defScope s_c_Run_take_ask) .none kV34 dc34 pm34 an34 cd34 ct34), sl34⟩)
 (h3w : W.codeIn K cd34 "Run.take_ask" = true)
 (h3x : W.keepIn K (.ref f34) = true)
 (h3y : W.findIn K (.ref k_Run) "take_page" = some (some (.ref f35)))
 (h3z : K.lookup f35 = some ⟨oc35, od35, .func (W.fnOf "take_page" "Run.take_page" (defArgs s_c_Run_take_page) (defBody s_c_Run_take_page) (defScope s_c_Run_take_page) .none kV35 dc35 pm35 an35 cd35 ct35), sl35⟩)
 (h40 : W.codeIn K cd35 "Run.take_page" = true)
 (h41 : W.keepIn K (.ref f35) = true)
 (h42 : W.nsIn K mainGlobals "run" = some (some (.ref f36)))
 (h43 : K.lookup f36 = some ⟨oc36, od36, .func (W.fnOf "run" "run" (defArgs s_run) (defBody s_run) (defScope s_run) .none kV36 dc36 pm36 an36 cd36 ct36), sl36⟩)
 (h44 : W.codeIn K cd36 "run" = true)
 (h45 : W.keepIn K (.ref f36) = true)
 (h46 : W.nsIn K mainGlobals "_law_cell" = some (some (.ref f37)))
 (h47 : K.lookup f37 = some ⟨oc37, od37, .func (W.fnOf "_law_cell" "_law_cell" (defArgs s_law_cell) (defBody s_law_cell) (defScope s_law_cell) .none kV37 dc37 pm37 an37 cd37 ct37), sl37⟩)
 (h48 : W.codeIn K cd37 "_law_cell" = true)
 (h49 : W.keepIn K (.ref f37) = true)
 (h4a : W.nsIn K mainGlobals "_law_name" = some (some (.ref f38)))
 (h4b : K.lookup f38 = some ⟨oc38, od38, .func (W.fnOf "_law_name" "_law_name" (defArgs s_law_name) (defBody s_law_name) (defScope s_law_name) .none kV38 dc38 pm38 an38 cd38 ct38), sl38⟩)
 (h4c : W.codeIn K cd38 "_law_name" = true)
 (h4d : W.keepIn K (.ref f38) = true)
 (h4e : W.nsIn K mainGlobals "_law_sheets" = some (some (.ref f39)))
 (h4f : K.lookup f39 = some ⟨oc39, od39, .func (W.fnOf "_law_sheets" "_law_sheets" (defArgs s_law_sheets) (defBody s_law_sheets) (defScope s_law_sheets) .none kV39 dc39 pm39 an39 cd39 ct39), sl39⟩)
 (h4g : W.codeIn K cd39 "_law_sheets" = true)
 (h4h : W.keepIn K (.ref f39) = true)
 (h4i : W.nsIn K mainGlobals "_law_told" = some (some (.ref f40)))
 (h4j : K.lookup f40 = some ⟨oc40, od40, .func (W.fnOf "_law_told" "_law_told" (defArgs s_law_told) (defBody s_law_told) (defScope s_law_told) .none kV40 dc40 pm40 an40 cd40 ct40), sl40⟩)
 (h4k : W.codeIn K cd40 "_law_told" = true)
 (h4l : W.keepIn K (.ref f40) = true)
 (h4m : W.nsIn K mainGlobals "law" = some (some (.ref f41)))
 (h4n : K.lookup f41 = some ⟨oc41, od41, .func (W.fnOf "law" "law" (defArgs s_law) (defBody s_law) (defScope s_law) .none kV41 dc41 pm41 an41 cd41 ct41), sl41⟩)
 (h4o : W.codeIn K cd41 "law" = true)
 (h4p : W.keepIn K (.ref f41) = true)
 (h4q : W.nsIn K mainGlobals "FIGURES" = some (some (.str "0123456789" gt0)))
 (h4r : W.nsIn K mainGlobals "LEADS" = some (some (.ref ga1)))
 (h4s : K.lookup ga1 = some ⟨go1, gd1, .dict ge1 gn1, gs1⟩)
 (h4t : (ga1 == sysModules) = false)
 (h4u : go1 = .type "dict")
 (h4v : gd1 = none)
 (h4w : gs1 = #[])
 (h4x : PyProof.Rows.KTD.Rows (fun (n : Int) (v : Value) => ∃ t, v = .int n t) ge1.toList [("ask", 1), ("compare", 2), ("total", 2), ("first", 1), ("more", 2), ("on", 1), ("pass", 1), ("warn", 1), ("held", 0), ("end", 0)])
 (h4y : W.nsIn K mainGlobals "all" = some none)
 (h4z : W.nsIn K mainGlobals "bool" = some none)
 (h50 : W.nsIn K mainGlobals "dict" = some none)
 (h51 : W.nsIn K mainGlobals "enumerate" = some none)
 (h52 : W.nsIn K mainGlobals "int" = some none)
 (h53 : W.nsIn K mainGlobals "isinstance" = some none)
 (h54 : W.nsIn K mainGlobals "len" = some none)
 (h55 : W.nsIn K mainGlobals "list" = some none)
 (h56 : W.nsIn K mainGlobals "range" = some none)
 (h57 : W.nsIn K mainGlobals "reversed" = some none)
 (h58 : W.nsIn K mainGlobals "str" = some none)
 (h59 : W.nsIn K mainGlobals "tuple" = some none)
 (h5j : W.clsIn K k_NoNumber = some kd_NoNumber)
 (h5k : W.typeIn K (.ref k_NoNumber) = some (.type "type"))
 (h5l : W.excIn K k_NoNumber mroVE "ValueError.__new__" = true)
 (h5m : W.subIn K (.ref k_NoNumber) (.type "BaseException") = some true)
 (h5n : W.mroIn K k_NoNumber (.ref k_NoNumber) = some true)
 (h5o : W.plainGet K k_Whole Str.empty = true)
 (h5p : W.hasDictIn K k_Whole = true)
 (h5q : W.plainOver K k_Whole = true)
 (h5r : W.findIn K (.ref k_Whole) "__setattr__" = some (some (.builtin "object.__setattr__")))
 (h5s : W.makesIn K k_Whole = true)
 (h5t : W.findIn K (.ref k_Whole) "__init__" = some (some (.ref f5)))
 (h5u : W.isFn K (.ref f5) = true)
 (h5v : W.keepIn K (.ref k_Whole) = true)
 (h5w : W.findIn K (.ref k_Whole) "shown" = some (some (.ref f7)))
 (h5x : W.isFn K (.ref f7) = true)
 (h5y : W.findIn K (.ref k_Whole) "told" = some (some (.ref f10)))
 (h5z : W.isFn K (.ref f10) = true)
 (h60 : W.findIn K (.ref k_Whole) "bounds" = some (some (.ref f9)))
 (h61 : W.isFn K (.ref f9) = true)
 (h62 : W.findIn K (.ref k_Whole) "fits" = some (some (.ref f6)))
 (h63 : W.isFn K (.ref f6) = true)
 (h64 : W.findIn K (.ref k_Whole) "rank" = some (some (.ref f8)))
 (h65 : W.isFn K (.ref f8) = true)
 (h66 : W.findIn K (.ref k_Whole) "low" = some none)
 (h67 : W.findIn K (.ref k_Whole) "high" = some none)
 (h68 : W.plainGet K k_Ask Str.empty = true)
 (h69 : W.hasDictIn K k_Ask = true)
 (h6a : W.plainOver K k_Ask = true)
 (h6b : W.findIn K (.ref k_Ask) "__setattr__" = some (some (.builtin "object.__setattr__")))
 (h6c : W.findIn K (.ref k_Ask) "__class__" = some (some (.builtin "object.__class__")))
 (h6d : W.specialIn K (.builtin "object.__class__") "__get__" = some (some (.builtin "getset_descriptor.__get__")))
 (h6e : W.takesIn K (.builtin "object.__class__") = some true)
 (h6f : W.mroIn K k_Ask (.type "object") = some true)
 (h6g : W.makesIn K k_Ask = true)
 (h6h : W.findIn K (.ref k_Ask) "__init__" = some (some (.ref f16)))
 (h6i : W.isFn K (.ref f16) = true)
 (h6j : W.keepIn K (.ref k_Ask) = true)
 (h6k : W.findIn K (.ref k_Ask) "name" = some none)
 (h6l : W.findIn K (.ref k_Ask) "kind" = some none)
 (h6m : W.findIn K (.ref k_Ask) "when" = some none)
 (h6n : W.plainGet K k_Sheet Str.empty = true)
 (h6o : W.hasDictIn K k_Sheet = true)
 (h6p : W.plainOver K k_Sheet = true)
 (h6q : W.findIn K (.ref k_Sheet) "__setattr__" = some (some (.builtin "object.__setattr__")))
 (h6r : W.makesIn K k_Sheet = true)
 (h6s : W.findIn K (.ref k_Sheet) "__init__" = some (some (.ref f17)))
 (h6t : W.isFn K (.ref f17) = true)
 (h6u : W.keepIn K (.ref k_Sheet) = true)
 (h6v : W.findIn K (.ref k_Sheet) "name" = some none)
 (h6w : W.findIn K (.ref k_Sheet) "each" = some none)
 (h6x : W.findIn K (.ref k_Sheet) "rows" = some none)
 (h6y : W.findIn K (.ref k_Sheet) "ways" = some none)
 (h6z : W.plainGet K k_Paper Str.empty = true)
 (h70 : W.hasDictIn K k_Paper = true)
 (h71 : W.plainOver K k_Paper = true)
 (h72 : W.findIn K (.ref k_Paper) "__setattr__" = some (some (.builtin "object.__setattr__")))
 (h73 : W.makesIn K k_Paper = true)
 (h74 : W.findIn K (.ref k_Paper) "__init__" = some (some (.ref f18)))
 (h75 : W.isFn K (.ref f18) = true)
 (h76 : W.keepIn K (.ref k_Paper) = true)
 (h77 : W.findIn K (.ref k_Paper) "name" = some none)
 (h78 : W.findIn K (.ref k_Paper) "sheets" = some none)
 (h79 : W.findIn K (.ref k_Paper) "totals" = some none)
 (h7a : W.plainGet K k_PageMaker Str.empty = true)
 (h7b : W.hasDictIn K k_PageMaker = true)
 (h7c : W.plainOver K k_PageMaker = true)
 (h7d : W.findIn K (.ref k_PageMaker) "__setattr__" = some (some (.builtin "object.__setattr__")))
 (h7e : W.makesIn K k_PageMaker = true)
 (h7f : W.findIn K (.ref k_PageMaker) "__init__" = some (some (.ref f23)))
 (h7g : W.isFn K (.ref f23) = true)
 (h7h : W.keepIn K (.ref k_PageMaker) = true)
 (h7i : W.findIn K (.ref k_PageMaker) "put" = some (some (.ref f24)))
 (h7j : W.isFn K (.ref f24) = true)
 (h7k : W.findIn K (.ref k_PageMaker) "put_saying" = some (some (.ref f25)))
 (h7l : W.isFn K (.ref f25) = true)
 (h7m : W.findIn K (.ref k_PageMaker) "put_row" = some (some (.ref f26)))
 (h7n : W.isFn K (.ref f26) = true)
 (h7o : W.findIn K (.ref k_PageMaker) "put_rows" = some (some (.ref f27)))
 (h7p : W.isFn K (.ref f27) = true)
 (h7q : W.findIn K (.ref k_PageMaker) "put_sheet" = some (some (.ref f28)))
 (h7r : W.isFn K (.ref f28) = true)
 (h7s : W.findIn K (.ref k_PageMaker) "put_all" = some (some (.ref f29)))
 (h7t : W.isFn K (.ref f29) = true)
 (h7u : W.findIn K (.ref k_PageMaker) "paper" = some none)
 (h7v : W.findIn K (.ref k_PageMaker) "kinds" = some none)
 (h7w : W.findIn K (.ref k_PageMaker) "eaches" = some none)
 (h7x : W.findIn K (.ref k_PageMaker) "made" = some none)
 (h7y : W.plainGet K k_Run Str.empty = true)
 (h7z : W.hasDictIn K k_Run = true)
 (h80 : W.plainOver K k_Run = true)
 (h81 : W.findIn K (.ref k_Run) "__setattr__" = some (some (.builtin "object.__setattr__")))
 (h82 : W.makesIn K k_Run = true)
 (h83 : W.findIn K (.ref k_Run) "__init__" = some (some (.ref f32)))
 (h84 : W.isFn K (.ref f32) = true)
 (h85 : W.keepIn K (.ref k_Run) = true)
 (h86 : W.findIn K (.ref k_Run) "thing_by" = some (some (.ref f33)))
 (h87 : W.isFn K (.ref f33) = true)
 (h88 : W.findIn K (.ref k_Run) "take_ask" = some (some (.ref f34)))
 (h89 : W.isFn K (.ref f34) = true)
 (h8a : W.findIn K (.ref k_Run) "take_page" = some (some (.ref f35)))
 (h8b : W.isFn K (.ref f35) = true)
 (h8c : W.findIn K (.ref k_Run) "book" = some none)
 (h8d : W.findIn K (.ref k_Run) "ranks" = some none)
 (h8e : W.findIn K (.ref k_Run) "place" = some none)
 (h8f : W.findIn K (.ref k_Run) "thing" = some none)
 (h8g : W.findIn K (.ref k_Run) "log" = some none)
 (h8h : W.readsIn K k_Row (.type "type") = true)
 (h8i : W.findCls K (.ref k_Row) (.type "type") "__init__" = some (.val (.ref f15)))
 (h8j : W.specialIn K (.ref k_Row) "__getattribute__" = some (some (.builtin "type.__getattribute__"))) :
 ∃ A : Adr, Txt K mg A :=
 ⟨⟨f0,
   W.fnOf "is_whole" "is_whole" (defArgs s_is_whole) (defBody s_is_whole) (defScope s_is_whole) .none kV0 dc0 pm0 an0 cd0 ct0,
   f1,
   W.fnOf "are_figures" "are_figures" (defArgs s_are_figures) (defBody s_are_figures) (defScope s_are_figures) .none kV1 dc1 pm1 an1 cd1 ct1,
   f2,
   W.fnOf "figures_worth" "figures_worth" (defArgs s_figures_worth) (defBody s_figures_worth) (defScope s_figures_worth) .none kV2 dc2 pm2 an2 cd2 ct2,
   f3,
   W.fnOf "number_of" "number_of" (defArgs s_number_of) (defBody s_number_of) (defScope s_number_of) (.ref dT3) kV3 dc3 pm3 an3 cd3 ct3,
   [(.int 60 dt3_0)],
   f4,
   W.fnOf "number_or_none" "number_or_none" (defArgs s_number_or_none) (defBody s_number_or_none) (defScope s_number_or_none) .none kV4 dc4 pm4 an4 cd4 ct4,
   f5,
   W.fnOf "__init__" "Kind.__init__" (defArgs s_c_Kind___init) (defBody s_c_Kind___init) (defScope s_c_Kind___init) .none kV5 dc5 pm5 an5 cd5 ct5,
   f6,
   W.fnOf "fits" "Whole.fits" (defArgs s_c_Whole_fits) (defBody s_c_Whole_fits) (defScope s_c_Whole_fits) .none kV6 dc6 pm6 an6 cd6 ct6,
   f7,
   W.fnOf "shown" "Whole.shown" (defArgs s_c_Whole_shown) (defBody s_c_Whole_shown) (defScope s_c_Whole_shown) .none kV7 dc7 pm7 an7 cd7 ct7,
   f8,
   W.fnOf "rank" "Whole.rank" (defArgs s_c_Whole_rank) (defBody s_c_Whole_rank) (defScope s_c_Whole_rank) .none kV8 dc8 pm8 an8 cd8 ct8,
   f9,
   W.fnOf "bounds" "Whole.bounds" (defArgs s_c_Whole_bounds) (defBody s_c_Whole_bounds) (defScope s_c_Whole_bounds) .none kV9 dc9 pm9 an9 cd9 ct9,
   f10,
   W.fnOf "told" "Whole.told" (defArgs s_c_Whole_told) (defBody s_c_Whole_told) (defScope s_c_Whole_told) .none kV10 dc10 pm10 an10 cd10 ct10,
   f11,
   W.fnOf "are_bounds" "are_bounds" (defArgs s_are_bounds) (defBody s_are_bounds) (defScope s_are_bounds) .none kV11 dc11 pm11 an11 cd11 ct11,
   f12,
   W.fnOf "whole_or_none" "whole_or_none" (defArgs s_whole_or_none) (defBody s_whole_or_none) (defScope s_whole_or_none) .none kV12 dc12 pm12 an12 cd12 ct12,
   f13,
   W.fnOf "kind_or_none" "kind_or_none" (defArgs s_kind_or_none) (defBody s_kind_or_none) (defScope s_kind_or_none) .none kV13 dc13 pm13 an13 cd13 ct13,
   f14,
   W.fnOf "kind_of" "kind_of" (defArgs s_kind_of) (defBody s_kind_of) (defScope s_kind_of) .none kV14 dc14 pm14 an14 cd14 ct14,
   f15,
   W.fnOf "__init__" "Row.__init__" (defArgs s_c_Row___init) (defBody s_c_Row___init) (defScope s_c_Row___init) .none kV15 dc15 pm15 an15 cd15 ct15,
   f16,
   W.fnOf "__init__" "Ask.__init__" (defArgs s_c_Ask___init) (defBody s_c_Ask___init) (defScope s_c_Ask___init) (.ref dT16) kV16 dc16 pm16 an16 cd16 ct16,
   [.none],
   f17,
   W.fnOf "__init__" "Sheet.__init__" (defArgs s_c_Sheet___init) (defBody s_c_Sheet___init) (defScope s_c_Sheet___init) .none kV17 dc17 pm17 an17 cd17 ct17,
   f18,
   W.fnOf "__init__" "Paper.__init__" (defArgs s_c_Paper___init) (defBody s_c_Paper___init) (defScope s_c_Paper___init) .none kV18 dc18 pm18 an18 cd18 ct18,
   f19,
   W.fnOf "kinds_of" "kinds_of" (defArgs s_kinds_of) (defBody s_kinds_of) (defScope s_kinds_of) .none kV19 dc19 pm19 an19 cd19 ct19,
   f20,
   W.fnOf "eaches_of" "eaches_of" (defArgs s_eaches_of) (defBody s_eaches_of) (defScope s_eaches_of) .none kV20 dc20 pm20 an20 cd20 ct20,
   f21,
   W.fnOf "without_leads" "without_leads" (defArgs s_without_leads) (defBody s_without_leads) (defScope s_without_leads) .none kV21 dc21 pm21 an21 cd21 ct21,
   f22,
   W.fnOf "leads_of" "leads_of" (defArgs s_leads_of) (defBody s_leads_of) (defScope s_leads_of) .none kV22 dc22 pm22 an22 cd22 ct22,
   f23,
   W.fnOf "__init__" "PageMaker.__init__" (defArgs s_c_PageMaker___init) (defBody s_c_PageMaker___init) (defScope s_c_PageMaker___init) .none kV23 dc23 pm23 an23 cd23 ct23,
   f24,
   W.fnOf "put" "PageMaker.put" (defArgs s_c_PageMaker_put) (defBody s_c_PageMaker_put) (defScope s_c_PageMaker_put) .none kV24 dc24 pm24 an24 cd24 ct24,
   f25,
   W.fnOf "put_saying" "PageMaker.put_saying" (defArgs s_c_PageMaker_put_saying) (defBody s_c_PageMaker_put_saying) (defScope s_c_PageMaker_put_saying) .none kV25 dc25 pm25 an25 cd25 ct25,
   f26,
   W.fnOf "put_row" "PageMaker.put_row" (defArgs s_c_PageMaker_put_row) (defBody s_c_PageMaker_put_row) (defScope s_c_PageMaker_put_row) .none kV26 dc26 pm26 an26 cd26 ct26,
   f27,
   W.fnOf "put_rows" "PageMaker.put_rows" (defArgs s_c_PageMaker_put_rows) (defBody s_c_PageMaker_put_rows) (defScope s_c_PageMaker_put_rows) .none kV27 dc27 pm27 an27 cd27 ct27,
   f28,
   W.fnOf "put_sheet" "PageMaker.put_sheet" (defArgs s_c_PageMaker_put_sheet) (defBody s_c_PageMaker_put_sheet) (defScope s_c_PageMaker_put_sheet) .none kV28 dc28 pm28 an28 cd28 ct28,
   f29,
   W.fnOf "put_all" "PageMaker.put_all" (defArgs s_c_PageMaker_put_all) (defBody s_c_PageMaker_put_all) (defScope s_c_PageMaker_put_all) .none kV29 dc29 pm29 an29 cd29 ct29,
   f30,
   W.fnOf "reached_from" "reached_from" (defArgs s_reached_from) (defBody s_reached_from) (defScope s_reached_from) .none kV30 dc30 pm30 an30 cd30 ct30,
   f31,
   W.fnOf "pages_of" "pages_of" (defArgs s_pages_of) (defBody s_pages_of) (defScope s_pages_of) .none kV31 dc31 pm31 an31 cd31 ct31,
   f32,
   W.fnOf "__init__" "Run.__init__" (defArgs s_c_Run___init) (defBody s_c_Run___init) (defScope s_c_Run___init) .none kV32 dc32 pm32 an32 cd32 ct32,
   f33,
   W.fnOf "thing_by" "Run.thing_by" (defArgs s_c_Run_thing_by) (defBody s_c_Run_thing_by) (defScope s_c_Run_thing_by) .none kV33 dc33 pm33 an33 cd33 ct33,
   f34,
   W.fnOf "take_ask" "Run.take_ask" (defArgs s_c_Run_take_ask) (defBody s_c_Run_take_ask) (defScope s_c_Run_take_ask) .none kV34 dc34 pm34 an34 cd34 ct34,
   f35,
   W.fnOf "take_page" "Run.take_page" (defArgs s_c_Run_take_page) (defBody s_c_Run_take_page) (defScope s_c_Run_take_page) .none kV35 dc35 pm35 an35 cd35 ct35,
   f36,
   W.fnOf "run" "run" (defArgs s_run) (defBody s_run) (defScope s_run) .none kV36 dc36 pm36 an36 cd36 ct36,
   f37,
   W.fnOf "_law_cell" "_law_cell" (defArgs s_law_cell) (defBody s_law_cell) (defScope s_law_cell) .none kV37 dc37 pm37 an37 cd37 ct37,
   f38,
   W.fnOf "_law_name" "_law_name" (defArgs s_law_name) (defBody s_law_name) (defScope s_law_name) .none kV38 dc38 pm38 an38 cd38 ct38,
   f39,
   W.fnOf "_law_sheets" "_law_sheets" (defArgs s_law_sheets) (defBody s_law_sheets) (defScope s_law_sheets) .none kV39 dc39 pm39 an39 cd39 ct39,
   f40,
   W.fnOf "_law_told" "_law_told" (defArgs s_law_told) (defBody s_law_told) (defScope s_law_told) .none kV40 dc40 pm40 an40 cd40 ct40,
   f41,
   W.fnOf "law" "law" (defArgs s_law) (defBody s_law) (defScope s_law) .none kV41 dc41 pm41 an41 cd41 ct41,
   ga1,
   k_Ask,
   k_Kind,
   k_NoNumber,
   k_PageMaker,
   k_Paper,
   k_Row,
   k_Run,
   k_Sheet,
   k_Whole⟩, ⟨fun_mk (st := s_is_whole) h01 h02 h03,
   (fun_mk (st := s_is_whole) h01 h02 h03).binds (ps := ["thing"]) (fun _ _ _ _ _ _ us hl => el1 us hl fun _ => rfl),
   h03,
   W.mg_of X G h00,
   fun_mk (st := s_are_figures) h05 h06 h07,
   (fun_mk (st := s_are_figures) h05 h06 h07).binds (ps := ["text"]) (fun _ _ _ _ _ _ us hl => el1 us hl fun _ => rfl),
   h07,
   W.mg_of X G h04,
   fun_mk (st := s_figures_worth) h09 h0a h0b,
   (fun_mk (st := s_figures_worth) h09 h0a h0b).binds (ps := ["figures"]) (fun _ _ _ _ _ _ us hl => el1 us hl fun _ => rfl),
   h0b,
   W.mg_of X G h08,
   (funD_mk (st := s_number_of) h0d h0e h0f h0g),
   (funD_mk (st := s_number_of) h0d h0e h0f h0g).binds (fun T _ _ _ _ _ _ us M A E Q s to n ht hc hd hl hq => el1 us (app_len (m := 1) hl rfl) (fun _ hq => BindsTo.of_defaults rfl ht hd rfl rfl M A E Q hq) hq),
   .cons ⟨_, rfl⟩ (.nil),
   h0f,
   W.mg_of X G h0c,
   fun_mk (st := s_number_or_none) h0i h0j h0k,
   (fun_mk (st := s_number_or_none) h0i h0j h0k).binds (ps := ["text"]) (fun _ _ _ _ _ _ us hl => el1 us hl fun _ => rfl),
   h0k,
   W.mg_of X G h0h,
   fun_mk (st := s_c_Kind___init) h0m h0n h0o,
   (fun_mk (st := s_c_Kind___init) h0m h0n h0o).binds (ps := ["self", "low", "high"]) (fun _ _ _ _ _ _ us hl => el3 us hl fun _ _ _ => rfl),
   fun_mk (st := s_c_Whole_fits) h0q h0r h0s,
   (fun_mk (st := s_c_Whole_fits) h0q h0r h0s).binds (ps := ["self", "thing"]) (fun _ _ _ _ _ _ us hl => el2 us hl fun _ _ => rfl),
   fun_mk (st := s_c_Whole_shown) h0u h0v h0w,
   (fun_mk (st := s_c_Whole_shown) h0u h0v h0w).binds (ps := ["self", "answer"]) (fun _ _ _ _ _ _ us hl => el2 us hl fun _ _ => rfl),
   fun_mk (st := s_c_Whole_rank) h0y h0z h10,
   (fun_mk (st := s_c_Whole_rank) h0y h0z h10).binds (ps := ["self", "answer"]) (fun _ _ _ _ _ _ us hl => el2 us hl fun _ _ => rfl),
   fun_mk (st := s_c_Whole_bounds) h12 h13 h14,
   (fun_mk (st := s_c_Whole_bounds) h12 h13 h14).binds (ps := ["self"]) (fun _ _ _ _ _ _ us hl => el1 us hl fun _ => rfl),
   fun_mk (st := s_c_Whole_told) h16 h17 h18,
   (fun_mk (st := s_c_Whole_told) h16 h17 h18).binds (ps := ["self"]) (fun _ _ _ _ _ _ us hl => el1 us hl fun _ => rfl),
   fun_mk (st := s_are_bounds) h1a h1b h1c,
   (fun_mk (st := s_are_bounds) h1a h1b h1c).binds (ps := ["numbers"]) (fun _ _ _ _ _ _ us hl => el1 us hl fun _ => rfl),
   h1c,
   W.mg_of X G h19,
   fun_mk (st := s_whole_or_none) h1e h1f h1g,
   (fun_mk (st := s_whole_or_none) h1e h1f h1g).binds (ps := ["words"]) (fun _ _ _ _ _ _ us hl => el1 us hl fun _ => rfl),
   h1g,
   W.mg_of X G h1d,
   fun_mk (st := s_kind_or_none) h1i h1j h1k,
   (fun_mk (st := s_kind_or_none) h1i h1j h1k).binds (ps := ["first", "words"]) (fun _ _ _ _ _ _ us hl => el2 us hl fun _ _ => rfl),
   h1k,
   W.mg_of X G h1h,
   fun_mk (st := s_kind_of) h1m h1n h1o,
   (fun_mk (st := s_kind_of) h1m h1n h1o).binds (ps := ["text"]) (fun _ _ _ _ _ _ us hl => el1 us hl fun _ => rfl),
   h1o,
   W.mg_of X G h1l,
   fun_mk (st := s_c_Row___init) h1q h1r h1s,
   (fun_mk (st := s_c_Row___init) h1q h1r h1s).binds (ps := ["self", "name"]) (fun _ _ _ _ _ _ us hl => el2 us hl fun _ _ => rfl),
   (funD_mk (st := s_c_Ask___init) h1u h1v h1w h1x),
   (funD_mk (st := s_c_Ask___init) h1u h1v h1w h1x).binds (fun T _ _ _ _ _ _ us M A E Q s to n ht hc hd hl hq => el3 us (app_len (m := 3) hl rfl) (fun _ _ _ hq => BindsTo.of_defaults rfl ht hd rfl rfl M A E Q hq) hq),
   .cons rfl (.nil),
   fun_mk (st := s_c_Sheet___init) h1z h20 h21,
   (fun_mk (st := s_c_Sheet___init) h1z h20 h21).binds (ps := ["self", "name", "each", "rows", "ways"]) (fun _ _ _ _ _ _ us hl => el5 us hl fun _ _ _ _ _ => rfl),
   fun_mk (st := s_c_Paper___init) h23 h24 h25,
   (fun_mk (st := s_c_Paper___init) h23 h24 h25).binds (ps := ["self", "name", "sheets", "totals"]) (fun _ _ _ _ _ _ us hl => el4 us hl fun _ _ _ _ => rfl),
   fun_mk (st := s_kinds_of) h27 h28 h29,
   (fun_mk (st := s_kinds_of) h27 h28 h29).binds (ps := ["paper"]) (fun _ _ _ _ _ _ us hl => el1 us hl fun _ => rfl),
   h29,
   W.mg_of X G h26,
   fun_mk (st := s_eaches_of) h2b h2c h2d,
   (fun_mk (st := s_eaches_of) h2b h2c h2d).binds (ps := ["paper"]) (fun _ _ _ _ _ _ us hl => el1 us hl fun _ => rfl),
   h2d,
   W.mg_of X G h2a,
   fun_mk (st := s_without_leads) h2f h2g h2h,
   (fun_mk (st := s_without_leads) h2f h2g h2h).binds (ps := ["page"]) (fun _ _ _ _ _ _ us hl => el1 us hl fun _ => rfl),
   h2h,
   W.mg_of X G h2e,
   fun_mk (st := s_leads_of) h2j h2k h2l,
   (fun_mk (st := s_leads_of) h2j h2k h2l).binds (ps := ["page"]) (fun _ _ _ _ _ _ us hl => el1 us hl fun _ => rfl),
   h2l,
   W.mg_of X G h2i,
   fun_mk (st := s_c_PageMaker___init) h2n h2o h2p,
   (fun_mk (st := s_c_PageMaker___init) h2n h2o h2p).binds (ps := ["self", "paper"]) (fun _ _ _ _ _ _ us hl => el2 us hl fun _ _ => rfl),
   fun_mk (st := s_c_PageMaker_put) h2r h2s h2t,
   (fun_mk (st := s_c_PageMaker_put) h2r h2s h2t).binds (ps := ["self", "page"]) (fun _ _ _ _ _ _ us hl => el2 us hl fun _ _ => rfl),
   fun_mk (st := s_c_PageMaker_put_saying) h2v h2w h2x,
   (fun_mk (st := s_c_PageMaker_put_saying) h2v h2w h2x).binds (ps := ["self", "saying", "yes", "no"]) (fun _ _ _ _ _ _ us hl => el4 us hl fun _ _ _ _ => rfl),
   fun_mk (st := s_c_PageMaker_put_row) h2z h30 h31,
   (fun_mk (st := s_c_PageMaker_put_row) h2z h30 h31).binds (ps := ["self", "row", "each", "behind"]) (fun _ _ _ _ _ _ us hl => el4 us hl fun _ _ _ _ => rfl),
   fun_mk (st := s_c_PageMaker_put_rows) h33 h34 h35,
   (fun_mk (st := s_c_PageMaker_put_rows) h33 h34 h35).binds (ps := ["self", "sheet", "behind"]) (fun _ _ _ _ _ _ us hl => el3 us hl fun _ _ _ => rfl),
   fun_mk (st := s_c_PageMaker_put_sheet) h37 h38 h39,
   (fun_mk (st := s_c_PageMaker_put_sheet) h37 h38 h39).binds (ps := ["self", "sheet", "starts", "behind"]) (fun _ _ _ _ _ _ us hl => el4 us hl fun _ _ _ _ => rfl),
   fun_mk (st := s_c_PageMaker_put_all) h3b h3c h3d,
   (fun_mk (st := s_c_PageMaker_put_all) h3b h3c h3d).binds (ps := ["self"]) (fun _ _ _ _ _ _ us hl => el1 us hl fun _ => rfl),
   fun_mk (st := s_reached_from) h3f h3g h3h,
   (fun_mk (st := s_reached_from) h3f h3g h3h).binds (ps := ["pages", "start"]) (fun _ _ _ _ _ _ us hl => el2 us hl fun _ _ => rfl),
   h3h,
   W.mg_of X G h3e,
   fun_mk (st := s_pages_of) h3j h3k h3l,
   (fun_mk (st := s_pages_of) h3j h3k h3l).binds (ps := ["paper"]) (fun _ _ _ _ _ _ us hl => el1 us hl fun _ => rfl),
   h3l,
   W.mg_of X G h3i,
   fun_mk (st := s_c_Run___init) h3n h3o h3p,
   (fun_mk (st := s_c_Run___init) h3n h3o h3p).binds (ps := ["self", "book"]) (fun _ _ _ _ _ _ us hl => el2 us hl fun _ _ => rfl),
   fun_mk (st := s_c_Run_thing_by) h3r h3s h3t,
   (fun_mk (st := s_c_Run_thing_by) h3r h3s h3t).binds (ps := ["self", "each"]) (fun _ _ _ _ _ _ us hl => el2 us hl fun _ _ => rfl),
   fun_mk (st := s_c_Run_take_ask) h3v h3w h3x,
   (fun_mk (st := s_c_Run_take_ask) h3v h3w h3x).binds (ps := ["self", "question", "kind", "each", "behind"]) (fun _ _ _ _ _ _ us hl => el5 us hl fun _ _ _ _ _ => rfl),
   fun_mk (st := s_c_Run_take_page) h3z h40 h41,
   (fun_mk (st := s_c_Run_take_page) h3z h40 h41).binds (ps := ["self", "page"]) (fun _ _ _ _ _ _ us hl => el2 us hl fun _ _ => rfl),
   fun_mk (st := s_run) h43 h44 h45,
   (fun_mk (st := s_run) h43 h44 h45).binds (ps := ["pages", "book"]) (fun _ _ _ _ _ _ us hl => el2 us hl fun _ _ => rfl),
   h45,
   W.mg_of X G h42,
   fun_mk (st := s_law_cell) h47 h48 h49,
   (fun_mk (st := s_law_cell) h47 h48 h49).binds (ps := ["_law_script", "_law_k"]) (fun _ _ _ _ _ _ us hl => el2 us hl fun _ _ => rfl),
   h49,
   W.mg_of X G h46,
   fun_mk (st := s_law_name) h4b h4c h4d,
   (fun_mk (st := s_law_name) h4b h4c h4d).binds (ps := ["_law_script", "_law_k"]) (fun _ _ _ _ _ _ us hl => el2 us hl fun _ _ => rfl),
   h4d,
   W.mg_of X G h4a,
   fun_mk (st := s_law_sheets) h4f h4g h4h,
   (fun_mk (st := s_law_sheets) h4f h4g h4h).binds (ps := ["_law_script"]) (fun _ _ _ _ _ _ us hl => el1 us hl fun _ => rfl),
   h4h,
   W.mg_of X G h4e,
   fun_mk (st := s_law_told) h4j h4k h4l,
   (fun_mk (st := s_law_told) h4j h4k h4l).binds (ps := ["_law_pages"]) (fun _ _ _ _ _ _ us hl => el1 us hl fun _ => rfl),
   h4l,
   W.mg_of X G h4i,
   fun_mk (st := s_law) h4n h4o h4p,
   W.mg_of X G h4m,
   ⟨_, W.mg_of X G h4q, _, rfl⟩,
   W.mg_of X G h4r,
   tabI_mk h4s h4t h4u h4v h4w h4x,
   W.mg_none_of X G h4y,
   W.mg_none_of X G h4z,
   W.mg_none_of X G h50,
   W.mg_none_of X G h51,
   W.mg_none_of X G h52,
   W.mg_none_of X G h53,
   W.mg_none_of X G h54,
   W.mg_none_of X G h55,
   W.mg_none_of X G h56,
   W.mg_none_of X G h57,
   W.mg_none_of X G h58,
   W.mg_none_of X G h59,
   L2.kit_ty (by symm),
   L2.kit_ty (by symm),
   L2.kit_ty (by symm),
   L2.kit_ty (by symm),
   L2.kit_ty (by symm),
   L2.kit_ty (by symm),
   L2.kit_ty (by symm),
   W.mg_of X G h5a,
   ⟨_, W.mg_of X G h5a, rfl⟩,
   W.mg_of X G h5c,
   W.mg_of X G h5d,
   W.mg_of X G h5e,
   W.mg_of X G h5f,
   W.mg_of X G h5g,
   W.mg_of X G h5h,
   W.mg_of X G h5i,
   h5l,
   exm_ref h5m h5j h5k h5n,
   kit_self,
   ⟨h5o, h5p, h5q, h5r⟩,
   ⟨h5s, h5t, h5u, h5v⟩,
   ⟨h5w, h5x, h0w⟩,
   ⟨h5y, h5z, h18⟩,
   ⟨h60, h61, h14⟩,
   ⟨h62, h63, h0s⟩,
   ⟨h64, h65, h10⟩,
   h66,
   h67,
   ⟨h68, h69, h6a, h6b⟩,
   fun _ _ _ _ e => .ins e ⟨h68, h69, h6a, h6b⟩ h6c h6d h6e h6f,
   ⟨h6g, h6h, h6i, h6j⟩,
   h6k,
   h6l,
   h6m,
   ⟨h6n, h6o, h6p, h6q⟩,
   ⟨h6r, h6s, h6t, h6u⟩,
   h6v,
   h6w,
   h6x,
   h6y,
   ⟨h6z, h70, h71, h72⟩,
   ⟨h73, h74, h75, h76⟩,
   h77,
   h78,
   h79,
   ⟨h7a, h7b, h7c, h7d⟩,
   ⟨h7e, h7f, h7g, h7h⟩,
   ⟨h7i, h7j, h2t⟩,
   ⟨h7k, h7l, h2x⟩,
   ⟨h7m, h7n, h31⟩,
   ⟨h7o, h7p, h35⟩,
   ⟨h7q, h7r, h39⟩,
   ⟨h7s, h7t, h3d⟩,
   h7u,
   h7v,
   h7w,
   h7x,
   ⟨h7y, h7z, h80, h81⟩,
   ⟨h82, h83, h84, h85⟩,
   ⟨h86, h87, h3t⟩,
   ⟨h88, h89, h3x⟩,
   ⟨h8a, h8b, h41⟩,
   h8c,
   h8d,
   h8e,
   h8f,
   h8g,
   ⟨h8h, h8i, h8j, h1s⟩⟩⟩
theorem walk {l : W.OpenLaw} {q : Program} {loose : List Str} {XP : (Str → Option Value) → Heap → Prop} {YP : World → Heap → Prop} {d : DefRec} {K : Params → W.Frag} (hn : l.most = some 63) (hdf : d.params.defaults = []) (hnm : d.name = "law")
   (hY : ∀ (w : World) (h : Heap), YP w h → (K w.params).In h)
   (F : ∀ (w : World) (mg : Str → Option Value) (h : Heap), (K w.params).In h → h.Ns mainGlobals mg → ∃ A : Adr, Txt (K w.params) mg A) :
   W.WalkO q loose XP YP l.row.toRowW d [] (fun f vs => PySem.call f vs) := by
 refine L2.walk_ofB (n := 63) (k := 40) (x := "_law_script") (CX := fun _ => CX0) (sp := fun w => sp_law (K w.params)) hn (by decide) hdf ⟨rfl, by decide, by decide⟩ hY (fun w mg fa h KX G hmg => ?_) (fun w H a ns hl hb _ hS => ⟨a, ns, rfl, hS, hl, hb, fun _ => rfl⟩) fun _ _ _ _ _ z => z
 obtain ⟨A, T⟩ := F w mg h KX G
 rw [hnm] at hmg
 have e := hmg.symm.trans T.m_law
 cases e
 obtain ⟨oc, od, kV, doc, pm, an, cdv, ct, osl, efd, lk, hcd⟩ := id T.F_law.ex
 exact ⟨A.d_law, fun s v => by rw [efd]; exact .of_eq rfl, fun base _ _ => ok_law T⟩
end K71
open PySem PySem.W PyProof.Rows
set_option maxRecDepth 100000 in
set_option maxHeartbeats 0 in
theorem PySem.Challenge.cw_askpaper_k71_pages_of_plain_papers_holds : PySem.Challenge.rw_askpaper_k71_pages_of_plain_papers.Holds := by
 refine PySem.Challenge.hd71 ?_
 k_fill
 refine K71.walk (l := PySem.Challenge.rw_askpaper_k71_pages_of_plain_papers) rfl rfl rfl (fun w h Y => W.kIn_of Y) ?F
 case F =>
   intro w mg h KX G
   have T : ∃ A : K71.Adr, K71.Txt (L2.KOf KX) mg A := by
     dsimp only [L2.KOf]
     refine' K71.txt_mk KX G ?h5a ?h5b ?h5c ?h5d ?h5e ?h5f ?h5g ?h5h ?h5i ?h00 ?h01 ?h02 ?h03 ?h04 ?h05 ?h06 ?h07 ?h08 ?h09 ?h0a ?h0b ?h0c ?h0d ?h0e ?h0f ?h0g ?h0h ?h0i ?h0j ?h0k ?h0l ?h0m ?h0n ?h0o ?h0p ?h0q ?h0r ?h0s ?h0t ?h0u ?h0v ?h0w ?h0x ?h0y ?h0z ?h10 ?h11 ?h12 ?h13 ?h14 ?h15 ?h16 ?h17 ?h18 ?h19 ?h1a ?h1b ?h1c ?h1d ?h1e ?h1f ?h1g ?h1h ?h1i ?h1j ?h1k ?h1l ?h1m ?h1n ?h1o ?h1p ?h1q ?h1r ?h1s ?h1t ?h1u ?h1v ?h1w ?h1x ?h1y ?h1z ?h20 ?h21 ?h22 ?h23 ?h24 ?h25 ?h26 ?h27 ?h28 ?h29 ?h2a ?h2b ?h2c ?h2d ?h2e ?h2f ?h2g ?h2h ?h2i ?h2j ?h2k ?h2l ?h2m ?h2n ?h2o ?h2p ?h2q ?h2r ?h2s ?h2t ?h2u ?h2v ?h2w ?h2x ?h2y ?h2z ?h30 ?h31 ?h32 ?h33 ?h34 ?h35 ?h36 ?h37 ?h38 ?h39 ?h3a ?h3b ?h3c ?h3d ?h3e ?h3f ?h3g ?h3h ?h3i ?h3j ?h3k ?h3l ?h3m ?h3n ?h3o ?h3p ?h3q ?h3r ?h3s ?h3t ?h3u ?h3v ?h3w ?h3x ?h3y ?h3z ?h40 ?h41 ?h42 ?h43 ?h44 ?h45 ?h46 ?h47 ?h48 ?h49 ?h4a ?h4b ?h4c ?h4d ?h4e ?h4f ?h4g ?h4h ?h4i ?h4j ?h4k ?h4l ?h4m ?h4n ?h4o ?h4p ?h4q ?h4r ?h4s ?h4t ?h4u ?h4v ?h4w ?h4x ?h4y ?h4z ?h50 ?h51 ?h52 ?h53 ?h54 ?h55 ?h56 ?h57 ?h58 ?h59 ?h5j ?h5k ?h5l ?h5m ?h5n ?h5o ?h5p ?h5q ?h5r ?h5s ?h5t ?h5u ?h5v ?h5w ?h5x ?h5y ?h5z ?h60 ?h61 ?h62 ?h63 ?h64 ?h65 ?h66 ?h67 ?h68 ?h69 ?h6a ?h6b ?h6c ?h6d ?h6e ?h6f ?h6g ?h6h ?h6i ?h6j ?h6k ?h6l ?h6m ?h6n ?h6o ?h6p ?h6q ?h6r ?h6s ?h6t ?h6u ?h6v ?h6w ?h6x ?h6y ?h6z ?h70 ?h71 ?h72 ?h73 ?h74 ?h75 ?h76 ?h77 ?h78 ?h79 ?h7a ?h7b ?h7c ?h7d ?h7e ?h7f ?h7g ?h7h ?h7i ?h7j ?h7k ?h7l ?h7m ?h7n ?h7o ?h7p ?h7q ?h7r ?h7s ?h7t ?h7u ?h7v ?h7w ?h7x ?h7y ?h7z ?h80 ?h81 ?h82 ?h83 ?h84 ?h85 ?h86 ?h87 ?h88 ?h89 ?h8a ?h8b ?h8c ?h8d ?h8e ?h8f ?h8g ?h8h ?h8i ?h8j
     (case h5a|h5b|h5c|h5d|h5e|h5f|h5g|h5h|h5i|h00|h01|h02|h03|h04|h05|h06|h07|h08|h09|h0a|h0b|h0c|h0d|h0e|h0f|h0g|h0h|h0i|h0j|h0k|h0l|h0m|h0n|h0o|h0p|h0q|h0r|h0s|h0t|h0u|h0v|h0w|h0x|h0y|h0z|h10|h11|h12|h13|h14|h15|h16|h17|h18|h19|h1a|h1b|h1c|h1d|h1e|h1f|h1g|h1h|h1i|h1j|h1k|h1l|h1m|h1n|h1o|h1p|h1q|h1r|h1s|h1t|h1u|h1v|h1w|h1x|h1y|h1z|h20|h21|h22|h23|h24|h25|h26|h27|h28|h29|h2a|h2b|h2c|h2d|h2e|h2f|h2g|h2h|h2i|h2j|h2k|h2l|h2m|h2n|h2o|h2p|h2q|h2r|h2s|h2t|h2u|h2v|h2w|h2x|h2y|h2z|h30|h31|h32|h33|h34|h35|h36|h37|h38|h39|h3a|h3b|h3c|h3d|h3e|h3f|h3g|h3h|h3i|h3j|h3k|h3l|h3m|h3n|h3o|h3p|h3q|h3r|h3s|h3t|h3u|h3v|h3w|h3x|h3y|h3z|h40|h41|h42|h43|h44|h45|h46|h47|h48|h49|h4a|h4b|h4c|h4d|h4e|h4f|h4g|h4h|h4i|h4j|h4k|h4l|h4m|h4n|h4o|h4p|h4q|h4r|h4s => k_is)
     (case h4t => rfl)
     (case h4u => rfl)
     (case h4v => rfl)
     (case h4w => rfl)
     (case h4x => exact .cons rfl ⟨_, rfl⟩ (.cons rfl ⟨_, rfl⟩ (.cons rfl ⟨_, rfl⟩ (.cons rfl ⟨_, rfl⟩ (.cons rfl ⟨_, rfl⟩ (.cons rfl ⟨_, rfl⟩ (.cons rfl ⟨_, rfl⟩ (.cons rfl ⟨_, rfl⟩ (.cons rfl ⟨_, rfl⟩ (.cons rfl ⟨_, rfl⟩ (.nil)))))))))))
     (case h4y|h4z|h50|h51|h52|h53|h54|h55|h56|h57|h58|h59|h5j|h5k => k_is)
     (case h5l => k_exc)
     (case h5m|h5n|h5o|h5p|h5q|h5r|h5s|h5t|h5u|h5v|h5w|h5x|h5y|h5z|h60|h61|h62|h63|h64|h65|h66|h67|h68|h69|h6a|h6b|h6c|h6d|h6e|h6f|h6g|h6h|h6i|h6j|h6k|h6l|h6m|h6n|h6o|h6p|h6q|h6r|h6s|h6t|h6u|h6v|h6w|h6x|h6y|h6z|h70|h71|h72|h73|h74|h75|h76|h77|h78|h79|h7a|h7b|h7c|h7d|h7e|h7f|h7g|h7h|h7i|h7j|h7k|h7l|h7m|h7n|h7o|h7p|h7q|h7r|h7s|h7t|h7u|h7v|h7w|h7x|h7y|h7z|h80|h81|h82|h83|h84|h85|h86|h87|h88|h89|h8a|h8b|h8c|h8d|h8e|h8f|h8g|h8h|h8i|h8j => k_is)
   exact T
