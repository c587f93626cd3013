import PyProof.Rows.All
import OpenK.KLine
import OpenK.KWalk
import OpenK.KRaise
import Open.Line
import Wide.Line
import KE.IntBitsLaws
import KE.KIsAll
import KE.KTryMore
import KE.KNest
import KE.KLam
import Wide.FinOn
import Lean
import PyProof.EqAt
import PyProof.EqKinds
import PyProof.TupleCall
import PyProof.ZipIter
import PyProof.Rows.ZipGen
import PyProof.EnumMake
import PyProof.EnumFor
import PyProof.EnumStmt
import KE.KDictOf
import PyProof.AttrMissHeap
import PyProof.NeKinds
import KE.KItem
import KE.KDictSum
import KE.KSortTup
import KE.KEqDict
import KE.KRevSl
import KE.KTabExpr
import PySem.Challenge.RW_askpaper_k16_settled
local macro_rules | `(tactic| symm) => `(tactic| decide +kernel)
set_option Elab.async false
set_option linter.all false
set_option maxRecDepth 100000
namespace PySem.W.Fast
def tw10001644220104323700 := ()
def tw10067353937382581575 := ()
def tw10190457167200437914 := ()
def tw10202652841940443022 := ()
def tw10207531727052105195 := ()
def tw1021187300005744468 := ()
def tw1029217917127531240 := ()
def tw10316679566061939052 := ()
def tw10332283622607148850 := ()
def tw10354932083218356502 := ()
def tw10397731171135515 := ()
def tw10665438411731615332 := ()
def tw10723620442641576117 := ()
def tw10810754511897020842 := ()
def tw11060457054279211250 := ()
def tw1108894328537213538 := ()
def tw11268495073170050036 := ()
def tw11308276298192107239 := ()
def tw11326009739682917064 := ()
def tw11458263789406946022 := ()
def tw115266370995630935 := ()
def tw11582427732699181858 := ()
def tw11657225907562004592 := ()
def tw11705345846656634312 := ()
def tw11841450782794901723 := ()
def tw11843522643975506874 := ()
def tw11875116276118516053 := ()
def tw11954778825524652356 := ()
def tw12051567688275634168 := ()
def tw12122433428399468246 := ()
def tw12204583384330667831 := ()
def tw12211365405633234616 := ()
def tw12218291601990358395 := ()
def tw12370836326786240304 := ()
def tw12467103877564947443 := ()
def tw12547064313814915536 := ()
def tw12638959259151821753 := ()
def tw12684244131011419331 := ()
def tw12698308223339586758 := ()
def tw12702243128448269997 := ()
def tw12818879706917321514 := ()
def tw12868145235269144538 := ()
def tw12898079666021279272 := ()
def tw12924005539362952117 := ()
def tw12935294009159843666 := ()
def tw13122604055306931154 := ()
def tw13173739106574467268 := ()
def tw13193741963396831978 := ()
def tw13310280582244330612 := ()
def tw13318908378331381127 := ()
def tw1337801317986810132 := ()
def tw1353422430619949153 := ()
def tw13587983987240557896 := ()
def tw13595636421336849800 := ()
def tw13612715162066727632 := ()
def tw13620320755727063167 := ()
def tw13643340149214606684 := ()
def tw1364993444652173786 := ()
def tw13849534111196886369 := ()
def tw13928525260732683272 := ()
def tw14022344317000566394 := ()
def tw14026261261325057229 := ()
def tw14080803290392199250 := ()
def tw14149094537821956982 := ()
def tw14149718903837665091 := ()
def tw1429852157830079074 := ()
def tw14329511507617839586 := ()
def tw14387766241774510575 := ()
def tw14606481618193333287 := ()
def tw1464704272572665570 := ()
def tw14777226636827899534 := ()
def tw14861412515481661558 := ()
def tw14865677045762229369 := ()
def tw14901440282532289976 := ()
def tw14966496907864298098 := ()
def tw1508880397055983007 := ()
def tw15090982484537408211 := ()
def tw15098708025353676663 := ()
def tw15159083057400494736 := ()
def tw15261515412093319989 := ()
def tw15458780537345462564 := ()
def tw15472640950970341013 := ()
def tw15558703118385220412 := ()
def tw15770181777192263448 := ()
def tw15799292004609694225 := ()
def tw15895921208863235992 := ()
def tw15908361626177503813 := ()
def tw15954696996528702373 := ()
def tw15964509135484283823 := ()
def tw16095912680287982 := ()
def tw16129219175743986583 := ()
def tw16129949283588877216 := ()
def tw1625533332693209524 := ()
def tw16297831337959989718 := ()
def tw16325632543876806314 := ()
def tw1656145357408817486 := ()
def tw16610774408374393942 := ()
def tw16709272383645963377 := ()
def tw16739777851454519475 := ()
def tw16740935794414428915 := ()
def tw16762285613514519371 := ()
def tw16768039803794232539 := ()
def tw16857340611368182661 := ()
def tw16880109180417925177 := ()
def tw16938129568144385594 := ()
def tw16955562497237880667 := ()
def tw17003211823385837331 := ()
def tw17004083116275990547 := ()
def tw17167494422888722263 := ()
def tw17172852322321890577 := ()
def tw17228777793235457976 := ()
def tw17247881261863949295 := ()
def tw17284392050768386670 := ()
def tw17301632989605446781 := ()
def tw1735839879680014612 := ()
def tw17455842507624422527 := ()
def tw17553733053047137616 := ()
def tw17597794780016392535 := ()
def tw17670574072254819844 := ()
def tw17727041658204553404 := ()
def tw17837097897325979854 := ()
def tw17893129173316565155 := ()
def tw17911943693117761688 := ()
def tw17963243142526698662 := ()
def tw1798124458974693715 := ()
def tw17995982687231488659 := ()
def tw18015072328727661623 := ()
def tw18020159192745855817 := ()
def tw18026117720681231303 := ()
def tw18145975928345147204 := ()
def tw1820224930873697618 := ()
def tw18268273666606299215 := ()
def tw1826968283589033566 := ()
def tw18326570512236328527 := ()
def tw18356693874033737841 := ()
def tw1939487874535147606 := ()
def tw2087608654124770240 := ()
def tw2139085846495051977 := ()
def tw2213271239514633199 := ()
def tw2247833769835616665 := ()
def tw2301843664402805780 := ()
def tw2343331550488337828 := ()
def tw2371441344325445628 := ()
def tw239064971165725989 := ()
def tw242928237338626659 := ()
def tw2507755912221208278 := ()
def tw2507864515668552714 := ()
def tw2596738691087324207 := ()
def tw2652188177046708962 := ()
def tw2814056179821872553 := ()
def tw2894713143464322491 := ()
def tw2922569267360359336 := ()
def tw2929434697288832701 := ()
def tw2959063316208512109 := ()
def tw2973702449405836651 := ()
def tw3006294137095047797 := ()
def tw3082858452956516104 := ()
def tw309117176948769373 := ()
def tw3114385917582931275 := ()
def tw3115865690398639976 := ()
def tw3122261060534620630 := ()
def tw3152847238482448941 := ()
def tw3181713208516154701 := ()
def tw3221114234696029323 := ()
def tw3246469143672345492 := ()
def tw324877298963511049 := ()
def tw3265594735607591305 := ()
def tw3327228409196867319 := ()
def tw3354860092039638644 := ()
def tw3420868865282816531 := ()
def tw3423627900853405711 := ()
def tw3494327444133111516 := ()
def tw3626598369849749218 := ()
def tw3807429683399392957 := ()
def tw3843456976863967117 := ()
def tw3987906989471739925 := ()
def tw4052032236725121787 := ()
def tw4108584243866088384 := ()
def tw4169852721298303272 := ()
def tw4207141592296259463 := ()
def tw4355017559165837765 := ()
def tw439326808539333072 := ()
def tw4470727824958785216 := ()
def tw4556058211163501425 := ()
def tw4598837473471830463 := ()
def tw4615502784075809612 := ()
def tw4656602391886293697 := ()
def tw4748170623628691662 := ()
def tw4755097150686993162 := ()
def tw4828323545359781486 := ()
def tw491285056004465087 := ()
def tw5042920754629042210 := ()
def tw5149607386521692871 := ()
def tw5302345703131082077 := ()
def tw536635310567821743 := ()
def tw5382823601872571731 := ()
def tw5476553861095985764 := ()
def tw5553243737962842755 := ()
def tw5591217112914290810 := ()
def tw5592500352007433346 := ()
def tw5671014528683432295 := ()
def tw5700016445912807854 := ()
def tw5747314816708455654 := ()
def tw5817822075493769899 := ()
def tw5844249622657162527 := ()
def tw5866101457149409080 := ()
def tw5870421260963464154 := ()
def tw5911848011048394611 := ()
def tw5958456116481652402 := ()
def tw6075757261555189062 := ()
def tw6183551737600680810 := ()
def tw6189416679015500718 := ()
def tw6236167837499202233 := ()
def tw6281527995450472209 := ()
def tw6391275191292535335 := ()
def tw6408596250371853095 := ()
def tw6416347865839558943 := ()
def tw6424350638917988179 := ()
def tw6450661096465283284 := ()
def tw6455746578717111813 := ()
def tw6581106604792097089 := ()
def tw6695052143811973093 := ()
def tw6774726312446661862 := ()
def tw6816290176821065775 := ()
def tw6821455681195703767 := ()
def tw6827173896560424493 := ()
def tw6834107970973518854 := ()
def tw6838234855952373376 := ()
def tw6873125321025313042 := ()
def tw6908533361362677586 := ()
def tw6978332059175099248 := ()
def tw7039275777442342311 := ()
def tw7056802148825775642 := ()
def tw7121069745253157383 := ()
def tw7203523693481884955 := ()
def tw7238893973608439370 := ()
def tw7280371220184204200 := ()
def tw7285053096220763402 := ()
def tw7291474699869999035 := ()
def tw730420461737421161 := ()
def tw7370299316852467781 := ()
def tw7412575894323670970 := ()
def tw7422780688975369888 := ()
def tw752847805226404139 := ()
def tw7540366509369219634 := ()
def tw7562742712615879355 := ()
def tw7574950611810706721 := ()
def tw7702058559804552955 := ()
def tw7935004658532718354 := ()
def tw7999323038800002923 := ()
def tw814791555420506017 := ()
def tw8157927106891708969 := ()
def tw8205238948844014085 := ()
def tw8260962316309511205 := ()
def tw8265652617042847067 := ()
def tw8420123383239181819 := ()
def tw8421183144790439482 := ()
def tw8695042503325549215 := ()
def tw8933034589209700928 := ()
def tw8953931120142476287 := ()
def tw8960225636955569803 := ()
def tw9112162990541710911 := ()
def tw9198323008229154689 := ()
def tw9219929236547869744 := ()
def tw9221583816348889003 := ()
def tw9224630681546353621 := ()
def tw9331711393461019879 := ()
def tw9340411190152523382 := ()
def tw9435661848003799205 := ()
def tw9495689987312084860 := ()
def tw9705551250812738692 := ()
def tw9762985244555422623 := ()
def tw9949974238577472942 := ()
end PySem.W.Fast
section
namespace Hk
open PySem PySem.W
theorem chs {α β : Type} {f : β → α} {l : List β} {γ : Type} {g : γ → α} {l2 : List γ} {n m k : Nat} (h1 : ((l.drop n).take m).map f = ((l2.drop n).take m).map g) (hk : n + m = k) (h2 : (l.drop k).map f = (l2.drop k).map g) : (l.drop n).map f = (l2.drop n).map g := by
  subst hk
  rw [← List.take_append_drop m (l.drop n), ← List.take_append_drop m (l2.drop n), List.map_append, List.map_append, h1, List.drop_drop, List.drop_drop, h2]
theorem ch {K : Params → Frag} {as : List Addr} (e : ∀ P, as = (K P).map (·.1)) (w : World) (s : Shared) (x : ((((((as.drop 0).take 70).map s.heap.get?, ((as.drop 70).take 70).map s.heap.get?), (((as.drop 140).take 70).map s.heap.get?, ((as.drop 210).take 70).map s.heap.get?)), ((((as.drop 280).take 70).map s.heap.get?, ((as.drop 350).take 70).map s.heap.get?), (((as.drop 420).take 70).map s.heap.get?, ((as.drop 490).take 70).map s.heap.get?))), (((((as.drop 560).take 70).map s.heap.get?, ((as.drop 630).take 70).map s.heap.get?), (((as.drop 700).take 70).map s.heap.get?, ((as.drop 770).take 70).map s.heap.get?)), ((((as.drop 840).take 70).map s.heap.get?, ((as.drop 910).take 70).map s.heap.get?), (((as.drop 980).take 70).map s.heap.get?, (as.drop 1050).map s.heap.get?)))) = (((((((K w.params).drop 0).take 70).map (fun p => some p.2), (((K w.params).drop 70).take 70).map (fun p => some p.2)), ((((K w.params).drop 140).take 70).map (fun p => some p.2), (((K w.params).drop 210).take 70).map (fun p => some p.2))), (((((K w.params).drop 280).take 70).map (fun p => some p.2), (((K w.params).drop 350).take 70).map (fun p => some p.2)), ((((K w.params).drop 420).take 70).map (fun p => some p.2), (((K w.params).drop 490).take 70).map (fun p => some p.2)))), ((((((K w.params).drop 560).take 70).map (fun p => some p.2), (((K w.params).drop 630).take 70).map (fun p => some p.2)), ((((K w.params).drop 700).take 70).map (fun p => some p.2), (((K w.params).drop 770).take 70).map (fun p => some p.2))), (((((K w.params).drop 840).take 70).map (fun p => some p.2), (((K w.params).drop 910).take 70).map (fun p => some p.2)), ((((K w.params).drop 980).take 70).map (fun p => some p.2), ((K w.params).drop 1050).map (fun p => some p.2)))))) : InK K w s.heap := by
  simp only [Prod.mk.injEq] at x
  obtain ⟨⟨⟨⟨x0, x1⟩, ⟨x2, x3⟩⟩, ⟨⟨x4, x5⟩, ⟨x6, x7⟩⟩⟩, ⟨⟨⟨x8, x9⟩, ⟨x10, x11⟩⟩, ⟨⟨x12, x13⟩, ⟨x14, x15⟩⟩⟩⟩ := x
  have y15 := x15
  have y14 := chs x14 (by decide) y15
  have y13 := chs x13 (by decide) y14
  have y12 := chs x12 (by decide) y13
  have y11 := chs x11 (by decide) y12
  have y10 := chs x10 (by decide) y11
  have y9 := chs x9 (by decide) y10
  have y8 := chs x8 (by decide) y9
  have y7 := chs x7 (by decide) y8
  have y6 := chs x6 (by decide) y7
  have y5 := chs x5 (by decide) y6
  have y4 := chs x4 (by decide) y5
  have y3 := chs x3 (by decide) y4
  have y2 := chs x2 (by decide) y3
  have y1 := chs x1 (by decide) y2
  have y0 := chs x0 (by decide) y1
  exact InK.of e w s y0
end Hk
open Lean in
local macro_rules
  | `($f:ident $h:term) => do
    let n := f.getId.eraseMacroScopes
    unless n == `Hook.obs || n == `Hook.val || n == `Hook.of do Macro.throwUnsupported
    match h with
    | `(($g:ident $k $a $e)) =>
      unless g.getId.eraseMacroScopes == `kHook do Macro.throwUnsupported
      if n == `Hook.obs then `(fun (s : PySem.Shared) => ((((((($a).drop 0).take 70).map s.heap.get?, ((($a).drop 70).take 70).map s.heap.get?), (((($a).drop 140).take 70).map s.heap.get?, ((($a).drop 210).take 70).map s.heap.get?)), ((((($a).drop 280).take 70).map s.heap.get?, ((($a).drop 350).take 70).map s.heap.get?), (((($a).drop 420).take 70).map s.heap.get?, ((($a).drop 490).take 70).map s.heap.get?))), (((((($a).drop 560).take 70).map s.heap.get?, ((($a).drop 630).take 70).map s.heap.get?), (((($a).drop 700).take 70).map s.heap.get?, ((($a).drop 770).take 70).map s.heap.get?)), ((((($a).drop 840).take 70).map s.heap.get?, ((($a).drop 910).take 70).map s.heap.get?), (((($a).drop 980).take 70).map s.heap.get?, (($a).drop 1050).map s.heap.get?)))))
      else if n == `Hook.val then `(fun (w : PySem.World) => (((((((($k) w.params).drop 0).take 70).map (fun p => some p.2), (((($k) w.params).drop 70).take 70).map (fun p => some p.2)), ((((($k) w.params).drop 140).take 70).map (fun p => some p.2), (((($k) w.params).drop 210).take 70).map (fun p => some p.2))), (((((($k) w.params).drop 280).take 70).map (fun p => some p.2), (((($k) w.params).drop 350).take 70).map (fun p => some p.2)), ((((($k) w.params).drop 420).take 70).map (fun p => some p.2), (((($k) w.params).drop 490).take 70).map (fun p => some p.2)))), ((((((($k) w.params).drop 560).take 70).map (fun p => some p.2), (((($k) w.params).drop 630).take 70).map (fun p => some p.2)), ((((($k) w.params).drop 700).take 70).map (fun p => some p.2), (((($k) w.params).drop 770).take 70).map (fun p => some p.2))), (((((($k) w.params).drop 840).take 70).map (fun p => some p.2), (((($k) w.params).drop 910).take 70).map (fun p => some p.2)), ((((($k) w.params).drop 980).take 70).map (fun p => some p.2), ((($k) w.params).drop 1050).map (fun p => some p.2))))))
      else `(Hk.ch (K := $k) (as := $a) $e)
    | _ => Macro.throwUnsupported
open PySem PySem.W PyProof.Rows
set_option maxHeartbeats 0 in
open_top PySem.Challenge.hd16 for PySem.Challenge.rw_askpaper_k16_settled
end
namespace L2
open PySem PySem.Spec PyProof.Rows
abbrev Key := Sum Int Str
def keyIs : Key → Value → Bool
 | .inl k, v => Value.isInt k v
 | .inr x, v => Value.isStrOf x v
def keyH (w : World) : Key → Int
 | .inl k => hashInt k
 | .inr x => hashStr w x
theorem yJ : ∀ {k : Key} {v : Value}, keyIs k v = true → (∃ i t, k = Sum.inl i ∧ v = Value.int i t) ∨ (∃ x t, k = Sum.inr x ∧ v = Value.str x t)
 | .inl i, v, h => by
   obtain ⟨t, e⟩ := Value.isInt_shape (k := i) (v := v) h
   exact .inl ⟨i, t, rfl, e⟩
 | .inr x, v, h => by
   obtain ⟨t, e⟩ := Value.isStrOf_shape (x := x) (v := v) h
   exact .inr ⟨x, t, rfl, e⟩
theorem keyIs_int (i : Int) (t : Tok) : keyIs (.inl i) (.int i t) = true := by simp [keyIs, Value.isInt]
theorem keyIs_str (x : Str) (t : Tok) : keyIs (.inr x) (.str x t) = true := by simp [keyIs, Value.isStrOf]
theorem key_ll (a b : Int) : decide ((Sum.inl a : Key) = Sum.inl b) = (a == b) := by
 by_cases e : a = b
 · subst e; simp
 · have h : ¬ (Sum.inl a : Key) = Sum.inl b := fun q => e (Sum.inl.inj q)
   rw [decide_eq_false h]
   exact (beq_eq_false_iff_ne.mpr e).symm
theorem key_rr (a b : Str) : decide ((Sum.inr a : Key) = Sum.inr b) = decide (a = b) := by
 by_cases e : a = b
 · subst e; simp
 · have h : ¬ (Sum.inr a : Key) = Sum.inr b := fun q => e (Sum.inr.inj q)
   rw [decide_eq_false h, decide_eq_false e]
theorem key_lr (a : Int) (b : Str) : decide ((Sum.inl a : Key) = Sum.inr b) = false := decide_eq_false (fun q => nomatch q)
theorem key_rl (a : Str) (b : Int) : decide ((Sum.inr a : Key) = Sum.inl b) = false := decide_eq_false (fun q => nomatch q)
def mixKind (prog : Program) (w : World) : PySem.KeyKind prog w Key where
 is := keyIs
 hash := keyH w
 inj := fun v a b ha hb => by
   rcases yJ ha with ⟨i, t, rfl, rfl⟩ | ⟨x, t, rfl, rfl⟩
   · rcases yJ hb with ⟨j, u, rfl, e⟩ | ⟨y, u, rfl, e⟩
     · injection e with e1 _; rw [e1]
     · exact nomatch e
   · rcases yJ hb with ⟨j, u, rfl, e⟩ | ⟨y, u, rfl, e⟩
     · exact nomatch e
     · injection e with e1 _; rw [e1]
 byValue := fun k v h => by
   rcases yJ h with ⟨i, t, rfl, rfl⟩ | ⟨x, t, rfl, rfl⟩ <;> rfl
 pyHash := fun hv h => by
   rcases yJ hv with ⟨i, t, rfl, rfl⟩ | ⟨x, t, rfl, rfl⟩
   · exact wpAny_pyHash_int h
   · exact wpAny_pyHash_str h
 eqBool := fun hu hv h => by
   rcases yJ hu with ⟨i, t, rfl, rfl⟩ | ⟨x, t, rfl, rfl⟩
   · rcases yJ hv with ⟨j, u, rfl, rfl⟩ | ⟨y, u, rfl, rfl⟩
     · rw [key_ll] at h; exact wpAny_eqBool_int h
     · rw [key_lr] at h; exact SeqAt.EqAt.int_str i t y u _ _ _ _ h
   · rcases yJ hv with ⟨j, u, rfl, rfl⟩ | ⟨y, u, rfl, rfl⟩
     · rw [key_rl] at h; exact SeqAt.EqAt.str_int x t j u _ _ _ _ h
     · rw [key_rr] at h; exact wpAny_eqBool_str h
 «strs» := fun k x t v h => by
   rcases yJ h with ⟨i, u, rfl, e⟩ | ⟨y, u, rfl, e⟩
   · exact nomatch e
   · injection e with e1 _
     subst e1
     cases v <;> rfl
theorem mixKind_is (prog : Program) (w : World) (k : Key) (v : Value) : (mixKind prog w).is k v = keyIs k v := rfl
theorem mixKind_int (prog : Program) (w : World) (i : Int) (t : Tok) : (mixKind prog w).is (.inl i) (.int i t) = true := keyIs_int i t
theorem mixKind_str (prog : Program) (w : World) (x : Str) (t : Tok) : (mixKind prog w).is (.inr x) (.str x t) = true := keyIs_str x t
end L2
namespace L2
open PySem PySem.Spec PyProof.Rows
inductive V where
 | non | bl (b : Bool) | int (i : Int) | str (x : Str) | byt (b : Array UInt8) | flt (b : UInt64) | ref (a : Addr) | ty (n : String)
 deriving DecidableEq
def RelV : V → Value → Prop
 | .non, u => u = Value.none
 | .bl b, u => u = Value.bool b
 | .int i, u => ∃ t, u = Value.int i t
 | .str x, u => ∃ t, u = Value.str x t
 | .byt b, u => ∃ t, u = Value.bytes b t
 | .flt b, u => ∃ t, u = Value.float b t
 | .ref a, u => u = Value.ref a
 | .ty n, u => u = Value.type n
abbrev Vals : List V → List Value → Prop := Paired RelV
theorem Vals.length {xs : List V} {us : List Value} (r : Vals xs us) : xs.length = us.length := Paired.length r
theorem Vals.get : ∀ {xs : List V} {us : List Value} {i : Nat} {x : V}, Vals xs us → xs[i]? = some x → ∃ u, us[i]? = some u ∧ RelV x u
 | _, _, _, _, .nil, e => by simp at e
 | _, _, 0, _, .cons r _, e => by simp at e; subst e; exact ⟨_, rfl, r⟩
 | _, _, i + 1, x, .cons _ t, e => by
   obtain ⟨u, h1, h2⟩ := Vals.get (i := i) (x := x) t (by simpa using e)
   exact ⟨u, by simpa using h1, h2⟩
theorem Vals.set {x : V} {u : Value} (r : RelV x u) : ∀ {xs : List V} {us : List Value} (i : Nat), Vals xs us → Vals (xs.set i x) (us.set i u)
 | _, _, _, .nil => .nil
 | _, _, 0, .cons _ t => .cons r t
 | _, _, i + 1, .cons q t => .cons q (Vals.set r i t)
theorem Vals.append : ∀ {xs ys : List V} {us ws : List Value}, Vals xs us → Vals ys ws → Vals (xs ++ ys) (us ++ ws)
 | _, _, _, _, .nil, s => s
 | _, _, _, _, .cons r t, s => .cons r (Vals.append t s)
theorem Vals.take : ∀ {xs : List V} {us : List Value} (n : Nat), Vals xs us → Vals (xs.take n) (us.take n)
 | _, _, 0, _ => .nil
 | _, _, _ + 1, .nil => .nil
 | _, _, n + 1, .cons r t => .cons r (Vals.take n t)
theorem Vals.drop : ∀ {xs : List V} {us : List Value} (n : Nat), Vals xs us → Vals (xs.drop n) (us.drop n)
 | _, _, 0, r => r
 | _, _, _ + 1, .nil => .nil
 | _, _, n + 1, .cons _ t => Vals.drop n t
theorem Vals.none_of : ∀ {xs : List V} {us : List Value} {i : Nat}, Vals xs us → xs[i]? = none → us[i]? = none := fun {xs us i} r e => by
 have h1 := r.length
 have h2 : xs.length ≤ i := List.getElem?_eq_none_iff.mp e
 exact List.getElem?_eq_none_iff.mpr (by omega)
def RelO : Option V → Option Value → Prop
 | some v, some u => RelV v u
 | none, none => True
 | _, _ => False
def KV {κ : Type} : List (κ × V) → List (κ × Value) → Prop := Paired fun (p : κ × V) (q : κ × Value) => p.1 = q.1 ∧ RelV p.2 q.2
def kV : Key → V
 | .inl i => .int i
 | .inr x => .str x
inductive HO where
 | lst (xs : List V)
 | tup (xs : List V)
 | dK (kvs : List (Key × V)) | dT (kvs : List (List Key × V))
 | set (S : Int → Bool) (n : Nat)
 | ins (C dx : Addr) (fs : List (Str × V))
 | own (x : Addr)
 | xd (fs : List (Str × V))
 | met (f x : Addr)
 | rng (lo hi : Int)
 | frz (o : Obj) (u : HO)
 | tbl (ps : Array Value)
 | ext (φ : Heap → Prop)
abbrev Hp := Addr → Option HO
def upd (H : Hp) (a : Addr) (o : HO) : Hp := fun b => if b = a then some o else H b
theorem zB {H : Hp} {a : Addr} {o : HO} : upd H a o a = some o := by unfold upd; rw [if_pos rfl]
theorem zJ {H : Hp} {a b : Addr} {o : HO} (h : b ≠ a) : upd H a o b = H b := by unfold upd; rw [if_neg h]
theorem yC {H : Hp} {a : Addr} {o u : HO} : upd (upd H a o) a u = upd H a u := by
 funext b; unfold upd; split <;> rfl
theorem ne_of {H : Hp} {a b : Addr} {o u : HO} (h : H a = some o) (h' : H b = some u) (d : o ≠ u) : a ≠ b := by
 intro e; subst e; rw [h] at h'; exact d (Option.some.inj h')
theorem zN {H : Hp} {a b : Addr} {o : HO} (h : H a = some o) (h' : H b = none) : a ≠ b := by
 intro e; subst e; rw [h] at h'; cases h'
section
variable (P : Program) (w : World)
def ObjOk (H : Hp) (h : Heap) (a : Addr) : HO → Prop
 | .lst xs => xs.length ≤ sizeLine ∧ ∃ (its : List Value) (n : Nat), Vals xs its ∧ h.get? a = some { cls := .type "list", data := .seq its.toArray n }
 | .tup xs => xs.length ≤ sizeLine ∧ ∃ its : List Value, Vals xs its ∧ IsTup h a its.toArray
 | .dK kvs => kvs.length ≤ sizeLine ∧ (a == sysModules) = false ∧ ∃ vs, KV kvs vs ∧ h.DictOf (mixKind P w) a vs
 | .dT kvs => kvs.length ≤ sizeLine ∧ (a == sysModules) = false ∧ ∃ xs : List (List Key × Addr × Value),
     Paired (fun (p : List Key × V) (q : List Key × Addr × Value) => p.1 = q.1 ∧ H q.2.1 = some (.tup (p.1.map kV)) ∧ RelV p.2 q.2.2) kvs xs ∧
     ∃ o es ep, h.get? a = some o ∧ o.ExactDict ∧ o.data = .dict es ep ∧ es.toList = xs.map (entryOfKey (tupleKind (mixKind P w))) ∧ (xs.map (·.1)).Nodup
 | .set S n => h.SetOf (intKind P w) a S n
 | .ins C dx fs => H dx = some (.own a) ∧ fs.length ≤ 1000 ∧ dx ≠ a ∧ h.get? a = some (PySem.W.instObj C dx) ∧
     ∃ mA, h.Ns1 dx mA ∧ (∀ f, RelO (fs.lookup f) (mA f)) ∧ PySem.Within mA (fs.map (·.1))
 | .own _ => ∃ o, h.get? a = some o
 | .xd fs => ∃ mA, h.Ns1 a mA ∧ ∀ f, RelO (fs.lookup f) (mA f)
 | .rng lo hi => ∃ t u v, h.get? a = some { cls := .type "range", data := .fields #[.int lo t, .int hi u, .int 1 v] }
 | .frz o u => h.get? a = some o ∧ ObjOk H h a u
 | .tbl ps => h.get? a = some { cls := .none, data := .fields ps }
 | .met f x => h.get? a = some (PySem.W.methodObj (.ref f) (.ref x))
 | .ext φ => φ h ∧ (∃ o, h.get? a = some o) ∧ ∀ h1 h2 : Heap, φ h1 → (∀ o, h1.get? a = some o → h2.get? a = some o) → φ h2
def HOk (H : Hp) (h : Heap) : Prop := ∀ a o, H a = some o → ObjOk P w H h a o
end
section
variable {P : Program} {w : World} {H H' : Hp} {h h' : Heap} {a : Addr} {o : HO}
theorem ObjOk.lt (x : ObjOk P w H h a o) : a < h.objs.size := by
 cases o with
 | lst xs => obtain ⟨_, _, _, _, e⟩ := x; exact Heap.lt_size e
 | tup xs => obtain ⟨_, _, _, p⟩ := x; exact p.lt
 | dK kvs => obtain ⟨_, _, _, _, o, _, _, e, _⟩ := x; exact Heap.lt_size e
 | dT kvs => obtain ⟨_, _, _, _, o, _, _, e, _⟩ := x; exact Heap.lt_size e
 | set S n => obtain ⟨o, _, _, _, e, _⟩ := x; exact Heap.lt_size e
 | ins C dx fs => obtain ⟨_, _, _, e, _⟩ := x; exact Heap.lt_size e
 | own y => obtain ⟨_, e⟩ := x; exact Heap.lt_size e
 | xd fs => obtain ⟨_, ⟨_, _, _, e, _⟩, _⟩ := x; exact Heap.lt_size e
 | rng lo hi => obtain ⟨_, _, _, e⟩ := x; exact Heap.lt_size e
 | frz ob u => obtain ⟨e, _⟩ := x; exact Heap.lt_size e
 | tbl ps => exact Heap.lt_size (show h.get? a = some _ from x)
 | met f y => exact Heap.lt_size (show h.get? a = some _ from x)
 | ext φ => obtain ⟨_, ⟨_, e⟩, _⟩ := x; exact Heap.lt_size e
theorem Paired.mapP {α β : Type} {F G : α → β → Prop} : ∀ {l₁ : List α} {l₂ : List β}, Paired F l₁ l₂ → (∀ a b, F a b → G a b) → Paired G l₁ l₂
 | _, _, .nil, _ => .nil
 | _, _, .cons r t, f => .cons (f _ _ r) (Paired.mapP t f)
theorem ObjOk.stay (x : ObjOk P w H h a o) (k : ∀ b u, (b = a ∨ H b = some (.own a)) → h.get? b = some u → h'.get? b = some u)
   (ho : ∀ b, H b = some (.own a) → H' b = some (.own a)) (ht : ∀ b xs, H b = some (.tup xs) → H' b = some (.tup xs)) : ObjOk P w H' h' a o := by
 induction o with
 | lst xs => obtain ⟨z, its, n, r, e⟩ := x; exact ⟨z, its, n, r, k _ _ (.inl rfl) e⟩
 | tup xs => obtain ⟨z, its, r, ob, e, c⟩ := x; exact ⟨z, its, r, ob, k _ _ (.inl rfl) e, c⟩
 | dK kvs => obtain ⟨z, y, vs, r, ob, es, ep, e, c⟩ := x; exact ⟨z, y, vs, r, ob, es, ep, k _ _ (.inl rfl) e, c⟩
 | dT kvs =>
   obtain ⟨z, y, xs, r, ob, es, ep, e, c⟩ := x
   exact ⟨z, y, xs, Paired.mapP r fun p q z => ⟨z.1, ht _ _ z.2.1, z.2.2⟩, ob, es, ep, k _ _ (.inl rfl) e, c⟩
 | set S n => obtain ⟨ob, es, ep, t, e, c⟩ := x; exact ⟨ob, es, ep, t, k _ _ (.inl rfl) e, c⟩
 | ins C dx fs =>
   obtain ⟨d, z, ne, e, mA, ⟨od, es, ep, e2, c⟩, r⟩ := x
   exact ⟨ho _ d, z, ne, k _ _ (.inl rfl) e, mA, ⟨od, es, ep, k _ _ (.inr d) e2, c⟩, r⟩
 | own y => obtain ⟨ob, e⟩ := x; exact ⟨ob, k _ _ (.inl rfl) e⟩
 | xd fs => obtain ⟨mA, ⟨od, es, ep, e, c⟩, r⟩ := x; exact ⟨mA, ⟨od, es, ep, k _ _ (.inl rfl) e, c⟩, r⟩
 | rng lo hi => obtain ⟨t, u, v, e⟩ := x; exact ⟨t, u, v, k _ _ (.inl rfl) e⟩
 | frz ob u ih => obtain ⟨e, q⟩ := x; exact ⟨k _ _ (.inl rfl) e, ih q⟩
 | tbl ps =>
   have e : h.get? a = some { cls := .none, data := .fields ps } := x
   show h'.get? a = some { cls := .none, data := .fields ps }
   exact k a _ (.inl rfl) e
 | met f y =>
   have e : h.get? a = some (PySem.W.methodObj (.ref f) (.ref y)) := x
   show h'.get? a = some (PySem.W.methodObj (.ref f) (.ref y))
   exact k a _ (.inl rfl) e
 | ext φ => obtain ⟨p, ⟨o, e⟩, st⟩ := x; exact ⟨st _ _ p fun o q => k _ _ (.inl rfl) q, ⟨o, k _ _ (.inl rfl) e⟩, st⟩
theorem HOk.lt (x : HOk P w H h) (e : H a = some o) : a < h.objs.size := (x a o e).lt
theorem HOk.fresh (x : HOk P w H h) (e : h.objs.size ≤ a) : H a = none := by
 cases q : H a with
 | none => rfl
 | some u => exact absurd (Nat.lt_of_lt_of_le (x.lt q) e) (Nat.lt_irrefl _)
theorem HOk.kept (x : HOk P w H h) (k : ∀ b u, h.get? b = some u → h'.get? b = some u) : HOk P w H h' := fun a o e =>
 (x a o e).stay (fun b u _ q => k b u q) (fun _ q => q) fun _ _ q => q
theorem HOk.laid (x : HOk P w H h) (k : ∀ b u, h.get? b = some u → h'.get? b = some u) (hp : h.objs.size ≤ a) (new : ObjOk P w (upd H a o) h' a o) : HOk P w (upd H a o) h' := fun b u e => by
 have hn := x.fresh hp
 by_cases hb : b = a
 · subst hb; rw [zB] at e; cases e; exact new
 · rw [zJ hb] at e
   exact (x b u e).stay (fun c v _ q => k c v q) (fun c q => by rw [zJ (zN q hn)]; exact q) fun c xs q => by rw [zJ (zN q hn)]; exact q
end
def Rd (H : Hp) (a : Addr) (u : HO) : Prop := H a = some u ∨ ∃ o, H a = some (.frz o u)
theorem Rd.of {H : Hp} {a : Addr} {u : HO} (h : H a = some u) : Rd H a u := .inl h
theorem Rd.ok {P : Program} {w : World} {H : Hp} {h : Heap} {a : Addr} {u : HO} (r : Rd H a u) (x : HOk P w H h) : ObjOk P w H h a u := by
 rcases r with r | ⟨o, r⟩
 · exact x a u r
 · obtain ⟨_, q⟩ := x a _ r
   exact q
def Mut : Option HO → Prop
 | some (.lst _) => True
 | some (.dK _) => True
 | some (.dT _) => True
 | some (.set _ _) => True
 | some (.ins _ _ _) => True
 | some (.ext _) => True
 | _ => False
section
variable {P : Program} {w : World} {H : Hp} {h h' : Heap} {x e : Addr} {o' : HO}
theorem HOk.write (ok : HOk P w H h) (mu : Mut (H x)) (he : e = x ∨ H e = some (.own x)) (k : ∀ b u, b ≠ e → h.get? b = some u → h'.get? b = some u) (heo : ∃ u, h'.get? e = some u)
   (new : ObjOk P w (upd H x o') h' x o') : HOk P w (upd H x o') h' := fun b u q => by
 have nown : ∀ c y, H c = some (.own y) → c ≠ x := fun c y r z => by subst z; rw [r] at mu; exact mu
 have ntup : ∀ c xs, H c = some (.tup xs) → c ≠ x := fun c xs r z => by subst z; rw [r] at mu; exact mu
 by_cases hb : b = x
 · subst hb; rw [zB] at q; cases q; exact new
 · rw [zJ hb] at q
   by_cases hbe : b = e
   · have q' : H b = some (.own x) := by
       rcases he with z | z
       · exact absurd (hbe.trans z) hb
       · rw [hbe]; exact z
     rw [q] at q'; cases q'
     obtain ⟨v, hv⟩ := heo
     exact ⟨v, by rw [hbe]; exact hv⟩
   · refine (ok b u q).stay (fun c v hc r => k c v ?_ r) (fun c r => by rw [zJ (nown c b r)]; exact r) fun c xs r => by rw [zJ (ntup c xs r)]; exact r
     rcases hc with rfl | hc
     · exact hbe
     · rintro rfl
       rcases he with z | z
       · exact nown c b hc z
       · rw [hc] at z; cases z; exact hb rfl
end
structure Un (fs ex : List Addr) (H H' : Hp) (h h' : Heap) : Prop where
 keep : ∀ b o, h.get? b = some o → H b = none → b ∉ fs → b ∉ ex → h'.get? b = some o
 slot : ∀ b o, h.get? b = some o → H b = none → b ∈ fs → b ∉ ex → ∃ sl, h'.get? b = some { o with slots := sl }
 free : ∀ b o, h.get? b = some o → H b = none → b ∉ ex → H' b = none
 there : ∀ b o, h.get? b = some o → b ∉ ex → ∃ o', h'.get? b = some o'
 tups : ∀ b xs, H b = some (.tup xs) → H' b = some (.tup xs)
 frzs : ∀ b o u, H b = some (.frz o u) → H' b = some (.frz o u)
 tbls : ∀ b ps, H b = some (.tbl ps) → ∃ more, H' b = some (.tbl (ps ++ more))
section
variable {fs fs' ex ex' : List Addr} {H H1 H2 : Hp} {h h1 h2 h' : Heap} {a x e : Addr} {o : HO}
theorem Un.any (u : Un fs ex H H1 h h1) {b : Addr} {ob : Obj} (q : h.get? b = some ob) (n : H b = none) (hx : b ∉ ex) : ∃ sl, h1.get? b = some { ob with slots := sl } := by
 by_cases hb : b ∈ fs
 · exact u.slot b ob q n hb hx
 · exact ⟨ob.slots, u.keep b ob q n hb hx⟩
theorem Un.trans (a : Un fs ex H H1 h h1) (b : Un fs ex H1 H2 h1 h2) : Un fs ex H H2 h h2 where
 keep := fun c ob q n hc hx => b.keep c ob (a.keep c ob q n hc hx) (a.free c ob q n hx) hc hx
 slot := fun c ob q n hc hx => by
   obtain ⟨sl, e1⟩ := a.slot c ob q n hc hx
   obtain ⟨sl', e2⟩ := b.slot c _ e1 (a.free c ob q n hx) hc hx
   exact ⟨sl', e2⟩
 free := fun c ob q n hx => by
   obtain ⟨o', e1⟩ := a.there c ob q hx
   exact b.free c o' e1 (a.free c ob q n hx) hx
 there := fun c ob q hx => by
   obtain ⟨o', e1⟩ := a.there c ob q hx
   exact b.there c o' e1 hx
 tups := fun c xs q => b.tups c xs (a.tups c xs q)
 frzs := fun c ob xs q => b.frzs c ob xs (a.frzs c ob xs q)
 tbls := fun c ps q => by
   obtain ⟨m1, e1⟩ := a.tbls c ps q
   obtain ⟨m2, e2⟩ := b.tbls c _ e1
   exact ⟨m1 ++ m2, by rw [e2, Array.append_assoc]⟩
theorem Un.kept (k : ∀ b u, h.get? b = some u → h'.get? b = some u) : Un fs ex H H h h' :=
 ⟨fun b ob q _ _ _ => k b ob q, fun b ob q _ _ _ => ⟨ob.slots, k b ob q⟩, fun _ _ _ n _ => n, fun b ob q _ => ⟨ob, k b ob q⟩, fun _ _ q => q, fun _ _ _ q => q, fun _ ps q => ⟨#[], by rw [q]; simp⟩⟩
theorem Un.refl : Un fs ex H H h h := Un.kept fun _ _ q => q
theorem Un.laid (k : ∀ b u, h.get? b = some u → h'.get? b = some u) (hp : h.objs.size ≤ a) (hn : H a = none) : Un fs ex H (upd H a o) h h' where
 keep := fun b u q _ _ _ => k b u q
 slot := fun b u q _ _ _ => ⟨u.slots, k b u q⟩
 free := fun b u q n _ => by rw [zJ (Nat.ne_of_lt (Nat.lt_of_lt_of_le (Heap.lt_size q) hp))]; exact n
 there := fun b u q _ => ⟨u, k b u q⟩
 tups := fun b xs q => by rw [zJ (zN q hn)]; exact q
 frzs := fun b u xs q => by rw [zJ (zN q hn)]; exact q
 tbls := fun b ps q => ⟨#[], by rw [zJ (zN q hn), q]; simp⟩
theorem Un.write (mu : Mut (H x)) (he : e = x ∨ H e = some (.own x)) (k : ∀ b u, b ≠ e → h.get? b = some u → h'.get? b = some u) (heo : ∃ u, h'.get? e = some u) : Un fs ex H (upd H x o) h h' := by
 have hx : ∀ b, H b = none → b ≠ x := fun b n z => by subst z; rw [n] at mu; exact mu
 have hb : ∀ b, H b = none → b ≠ e := fun b n z => by
   subst z
   rcases he with r | r
   · exact hx b n r
   · rw [n] at r; cases r
 have hm : ∀ b u, H b = some u → ¬ Mut (some u) → b ≠ x := fun b u q nm z => by subst z; rw [q] at mu; exact nm mu
 refine ⟨fun b u q n _ _ => k b u (hb b n) q, fun b u q n _ _ => ⟨u.slots, k b u (hb b n) q⟩, fun b u q n _ => by rw [zJ (hx b n)]; exact n, fun b u q _ => ?_,
   fun b xs q => by rw [zJ (hm b _ q fun z => z)]; exact q, fun b u xs q => by rw [zJ (hm b _ q fun z => z)]; exact q, fun b ps q => ⟨#[], by rw [zJ (hm b _ q fun z => z), q]; simp⟩⟩
 by_cases hbe : b = e
 · subst hbe; exact heo
 · exact ⟨u, k b u hbe q⟩
theorem Un.mono (u : Un fs ex H H1 h h1) (hs : ∀ b ∈ fs, b ∈ fs') (hx : ∀ b ∈ ex, b ∈ ex') : Un fs' ex' H H1 h h1 :=
 ⟨fun b ob q n hb he => u.keep b ob q n (fun z => hb (hs b z)) fun z => he (hx b z), fun _ _ q n _ he => u.any q n fun z => he (hx _ z), fun b ob q n he => u.free b ob q n fun z => he (hx b z), fun b ob q he => u.there b ob q fun z => he (hx b z), u.tups, u.frzs, u.tbls⟩
end
def trk (h : Heap) (H : Hp) : List Addr := (List.range h.objs.size).filter fun a => (H a).isSome
def hidT (h : Heap) (H : Hp) : Heap := PySem.W.hideAll h (trk h H)
theorem hidT_size (h : Heap) (H : Hp) : (hidT h H).objs.size = h.objs.size := PySem.W.hideAll_size _ _
theorem hidT_get {h : Heap} {H : Hp} {b : Addr} {o : Obj} (e : h.get? b = some o) (n : H b = none) : (hidT h H).get? b = some o :=
 PySem.W.hideAll_get _ e fun hm => by
   have q : (H b).isSome = true := (List.mem_filter.mp hm).2
   rw [n] at q; simp at q
theorem of_hidT {h : Heap} {H : Hp} {b : Addr} {o : Obj} (e : (hidT h H).get? b = some o) : h.get? b = some o ∧ H b = none := by
 have e' : h.get? b = some o := PySem.W.of_hideAll (trk h H) e
 refine ⟨e', ?_⟩
 cases q : H b with
 | none => rfl
 | some x =>
   have hm : b ∈ trk h H := List.mem_filter.mpr ⟨List.mem_range.mpr (Heap.lt_size e'), by simp [q]⟩
   have z : (hidT h H).get? b = none := PySem.W.hideAll_none (trk h H) hm
   rw [z] at e; cases e
def allNews (g h : Heap) (L : Addr) : List (Addr × Obj) := (List.range h.objs.size).filterMap fun a => if a = L ∨ (g.get? a).isSome = true then none else (h.get? a).map fun o => (a, o)
def rest (g h : Heap) (L d : Addr) : List (Addr × Obj) := (allNews g h L).filter fun p => decide (p.1 ≠ d)
end L2
namespace L2
open PySem PySem.Spec PyProof.Rows
structure Mod (K : PySem.W.Frag) (mg : Str → Option Value) (base : Heap) : Prop where
 kin : K.In base
 glob : base.Ns mainGlobals mg
 blt : ∃ mb, base.Ns builtinsNs mb ∧ ∀ x : Str, x ≠ "__name__" → mb x = bootBuiltins x
 nolimit : base.NoLimit
structure Cx where
 prog : Program
 w : World
 K : PySem.W.Frag
 mg : Str → Option Value
 base : Heap
 A : Around
 N : List Str
 s₀ : Shared
 H₀ : Hp
 env : Env
 outer : List Env
 stack : List Env
 ex : List Addr
 fn : Str → Bool
 calm : Bool
 pn : List (Addr × Obj)
 xe : Value → Shared → Prop
def frs (l : List Env) : List Addr := l.filterMap (·.frame)
abbrev Cx.fs (X : Cx) : List Addr := frs X.outer
def Vis (sc : Scope) (x : Str) : Prop := sc.names.lookup x = some .local ∨ sc.names.lookup x = some .cell ∨ sc.names.lookup x = some .free
def Loc (sc : Scope) (x : Str) : Prop := sc.names.lookup x = some .local ∨ sc.names.lookup x = some .cell
def Look (env : Env) (h : Heap) (m : Str → Option Value) (x : Str) (u : Value) : Prop :=
 (env.kindOf x = some .local ∧ m x = some u) ∨ ((env.kindOf x = some .cell ∨ env.kindOf x = some .free) ∧ ∃ c, env.cells.lookup x = some c ∧ h.IsCell c (some u))
structure Cx.Ok (X : Cx) : Prop where
 mod : Mod X.K X.mg X.base
 kind : X.env.scope.kind = .function
 glob : X.env.globals = mainGlobals
 blt : X.env.builtins = builtinsNs
 above : X.s₀.heap.objs.size ≤ X.env.locals
 inj : ∀ x y c, X.env.cells.lookup x = some c → X.env.cells.lookup y = some c → x = y
 has : ∀ x, (X.env.kindOf x = some .cell ∨ X.env.kindOf x = some .free) → ∃ c, X.env.cells.lookup x = some c
 cab : ∀ x c, X.fn x = true → X.env.cells.lookup x = some c → X.s₀.heap.objs.size ≤ c
 hd : X.calm = true → X.A.handled = none
 frames : X.A.frames = some X.stack
 stk : X.stack = X.outer ∨ (X.stack = X.env :: X.outer ∧ X.env.frame = some X.env.locals)
 exf : ∀ b ∈ X.ex, b ≠ X.env.locals ∧ ∀ x c, X.env.cells.lookup x = some c → c ≠ b
 bs : ∀ b o, X.base.get? b = some o → X.s₀.heap.get? b = some o ∧ X.H₀ b = none
 bsz : X.base.objs.size ≤ X.s₀.heap.objs.size
 noex : ∀ b o, X.base.get? b = some o → b ∉ X.ex
 exfs : ∀ b ∈ X.ex, b ∉ X.fs
 funs : X.s₀.heap.FunFrames X.base X.outer
 frf : ∀ b ∈ X.fs, X.H₀ b = none
structure Inv (X : Cx) (pins : List (Addr × Obj)) (σ : List (Option V)) (H : Hp) (s : Shared) : Prop where
 ok : X.Ok
 os : s.os = X.s₀.os
 bare : AllBare s.gens
 base : Un X.fs X.ex X.H₀ H X.s₀.heap s.heap
 loc : ∃ m, s.heap.Ns X.env.locals m ∧ ∀ (i : Nat) (x : Str) (v : V), X.N[i]? = some x → σ[i]? = some (some v) → Vis X.env.scope x → ∃ u, RelV v u ∧ Look X.env s.heap m x u
 cell : ∀ x c, X.env.cells.lookup x = some c → ∃ v, s.heap.IsCell c v
 free : H X.env.locals = none
 freeC : ∀ x c, X.env.cells.lookup x = some c → H c = none
 pin : ∀ p ∈ X.pn ++ pins, s.heap.get? p.1 = some p.2 ∧ H p.1 = none ∧ p.1 ≠ X.env.locals ∧ p.1 ∉ X.fs ∧ ∀ v, p.2.data ≠ .cell v
 hok : HOk X.prog X.w H s.heap
 len : σ.length = X.N.length
section
variable {X : Cx} {pins : List (Addr × Obj)} {σ : List (Option V)} {H H' : Hp} {s : Shared} {h' : Heap}
theorem Cx.Ok.nofr (ok : X.Ok) {b : Addr} {o : Obj} (e : X.base.get? b = some o) : b ∉ X.fs := fun hb => by
 have := (ok.funs.mem hb).1
 rw [e] at this; cases this
theorem Inv.bs (I : Inv X pins σ H s) : ∀ b o, X.base.get? b = some o → s.heap.get? b = some o ∧ H b = none := fun b o e =>
 ⟨I.base.keep b o (I.ok.bs b o e).1 (I.ok.bs b o e).2 (I.ok.nofr e) (I.ok.noex b o e), I.base.free b o (I.ok.bs b o e).1 (I.ok.bs b o e).2 (I.ok.noex b o e)⟩
theorem Inv.bk (I : Inv X pins σ H s) : ∀ b o, X.base.get? b = some o → s.heap.get? b = some o := fun b o e => (I.bs b o e).1
theorem Inv.mod (I : Inv X pins σ H s) : Mod X.K X.mg X.base := I.ok.mod
theorem Inv.kIn (I : Inv X pins σ H s) : X.K.In s.heap := I.ok.mod.kin.keeps I.bk
theorem Inv.nolimit (I : Inv X pins σ H s) : s.heap.NoLimit := I.ok.mod.nolimit.keeps I.bk
theorem Inv.fr (I : Inv X pins σ H s) : ∃ m, Fr X.base X.env.locals s.heap m :=
 let ⟨m, hn, _⟩ := I.loc
 ⟨m, hn, I.bk, Nat.le_trans I.ok.bsz I.ok.above⟩
theorem Inv.lt (I : Inv X pins σ H s) : X.env.locals < s.heap.objs.size := let ⟨_, hn, _⟩ := I.loc; hn.lt
theorem Inv.sz (I : Inv X pins σ H s) : X.s₀.heap.objs.size ≤ s.heap.objs.size := Nat.le_trans I.ok.above (Nat.le_of_lt I.lt)
theorem Inv.nofs (I : Inv X pins σ H s) {a : Addr} (h : s.heap.objs.size ≤ a) : a ∉ X.fs := fun hb => by
 obtain ⟨_, o, ho, _⟩ := I.ok.funs.mem hb
 exact absurd (Nat.lt_of_lt_of_le (Heap.lt_size ho) (Nat.le_trans I.sz h)) (Nat.lt_irrefl _)
theorem Inv.cne (I : Inv X pins σ H s) : ∀ x c, X.env.cells.lookup x = some c → c ≠ X.env.locals := fun x c e z => by
 obtain ⟨v, o, ho, hd⟩ := I.cell x c e
 obtain ⟨m, ⟨o', es, ep, ho', hd', _⟩, _⟩ := I.loc
 rw [z, ho'] at ho; cases ho; rw [hd'] at hd; cases hd
theorem Inv.funs (I : Inv X pins σ H s) : s.heap.FunFrames X.base X.outer := by
 have all : ∀ (l : List Env), (∀ b ∈ frs l, b ∈ X.fs) → X.s₀.heap.FunFrames X.base l → s.heap.FunFrames X.base l := by
   intro l
   induction l with
   | nil => intro _ _; trivial
   | cons env r ih =>
     intro hs hl
     obtain ⟨hk, ⟨L, o, hf, hn, ho, hd⟩, hr⟩ := hl
     have hL : L ∈ X.fs := hs L (by unfold frs; rw [List.filterMap_cons, hf]; exact List.mem_cons_self)
     obtain ⟨sl, e⟩ := I.base.slot L o ho (I.ok.frf L hL) hL fun z => I.ok.exfs L z hL
     exact ⟨hk, ⟨L, _, hf, hn, e, hd⟩, ih (fun b hb => hs b (by unfold frs; rw [List.filterMap_cons, hf]; exact List.mem_cons_of_mem _ hb)) hr⟩
 exact all X.outer (fun _ hb => hb) I.ok.funs
theorem Inv.stack (I : Inv X pins σ H s) : s.heap.FunFrames X.base X.stack := by
 rcases I.ok.stk with e | ⟨e, hf⟩
 · rw [e]; exact I.funs
 · rw [e]
   obtain ⟨m, hn, _⟩ := I.loc
   refine .cons (by rw [I.ok.kind]; decide) hf hn ?_ I.funs
   exact Heap.get?_none_of_le (Nat.le_trans I.ok.bsz I.ok.above)
theorem Inv.stkSub (I : Inv X pins σ H s) : ∀ b ∈ frs X.stack, b ∈ X.env.locals :: X.fs := fun b hb => by
 rcases I.ok.stk with e | ⟨e, hf⟩
 · rw [e] at hb; exact List.mem_cons_of_mem _ hb
 · rw [e] at hb
   unfold frs at hb
   rw [List.filterMap_cons, hf] at hb
   exact hb
theorem Inv.stkFree (I : Inv X pins σ H s) : ∀ b ∈ frs X.stack, H b = none := fun b hb => by
 rcases List.mem_cons.mp (I.stkSub b hb) with e | hb
 · rw [e]; exact I.free
 · obtain ⟨_, o, ho, _⟩ := I.ok.funs.mem hb
   exact I.base.free b o ho (I.ok.frf b hb) fun z => I.ok.exfs b z hb
theorem Inv.step {g' : Array GenState} {t' : Nat} {d' : Drawn} {ch : List Addr} (I : Inv X pins σ H s)
   (hch : ∀ b ∈ ch, (b ∈ X.ex ∨ X.s₀.heap.objs.size ≤ b) ∧ b ≠ X.env.locals ∧ (∀ x c, X.env.cells.lookup x = some c → c ≠ b) ∧ ∀ p ∈ X.pn ++ pins, p.1 ≠ b)
   (keep : ∀ b o, b ≠ X.env.locals → b ∉ X.fs → b ∉ ch → s.heap.get? b = some o → H b = none → h'.get? b = some o)
   (slot : ∀ b o, b ≠ X.env.locals → b ∈ X.fs → b ∉ ch → s.heap.get? b = some o → H b = none → ∃ sl, h'.get? b = some { o with slots := sl }) (free : ∀ b o, b ∉ ch → s.heap.get? b = some o → H b = none → H' b = none)
   (there : ∀ b o, b ∉ ch → s.heap.get? b = some o → ∃ o', h'.get? b = some o')
   (tups : ∀ b xs, H b = some (.tup xs) → H' b = some (.tup xs)) (frzs : ∀ b o u, H b = some (.frz o u) → H' b = some (.frz o u)) (tbls : ∀ b ps, H b = some (.tbl ps) → ∃ more, H' b = some (.tbl (ps ++ more)))
   (ns : ∀ m, s.heap.Ns X.env.locals m → h'.Ns X.env.locals m) (hok : HOk X.prog X.w H' h') (hg : AllBare g') :
   Inv X pins σ H' { s with heap := h', gens := g', drawn := d', toks := t' } := by
 have neL : ∀ b o, X.s₀.heap.get? b = some o → b ≠ X.env.locals := fun b o e => Nat.ne_of_lt (Nat.lt_of_lt_of_le (Heap.lt_size e) I.ok.above)
 have neC : ∀ b o, X.s₀.heap.get? b = some o → b ∉ X.ex → b ∉ ch := fun b o e hx hb => by
   rcases (hch b hb).1 with z | z
   · exact hx z
   · exact absurd (Nat.lt_of_lt_of_le (Heap.lt_size e) z) (Nat.lt_irrefl _)
 have cellK : ∀ x c, X.env.cells.lookup x = some c → ∀ v, s.heap.IsCell c v → h'.IsCell c v := fun x c e v ⟨o, ho, hd⟩ => by
   have nch : c ∉ ch := fun z => (hch c z).2.2.1 x c e rfl
   by_cases hc : c ∈ X.fs
   · obtain ⟨sl, q⟩ := slot c o (I.cne x c e) hc nch ho (I.freeC x c e)
     exact ⟨_, q, hd⟩
   · exact ⟨o, keep c o (I.cne x c e) hc nch ho (I.freeC x c e), hd⟩
 refine ⟨I.ok, I.os, hg, ⟨fun b o e n hb hx => ?_, fun b o e n hb hx => ?_, fun b o e n hx => ?_, fun b o e hx => ?_, fun b xs e => tups b xs (I.base.tups b xs e), fun b o xs e => frzs b o xs (I.base.frzs b o xs e), fun b ps e => ?_⟩, ?_, fun x c e => ?_, ?_, fun x c e => ?_, fun p hp => ?_, hok, I.len⟩
 · exact keep b o (neL b o e) hb (neC b o e hx) (I.base.keep b o e n hb hx) (I.base.free b o e n hx)
 · obtain ⟨sl, e1⟩ := I.base.slot b o e n hb hx
   obtain ⟨sl', e2⟩ := slot b _ (neL b o e) hb (neC b o e hx) e1 (I.base.free b o e n hx)
   exact ⟨sl', e2⟩
 · obtain ⟨o', e1⟩ := I.base.there b o e hx
   exact free b o' (neC b o e hx) e1 (I.base.free b o e n hx)
 · obtain ⟨o', e1⟩ := I.base.there b o e hx
   exact there b o' (neC b o e hx) e1
 · obtain ⟨m1, e1⟩ := I.base.tbls b ps e
   obtain ⟨m2, e2⟩ := tbls b _ e1
   exact ⟨m1 ++ m2, by rw [e2, Array.append_assoc]⟩
 · obtain ⟨m, hn, hl⟩ := I.loc
   refine ⟨m, ns m hn, fun i x v e1 e2 e3 => ?_⟩
   obtain ⟨u, r, l⟩ := hl i x v e1 e2 e3
   refine ⟨u, r, ?_⟩
   rcases l with l | ⟨k, c, e, z⟩
   · exact .inl l
   · exact .inr ⟨k, c, e, cellK x c e _ z⟩
 · obtain ⟨v, z⟩ := I.cell x c e
   exact ⟨v, cellK x c e v z⟩
 · obtain ⟨m, ⟨o, _, _, ho, _⟩, _⟩ := I.loc
   exact free _ o (fun z => (hch _ z).2.1 rfl) ho I.free
 · obtain ⟨v, o, ho, hd⟩ := I.cell x c e
   exact free c o (fun z => (hch c z).2.2.1 x c e rfl) ho (I.freeC x c e)
 · obtain ⟨e, n, ne, nf, d⟩ := I.pin p hp
   have nch : p.1 ∉ ch := fun z => (hch p.1 z).2.2.2 p hp rfl
   exact ⟨keep p.1 p.2 ne nf nch e n, free p.1 p.2 nch e n, ne, nf, d⟩
theorem Inv.un {t' : Nat} (I : Inv X pins σ H s) (u : Un X.fs [] H H' s.heap h') (hok : HOk X.prog X.w H' h') : Inv X pins σ H' { s with heap := h', toks := t' } := by
 obtain ⟨m, ⟨o, es, ep, ho, r⟩, _⟩ := id I.loc
 obtain ⟨sl, hL⟩ := u.any ho I.free (by simp)
 exact I.step (g' := s.gens) (d' := s.drawn) (ch := []) (fun _ z => nomatch z) (fun b o _ hb _ e n => u.keep b o e n hb (by simp)) (fun b o _ hb _ e n => u.slot b o e n hb (by simp)) (fun b o _ e n => u.free b o e n (by simp)) (fun b o _ e => u.there b o e (by simp)) u.tups u.frzs u.tbls (fun m' hm => by
   obtain ⟨o', es', ep', ho', r'⟩ := hm
   rw [ho] at ho'; cases ho'
   exact ⟨_, es', ep', hL, r'⟩) hok I.bare
theorem Inv.call {g' : Array GenState} {t' : Nat} {d' : Drawn} {ch : List Addr} (I : Inv X pins σ H s) (u : Un (frs X.stack) ch H H' s.heap h') (hok : HOk X.prog X.w H' h') (hg : AllBare g')
   (hch : ∀ b ∈ ch, (b ∈ X.ex ∨ X.s₀.heap.objs.size ≤ b) ∧ b ≠ X.env.locals ∧ (∀ x c, X.env.cells.lookup x = some c → c ≠ b) ∧ ∀ p ∈ X.pn ++ pins, p.1 ≠ b) :
   Inv X pins σ H' { s with heap := h', gens := g', drawn := d', toks := t' } := by
 obtain ⟨m, ⟨o, es, ep, ho, r⟩, _⟩ := id I.loc
 obtain ⟨sl, hL⟩ := u.any ho I.free fun z => (hch _ z).2.1 rfl
 exact I.step (ch := ch) hch (fun b o hL hb hc e n => u.keep b o e n (fun z => (List.mem_cons.mp (I.stkSub b z)).elim hL hb) hc) (fun b o _ _ hc e n => u.any e n hc) (fun b o hc e n => u.free b o e n hc) (fun b o hc e => u.there b o e hc) u.tups u.frzs u.tbls (fun m' hm => by
   obtain ⟨o', es', ep', ho', r'⟩ := hm
   rw [ho] at ho'; cases ho'
   exact ⟨_, es', ep', hL, r'⟩) hok hg
theorem Inv.turned {t' : Nat} {it : Addr} (I : Inv X pins σ H s) (k : ∀ b o, b ≠ it → s.heap.get? b = some o → h'.get? b = some o) (hn : H it = none) (hL : it ≠ X.env.locals)
   (h1 : it ∈ X.ex ∨ X.s₀.heap.objs.size ≤ it) (h2 : ∀ x c, X.env.cells.lookup x = some c → c ≠ it) (h3 : ∀ p ∈ X.pn ++ pins, p.1 ≠ it) : Inv X pins σ H { s with heap := h', toks := t' } := by
 have nit : ∀ b u, H b = some u → b ≠ it := fun b u e z => by rw [z, hn] at e; cases e
 refine I.step (g' := s.gens) (d' := s.drawn) (ch := [it]) (fun b hb => ?_) (fun b o _ _ hc e _ => k b o (fun z => hc (by simp [z])) e) (fun b o _ _ hc e _ => ⟨o.slots, k b o (fun z => hc (by simp [z])) e⟩) (fun _ _ _ _ n => n)
   (fun b o hc e => ⟨o, k b o (fun z => hc (by simp [z])) e⟩) (fun _ _ e => e) (fun _ _ _ e => e) (fun b ps e => ⟨#[], by rw [e]; simp⟩) (fun m hm => ?_) (fun b u e => ?_) I.bare
 · have e : b = it := by simpa using hb
   subst e
   exact ⟨h1, hL, h2, h3⟩
 · obtain ⟨o, es, ep, ho, r⟩ := hm
   exact ⟨o, es, ep, k _ o (Ne.symm hL) ho, r⟩
 · refine (I.hok b u e).stay (fun c v hc q => k c v ?_ q) (fun _ q => q) fun _ _ q => q
   rcases hc with z | z
   · rw [z]; exact nit b u e
   · exact nit c _ z
theorem Inv.tok (I : Inv X pins σ H s) (t : Nat) : Inv X pins σ H { s with toks := t } := I.un (h' := s.heap) (t' := t) Un.refl I.hok
theorem Inv.kept {t' : Nat} (I : Inv X pins σ H s) (k : ∀ b u, s.heap.get? b = some u → h'.get? b = some u) : Inv X pins σ H { s with heap := h', toks := t' } := I.un (Un.kept k) (I.hok.kept k)
theorem Inv.laid {a : Addr} {o : HO} {t' : Nat} (I : Inv X pins σ H s) (k : ∀ b u, s.heap.get? b = some u → h'.get? b = some u) (hp : s.heap.objs.size ≤ a) (new : ObjOk X.prog X.w (upd H a o) h' a o) :
   Inv X pins σ (upd H a o) { s with heap := h', toks := t' } := I.un (Un.laid k hp (I.hok.fresh hp)) (I.hok.laid k hp new)
theorem Inv.write {x e : Addr} {o : HO} {t' : Nat} (I : Inv X pins σ H s) (mu : Mut (H x)) (he : e = x ∨ H e = some (.own x)) (k : ∀ b u, b ≠ e → s.heap.get? b = some u → h'.get? b = some u) (heo : ∃ u, h'.get? e = some u)
   (new : ObjOk X.prog X.w (upd H x o) h' x o) : Inv X pins σ (upd H x o) { s with heap := h', toks := t' } := I.un (Un.write mu he k heo) (I.hok.write mu he k heo new)
theorem Inv.weak {σ' : List (Option V)} (I : Inv X pins σ H s) (hl : σ'.length = σ.length) (w : ∀ (i : Nat) v, σ'[i]? = some (some v) → σ[i]? = some (some v)) : Inv X pins σ' H s :=
 ⟨I.ok, I.os, I.bare, I.base, let ⟨m, hn, hl'⟩ := I.loc; ⟨m, hn, fun i x v e1 e2 e3 => hl' i x v e1 (w i v e2) e3⟩, I.cell, I.free, I.freeC, I.pin, I.hok, hl.trans I.len⟩
theorem Inv.pins_of {pins' : List (Addr × Obj)} (I : Inv X pins σ H s) (h : ∀ p ∈ pins', s.heap.get? p.1 = some p.2 ∧ H p.1 = none ∧ p.1 ≠ X.env.locals ∧ p.1 ∉ X.fs ∧ ∀ v, p.2.data ≠ .cell v) : Inv X pins' σ H s :=
 ⟨I.ok, I.os, I.bare, I.base, I.loc, I.cell, I.free, I.freeC, fun p hp => (List.mem_append.mp hp).elim (fun z => I.pin p (List.mem_append_left _ z)) (h p), I.hok, I.len⟩
theorem nodup_ix {N : List Str} (hN : N.Nodup) {i j : Nat} {x : Str} (a : N[i]? = some x) (b : N[j]? = some x) : i = j := by
 obtain ⟨h1, e1⟩ := List.getElem?_eq_some_iff.mp a
 obtain ⟨h2, e2⟩ := List.getElem?_eq_some_iff.mp b
 exact (List.getElem_inj hN).mp (e1.trans e2.symm)
theorem store_ok2 {M : Model} {A : Around} {E : Value → Shared → Prop} {i : Nat} {x : Str} {v : V} {u : Value} {Q : Unit → Shared → Prop} (I : Inv X pins σ H s) (hN : X.N.Nodup) (hi : X.N[i]? = some x) (hx : Loc X.env.scope x) (r : RelV v u)
   (h : ∀ s', Inv X pins (σ.set i (some v)) H s' → (∃ a, Heap.SameBut a s.heap s'.heap ∧ (a = X.env.locals ∨ X.env.cells.lookup x = some a)) → Q () s') (hf : X.fn x = true ∨ X.env.scope.names.lookup x = some .local := by first | exact .inl rfl | exact .inr rfl | assumption) : wpAny M A (storeName X.env x u) Q E s := by
 obtain ⟨m, hn, hl⟩ := id I.loc
 have hcls : (X.env.scope.kind == .class || (X.env.scope.kind == .module && X.env.locals != X.env.globals)) = false := by rw [I.ok.kind]; rfl
 have hiσ : i < σ.length := by rw [I.len]; exact (List.getElem?_eq_some_iff.mp hi).1
 have cne := I.cne
 have tracked : ∀ {a : Addr} {h' : Heap}, (∃ o, s.heap.get? a = some o ∧ H a = none) → Heap.SameBut a s.heap h' → HOk X.prog X.w H h' := fun {a h'} ha hs b ob e => by
   obtain ⟨_, _, hfree⟩ := ha
   refine (I.hok b ob e).stay (fun c w' hc q => (hs.2 c ?_).trans q) (fun _ q => q) fun _ _ q => q
   rintro rfl
   rcases hc with rfl | hc
   · rw [hfree] at e; cases e
   · rw [hfree] at hc; cases hc
 rcases hx with hk | hk
 · refine wpAny_storeName_local hk hn (fun h' hn' hs => ?_) hcls
   obtain ⟨oL, _, _, hoL, _⟩ := id hn
   refine h _ ⟨I.ok, I.os, I.bare, ⟨fun b o e n hb hx => ?_, fun b o e n hb hx => ?_, I.base.free, fun b o e hx => ?_, I.base.tups, I.base.frzs, I.base.tbls⟩, ⟨_, hn', fun j y v' e1 e2 e3 => ?_⟩, fun y c e => ?_, I.free, I.freeC, fun p hp => ?_, tracked ⟨oL, hoL, I.free⟩ hs, by simpa using I.len⟩ ⟨_, hs, .inl rfl⟩
   · exact (hs.2 b (Nat.ne_of_lt (Nat.lt_of_lt_of_le (Heap.lt_size e) I.ok.above))).trans (I.base.keep b o e n hb hx)
   · obtain ⟨sl, e1⟩ := I.base.slot b o e n hb hx
     exact ⟨sl, (hs.2 b (Nat.ne_of_lt (Nat.lt_of_lt_of_le (Heap.lt_size e) I.ok.above))).trans e1⟩
   · obtain ⟨o', e1⟩ := I.base.there b o e hx
     exact ⟨o', (hs.2 b (Nat.ne_of_lt (Nat.lt_of_lt_of_le (Heap.lt_size e) I.ok.above))).trans e1⟩
   · by_cases hj : j = i
     · subst hj
       rw [hi] at e1; cases e1
       rw [List.getElem?_set_self hiσ] at e2
       cases e2
       exact ⟨u, r, .inl ⟨hk, by simp⟩⟩
     · rw [List.getElem?_set_ne (Ne.symm hj)] at e2
       obtain ⟨u', r', q⟩ := hl j y v' e1 e2 e3
       refine ⟨u', r', ?_⟩
       rcases q with ⟨k, e⟩ | ⟨k, c, e, z⟩
       · refine .inl ⟨k, ?_⟩
         have : y ≠ x := fun e => hj (nodup_ix hN e1 (e ▸ hi))
         simp [this, e]
       · exact .inr ⟨k, c, e, z.sameBut hs (cne y c e)⟩
   · obtain ⟨w', z⟩ := I.cell y c e
     exact ⟨w', z.sameBut hs (cne y c e)⟩
   · obtain ⟨e, n, ne, nf, d⟩ := I.pin p hp
     exact ⟨(hs.2 p.1 ne).trans e, n, ne, nf, d⟩
 · have hfn : X.fn x = true := by
     rcases hf with z | z
     · exact z
     · rw [z] at hk; cases hk
   obtain ⟨c, hc⟩ := I.ok.has x (.inl hk)
   obtain ⟨w', z⟩ := I.cell x c hc
   refine wpAny_storeName_cell I.ok.kind hk hc z (fun h' hc' hs => ?_)
   obtain ⟨oc, hoc, hocd⟩ := id z
   refine h { s with heap := h' } ⟨I.ok, I.os, I.bare, ⟨fun b o e n hb hx => ?_, fun b o e n hb hx => ?_, I.base.free, fun b o e hx => ?_, I.base.tups, I.base.frzs, I.base.tbls⟩, ⟨m, hn.sameBut hs (Ne.symm (cne x c hc)), fun j y v' e1 e2 e3 => ?_⟩, fun y c' e => ?_, I.free, I.freeC, fun p hp => ?_, tracked ⟨oc, hoc, I.freeC x c hc⟩ hs, by simpa using I.len⟩ ⟨c, hs, .inr hc⟩
   · exact (hs.2 b (Nat.ne_of_lt (Nat.lt_of_lt_of_le (Heap.lt_size e) (I.ok.cab x c hfn hc)))).trans (I.base.keep b o e n hb hx)
   · obtain ⟨sl, e1⟩ := I.base.slot b o e n hb hx
     exact ⟨sl, (hs.2 b (Nat.ne_of_lt (Nat.lt_of_lt_of_le (Heap.lt_size e) (I.ok.cab x c hfn hc)))).trans e1⟩
   · obtain ⟨o', e1⟩ := I.base.there b o e hx
     exact ⟨o', (hs.2 b (Nat.ne_of_lt (Nat.lt_of_lt_of_le (Heap.lt_size e) (I.ok.cab x c hfn hc)))).trans e1⟩
   · by_cases hj : j = i
     · subst hj
       rw [hi] at e1; cases e1
       rw [List.getElem?_set_self hiσ] at e2
       cases e2
       exact ⟨u, r, .inr ⟨.inl hk, c, hc, hc'⟩⟩
     · rw [List.getElem?_set_ne (Ne.symm hj)] at e2
       obtain ⟨u', r', q⟩ := hl j y v' e1 e2 e3
       refine ⟨u', r', ?_⟩
       rcases q with q | ⟨k, c', e, z'⟩
       · exact .inl q
       · refine .inr ⟨k, c', e, z'.sameBut hs ?_⟩
         rintro rfl
         exact hj (nodup_ix hN e1 (I.ok.inj _ _ _ e hc ▸ hi))
   · by_cases hcc : c' = c
     · subst hcc; exact ⟨_, hc'⟩
     · obtain ⟨w2, z2⟩ := I.cell y c' e
       exact ⟨w2, z2.sameBut hs hcc⟩
   · obtain ⟨e, n, ne, nf, d⟩ := I.pin p hp
     refine ⟨(hs.2 p.1 ?_).trans e, n, ne, nf, d⟩
     intro q
     rw [q, hoc] at e
     have q' : oc = p.2 := Option.some.inj e
     exact d w' (by rw [← q']; exact hocd)
theorem store_ok {M : Model} {A : Around} {E : Value → Shared → Prop} {i : Nat} {x : Str} {v : V} {u : Value} {Q : Unit → Shared → Prop} (I : Inv X pins σ H s) (hN : X.N.Nodup) (hi : X.N[i]? = some x) (hx : Loc X.env.scope x) (r : RelV v u)
   (h : ∀ s', Inv X pins (σ.set i (some v)) H s' → Q () s') (hf : X.fn x = true ∨ X.env.scope.names.lookup x = some .local := by first | exact .inl rfl | exact .inr rfl | assumption) : wpAny M A (storeName X.env x u) Q E s :=
 store_ok2 I hN hi hx r (fun s' I' _ => h s' I') hf
theorem Inv.call' {s' : Shared} {ch : List Addr} (I : Inv X pins σ H s) (ho : s'.os = s.os) (u : Un (frs X.stack) ch H H' s.heap s'.heap) (hok : HOk X.prog X.w H' s'.heap) (hg : AllBare s'.gens)
   (hch : ∀ b ∈ ch, (b ∈ X.ex ∨ X.s₀.heap.objs.size ≤ b) ∧ b ≠ X.env.locals ∧ (∀ x c, X.env.cells.lookup x = some c → c ≠ b) ∧ ∀ p ∈ X.pn ++ pins, p.1 ≠ b) : Inv X pins σ H' s' := by
 obtain ⟨h', g', d', t', o'⟩ := s'
 have e : o' = s.os := ho
 subst e
 exact I.call (g' := g') (t' := t') (d' := d') u hok hg hch
end
abbrev XK := Value → Option Addr → Hp → Prop
abbrev St := List (Option V)
abbrev VK := V → Hp → Prop
abbrev TE := St → Hp → VK → Prop
abbrev TT := St → Hp → (Bool → Hp → Prop) → Prop
abbrev TA := St → Hp → (List V → Hp → Prop) → Prop
structure Ends where
 nx : St → Hp → Prop
 rt : VK
 bk : St → Hp → Prop := fun _ _ => False
 ct : St → Hp → Prop := fun _ _ => False
abbrev TS := Ends → St → Hp → Prop
def EP (X : Cx) (pins : List (Addr × Obj)) (σ : St) (Q : VK) (u : Value) (s' : Shared) : Prop := ∃ v H', Inv X pins σ H' s' ∧ RelV v u ∧ Q v H'
def TP (X : Cx) (pins : List (Addr × Obj)) (σ : St) (Q : Bool → Hp → Prop) (b : Bool) (s' : Shared) : Prop := ∃ H', Inv X pins σ H' s' ∧ Q b H'
def AP (X : Cx) (pins : List (Addr × Obj)) (σ : St) (Q : List V → Hp → Prop) (us : List Value) (s' : Shared) : Prop := ∃ vs H', Inv X pins σ H' s' ∧ Vals vs us ∧ Q vs H'
def SP (X : Cx) (pins : List (Addr × Obj)) (D : Ends) (f : Flow) (s' : Shared) : Prop :=
 match f with
 | .next => ∃ σ' H', Inv X pins σ' H' s' ∧ D.nx σ' H'
 | .brk => ∃ σ' H', Inv X pins σ' H' s' ∧ D.bk σ' H'
 | .cont => ∃ σ' H', Inv X pins σ' H' s' ∧ D.ct σ' H'
 | .ret u => ∃ v σ' H', Inv X pins σ' H' s' ∧ RelV v u ∧ D.rt v H'
def PE (X : Cx) (e : Expr) (t : TE) : Prop :=
 ∀ (pins : List (Addr × Obj)) (s : Shared) (σ : St) (H : Hp) (Q : VK), Inv X pins σ H s → t σ H Q → wpAny (model X.prog X.w) X.A (eval e X.env) (EP X pins σ Q) X.xe s
def PT (X : Cx) (e : Expr) (t : TT) : Prop :=
 ∀ (pins : List (Addr × Obj)) (s : Shared) (σ : St) (H : Hp) (Q : Bool → Hp → Prop), Inv X pins σ H s → t σ H Q → wpAny (model X.prog X.w) X.A (isTrue e X.env (eval e X.env)) (TP X pins σ Q) X.xe s
def PW (X : Cx) (e : Expr) (t : TT) : Prop :=
 ∀ (whole : Sem Value) (pins : List (Addr × Obj)) (s : Shared) (σ : St) (H : Hp) (Q : Bool → Hp → Prop), Inv X pins σ H s → t σ H Q → wpAny (model X.prog X.w) X.A (isTrue e X.env whole) (TP X pins σ Q) X.xe s
theorem PW.pt {X : Cx} {e : Expr} {t : TT} (h : PW X e t) : PT X e t := h _
def PA (X : Cx) (es : List Expr) (t : TA) : Prop :=
 ∀ (pos : Pos) (pins : List (Addr × Obj)) (s : Shared) (σ : St) (H : Hp) (Q : List V → Hp → Prop), Inv X pins σ H s → t σ H Q → wpAny (model X.prog X.w) X.A (spliced (backTo pos (starEach es X.env))) (AP X pins σ Q) X.xe s
def PS (X : Cx) (st : Stmt) (t : TS) : Prop :=
 ∀ (pins : List (Addr × Obj)) (s : Shared) (σ : St) (H : Hp) (D : Ends), Inv X pins σ H s → t D σ H → wpAny (model X.prog X.w) X.A (exec st X.env) (SP X pins D) X.xe s
def PSs (X : Cx) (st : List Stmt) (t : TS) : Prop :=
 ∀ (pins : List (Addr × Obj)) (s : Shared) (σ : St) (H : Hp) (D : Ends), Inv X pins σ H s → t D σ H → wpAny (model X.prog X.w) X.A (execs st X.env) (SP X pins D) X.xe s
theorem thn {α : Type} {t : Sem α} {Q Q' : α → Shared → Prop} {M : Model} {A : Around} {E : Value → Shared → Prop} {s : Shared} (h : wpAny M A t Q E s) (hQ : ∀ a s, Q a s → Q' a s) : wpAny M A t Q' E s := wpAny_mono h hQ fun _ _ x => x
end L2
namespace L2
open PySem PySem.Spec PyProof.Rows
section
variable {X : Cx}
def tVar (i : Nat) : TE := fun σ H Q => ∃ v, σ[i]? = some (some v) ∧ Q v H
def tC (v : V) : TE := fun _ H Q => Q v H
theorem pe_var {i : Nat} {x : Str} {pos : Pos} (hN : X.N[i]? = some x) (hv : Vis X.env.scope x) (hd : (x == ("__debug__" : Str)) = false := by decide) (hcd : (x == ("__classdict__" : Str)) = false := by decide) : PE X (.Name x pos) (tVar i) := by
 intro pins s σ H Q I h
 obtain ⟨v, e, h⟩ := h
 obtain ⟨m, hn, hl⟩ := I.loc
 obtain ⟨u, r, l⟩ := hl i x v hN e hv
 have fin : EP X pins σ Q u s := ⟨v, H, I, r, h⟩
 rcases l with ⟨hk, hm⟩ | ⟨hk, c, hc, hcell⟩
 · exact wpAny_Name (wpAny_loadName_local I.ok.kind hk hn hm fin) hd
 · rcases hk with hk | hk
   · exact wpAny_Name (wpAny_loadName_cell I.ok.kind hk hc hcell fin) hd
   · exact wpAny_Name (wpAny_loadName_free I.ok.kind hk hc hcell fin hcd) hd
theorem zC {i j pos} : PE X (.Constant (.int i) j pos) (tC (.int i)) := fun _ _ _ H _ I h => wpAny_Constant_int ⟨.int i, H, I.tok _, ⟨_, rfl⟩, h⟩
theorem pe_bl {b j pos} : PE X (.Constant (.bool b) j pos) (tC (.bl b)) := fun _ _ _ H _ I h => Constant_bool ⟨.bl b, H, I, rfl, h⟩
theorem pe_non {j pos} : PE X (.Constant .none j pos) (tC .non) := fun _ _ _ H _ I h => Constant_none ⟨.non, H, I, rfl, h⟩
theorem zQ {x j pos} : PE X (.Constant (.str x) j pos) (tC (.str x)) := fun _ _ _ H _ I h => Calls.Constant_str ⟨.str x, H, I.tok _, ⟨_, rfl⟩, h⟩
def Gl (X : Cx) (x : Str) : Prop := X.env.kindOf x = some .globalImplicit
theorem ld_glob {E : Value → Shared → Prop} {pins : List (Addr × Obj)} {s : Shared} {σ : St} {H : Hp} {x : Str} {u : Value} {pos : Pos} {Q : Value → Shared → Prop} (I : Inv X pins σ H s) (hg : Gl X x) (hm : X.mg x = some u) (h : Q u s)
   (hd : (x == ("__debug__" : Str)) = false := by decide) : wpAny (model X.prog X.w) X.A (eval (.Name x pos) X.env) Q E s :=
 Calls.Name_function_global I.ok.kind hg (Calls.loadGlobal_global (by rw [I.ok.glob]; exact I.mod.glob.keeps I.bk) hm h) hd
theorem ld_blt {E : Value → Shared → Prop} {pins : List (Addr × Obj)} {s : Shared} {σ : St} {H : Hp} {x : Str} {u : Value} {pos : Pos} {Q : Value → Shared → Prop} (I : Inv X pins σ H s) (hg : Gl X x) (hm : X.mg x = none) (hv : bootBuiltins x = some u) (h : Q u s)
   (hn : x ≠ "__name__" := by decide) (hd : (x == ("__debug__" : Str)) = false := by decide) : wpAny (model X.prog X.w) X.A (eval (.Name x pos) X.env) Q E s := by
 obtain ⟨mb, h1, h2⟩ := I.mod.blt
 exact Calls.Name_function_global I.ok.kind hg (Calls.loadGlobal_builtin (by rw [I.ok.glob]; exact I.mod.glob.keeps I.bk) hm (by rw [I.ok.blt]; exact h1.keeps I.bk) ((h2 x hn).trans hv) h) hd
theorem pe_glob {x : Str} {v : V} {u : Value} {pos : Pos} (hg : Gl X x) (hm : X.mg x = some u) (r : RelV v u) (hd : (x == ("__debug__" : Str)) = false := by decide) : PE X (.Name x pos) (tC v) :=
 fun _ _ _ H _ I h => ld_glob I hg hm ⟨v, H, I, r, h⟩ hd
theorem pe_bltn {x : Str} {v : V} {u : Value} {pos : Pos} (hg : Gl X x) (hm : X.mg x = none) (hv : bootBuiltins x = some u) (r : RelV v u) (hn : x ≠ "__name__" := by decide) (hd : (x == ("__debug__" : Str)) = false := by decide) : PE X (.Name x pos) (tC v) :=
 fun _ _ _ H _ I h => ld_blt I hg hm hv ⟨v, H, I, r, h⟩ hn hd
variable {a b : Expr} {ta tb : TE} {pos : Pos}
def PC (X : Cx) (op : CmpOp) (a b : Expr) (t : TE) : Prop :=
 ∀ (pins : List (Addr × Obj)) (s : Shared) (σ : St) (H : Hp) (Q : VK), Inv X pins σ H s → t σ H Q →
   wpAny (model X.prog X.w) X.A (eval a X.env) (fun v s₁ => wpAny (model X.prog X.w) X.A (eval b X.env) (fun u s₂ => wpAny (model X.prog X.w) X.A (compareOp op v u) (EP X pins σ Q) X.xe s₂) X.xe s₁) X.xe s
def tB (t : TE) : TT := fun σ H Q => t σ H fun x H1 => ∃ c, x = .bl c ∧ Q c H1
theorem yA {e : Expr} {t : TE} (h : PE X e t) (he : ∀ whole, isTrue e X.env whole = (do let v ← whole; standAt e.pos; holding [v] (truthy v)) := by intro _; rfl) : PT X e (tB t) := by
 intro pins s σ H Q I hw
 refine isTrue_plain (thn (h pins s σ H _ I hw) fun v s1 ⟨x, H1, I1, r1, q1⟩ => ?_) (he _)
 obtain ⟨d, rfl, q⟩ := q1
 cases r1
 exact wpAny_truthy_bool ⟨H1, I1, q⟩
variable {tA tB' : TT} {rest : List Expr}
def tAnd (t u : TT) : TT := fun σ H Q => t σ H fun c H1 => if c = true then u σ H1 Q else Q false H1
def tOr (t u : TT) : TT := fun σ H Q => t σ H fun c H1 => if c = true then Q true H1 else u σ H1 Q
def tNot (t : TT) : TT := fun σ H Q => t σ H fun c H1 => Q (!c) H1
theorem xA (ha : PT X a tA) : PW X (.BoolOp .And [a] pos) tA := by
 intro wh pins s σ H Q I h
 refine isTrue_and (thn (ha pins s σ H Q I h) fun c s1 e => ?_)
 cases c with
 | true => exact isTrue_and_nil e
 | false => exact e
theorem pw_or1 (ha : PT X a tA) : PW X (.BoolOp .Or [a] pos) tA := by
 intro wh pins s σ H Q I h
 refine isTrue_or (thn (ha pins s σ H Q I h) fun c s1 e => ?_)
 cases c with
 | false => exact isTrue_or_nil e
 | true => exact e
theorem xD (ha : PT X a tA) (hb : PW X (.BoolOp .And (b :: rest) pos) tB') : PW X (.BoolOp .And (a :: b :: rest) pos) (tAnd tA tB') := by
 intro wh pins s σ H Q I h
 refine isTrue_and (thn (ha pins s σ H _ I h) fun c s1 ⟨H1, I1, q1⟩ => ?_)
 cases c with
 | true => exact hb wh pins s1 σ H1 Q I1 q1
 | false => exact ⟨H1, I1, q1⟩
theorem pw_or (ha : PT X a tA) (hb : PW X (.BoolOp .Or (b :: rest) pos) tB') : PW X (.BoolOp .Or (a :: b :: rest) pos) (tOr tA tB') := by
 intro wh pins s σ H Q I h
 refine isTrue_or (thn (ha pins s σ H _ I h) fun c s1 ⟨H1, I1, q1⟩ => ?_)
 cases c with
 | true => exact ⟨H1, I1, q1⟩
 | false => exact hb wh pins s1 σ H1 Q I1 q1
theorem yN (ha : PT X a tA) : PT X (.UnaryOp .Not a pos) (tNot tA) := by
 intro pins s σ H Q I h
 exact isTrue_not (ha pins s σ H (fun c H1 => Q (!c) H1) I h)
def tAndV (ta tb : TE) : TE := fun σ H Q => ta σ H fun x H1 => ∃ c, x = .bl c ∧ if c = true then tb σ H1 Q else Q (.bl false) H1
def tNotV (ta : TE) : TE := fun σ H Q => ta σ H fun x H1 => ∃ c, x = .bl c ∧ Q (.bl (!c)) H1
theorem xB {op} {t : TE} (h : PE X a t) : PE X (.BoolOp op [a] pos) t := fun pins s σ H Q I hw => BoolOp_one (h pins s σ H Q I hw)
theorem yT (ha : PE X a ta) (hb : PE X (.BoolOp .And (b :: rest) pos) tb) : PE X (.BoolOp .And (a :: b :: rest) pos) (tAndV ta tb) := by
 intro pins s σ H Q I h
 refine BoolOp_and (thn (ha pins s σ H _ I h) fun v s1 ⟨x, H1, I1, r1, q1⟩ => ?_)
 obtain ⟨c, rfl, q1⟩ := q1
 cases r1
 refine wpAny_truthy_bool ?_
 cases c with
 | true => exact hb pins s1 σ H1 Q I1 q1
 | false => exact ⟨.bl false, H1, I1, rfl, q1⟩
theorem pe_not (ha : PE X a ta) : PE X (.UnaryOp .Not a pos) (tNotV ta) := by
 intro pins s σ H Q I h
 refine UnaryOp_ (thn (ha pins s σ H _ I h) fun v s1 ⟨x, H1, I1, r1, q1⟩ => ?_)
 obtain ⟨c, rfl, q1⟩ := q1
 cases r1
 exact not_of (wpAny_truthy_bool ⟨.bl (!c), H1, I1, rfl, q1⟩)
def tIf (t : TT) (ta tb : TE) : TE := fun σ H Q => t σ H fun c H1 => if c = true then ta σ H1 Q else tb σ H1 Q
theorem pe_ifExp {c : Expr} (hc : PT X c tA) (ha : PE X a ta) (hb : PE X b tb) : PE X (.IfExp c a b pos) (tIf tA ta tb) := by
 intro pins s σ H Q I h
 refine wpAny_IfExp (thn (hc pins s σ H _ I h) fun d s1 ⟨H1, I1, q1⟩ => ?_)
 cases d with
 | true => exact ha pins s1 σ H1 Q I1 q1
 | false => exact hb pins s1 σ H1 Q I1 q1
end
end L2
namespace L2
open PySem PySem.Spec PyProof.Rows
def SqL (K : PySem.W.Frag) (H : Hp) (a : Addr) (xs : List V) : Prop :=
 Rd H a (.lst xs) ∨
   ∃ (o : Obj) (its : Array Value) (n : Nat), K.lookup a = some o ∧ o.cls = .type "list" ∧ o.dict = none ∧ o.data = .seq its n ∧ its.size ≤ sizeLine ∧ Vals xs its.toList
def SqT (K : PySem.W.Frag) (H : Hp) (a : Addr) (xs : List V) : Prop :=
 Rd H a (.tup xs) ∨
   ∃ (o : Obj) (its : Array Value) (n : Nat), K.lookup a = some o ∧ o.cls = .type "tuple" ∧ o.data = .seq its n ∧ its.size ≤ sizeLine ∧ Vals xs its.toList
def absV : Value → Option V
 | .none => some .non
 | .bool b => some (.bl b)
 | .int i _ => some (.int i)
 | .str x _ => some (.str x)
 | .bytes b _ => some (.byt b)
 | .float b _ => some (.flt b)
 | .ref a => some (.ref a)
 | .type n => some (.ty n)
 | _ => none
theorem RelV.abs {x : V} {u : Value} (r : RelV x u) : absV u = some x := by
 cases x with
 | non => cases r; rfl
 | bl _ => cases r; rfl
 | int _ => obtain ⟨t, rfl⟩ := r; rfl
 | str _ => obtain ⟨t, rfl⟩ := r; rfl
 | byt _ => obtain ⟨t, rfl⟩ := r; rfl
 | flt _ => obtain ⟨t, rfl⟩ := r; rfl
 | ref _ => cases r; rfl
 | ty _ => cases r; rfl
theorem RelV.inj {x y : V} {u : Value} (r : RelV x u) (q : RelV y u) : x = y := Option.some.inj (r.abs.symm.trans q.abs)
theorem Vals.inj : ∀ {xs ys : List V} {us : List Value}, Vals xs us → Vals ys us → xs = ys
 | _, _, _, .nil, .nil => rfl
 | _, _, _, .cons r t, .cons r' t' => by rw [r.inj r', Vals.inj t t']
section
variable {X : Cx} {pins : List (Addr × Obj)} {σ : St} {H : Hp} {s : Shared} {a : Addr} {xs ys : List V}
theorem SqL.of {K : PySem.W.Frag} (h : H a = some (.lst xs)) : SqL K H a xs := .inl (.inl h)
theorem SqT.of {K : PySem.W.Frag} (h : H a = some (.tup xs)) : SqT K H a xs := .inl (.inl h)
theorem Inv.list (I : Inv X pins σ H s) (h : SqL X.K H a xs) : ∃ its : List Value, Vals xs its ∧ PlainL s.heap a its.toArray ∧ xs.length ≤ sizeLine := by
 rcases h with h | ⟨o, its, n, hk, hc, hd, hs, hz, r⟩
 · obtain ⟨z, its, n, r, e⟩ := h.ok I.hok
   exact ⟨its, r, ⟨_, n, e, rfl, rfl, rfl⟩, z⟩
 · refine ⟨its.toList, r, ⟨o, n, I.kIn a o hk, hc, hd, by simpa using hs⟩, ?_⟩
   have e := r.length
   simp only [Array.length_toList] at e
   omega
theorem Inv.tuple (I : Inv X pins σ H s) (h : SqT X.K H a xs) : ∃ its : List Value, Vals xs its ∧ IsTup s.heap a its.toArray ∧ xs.length ≤ sizeLine := by
 rcases h with h | ⟨o, its, n, hk, hc, hs, hz, r⟩
 · obtain ⟨z, its, r, p⟩ := h.ok I.hok
   exact ⟨its, r, p, z⟩
 · refine ⟨its.toList, r, ⟨o, I.kIn a o hk, hc, n, by simpa using hs⟩, ?_⟩
   have e := r.length
   simp only [Array.length_toList] at e
   omega
theorem Inv.list_inj (I : Inv X pins σ H s) (h : SqL X.K H a xs) (h' : SqL X.K H a ys) : xs = ys := by
 obtain ⟨its, r, ⟨o, n, e, _, _, d⟩, _⟩ := I.list h
 obtain ⟨its', r', ⟨o', n', e', _, _, d'⟩, _⟩ := I.list h'
 rw [e] at e'; cases e'
 rw [d] at d'
 injection d' with d1 _
 have : its = its' := by simpa using congrArg Array.toList d1
 subst this
 exact r.inj r'
end
abbrev Cx.wish (X : Cx) (E : Value → Shared → Prop) : Cx := { X with xe := E }
abbrev Cx.nox (X : Cx) : Cx := X.wish fun _ _ => False
theorem Cx.Ok.wish {X : Cx} (ok : X.Ok) (E : Value → Shared → Prop) : (X.wish E).Ok :=
 ⟨ok.mod, ok.kind, ok.glob, ok.blt, ok.above, ok.inj, ok.has, ok.cab, ok.hd, ok.frames, ok.stk, ok.exf, ok.bs, ok.bsz, ok.noex, ok.exfs, ok.funs, ok.frf⟩
theorem Cx.Ok.unwish {X : Cx} {E : Value → Shared → Prop} (ok : (X.wish E).Ok) : X.Ok :=
 ⟨ok.mod, ok.kind, ok.glob, ok.blt, ok.above, ok.inj, ok.has, ok.cab, ok.hd, ok.frames, ok.stk, ok.exf, ok.bs, ok.bsz, ok.noex, ok.exfs, ok.funs, ok.frf⟩
section
variable {X : Cx} {pins : List (Addr × Obj)} {σ : St} {H : Hp} {s : Shared} {E : Value → Shared → Prop}
theorem Inv.wish (I : Inv X pins σ H s) (E : Value → Shared → Prop) : Inv (X.wish E) pins σ H s := ⟨I.ok.wish E, I.os, I.bare, I.base, I.loc, I.cell, I.free, I.freeC, I.pin, I.hok, I.len⟩
theorem Inv.unwish (I : Inv (X.wish E) pins σ H s) : Inv X pins σ H s := ⟨I.ok.unwish, I.os, I.bare, I.base, I.loc, I.cell, I.free, I.freeC, I.pin, I.hok, I.len⟩
theorem SP.unwish {D : Ends} {f : Flow} {s' : Shared} (h : SP (X.wish E) pins D f s') : SP X pins D f s' := by
 cases f with
 | next => obtain ⟨σ', H', I, q⟩ := h; exact ⟨σ', H', I.unwish, q⟩
 | brk => obtain ⟨σ', H', I, q⟩ := h; exact ⟨σ', H', I.unwish, q⟩
 | cont => obtain ⟨σ', H', I, q⟩ := h; exact ⟨σ', H', I.unwish, q⟩
 | ret u => obtain ⟨v, σ', H', I, r, q⟩ := h; exact ⟨v, σ', H', I.unwish, r, q⟩
theorem PE.nox {e : Expr} {t : TE} (h : PE X.nox e t) : PE X e t := fun pins s σ H Q I hw =>
 wpAny_mono (h pins s σ H Q (I.wish _) hw) (fun _ _ ⟨v, H', I', r, q⟩ => ⟨v, H', I'.unwish, r, q⟩) fun _ _ z => False.elim z
theorem PT.nox {e : Expr} {t : TT} (h : PT X.nox e t) : PT X e t := fun pins s σ H Q I hw =>
 wpAny_mono (h pins s σ H Q (I.wish _) hw) (fun _ _ ⟨H', I', q⟩ => ⟨H', I'.unwish, q⟩) fun _ _ z => False.elim z
theorem PSs.nox {st : List Stmt} {t : TS} (h : PSs X.nox st t) : PSs X st t := fun pins s σ H D I hw =>
 wpAny_mono (h pins s σ H D (I.wish _) hw) (fun _ _ q => q.unwish) fun _ _ z => False.elim z
end
section
variable {X : Cx} {st : Stmt} {rest : List Stmt} {t u : TS} {e : Expr} {te : TE} {pos : Pos}
def tNext : TS := fun D σ H => D.nx σ H
def tSeq (t u : TS) : TS := fun D σ H => t { D with nx := u D } σ H
theorem zS : PSs X [] tNext := fun _ _ σ H _ I h => wpAny_execs_nil ⟨σ, H, I, h⟩
theorem zE (h1 : PS X st t) (h2 : PSs X rest u) : PSs X (st :: rest) (tSeq t u) := by
 intro pins s σ H D I h
 refine wpAny_execs_cons (thn (h1 pins s σ H { D with nx := u D } I h) fun f s1 q => ?_)
 cases f with
 | next =>
   obtain ⟨σ', H', I', q⟩ := q
   exact h2 pins s1 σ' H' D I' q
 | ret v => exact q
 | brk => exact q
 | cont => exact q
theorem zF (h1 : PS X st t) : PSs X [st] t := by
 intro pins s σ H D I h
 refine wpAny_execs_cons (thn (h1 pins s σ H D I h) fun f s1 q => ?_)
 cases f with
 | next => exact wpAny_execs_nil q
 | ret v => exact q
 | brk => exact q
 | cont => exact q
theorem Inv.quiet {pins : List (Addr × Obj)} {σ : St} {H : Hp} {s : Shared} (I : Inv X pins σ H s) : interactive X.env = false := by simp [interactive, I.ok.kind]
def tDrop (te : TE) : TS := fun D σ H => te σ H fun _ H1 => D.nx σ H1
theorem xE (he : PE X e te) (hs : swapsWith e none pos.line X.env = pure false := by rfl) : PS X (.Expr e pos) (tDrop te) := by
 intro pins s σ H D I h
 exact wpAny_Expr_any (thn (he pins s σ H _ I h) fun v s1 ⟨x, H1, I1, r1, q1⟩ => ⟨σ, H1, I1, q1⟩) I.quiet hs
def tRet (te : TE) : TS := fun D σ H => te σ H D.rt
theorem zK (he : PE X e te) : PS X (.Return (some e) pos) (tRet te) := by
 intro pins s σ H D I h
 exact wpAny_Return_some (thn (he pins s σ H _ I h) fun v s1 ⟨x, H1, I1, r1, q1⟩ => ⟨x, σ, H1, I1, r1, q1⟩)
def tIfS (c : TT) (t u : TS) : TS := fun D σ H => c σ H fun b H1 => if b = true then t D σ H1 else u D σ H1
theorem zX {c : Expr} {a b : List Stmt} {tc : TT} (hc : PT X c tc) (ha : PSs X a t) (hb : PSs X b u) : PS X (.If c a b pos) (tIfS tc t u) := by
 intro pins s σ H D I h
 refine wpAny_If (thn (hc pins s σ H _ I h) fun d s1 ⟨H1, I1, q1⟩ => ?_)
 cases d with
 | true => exact ha pins s1 σ H1 D I1 q1
 | false => exact hb pins s1 σ H1 D I1 q1
end
abbrev TG := V → St → Hp → (St → Hp → Prop) → Prop
abbrev TGs := List V → St → Hp → (St → Hp → Prop) → Prop
def PG (X : Cx) (target : Expr) (t : TG) : Prop :=
 ∀ (pins : List (Addr × Obj)) (s : Shared) (σ : St) (H : Hp) (v : V) (u : Value) (Q : St → Hp → Prop), Inv X pins σ H s → RelV v u → t v σ H Q →
   wpAny (model X.prog X.w) X.A (assign target X.env u) (fun _ s' => ∃ σ' H', Inv X pins σ' H' s' ∧ Q σ' H') X.xe s
def PGs (X : Cx) (ts : List Expr) (t : TGs) : Prop :=
 ∀ (pins : List (Addr × Obj)) (s : Shared) (σ : St) (H : Hp) (vs : List V) (us : List Value) (Q : St → Hp → Prop), Inv X pins σ H s → Vals vs us → t vs σ H Q →
   wpAny (model X.prog X.w) X.A (assignInOrder ((assignEach ts X.env).map (·.2)) us) (fun _ s' => ∃ σ' H', Inv X pins σ' H' s' ∧ Q σ' H') X.xe s
abbrev TSet := V → V → V → Hp → (Hp → Prop) → Prop
def PSet (X : Cx) (t : TSet) : Prop :=
 ∀ (pins : List (Addr × Obj)) (s : Shared) (σ : St) (H : Hp) (o i v : V) (ov iv u : Value) (Q : Hp → Prop), Inv X pins σ H s → RelV o ov → RelV i iv → RelV v u → t o i v H Q →
   wpAny (model X.prog X.w) X.A (setItem ov iv u) (fun _ s' => ∃ H', Inv X pins σ H' s' ∧ Q H') X.xe s
section
variable {X : Cx} {pos : Pos}
def gName (i : Nat) : TG := fun v σ H Q => Q (σ.set i (some v)) H
theorem pg_name {i : Nat} {x : Str} (hN : X.N.Nodup) (hi : X.N[i]? = some x) (hx : Loc X.env.scope x) (hf : X.fn x = true ∨ X.env.scope.names.lookup x = some .local := by first | exact .inl rfl | exact .inr rfl | assumption) : PG X (.Name x pos) (gName i) := by
 intro pins s σ H v u Q I r h
 exact wpAny_assign_Name (store_ok I hN hi hx r (fun s' I' => ⟨_, H, I', h⟩) hf)
def gNil : TGs := fun vs σ H Q => vs = [] ∧ Q σ H
def gCons (t : TG) (u : TGs) : TGs := fun vs σ H Q => ∃ v r, vs = v :: r ∧ t v σ H fun σ' H' => u r σ' H' Q
theorem pgs_nil : PGs X [] gNil := by
 intro pins s σ H vs us Q I r h
 obtain ⟨e, h⟩ := h
 subst e
 cases r
 exact assignInOrder_nil ⟨σ, H, I, h⟩
theorem pgs_cons {e : Expr} {es : List Expr} {t : TG} {u : TGs} (h1 : PG X e t) (h2 : PGs X es u)
   (hs : (assignEach (e :: es) X.env).map (·.2) = assign e X.env :: (assignEach es X.env).map (·.2) := by rfl) : PGs X (e :: es) (gCons t u) := by
 intro pins s σ H vs us Q I r h
 obtain ⟨v, vr, e1, h⟩ := h
 subst e1
 cases r with
 | cons r rr =>
   rw [hs]
   refine assignInOrder_cons (thn (h1 pins s σ H _ _ _ I r h) fun _ s1 ⟨σ1, H1, I1, q1⟩ => ?_)
   exact h2 pins s1 σ1 H1 _ _ Q I1 rr q1
def gTup (K : PySem.W.Frag) (n : Nat) (t : TGs) : TG := fun v σ H Q => ∃ a xs, v = .ref a ∧ SqT K H a xs ∧ xs.length = n ∧ t xs σ H Q
theorem pg_tup {es : List Expr} {k : Nat} {t : TGs} {n : Nat} (hc : X.calm = true) (h : PGs X es t)
   (hn : (assignEach es X.env).length = n := by rfl) (hst : (assignEach es X.env).findIdx? (·.1) = none := by rfl) : PG X (.Tuple es k pos) (gTup X.K n t) := by
 intro pins s σ H v u Q I r hw
 obtain ⟨a, xs, e1, hq, hl, hw⟩ := hw
 subst e1
 cases r
 obtain ⟨its, rv, ht, hz⟩ := I.tuple hq
 refine assign_Tuple_tuple (I.ok.hd hc) ht (by simp [hn, ← hl, rv.length]) hst fun h' hx => ?_
 have I1 : Inv X pins σ H { s with heap := h' } := I.kept (t' := s.toks) fun b o e => hx b o (Nat.ne_of_lt (Heap.lt_size e)) e
 exact h pins _ σ H xs _ Q I1 (by simpa using rv) hw
def tAsg (te : TE) (g : TG) : TS := fun D σ H => te σ H fun x H1 => g x σ H1 D.nx
theorem ps_asg {tg e : Expr} {te : TE} {g : TG} (he : PE X e te) (hg : PG X tg g) (hs : swapsWithSole [tg] e pos.line X.env = pure false := by rfl) (hw : swappedStores [tg] e X.env = pure none := by rfl)
   (h1 : (assignEach [tg] X.env).map (·.2) = [assign tg X.env] := by rfl) : PS X (.Assign [tg] e pos) (tAsg te g) := by
 intro pins s σ H D I h
 refine wpAny_Assign_stores (thn (he pins s σ H _ I h) fun v s1 ⟨x, H1, I1, r1, q1⟩ => ?_) hs hw
 rw [h1]
 exact thn (hg pins s1 σ H1 x v _ I1 r1 q1) fun _ s2 q => q
theorem zY {i : Nat} {x : Str} {e : Expr} {te : TE} {pos' : Pos} (hN : X.N.Nodup) (hi : X.N[i]? = some x) (hx : Loc X.env.scope x) (he : PE X e te) (hs : swapsWith e (some (.Name x pos')) pos.line X.env = pure false := by rfl) (hf : X.fn x = true ∨ X.env.scope.names.lookup x = some .local := by first | exact .inl rfl | exact .inr rfl | assumption) :
   PS X (.Assign [.Name x pos'] e pos) (tAsg te (gName i)) := by
 intro pins s σ H D I h
 refine wpAny_Assign_Name (thn (he pins s σ H _ I h) fun v s1 ⟨y, H1, I1, r1, q1⟩ => ?_) hs
 exact store_ok I1 hN hi hx r1 (fun s2 I2 => ⟨_, H1, I2, q1⟩) hf
end
section
variable {X : Cx} {pos : Pos}
def tWhile (c : TT) (tb : TS) : TS := fun D σ H => ∃ W : Nat → St → Hp → Prop, (∃ m, W m σ H) ∧ ∀ m σ H, W m σ H →
 c σ H fun b H1 => if b = true then ∃ N : St → Hp → Prop, (∀ σ' H', N σ' H' → ∃ m', m' < m ∧ W m' σ' H') ∧ tb { D with nx := N, ct := N, bk := D.nx } σ H1 else D.nx σ H1
theorem ps_while {c : Expr} {body : List Stmt} {tc : TT} {tb : TS} (hp : PassesOwn (model X.prog X.w) X.A X.env X.xe) (hc : PT X c tc) (hb : PSs X body tb) : PS X (.While c body [] pos) (tWhile tc tb) := by
 intro pins s σ H D I h
 obtain ⟨W, ⟨m0, w0⟩, turn⟩ := h
 refine wpAny_While (codeAny_whileLoop (fun n s' => ∃ σ' H', Inv X pins σ' H' s' ∧ W n σ' H') ?_ m0 ⟨σ, H, I, w0⟩)
 rintro n s1 ⟨σ1, H1, I1, w1⟩
 refine wpAny_passesOwn hp (thn (hc pins s1 σ1 H1 _ I1 (turn n σ1 H1 w1)) fun b s2 ⟨H2, I2, q2⟩ => ?_)
 cases b with
 | true =>
   obtain ⟨N, hN, q2⟩ := q2
   rw [if_pos rfl]
   refine wpAny_passesOwn hp (thn (hb pins s2 σ1 H2 _ I2 q2) fun f s3 q3 => ?_)
   cases f with
   | next =>
     obtain ⟨σ3, H3, I3, n3⟩ := q3
     obtain ⟨m', hm, w3⟩ := hN σ3 H3 n3
     exact ⟨m', hm, σ3, H3, I3, w3⟩
   | cont =>
     obtain ⟨σ3, H3, I3, n3⟩ := q3
     obtain ⟨m', hm, w3⟩ := hN σ3 H3 n3
     exact ⟨m', hm, σ3, H3, I3, w3⟩
   | brk => exact q3
   | ret v => exact q3
 | false =>
   rw [if_neg Bool.false_ne_true]
   exact wpAny_execs_nil ⟨σ1, H2, I2, q2⟩
end
structure It where
 go : Nat → Hp → Prop
 yld : Nat → Hp → V → Hp → Prop
 stop : Nat → Hp → Prop
def FpOk (X : Cx) (pins : List (Addr × Obj)) (H : Hp) (b : Addr) : Prop :=
 H b = none ∧ b ≠ X.env.locals ∧ b ∉ X.fs ∧ (b ∈ X.ex ∨ X.s₀.heap.objs.size ≤ b) ∧ (∀ x c, X.env.cells.lookup x = some c → c ≠ b) ∧ ∀ p ∈ X.pn ++ pins, p.1 ≠ b
theorem Inv.fpOk {X : Cx} {pins : List (Addr × Obj)} {σ : St} {H H' : Hp} {s : Shared} {b : Addr} (I : Inv X pins σ H s) (hb : s.heap.objs.size ≤ b) (hn : H' b = none) : FpOk X pins H' b := by
 refine ⟨hn, Nat.ne_of_gt (Nat.lt_of_lt_of_le I.lt hb), I.nofs hb, .inr (Nat.le_trans I.sz hb), fun x c e z => ?_, fun p hp z => ?_⟩
 · obtain ⟨v, q⟩ := I.cell x c e
   exact absurd (Nat.lt_of_lt_of_le q.lt (by rw [z]; exact hb)) (Nat.lt_irrefl _)
 · exact absurd (Nat.lt_of_lt_of_le (Heap.lt_size (I.pin p hp).1) (by rw [z]; exact hb)) (Nat.lt_irrefl _)
structure Turn (P : Program) (w : World) (K : PySem.W.Frag) (tg : Expr) (J : It) (fp : List Addr) (it : Addr) (tn : Nat → Heap → Prop) : Prop where
 mem : it ∈ fp
 obj : ∀ i h, tn i h → ∀ b ∈ fp, ∃ o, h.get? b = some o ∧ ∀ v, o.data ≠ .cell v
 keep : ∀ i h h', tn i h → (∀ b ∈ fp, ∀ o, h.get? b = some o → h'.get? b = some o) → tn i h'
 item : ∀ (X : Cx), X.prog = P → X.w = w → X.K = K → X.calm = true → ∀ (i : Nat) (pins : List (Addr × Obj)) (s : Shared) (σ : St) (H : Hp) (E : Value → Shared → Prop), Inv X pins σ H s → (∀ b ∈ fp, FpOk X pins H b) → tn i s.heap → J.go i H →
   wpAny (model P w) X.A (pyNext (.ref it)) (fun r s1 => ∃ u, r = some u ∧
     wpAny (model P w) X.A (letOwnedTupleGo tg (.ref it) u) (fun _ s2 => ∃ x H', Inv X pins σ H' s2 ∧ RelV x u ∧ J.yld i H x H' ∧ tn (i + 1) s2.heap ∧ ∀ b ∈ fp, H' b = none) E s1) E s
 done : ∀ (X : Cx), X.prog = P → X.w = w → X.K = K → X.calm = true → ∀ (i : Nat) (pins : List (Addr × Obj)) (s : Shared) (σ : St) (H : Hp) (E : Value → Shared → Prop), Inv X pins σ H s → (∀ b ∈ fp, FpOk X pins H b) → tn i s.heap → J.stop i H →
   wpAny (model P w) X.A (pyNext (.ref it)) (fun r s1 => r = none ∧ Inv X pins σ H s1) E s
 self : ∀ (A : Around) (i : Nat) (s : Shared) (Q : Value → Shared → Prop) (E : Value → Shared → Prop), tn i s.heap → Q (.ref it) s → wpAny (model P w) A (pyIter (.ref it)) Q E s
abbrev TI := St → Hp → (It → Hp → Prop) → Prop
def PIE (X : Cx) (pins : List (Addr × Obj)) (σ : St) (tg : Expr) (R : It → Hp → Prop) (itv : Value) (s2 : Shared) : Prop :=
 ∃ (it : Addr) (fp : List Addr) (tn : Nat → Heap → Prop) (J : It) (H' : Hp), itv = .ref it ∧ Inv X pins σ H' s2 ∧ Turn X.prog X.w X.K tg J fp it tn ∧ tn 0 s2.heap ∧ (∀ b ∈ fp, FpOk X pins H' b) ∧ R J H'
def PI (X : Cx) (tg iter : Expr) (wi : TI) : Prop :=
 ∀ (pins : List (Addr × Obj)) (s : Shared) (σ : St) (H : Hp) (R : It → Hp → Prop), Inv X pins σ H s → wi σ H R →
   wpAny (model X.prog X.w) X.A (eval iter X.env) (fun v s1 => wpAny (model X.prog X.w) X.A (pyIter v) (PIE X pins σ tg R) X.xe s1) X.xe s
theorem go_of {M : Model} {A : Around} {E : Value → Shared → Prop} {s : Shared} {tg : Expr} {it : Addr} {u : Value} {o : Obj} {n : String} {vs : Array Value} {Q : Unit → Shared → Prop} (ho : s.heap.get? it = some o) (hc : o.cls = .type n) (hd : o.data = .fields vs)
   (hn : ["enumerate", "zip", "dict_itemiterator", "dict_reverseitemiterator", "odict_iterator", "itertools.zip_longest", "itertools.pairwise"].contains n = false) (hQ : Q () s) : wpAny M A (letOwnedTupleGo tg (.ref it) u) Q E s := by
 unfold letOwnedTupleGo
 cases tg <;> first
   | exact wpAny_pure hQ
   | (cases u <;> first
       | exact wpAny_pure hQ
       | (refine wpAny_bind (wpAny_load ho ?_)
          rw [hc, hd]
          show wpAny M A (if (["enumerate", "zip", "dict_itemiterator", "dict_reverseitemiterator", "odict_iterator", "itertools.zip_longest", "itertools.pairwise"].contains n && vs[0]? == some (rawInt _)) = true then _ else _) Q E s
          rw [if_neg (by intro h; rw [hn, Bool.false_and] at h; cases h)]
          exact wpAny_pure hQ))
def Itl (K : PySem.W.Frag) (a : Addr) : It :=
 ⟨fun i H => ∃ xs x, SqL K H a xs ∧ xs[i]? = some x, fun i H x H' => H' = H ∧ ∀ xs, SqL K H a xs → xs[i]? = some x, fun i H => ∃ xs, SqL K H a xs ∧ xs.length ≤ i⟩
def Itr (lo : Int) (n : Nat) : It := ⟨fun i _ => i < n, fun i H x H' => H' = H ∧ x = .int (lo + i), fun i _ => n ≤ i⟩
theorem turn_list {P : Program} {w : World} {K : PySem.W.Frag} {tg : Expr} (a it : Addr) : Turn P w K tg (Itl K a) [it] it (fun i h => h.IsListIter it a i) where
 mem := by simp
 obj := fun i h st b hb => by
   have e : b = it := by simpa using hb
   subst e
   obtain ⟨o, e, c, d⟩ := st
   exact ⟨o, e, fun v z => by rw [d] at z; cases z⟩
 keep := fun i h h' st k => st.at fun o e => k it (by simp) o e
 item := by
   intro X hP hw hK hc i pins s σ H E I hf st hg
   subst hP hw hK
   obtain ⟨xs, x, hq, hx⟩ := hg
   obtain ⟨its, rv, p, hz⟩ := I.list hq
   obtain ⟨u, hu, ru⟩ := rv.get hx
   obtain ⟨f0, f1, f2, f3, f4, f5⟩ := hf it (by simp)
   refine wpAny_pyNext_list_item st p.isList (x := u) (by simpa using hu) fun h' st' sb => ?_
   have I1 : Inv X pins σ H { s with heap := h' } := I.turned (t' := s.toks) (fun b o hb e => (sb.2 b hb).trans e) f0 f1 f3 f4 f5
   obtain ⟨o, e, c, d⟩ := id st'
   exact ⟨u, rfl, go_of (s := { s with heap := h' }) e c d (by decide) ⟨x, H, I1, ru, ⟨rfl, fun ys hy => by rw [I.list_inj hy hq]; exact hx⟩, st', fun b hb => (hf b hb).1⟩⟩
 done := by
   intro X hP hw hK hc i pins s σ H E I hf st hg
   subst hP hw hK
   obtain ⟨xs, hq, hx⟩ := hg
   obtain ⟨its, rv, p, hz⟩ := I.list hq
   obtain ⟨f0, f1, f2, f3, f4, f5⟩ := hf it (by simp)
   have hl := rv.length
   exact wpAny_pyNext_list_end (I.ok.hd hc) st p.isList (by simp; omega) fun h' eb => ⟨rfl, I.turned (t' := s.toks) (fun b o hb e => eb b o hb e) f0 f1 f3 f4 f5⟩
 self := fun _ _ _ _ _ st h => wpAny_pyIter_listiter st h
theorem turn_range {P : Program} {w : World} {K : PySem.W.Frag} {tg : Expr} (it : Addr) (lo : Int) (n : Nat) : Turn P w K tg (Itr lo n) [it] it (fun i h => IsRangeIter h it (lo + (i : Nat) * 1) ((n : Int) - (i : Nat)) 1) where
 mem := by simp
 obj := fun i h st b hb => by
   have e : b = it := by simpa using hb
   subst e
   exact ⟨_, st, fun v z => by
     have z' : Data.fields _ = Data.cell v := z
     cases z'⟩
 keep := fun i h h' st k => k it (by simp) _ st
 item := by
   intro X hP hw hK hc i pins s σ H E I hf st hg
   subst hP hw hK
   obtain ⟨f0, f1, f2, f3, f4, f5⟩ := hf it (by simp)
   have W := Walks.range (prog := X.prog) (w := X.w) (I.ok.hd hc) it lo 1 n
   refine W.item i s _ _ hg st fun v h' tk hv st' kk => ?_
   obtain ⟨t, rfl⟩ := hv
   have I1 : Inv X pins σ H { s with heap := h', toks := tk } := I.turned (fun b o hb e => kk b o (by simpa using hb) e) f0 f1 f3 f4 f5
   refine ⟨_, rfl, go_of (s := { s with heap := h', toks := tk }) (n := "range_iterator") st' rfl rfl (by decide) ⟨.int (lo + i), H, I1, ⟨t, ?_⟩, ⟨rfl, rfl⟩, st', fun b hb => (hf b hb).1⟩⟩
   rw [Int.mul_one]
 done := by
   intro X hP hw hK hc i pins s σ H E I hf st hg
   subst hP hw hK
   obtain ⟨f0, f1, f2, f3, f4, f5⟩ := hf it (by simp)
   exact wpAny_pyNext_range_end (I.ok.hd hc) st (by have : n ≤ i := hg; omega) fun h' eb => ⟨rfl, I.turned (t' := s.toks) (fun b o hb e => eb b o hb e) f0 f1 f3 f4 f5⟩
 self := fun _ _ _ _ _ st h => wpAny_pyIter_rangeiter st h
end L2
namespace L2
open PySem PySem.Spec PyProof.Rows
section
variable {X : Cx} {tg : Expr}
def iList (K : PySem.W.Frag) (tl : TE) : TI := fun σ H R => tl σ H fun x H1 => ∃ a, x = .ref a ∧ (∃ xs, SqL K H1 a xs) ∧ R (Itl K a) H1
theorem pi_list {l : Expr} {tl : TE} (hl : PE X l tl) : PI X tg l (iList X.K tl) := by
 intro pins s σ H R I h
 refine thn (hl pins s σ H _ I h) fun v s1 ⟨x, H1, I1, r1, q1⟩ => ?_
 obtain ⟨a, e, ⟨xs, hq⟩, q⟩ := q1
 subst e
 cases r1
 obtain ⟨its, rv, p, hz⟩ := I1.list hq
 refine wpAny_pyIter_list p.isList ?_
 refine ⟨s1.heap.objs.size, [s1.heap.objs.size], _, _, H1, rfl, I1.kept (t' := s1.toks) fun b o e => Heap.get?_push_of_some _ e, turn_list a _, ⟨_, Heap.get?_push_size _ rfl, rfl, rfl⟩, fun b hb => ?_, q⟩
 have e : b = s1.heap.objs.size := by simpa using hb
 subst e
 exact I1.fpOk (Nat.le_refl _) (I1.hok.fresh (Nat.le_refl _))
theorem range_it {pins : List (Addr × Obj)} {σ : St} {H : Hp} {s : Shared} {R : It → Hp → Prop} {E : Value → Shared → Prop} {lo hi : Int} {t u v : Tok} {tk : Nat} (I : Inv X pins σ H s) (h1 : -(2 ^ 62) ≤ lo) (h2 : lo < 2 ^ 62) (h3 : -(2 ^ 62) ≤ hi) (h4 : hi < 2 ^ 62)
   (q : R (Itr lo (hi - lo).toNat) H) : wpAny (model X.prog X.w) X.A (pyIter (.ref s.heap.objs.size)) (PIE X pins σ tg R) E { s with heap := s.heap.push { cls := .type "range", data := .fields #[.int lo t, .int hi u, .int 1 v] }, toks := tk } := by
 refine wpAny_pyIter_range (IsRange.new ..) (small_one h1 h2 h3 h4) ?_
 have I1 : Inv X pins σ H { s with heap := s.heap.push { cls := .type "range", data := .fields #[.int lo t, .int hi u, .int 1 v] }, toks := tk } := I.kept fun b o e => Heap.get?_push_of_some _ e
 refine ⟨(s.heap.push { cls := .type "range", data := .fields #[.int lo t, .int hi u, .int 1 v] }).objs.size, [(s.heap.push { cls := .type "range", data := .fields #[.int lo t, .int hi u, .int 1 v] }).objs.size], _, _, H, rfl,
   I1.kept (t' := tk) fun b o e => Heap.get?_push_of_some _ e, turn_range _ lo (hi - lo).toNat, ?_, fun b hb => ?_, q⟩
 · have e1 : lo + ((0 : Nat) : Int) * 1 = lo := by simp
   have e2 : (((hi - lo).toNat : Nat) : Int) - ((0 : Nat) : Int) = Builtin.Range.rangeSize lo hi 1 := by rw [rangeSize_one]; split <;> omega
   show IsRangeIter _ _ (lo + ((0 : Nat) : Int) * 1) ((((hi - lo).toNat : Nat) : Int) - ((0 : Nat) : Int)) 1
   rw [e1, e2]
   exact Heap.get?_push_size _ rfl
 · have e : b = (s.heap.push { cls := .type "range", data := .fields #[.int lo t, .int hi u, .int 1 v] }).objs.size := by simpa using hb
   subst e
   exact I1.fpOk (Nat.le_refl _) (I1.hok.fresh (Nat.le_refl _))
def iRng1 (ta : TA) : TI := fun σ H R => ta σ H fun vs H1 => ∃ j : Int, vs = [.int j] ∧ -(2 ^ 62) ≤ j ∧ j < 2 ^ 62 ∧ R (Itr 0 j.toNat) H1
theorem pi_range1 {a : Expr} {ta : TA} {p pos : Pos} (hg : Gl X "range") (hm : X.mg "range" = none) (ha : PA X [a] ta) (hs : starEach [a] X.env = [(false, eval a X.env)] := by rfl) : PI X tg (.Call (.Name "range" p) [a] [] pos) (iRng1 ta) := by
 intro pins s σ H R I h
 refine Call_ (ld_blt I hg hm boot_range (PyProof.Rows.callWith_type1 (thn (ha pos pins s σ H _ I h) fun us s1 ⟨vs, H1, I1, r1, q1⟩ => ?_) hs rfl))
 obtain ⟨j, e, q1, q2, q⟩ := q1
 subst e
 cases r1 with
 | cons r rr =>
   cases rr
   obtain ⟨t, rfl⟩ := r
   exact call_range_1 (range_it I1 (by omega) (by omega) q1 q2 (by simpa using q))
def tFor (wi : TI) (g : TG) (tb : TS) : TS := fun D σ H => wi σ H fun J H1 => ∃ W : Nat → Nat → St → Hp → Prop, (∃ m, W 0 m σ H1) ∧ ∀ i m σ H, W i m σ H →
 (J.stop i H ∧ D.nx σ H) ∨ (J.go i H ∧ ∃ N : St → Hp → Prop, (∀ σ' H', N σ' H' → ∃ m', m' < m ∧ W (i + 1) m' σ' H') ∧ ∀ x H', J.yld i H x H' → g x σ H' fun σ2 H2 => tb { D with nx := N, ct := N, bk := D.nx } σ2 H2)
def pinsAt (fp : List Addr) (h : Heap) : List (Addr × Obj) := fp.filterMap fun b => (h.get? b).map fun o => (b, o)
theorem yY {fp : List Addr} {h : Heap} {b : Addr} {o : Obj} (hb : b ∈ fp) (e : h.get? b = some o) : (b, o) ∈ pinsAt fp h := List.mem_filterMap.mpr ⟨b, hb, by rw [e]; rfl⟩
theorem of_pinsAt {fp : List Addr} {h : Heap} {p : Addr × Obj} (hp : p ∈ pinsAt fp h) : p.1 ∈ fp ∧ h.get? p.1 = some p.2 := by
 obtain ⟨b, hb, e⟩ := List.mem_filterMap.mp hp
 cases q : h.get? b with
 | none => rw [q] at e; cases e
 | some o =>
   rw [q] at e
   have e' : (b, o) = p := Option.some.inj e
   subst e'
   exact ⟨hb, q⟩
theorem Inv.pinned {pins : List (Addr × Obj)} {σ : St} {H : Hp} {s : Shared} {fp : List Addr} (I : Inv X pins σ H s) (hf : ∀ b ∈ fp, FpOk X pins H b) (ho : ∀ b ∈ fp, ∃ o, s.heap.get? b = some o ∧ ∀ v, o.data ≠ .cell v) : Inv X (pins ++ pinsAt fp s.heap) σ H s :=
 I.pins_of fun p hp => (List.mem_append.mp hp).elim (fun z => I.pin p (List.mem_append_right _ z)) fun z => by
   obtain ⟨hb, e⟩ := of_pinsAt z
   obtain ⟨f0, f1, f2, _⟩ := hf p.1 hb
   obtain ⟨o, e', d⟩ := ho p.1 hb
   rw [e] at e'; cases e'
   exact ⟨e, f0, f1, f2, d⟩
theorem Inv.unpinned {pins pl : List (Addr × Obj)} {σ : St} {H : Hp} {s : Shared} (I : Inv X (pins ++ pl) σ H s) : Inv X pins σ H s := I.pins_of fun p hp => I.pin p (List.mem_append_right _ (List.mem_append_left _ hp))
theorem ps_for {iter : Expr} {body : List Stmt} {wi : TI} {g : TG} {tb : TS} {pos : Pos} (hp : PassesOwn (model X.prog X.w) X.A X.env X.xe) (hc : X.calm = true) (hi : PI X tg iter wi) (hg : PG X tg g) (hb : PSs X body tb)
   (hs : ∀ x, foldedSetIterable iter X.env x = pure x := by intro _; rfl) : PS X (.For tg iter body [] pos) (tFor wi g tb) := by
 intro pins s σ H D I h
 refine wpAny_For (thn (hi pins s σ H _ I h) fun v s1 h1 => thn h1 fun itv s2 h2 => ?_) hs
 obtain ⟨it, fp, tn, J, H2, e, I2, T, st2, f2, W, ⟨m0, w0⟩, turn⟩ := h2
 subst e
 have stat : ∀ {H' : Hp}, (∀ b ∈ fp, H' b = none) → ∀ b ∈ fp, FpOk X pins H' b := fun hn b hb => ⟨hn b hb, (f2 b hb).2⟩
 refine codeAny_forLoop_any (fun n s' => ∃ i σ' H', Inv X pins σ' H' s' ∧ tn i s'.heap ∧ (∀ b ∈ fp, H' b = none) ∧ W i n σ' H') ?_ m0 ⟨0, σ, H2, I2, st2, fun b hb => (f2 b hb).1, w0⟩
 rintro n s3 ⟨i, σ3, H3, I3, st3, fr3, w3⟩
 rcases turn i n σ3 H3 w3 with ⟨stop, qn⟩ | ⟨go, N, hN, step⟩
 · refine wpAny_passesOwn hp (thn (T.done X rfl rfl rfl hc i pins s3 σ3 H3 X.xe I3 (stat fr3) st3 stop) fun r s4 ⟨hr, I4⟩ => ?_)
   subst hr
   exact wpAny_execs_nil ⟨σ3, H3, I4, qn⟩
 · refine wpAny_passesOwn hp (thn (T.item X rfl rfl rfl hc i pins s3 σ3 H3 X.xe I3 (stat fr3) st3 go) fun r s4 ⟨u, hr, h4⟩ => ?_)
   subst hr
   refine wpAny_passesOwn hp (thn h4 fun _ s5 ⟨x, H5, I5, r5, y5, st5, fr5⟩ => ?_)
   have I5' := I5.pinned (stat fr5) (T.obj _ _ st5)
   refine wpAny_passesOwn hp (thn (hg _ s5 σ3 H5 x u _ I5' r5 (step x H5 y5)) fun _ s6 ⟨σ6, H6, I6, q6⟩ => ?_)
   refine wpAny_passesOwn hp (thn (hb _ s6 σ6 H6 _ I6 q6) fun f s7 q7 => ?_)
   have again : ∀ {σ7 : St} {H7 : Hp}, Inv X (pins ++ pinsAt fp s5.heap) σ7 H7 s7 → N σ7 H7 → ∃ m, m < n ∧ ∃ i σ' H', Inv X pins σ' H' s7 ∧ tn i s7.heap ∧ (∀ b ∈ fp, H' b = none) ∧ W i m σ' H' := fun {σ7 H7} I7 n7 => by
     obtain ⟨m', hm, w7⟩ := hN σ7 H7 n7
     refine ⟨m', hm, i + 1, σ7, H7, I7.unpinned, T.keep _ _ _ st5 fun b hb o e => (I7.pin (b, o) (List.mem_append_right _ (List.mem_append_right _ (yY hb e)))).1, fun b hb => ?_, w7⟩
     obtain ⟨o, e, d⟩ := T.obj _ _ st5 b hb
     exact (I7.pin (b, o) (List.mem_append_right _ (List.mem_append_right _ (yY hb e)))).2.1
   cases f with
   | next => obtain ⟨σ7, H7, I7, n7⟩ := q7; exact again I7 n7
   | cont => obtain ⟨σ7, H7, I7, n7⟩ := q7; exact again I7 n7
   | brk => obtain ⟨σ7, H7, I7, q7⟩ := q7; exact ⟨σ7, H7, I7.unpinned, q7⟩
   | ret v => obtain ⟨x7, σ7, H7, I7, r7, q7⟩ := q7; exact ⟨x7, σ7, H7, I7.unpinned, r7, q7⟩
end
theorem for_list {K : PySem.W.Frag} {a : Addr} {xs : List V} {g : TG} {tb : TS} {D : Ends} {σ : St} {H : Hp} (Pv : Nat → St → Hp → Prop) (h0 : Pv 0 σ H) (hl : ∀ i σ H, i ≤ xs.length → Pv i σ H → SqL K H a xs)
   (hs : ∀ i x σ H, xs[i]? = some x → Pv i σ H → g x σ H fun σ2 H2 => tb { D with nx := Pv (i + 1), ct := Pv (i + 1), bk := D.nx } σ2 H2) (hd : ∀ σ H, Pv xs.length σ H → D.nx σ H) :
   ∃ W : Nat → Nat → St → Hp → Prop, (∃ m, W 0 m σ H) ∧ ∀ i m σ H, W i m σ H →
     ((Itl K a).stop i H ∧ D.nx σ H) ∨ ((Itl K a).go i H ∧ ∃ N : St → Hp → Prop, (∀ σ' H', N σ' H' → ∃ m', m' < m ∧ W (i + 1) m' σ' H') ∧ ∀ x H', (Itl K a).yld i H x H' → g x σ H' fun σ2 H2 => tb { D with nx := N, ct := N, bk := D.nx } σ2 H2) := by
 refine ⟨fun i m σ H => m = xs.length - i ∧ i ≤ xs.length ∧ Pv i σ H, ⟨xs.length, by simp, Nat.zero_le _, h0⟩, ?_⟩
 rintro i m σ H ⟨rfl, hi, p⟩
 have q := hl i σ H hi p
 by_cases hlt : i < xs.length
 · refine .inr ⟨⟨xs, xs[i], q, by simp [hlt]⟩, Pv (i + 1), fun σ' H' p' => ⟨xs.length - (i + 1), by omega, rfl, hlt, p'⟩, fun x H' y => ?_⟩
   obtain ⟨e, y⟩ := y
   subst e
   exact hs i x σ _ (y xs q) p
 · have e : i = xs.length := by omega
   subst e
   exact .inl ⟨⟨xs, q, Nat.le_refl _⟩, hd σ H p⟩
theorem for_range {lo : Int} {n : Nat} {g : TG} {tb : TS} {D : Ends} {σ : St} {H : Hp} (Pv : Nat → St → Hp → Prop) (h0 : Pv 0 σ H)
   (hs : ∀ i σ H, i < n → Pv i σ H → g (.int (lo + i)) σ H fun σ2 H2 => tb { D with nx := Pv (i + 1), ct := Pv (i + 1), bk := D.nx } σ2 H2) (hd : ∀ σ H, Pv n σ H → D.nx σ H) :
   ∃ W : Nat → Nat → St → Hp → Prop, (∃ m, W 0 m σ H) ∧ ∀ i m σ H, W i m σ H →
     ((Itr lo n).stop i H ∧ D.nx σ H) ∨ ((Itr lo n).go i H ∧ ∃ N : St → Hp → Prop, (∀ σ' H', N σ' H' → ∃ m', m' < m ∧ W (i + 1) m' σ' H') ∧ ∀ x H', (Itr lo n).yld i H x H' → g x σ H' fun σ2 H2 => tb { D with nx := N, ct := N, bk := D.nx } σ2 H2) := by
 refine ⟨fun i m σ H => m = n - i ∧ i ≤ n ∧ Pv i σ H, ⟨n, by simp, Nat.zero_le _, h0⟩, ?_⟩
 rintro i m σ H ⟨rfl, hi, p⟩
 by_cases hlt : i < n
 · refine .inr ⟨hlt, Pv (i + 1), fun σ' H' p' => ⟨n - (i + 1), by omega, rfl, hlt, p'⟩, fun x H' y => ?_⟩
   obtain ⟨e, y⟩ := y
   subst e y
   exact hs i σ _ hlt p
 · have e : i = n := by omega
   subst e
   exact .inl ⟨Nat.le_refl _, hd σ H p⟩
end L2
namespace L2
open PySem PySem.Spec PyProof.Rows
abbrev R2 := V → V → Hp → VK → Prop
def OpR (X : Cx) (f : Value → Value → Sem Value) (r : R2) : Prop :=
 ∀ (pins : List (Addr × Obj)) (s : Shared) (σ : St) (H : Hp) (x y : V) (v u : Value) (Q : VK), Inv X pins σ H s → RelV x v → RelV y u → r x y H Q →
   wpAny (model X.prog X.w) X.A (f v u) (EP X pins σ Q) X.xe s
def UnR (X : Cx) (f : Value → Sem Value) (r : V → Hp → VK → Prop) : Prop :=
 ∀ (pins : List (Addr × Obj)) (s : Shared) (σ : St) (H : Hp) (x : V) (v : Value) (Q : VK), Inv X pins σ H s → RelV x v → r x H Q →
   wpAny (model X.prog X.w) X.A (f v) (EP X pins σ Q) X.xe s
def CallR (X : Cx) (f : Value) (r : List V → Hp → VK → Prop) : Prop :=
 ∀ (pins : List (Addr × Obj)) (s : Shared) (σ : St) (H : Hp) (xs : List V) (us : List Value) (Q : VK), Inv X pins σ H s → Vals xs us → r xs H Q →
   wpAny (model X.prog X.w) X.A (call f us) (EP X pins σ Q) X.xe s
def TruR (X : Cx) (r : V → Hp → (Bool → Hp → Prop) → Prop) : Prop :=
 ∀ (pins : List (Addr × Obj)) (s : Shared) (σ : St) (H : Hp) (x : V) (v : Value) (Q : Bool → Hp → Prop), Inv X pins σ H s → RelV x v → r x H Q →
   wpAny (model X.prog X.w) X.A (truthy v) (TP X pins σ Q) X.xe s
def tOp (r : R2) (ta tb : TE) : TE := fun σ H Q => ta σ H fun x H1 => tb σ H1 fun y H2 => r x y H2 Q
def tUn (r : V → Hp → VK → Prop) (ta : TE) : TE := fun σ H Q => ta σ H fun x H1 => r x H1 Q
def rI (C : Int → Int → Prop) (g : Int → Int → V) : R2 := fun x y H Q => ∃ i j, x = .int i ∧ y = .int j ∧ C i j ∧ Q (g i j) H
def rI0 (g : Int → Int → V) : R2 := fun x y H Q => ∃ i j, x = .int i ∧ y = .int j ∧ Q (g i j) H
def rU (g : Int → V) : V → Hp → VK → Prop := fun x H Q => ∃ i, x = .int i ∧ Q (g i) H
section
variable {X : Cx} {a b c : Expr} {ta tb tc : TE} {pos : Pos}
theorem binT (ha : PE X a ta) (hb : PE X b tb) {pins : List (Addr × Obj)} {s : Shared} {σ : St} {H : Hp} {R : V → V → Hp → Prop} (I : Inv X pins σ H s)
   (h : ta σ H fun x H1 => tb σ H1 fun y H2 => R x y H2) {Q : Value → Shared → Prop} {f : Value → Value → Sem Value}
   (hf : ∀ v u s2 x y H2, Inv X pins σ H2 s2 → RelV x v → RelV y u → R x y H2 → wpAny (model X.prog X.w) X.A (f v u) Q X.xe s2) :
   wpAny (model X.prog X.w) X.A (eval a X.env) (fun v s₁ => wpAny (model X.prog X.w) X.A (eval b X.env) (fun u s₂ => wpAny (model X.prog X.w) X.A (f v u) Q X.xe s₂) X.xe s₁) X.xe s := by
 refine thn (ha pins s σ H _ I h) fun v s1 ⟨x, H1, I1, r1, q1⟩ => ?_
 refine thn (hb pins s1 σ H1 _ I1 q1) fun u s2 ⟨y, H2, I2, r2, q2⟩ => ?_
 exact hf v u s2 x y H2 I2 r1 r2 q2
theorem zI {op : Operator} {r : R2} (ho : OpR X (binaryOp op) r) (ha : PE X a ta) (hb : PE X b tb) : PE X (.BinOp a op b pos) (tOp r ta tb) := by
 intro pins s σ H Q I h
 exact wpAny_BinOp (binT ha hb I h fun v u s2 x y H2 I2 rx ry q => ho pins s2 σ H2 x y v u Q I2 rx ry q)
theorem pe_un {op : UnaryOp} {r : V → Hp → VK → Prop} (ho : UnR X (unaryOp op) r) (ha : PE X a ta) : PE X (.UnaryOp op a pos) (tUn r ta) := by
 intro pins s σ H Q I h
 exact UnaryOp_ (thn (ha pins s σ H _ I h) fun v s1 ⟨x, H1, I1, r1, q1⟩ => ho pins s1 σ H1 x v Q I1 r1 q1)
theorem opI {f : Value → Value → Sem Value} {C : Int → Int → Prop} {g : Int → Int → Int}
   (rule : ∀ (i j : Int) (t u : Tok) (s : Shared) (Q : Value → Shared → Prop) (E : Value → Shared → Prop), C i j → Q (.int (g i j) s.toks) { s with toks := s.toks + 1 } → wpAny (model X.prog X.w) X.A (f (.int i t) (.int j u)) Q E s) :
   OpR X f (rI C fun i j => .int (g i j)) := by
 intro pins s σ H x y v u Q I rx ry h
 obtain ⟨i, j, rfl, rfl, hc, q⟩ := h
 obtain ⟨t, rfl⟩ := rx
 obtain ⟨t', rfl⟩ := ry
 exact rule i j t t' s _ _ hc ⟨.int (g i j), H, I.tok _, ⟨_, rfl⟩, q⟩
theorem opI0 {f : Value → Value → Sem Value} {g : Int → Int → Int}
   (rule : ∀ (i j : Int) (t u : Tok) (s : Shared) (Q : Value → Shared → Prop) (E : Value → Shared → Prop), Q (.int (g i j) s.toks) { s with toks := s.toks + 1 } → wpAny (model X.prog X.w) X.A (f (.int i t) (.int j u)) Q E s) :
   OpR X f (rI0 fun i j => .int (g i j)) := by
 intro pins s σ H x y v u Q I rx ry h
 obtain ⟨i, j, rfl, rfl, q⟩ := h
 obtain ⟨t, rfl⟩ := rx
 obtain ⟨t', rfl⟩ := ry
 exact rule i j t t' s _ _ ⟨.int (g i j), H, I.tok _, ⟨_, rfl⟩, q⟩
theorem opB0 {f : Value → Value → Sem Value} {g : Int → Int → Bool}
   (rule : ∀ (i j : Int) (t u : Tok) (s : Shared) (Q : Value → Shared → Prop) (E : Value → Shared → Prop), Q (.bool (g i j)) s → wpAny (model X.prog X.w) X.A (f (.int i t) (.int j u)) Q E s) :
   OpR X f (rI0 fun i j => .bl (g i j)) := by
 intro pins s σ H x y v u Q I rx ry h
 obtain ⟨i, j, rfl, rfl, q⟩ := h
 obtain ⟨t, rfl⟩ := rx
 obtain ⟨t', rfl⟩ := ry
 exact rule i j t t' s _ _ ⟨.bl (g i j), H, I, rfl, q⟩
def CDiv (i j : Int) : Prop := 0 < j ∧ j < 1073741824
def CPow (i j : Int) : Prop := 0 ≤ j ∧ j ≤ 1000000 ∧ i.natAbs < 2 ^ 64
def CMul (i j : Int) : Prop := (-(2 ^ 64) < i ∧ i < 2 ^ 64) ∨ (-(2 ^ 64) < j ∧ j < 2 ^ 64)
theorem CMul.ok {i j : Int} (h : CMul i j) : IntMulOk i j := by
 rcases h with ⟨h1, h2⟩ | ⟨h1, h2⟩
 · exact .of_left (intBits_le_64 h1 h2)
 · exact .of_right (intBits_le_64 h1 h2)
theorem yW : OpR X (binaryOp .Add) (rI0 fun i j => .int (i + j)) := opI0 fun _ _ _ _ _ _ _ q => add_int q
theorem op_sub : OpR X (binaryOp .Sub) (rI0 fun i j => .int (i - j)) := opI0 fun _ _ _ _ _ _ _ q => sub_int q
theorem yI : OpR X (binaryOp .FloorDiv) (rI CDiv fun i j => .int (i / j)) := opI fun i j _ _ _ _ _ hc q => by
 have h1 : (0 : Int) < j := hc.1
 have h2 : j < 1073741824 := hc.2
 exact floordiv_int (by omega) (by rw [Int.fdiv_eq_ediv_of_nonneg i (by omega)]; exact q) (.inl (PyProof.noPylong_small (by omega)))
theorem zW : OpR X (binaryOp .Mod) (rI (fun _ j => 0 < j) fun i j => .int (i % j)) := opI fun i j _ _ _ _ _ hc q => by
 have h1 : (0 : Int) < j := hc
 exact mod_int' (by omega) (by rw [Int.fmod_eq_emod_of_nonneg i (by omega)]; exact q)
theorem op_pow : OpR X (binaryOp .Pow) (rI CPow fun i j => .int (i ^ j.toNat)) := opI fun _ _ _ _ _ _ _ hc q => pow_int_small hc.1 hc.2.1 hc.2.2 q
theorem unI {f : Value → Sem Value} {g : Int → Int}
   (rule : ∀ (i : Int) (t : Tok) (s : Shared) (Q : Value → Shared → Prop) (E : Value → Shared → Prop), Q (.int (g i) s.toks) { s with toks := s.toks + 1 } → wpAny (model X.prog X.w) X.A (f (.int i t)) Q E s) :
   UnR X f (rU fun i => .int (g i)) := by
 intro pins s σ H x v Q I rx h
 obtain ⟨i, rfl, q⟩ := h
 obtain ⟨t, rfl⟩ := rx
 exact rule i t s _ _ ⟨.int (g i), H, I.tok _, ⟨_, rfl⟩, q⟩
theorem un_neg : UnR X (unaryOp .USub) (rU fun i => .int (-i)) := unI fun _ _ _ _ _ q => neg_int q
end
def scal : V → V → Bool
 | .non, .non => true | .non, .int _ => true | .int _, .non => true | .non, .bl _ => true | .bl _, .non => true | .non, .str _ => true | .str _, .non => true
 | .int _, .int _ => true | .bl _, .bl _ => true | .str _, .str _ => true | .byt _, .byt _ => true
 | .int _, .str _ => true | .str _, .int _ => true | .bl _, .str _ => true | .str _, .bl _ => true
 | _, _ => false
def rEq : R2 := fun x y H Q => scal x y = true ∧ Q (.bl (decide (x = y))) H
def rNe : R2 := fun x y H Q => scal x y = true ∧ Q (.bl (!decide (x = y))) H
theorem dec_int {i j : Int} : decide (V.int i = V.int j) = (i == j) := by
 rw [Bool.eq_iff_iff]
 simp
theorem dec_bl {i j : Bool} : decide (V.bl i = V.bl j) = (i == j) := by
 rw [Bool.eq_iff_iff]
 simp
theorem dec_str {i j : Str} : decide (V.str i = V.str j) = (i == j) := by
 rw [Bool.eq_iff_iff]
 simp
theorem dec_byt {i j : Array UInt8} : decide (V.byt i = V.byt j) = (i.toList == j.toList) := by
 rw [Bool.eq_iff_iff]
 cases i
 cases j
 simp
section
variable {X : Cx} {a b c : Expr} {ta tb tc : TE} {pos : Pos}
theorem yE {pins : List (Addr × Obj)} {σ : St} {H : Hp} {s : Shared} {Q : VK} {k k' : Bool} (I : Inv X pins σ H s) (q : Q (.bl k) H) (e : k = k') : EP X pins σ Q (.bool k') s := by
 subst e
 exact ⟨.bl k, H, I, rfl, q⟩
theorem yM : OpR X (compareOp .Eq) rEq := by
 intro pins s σ H x y v u Q I rx ry h
 obtain ⟨hs, q⟩ := h
 cases x with
 | non =>
   cases rx
   cases y with
   | non => cases ry; exact PySem.EqNone.eq_none_none (yE I q (by simp))
   | bl j => cases ry; exact PySem.EqNone.eq_none_bool (yE I q (by simp))
   | int j => obtain ⟨t', rfl⟩ := ry; exact PySem.EqNone.eq_none_int (yE I q (by simp))
   | str j => obtain ⟨t', rfl⟩ := ry; exact PySem.EqNone.eq_none_str (yE I q (by simp))
   | _ => exact absurd (show false = true from hs) Bool.false_ne_true
 | bl i =>
   cases rx
   cases y with
   | non => cases ry; exact PySem.EqNone.eq_bool_none (yE I q (by simp))
   | bl j => cases ry; exact eq_bool (yE I q dec_bl)
   | str j => obtain ⟨t', rfl⟩ := ry; exact PySem.EqMixed.eq_bool_str (yE I q (by simp))
   | _ => exact absurd (show false = true from hs) Bool.false_ne_true
 | int i =>
   obtain ⟨t, rfl⟩ := rx
   cases y with
   | non => cases ry; exact PySem.EqNone.eq_int_none (yE I q (by simp))
   | int j => obtain ⟨t', rfl⟩ := ry; exact eq_int (yE I q dec_int)
   | str j => obtain ⟨t', rfl⟩ := ry; exact PySem.EqMixed.eq_int_str (yE I q (by simp))
   | _ => exact absurd (show false = true from hs) Bool.false_ne_true
 | str i =>
   obtain ⟨t, rfl⟩ := rx
   cases y with
   | non => cases ry; exact PySem.EqNone.eq_str_none (yE I q (by simp))
   | bl j => cases ry; exact PySem.EqMixed.eq_str_bool (yE I q (by simp))
   | int j => obtain ⟨t', rfl⟩ := ry; exact PySem.EqMixed.eq_str_int (yE I q (by simp))
   | str j => obtain ⟨t', rfl⟩ := ry; exact eq_str (yE I q dec_str)
   | _ => exact absurd (show false = true from hs) Bool.false_ne_true
 | byt i =>
   obtain ⟨t, rfl⟩ := rx
   cases y with
   | byt j => obtain ⟨t', rfl⟩ := ry; exact PySem.W.eq_bytes (yE I q dec_byt)
   | _ => exact absurd (show false = true from hs) Bool.false_ne_true
 | _ => cases y <;> exact absurd (show false = true from hs) Bool.false_ne_true
theorem op_ne : OpR X (compareOp .NotEq) rNe := by
 intro pins s σ H x y v u Q I rx ry h
 obtain ⟨hs, q⟩ := h
 cases x with
 | non =>
   cases rx
   cases y with
   | non => cases ry; exact PySem.EqNone.ne_none_none (yE I q (by simp))
   | bl j => cases ry; exact PySem.EqNone.ne_none_bool (yE I q (by simp))
   | int j => obtain ⟨t', rfl⟩ := ry; exact PySem.EqNone.ne_none_int (yE I q (by simp))
   | str j => obtain ⟨t', rfl⟩ := ry; exact PySem.EqNone.ne_none_str (yE I q (by simp))
   | _ => exact absurd (show false = true from hs) Bool.false_ne_true
 | bl i =>
   cases rx
   cases y with
   | non => cases ry; exact PySem.EqNone.ne_bool_none (yE I q (by simp))
   | bl j => cases ry; exact ne_bool (yE I q (congrArg not dec_bl))
   | str j => obtain ⟨t', rfl⟩ := ry; exact PySem.EqMixed.ne_bool_str (yE I q (by simp))
   | _ => exact absurd (show false = true from hs) Bool.false_ne_true
 | int i =>
   obtain ⟨t, rfl⟩ := rx
   cases y with
   | non => cases ry; exact PySem.EqNone.ne_int_none (yE I q (by simp))
   | int j => obtain ⟨t', rfl⟩ := ry; exact ne_int (yE I q (congrArg not dec_int))
   | str j => obtain ⟨t', rfl⟩ := ry; exact PySem.EqMixed.ne_int_str (yE I q (by simp))
   | _ => exact absurd (show false = true from hs) Bool.false_ne_true
 | str i =>
   obtain ⟨t, rfl⟩ := rx
   cases y with
   | non => cases ry; exact PySem.EqNone.ne_str_none (yE I q (by simp))
   | bl j => cases ry; exact PySem.EqMixed.ne_str_bool (yE I q (by simp))
   | int j => obtain ⟨t', rfl⟩ := ry; exact PySem.EqMixed.ne_str_int (yE I q (by simp))
   | str j => obtain ⟨t', rfl⟩ := ry; exact ne_str (yE I q (congrArg not dec_str))
   | _ => exact absurd (show false = true from hs) Bool.false_ne_true
 | byt i =>
   obtain ⟨t, rfl⟩ := rx
   cases y with
   | byt j => obtain ⟨t', rfl⟩ := ry; exact PySem.W.ne_bytes (yE I q (congrArg not dec_byt))
   | _ => exact absurd (show false = true from hs) Bool.false_ne_true
 | _ => cases y <;> exact absurd (show false = true from hs) Bool.false_ne_true
theorem op_lt : OpR X (compareOp .Lt) (rI0 fun i j => .bl (decide (i < j))) := opB0 fun _ _ _ _ _ _ _ q => lt_int q
theorem op_gt : OpR X (compareOp .Gt) (rI0 fun i j => .bl (decide (j < i))) := opB0 fun _ _ _ _ _ _ _ q => gt_int q
theorem op_notN : OpR X (compareOp .IsNot) (fun x y H Q => y = .non ∧ Q (.bl (!decide (x = .non))) H) := by
 intro pins s σ H x y v u Q I rx ry h
 obtain ⟨rfl, q⟩ := h
 cases ry
 refine isnot_none_gen (yE I q ?_)
 cases x <;> first
   | (cases rx; rfl)
   | (obtain ⟨t, rfl⟩ := rx; rfl)
theorem OpR.or {f : Value → Value → Sem Value} {r r' : R2} (h : OpR X f r) (h' : OpR X f r') : OpR X f (fun x y H Q => r x y H Q ∨ r' x y H Q) := by
 intro pins s σ H x y v u Q I rx ry q
 rcases q with q | q
 · exact h pins s σ H x y v u Q I rx ry q
 · exact h' pins s σ H x y v u Q I rx ry q
theorem zU (b : Expr) {op : CmpOp} (h : op ≠ .In := by decide) (h2 : op ≠ .NotIn := by decide) : behindInMarks op b = false := by
 have e1 : (op == CmpOp.In) = false := by cases op <;> first | rfl | exact absurd rfl h
 have e2 : (op == CmpOp.NotIn) = false := by cases op <;> first | rfl | exact absurd rfl h2
 cases b <;> simp [behindInMarks, e1, e2]
theorem pe_cmpR {op : CmpOp} {r : R2} (ho : OpR X (compareOp op) r) (ha : PE X a ta) (hb : PE X b tb) (hm : behindInMarks op b = false) : PE X (.Compare a [op] [b] pos) (tOp r ta tb) := by
 intro pins s σ H Q I h
 exact wpAny_Compare1 (binT ha hb I h fun v u s2 x y H2 I2 rx ry q => ho pins s2 σ H2 x y v u Q I2 rx ry q) hm
def tTest (t : TE) : TT := fun σ H Q => t σ H fun x H' => ∃ k, x = .bl k ∧ Q k H'
theorem zR {op : CmpOp} {r : R2} (ho : OpR X (compareOp op) r) (ha : PE X a ta) (hb : PE X b tb) (hm : behindInMarks op b = false) : PT X (.Compare a [op] [b] pos) (tTest (tOp r ta tb)) := by
 intro pins s σ H Q I h
 refine wpAny_isTrue_Compare1 (thn (ha pins s σ H _ I h) fun v s1 ⟨x, H1, I1, r1, q1⟩ => thn (hb pins s1 σ H1 _ I1 q1) fun u s2 ⟨y, H2, I2, r2, q2⟩ =>
   thn (ho pins s2 σ H2 x y v u _ I2 r1 r2 q2) fun c s3 ⟨z, H3, I3, r3, k, e, q3⟩ => ?_) hm
 subst e
 cases r3
 exact wpAny_truthy_bool ⟨H3, I3, q3⟩
theorem line63 : (sizeLine : Nat) < 2 ^ 63 := by rw [sizeLine_eq]; decide
theorem yD : OpR X (binaryOp .Add) (fun x y H Q => ∃ i j, x = .str i ∧ y = .str j ∧ i.length + j.length ≤ sizeLine ∧ Q (.str (i ++ j)) H) := by
 intro pins s σ H x y v u Q I rx ry h
 obtain ⟨i, j, rfl, rfl, hz, q⟩ := h
 obtain ⟨t, rfl⟩ := rx
 obtain ⟨t', rfl⟩ := ry
 exact add_str (fun t' tk => ⟨.str (i ++ j), H, I.tok _, ⟨_, rfl⟩, q⟩) hz
theorem vals1 {x : V} {us : List Value} (r : Vals [x] us) : ∃ u, us = [u] ∧ RelV x u := by
 cases r with
 | cons r1 r2 => cases r2; exact ⟨_, rfl, r1⟩
theorem vals2 {x y : V} {us : List Value} (r : Vals [x, y] us) : ∃ u w', us = [u, w'] ∧ RelV x u ∧ RelV y w' := by
 cases r with
 | cons r1 r2 =>
   cases r2 with
   | cons r3 r4 => cases r4; exact ⟨_, _, rfl, r1, r3⟩
theorem call_max2 (hc : X.calm = true) : CallR X (.builtin "max") (fun xs H Q => ∃ i j, xs = [.int i, .int j] ∧ Q (.int (if j > i then j else i)) H) := by
 intro pins s σ H xs us Q I r h
 obtain ⟨i, j, rfl, q⟩ := h
 obtain ⟨u, w', rfl, ⟨t, rfl⟩, ⟨t', rfl⟩⟩ := vals2 r
 refine max_two_ints (I.ok.hd hc) fun h' tk k => ⟨_, H, I.kept k, ?_, q⟩
 by_cases hj : j > i
 · rw [if_pos hj, if_pos hj]; exact ⟨_, rfl⟩
 · rw [if_neg hj, if_neg hj]; exact ⟨_, rfl⟩
theorem call_int1 : CallR X (.type "int") (fun xs H Q => (∃ i, xs = [.int i] ∧ Q (.int i) H) ∨ ∃ k, xs = [.bl k] ∧ Q (.int (if k then 1 else 0)) H) := by
 intro pins s σ H xs us Q I r h
 rcases h with ⟨i, rfl, q⟩ | ⟨k, rfl, q⟩
 · obtain ⟨u, rfl, t, rfl⟩ := vals1 r
   exact call_int_int ⟨.int i, H, I, ⟨_, rfl⟩, q⟩
 · obtain ⟨u, rfl, r1⟩ := vals1 r
   cases r1
   exact call_int_bool ⟨.int (if k then 1 else 0), H, I.tok _, ⟨_, rfl⟩, q⟩
theorem call_str_int : CallR X (.type "str") (fun xs H Q => ∃ i, xs = [.int i] ∧ i.natAbs.log2 < 1920 ∧ Q (.str (toString i)) H) := by
 intro pins s σ H xs us Q I r h
 obtain ⟨i, rfl, hz, q⟩ := h
 obtain ⟨u, rfl, t, rfl⟩ := vals1 r
 exact PySem.P.str_of_int hz ⟨.str _, H, I.tok _, ⟨_, rfl⟩, q⟩
end
end L2
namespace L2
open PySem PySem.Spec PyProof.Rows
structure ObjM (h : Heap) (x dx C : Addr) (mA : Str → Option Value) : Prop where
 obj : h.get? x = some (PySem.W.instObj C dx)
 ns : h.Ns1 dx mA
 ne : dx ≠ x
theorem lookIn_ns {h : Heap} {dx : Addr} {mA : Str → Option Value} (n : h.Ns1 dx mA) : ∃ od, h.get? dx = some od ∧ ∀ name, PySem.W.lookIn name od = some (mA name) := by
 obtain ⟨o, es, ep, ho, hd, hk, _, hm⟩ := n
 refine ⟨o, ho, fun name => ?_⟩
 have e := hm name
 unfold nsFind findBy at e
 rw [← Array.find?_toList] at e
 unfold PySem.W.lookIn
 rw [hd]
 dsimp only
 split
 · rename_i y q
   rw [q] at e
   exact congrArg some e
 · rename_i q
   rw [q] at e
   have a : es.toList.any (·.refKey) = false := by
     rw [List.any_eq_false]
     intro y hy
     obtain ⟨z, t, hkey⟩ := hk y (Array.mem_toList_iff.mp hy)
     simp [DictEntry.refKey, hkey]
   have a' : ¬ es.toList.any (·.refKey) = true := by rw [a]; exact Bool.false_ne_true
   rw [if_neg a']
   exact congrArg some e
theorem ObjM.look {h : Heap} {x dx C : Addr} {mA : Str → Option Value} (I : ObjM h x dx C mA) : ∃ od, PySem.W.InstAt h x (PySem.W.instObj C dx) C (some od) ∧ ∀ name, PySem.W.lookIn name od = some (mA name) :=
 let ⟨od, ho, hl⟩ := lookIn_ns I.ns
 ⟨od, ⟨I.obj, rfl, rfl, ho⟩, hl⟩
section
variable {prog : Program} {w : World} {A : Around} {E : Value → Shared → Prop} {s : Shared} {K : PySem.W.Frag} {x dx C f : Addr} {mA : Str → Option Value} {name : Str} {v : Value}
theorem get_map {expr : Bool} {Q : Value → Shared → Prop} (X : K.In s.heap) (I : ObjM s.heap x dx C mA) (hg : PySem.W.plainGet K C name = true) (hh : PySem.W.hasDictIn K C = true)
   (ha : PySem.W.findIn K (.ref C) name = some none) (hv : mA name = some v) (hv' : PySem.W.handedIn v = true) (h : Q v { s with toks := s.toks + 1 }) :
   wpAny (model prog w) A (getAttr (.ref x) name expr) Q E s := by
 obtain ⟨od, J, hl⟩ := I.look
 exact PySem.W.get_value X J (PySem.W.plainGet_of hg).1 (PySem.W.findObj_own hh ha rfl (by rw [hl, hv])) hv' h
theorem get_meth {pl : Sem Bool} {Q : Value × List Value → Shared → Prop} (X : K.In s.heap) (I : ObjM s.heap x dx C mA) (hg : PySem.W.plainGet K C name = true)
   (hf : PySem.W.findIn K (.ref C) name = some (some (.ref f))) (ht : PySem.W.isFn K (.ref f) = true) (hv : mA name = none) (h : Q (.ref f, [.ref x]) s) :
   wpAny (model prog w) A (getMethod (.ref x) name pl) Q E s := by
 obtain ⟨od, J, hl⟩ := I.look
 exact PySem.W.method_fn X J (PySem.W.plainGet_of hg).1 (PySem.W.plainGet_of hg).2 hf (beq_iff_eq.mp ht) (by show (PySem.W.lookIn name od).map (·.isSome) = some false; rw [hl, hv]; rfl) h
theorem set_map {ns : List Str} {Q : Unit → Shared → Prop} (X : K.In s.heap) (I : ObjM s.heap x dx C mA)
   (hs : PySem.W.findIn K (.ref C) "__setattr__" = some (some (.builtin "object.__setattr__"))) (hp : PySem.W.plainOver K C = true) (ht : PySem.W.takerIn K C name = some none) (hh : PySem.W.hasDictIn K C = true)
   (hw : PySem.Within mA ns) (hsz : ns.length ≤ sizeLine)
   (h : ∀ h', ObjM h' x dx C (fun y => if y = name then some v else mA y) → Heap.SameBut dx s.heap h' → Q () { s with heap := h', toks := s.toks + 2 }) :
   wpAny (model prog w) A (setAttr (.ref x) name v) Q E s := by
 obtain ⟨od, J, hl⟩ := I.look
 refine PySem.W.set_plain X J hs (PySem.W.osa_open (s := { s with toks := s.toks + 1 }) (r := none) X J hp ht fun b => ?_)
 obtain ⟨cd, hc, hd'⟩ := PySem.W.any_some hh
 have hx : s.heap.get? x = some ⟨.ref C, some dx, .plain, #[]⟩ := I.obj
 refine wpAny_bind (wpAny_pure (wpAny_bind (wpAny_bind (wpAny_loadPart hx (wpAny_bind (PySem.W.Looks.here (s := { s with toks := s.toks + 1 }) (PySem.W.looks_clsIn X hc) ?_))))))
 rw [hd']
 refine wpAny_pure (a := some dx) (wpAny_bind (wpAny_pure (wpAny_bind ?_)))
 refine wpAny_nsSet1 (s := { s with toks := s.toks + 1 }) I.ns fun h' hn2 hs2 => ?_
 obtain ⟨oD, esD, epD, hoD, hdD, hcD⟩ := hn2.count (PySem.Within.cons name v hw)
 refine wpAny_bind (wpAny_lookBehind hoD (by rw [hdD]; exact pastItsLine_dict (Nat.le_trans hcD (by rw [List.length_cons]; omega))) ?_)
 exact wpAny_pure (h _ ⟨(hs2.2 _ (Ne.symm I.ne)).trans I.obj, hn2, I.ne⟩ hs2)
theorem make_map {R : Result → Shared → Prop} {vs : List Value} {kw : List (Str × Value)} (X : K.In s.heap) (hm : PySem.W.makesIn K C = true)
   (hi : PySem.W.findIn K (.ref C) "__init__" = some (some (.ref f))) (hf : PySem.W.typeIn K (.ref f) = some (.type "function"))
   (h : codeAny (model prog w) (A.under (.builtin "type.__call__" ⟨.ref C :: vs, kw⟩)) (.call (.ref f) ⟨.ref (s.heap.objs.size + 1) :: vs, kw⟩) (PySem.W.InitBack (s.heap.objs.size + 1) R)
     { s with heap := (s.heap.push PySem.W.emptyDict).push (PySem.W.instObj C s.heap.objs.size) }) :
   codeAny (model prog w) A (.call (.ref C) ⟨vs, kw⟩) R s := by
 obtain ⟨hh, g, d, t, os⟩ := s
 exact PySem.W.make_core (PySem.W.makes_of X hm) (PySem.W.looks_findIn X hi) (fun self => PySem.W.bind_fn X self hf) (.inl rfl) h
end
def putF (f : Str) (v : V) : List (Str × V) → List (Str × V)
 | [] => [(f, v)]
 | (g, x) :: r => if g = f then (g, v) :: r else (g, x) :: putF f v r
theorem lookup_putF (f g : Str) (v : V) : ∀ fs : List (Str × V), (putF f v fs).lookup g = if g = f then some v else fs.lookup g
 | [] => by
   show List.lookup g [(f, v)] = _
   by_cases h : g = f
   · have hb : (g == f) = true := beq_iff_eq.mpr h
     simp only [List.lookup, hb, if_pos h]
   · have hb : (g == f) = false := beq_eq_false_iff_ne.mpr h
     simp only [List.lookup, hb, if_neg h]
 | (k, x) :: r => by
   have ih := lookup_putF f g v r
   rw [show putF f v ((k, x) :: r) = (if k = f then (k, v) :: r else (k, x) :: putF f v r) from rfl]
   by_cases hk : k = f
   · rw [if_pos hk]
     by_cases h : g = k
     · have hb : (g == k) = true := beq_iff_eq.mpr h
       simp only [List.lookup, hb, if_pos (h.trans hk)]
     · have hb : (g == k) = false := beq_eq_false_iff_ne.mpr h
       simp only [List.lookup, hb, if_neg (fun e : g = f => h (e.trans hk.symm))]
   · rw [if_neg hk]
     by_cases h : g = k
     · have hb : (g == k) = true := beq_iff_eq.mpr h
       simp only [List.lookup, hb, if_neg (fun e : g = f => hk (h.symm.trans e))]
     · have hb : (g == k) = false := beq_eq_false_iff_ne.mpr h
       simp only [List.lookup, hb]
       exact ih
theorem keys_putF (f : Str) (v : V) : ∀ fs : List (Str × V), f ∈ (putF f v fs).map (·.1) ∧ ∀ g, g ∈ fs.map (·.1) → g ∈ (putF f v fs).map (·.1)
 | [] => ⟨by simp [putF], fun g h => by simp at h⟩
 | (k, x) :: r => by
   obtain ⟨i1, i2⟩ := keys_putF f v r
   rw [show putF f v ((k, x) :: r) = (if k = f then (k, v) :: r else (k, x) :: putF f v r) from rfl]
   by_cases hk : k = f
   · rw [if_pos hk]
     subst hk
     exact ⟨by simp, fun g h => by simpa using h⟩
   · rw [if_neg hk]
     refine ⟨?_, fun g h => ?_⟩
     · rw [List.map_cons]
       exact List.mem_cons_of_mem _ i1
     · rw [List.map_cons] at h ⊢
       rcases List.mem_cons.mp h with e | e
       · exact List.mem_cons.mpr (.inl e)
       · exact List.mem_cons_of_mem _ (i2 g e)
theorem length_putF (f : Str) (v : V) : ∀ fs : List (Str × V), (putF f v fs).length ≤ fs.length + 1
 | [] => by simp [putF]
 | (k, x) :: r => by
   have ih := length_putF f v r
   rw [show putF f v ((k, x) :: r) = (if k = f then (k, v) :: r else (k, x) :: putF f v r) from rfl]
   by_cases hk : k = f
   · rw [if_pos hk, List.length_cons, List.length_cons]; omega
   · rw [if_neg hk, List.length_cons, List.length_cons]; omega
theorem RelO.some_of {v : V} {o : Option Value} (r : RelO (some v) o) : ∃ u, o = some u ∧ RelV v u := by
 cases o with
 | none => exact (show False from r).elim
 | some u => exact ⟨u, rfl, r⟩
theorem RelO.none_of {o : Option Value} (r : RelO none o) : o = none := by
 cases o with
 | none => rfl
 | some u => exact (show False from r).elim
theorem handed_of {v : V} {u : Value} (r : RelV v u) : PySem.W.handedIn u = true := by
 cases v with
 | non => cases (show u = Value.none from r); rfl
 | bl b => cases (show u = Value.bool b from r); rfl
 | int i => obtain ⟨t, e⟩ := (show ∃ t, u = Value.int i t from r); cases e; rfl
 | str x => obtain ⟨t, e⟩ := (show ∃ t, u = Value.str x t from r); cases e; rfl
 | byt b => obtain ⟨t, e⟩ := (show ∃ t, u = Value.bytes b t from r); cases e; rfl
 | flt b => obtain ⟨t, e⟩ := (show ∃ t, u = Value.float b t from r); cases e; rfl
 | ref a => cases (show u = Value.ref a from r); rfl
 | ty n => cases (show u = Value.type n from r); rfl
section
variable {P : Program} {w : World} {H H' : Hp} {h h' : Heap} {a C dx : Addr} {fs fs' : List (Str × V)}
theorem ins_get (hok : HOk P w H h) (e : H a = some (.ins C dx fs)) : ∃ mA, ObjM h a dx C mA ∧ (∀ f, RelO (fs.lookup f) (mA f)) ∧ PySem.Within mA (fs.map (·.1)) ∧ fs.length ≤ 1000 ∧ H dx = some (.own a) := by
 obtain ⟨d, z, ne, ob, mA, n, r, q⟩ := (show ObjOk P w H h a (.ins C dx fs) from hok a _ e)
 exact ⟨mA, ⟨ob, n, ne⟩, r, q, z, d⟩
end
structure Cls (K : PySem.W.Frag) (C : Addr) : Prop where
 pg : PySem.W.plainGet K C Str.empty = true
 hd : PySem.W.hasDictIn K C = true
 po : PySem.W.plainOver K C = true
 sa : PySem.W.findIn K (.ref C) "__setattr__" = some (some (.builtin "object.__setattr__"))
theorem Cls.get {K : PySem.W.Frag} {C : Addr} (c : Cls K C) (f : Str) : PySem.W.plainGet K C f = true := c.pg
def NoAttr (K : PySem.W.Frag) (C : Addr) (f : Str) : Prop := PySem.W.findIn K (.ref C) f = some none
theorem NoAttr.taker {K : PySem.W.Frag} {C : Addr} {f : Str} (n : NoAttr K C f) : PySem.W.takerIn K C f = some none := by
 unfold PySem.W.takerIn
 rw [show PySem.W.findIn K (.ref C) f = some none from n]
 rfl
structure Con (K : PySem.W.Frag) (C : Addr) (f : Str) (v : V) (u : Value) : Prop where
 at_ : PySem.W.findIn K (.ref C) f = some (some u)
 rel : RelV v u
 get : PySem.W.specialIn K u "__get__" = some none
 cp : PySem.W.copiedNames.contains f = false
structure Meth (K : PySem.W.Frag) (C : Addr) (m : Str) (f : Addr) : Prop where
 at_ : PySem.W.findIn K (.ref C) m = some (some (.ref f))
 fn : PySem.W.isFn K (.ref f) = true
 kp : PySem.W.keepIn K (.ref f) = true
section
variable {X : Cx} {pins : List (Addr × Obj)} {σ : St} {H : Hp} {s : Shared} {a C dx : Addr} {fs : List (Str × V)} {f : Str} {v : V} {A : Around} {E : Value → Shared → Prop}
theorem getattr_ok {b : Bool} {Q : Value → Shared → Prop} (I : Inv X pins σ H s) (e : H a = some (.ins C dx fs)) (c : Cls X.K C) (n : NoAttr X.K C f) (l : fs.lookup f = some v)
   (h : ∀ u s', Inv X pins σ H s' → RelV v u → Q u s') : wpAny (model X.prog X.w) A (getAttr (.ref a) f b) Q E s := by
 obtain ⟨mA, O, r, _, _, _⟩ := ins_get I.hok e
 obtain ⟨u, hu, ru⟩ := RelO.some_of (v := v) (o := mA f) (by rw [← l]; exact r f)
 exact get_map I.kIn O (c.get f) c.hd n hu (handed_of ru) (h u _ (I.tok _) ru)
theorem getmeth_ok {m : Str} {g : Addr} {pl : Sem Bool} {Q : Value × List Value → Shared → Prop} (I : Inv X pins σ H s) (e : H a = some (.ins C dx fs)) (c : Cls X.K C) (k : Meth X.K C m g) (l : fs.lookup m = none)
   (h : Q (.ref g, [.ref a]) s) : wpAny (model X.prog X.w) A (getMethod (.ref a) m pl) Q E s := by
 obtain ⟨mA, O, r, _, _, _⟩ := ins_get I.hok e
 have hn : mA m = none := RelO.none_of (by rw [← l]; exact r m)
 exact get_meth I.kIn O (c.get m) k.at_ k.fn hn h
theorem setattr_ok {y : V} {u : Value} {Q : Unit → Shared → Prop} (I : Inv X pins σ H s) (e : H a = some (.ins C dx fs)) (c : Cls X.K C) (n : NoAttr X.K C f) (hl : fs.length < 1000) (ry : RelV y u)
   (h : ∀ s', Inv X pins σ (upd H a (.ins C dx (putF f y fs))) s' → Q () s') : wpAny (model X.prog X.w) A (setAttr (.ref a) f u) Q E s := by
 obtain ⟨mA, O, r, wi, _, ho⟩ := ins_get I.hok e
 have hz : (fs.map (·.1)).length ≤ sizeLine := by rw [List.length_map, sizeLine_eq]; omega
 refine set_map I.kIn O c.sa c.po n.taker c.hd wi hz fun h' O' sb => h _ ?_
 have hd : ∃ o, h'.get? dx = some o := let ⟨o, _, _, e', _⟩ := O'.ns; ⟨o, e'⟩
 refine I.write (x := a) (e := dx) (by rw [e]; exact True.intro) (.inr ho) (fun b q hb z => (sb.2 b hb).trans z) hd ?_
 refine ⟨by rw [zJ O.ne]; exact ho, ?_, O.ne, O'.obj, _, O'.ns, fun g => ?_, fun g hg => ?_⟩
 · have := length_putF f y fs; omega
 · show RelO ((putF f y fs).lookup g) (if g = f then some u else mA g)
   rw [lookup_putF]
   by_cases q : g = f
   · rw [if_pos q, if_pos q]; exact ry
   · rw [if_neg q, if_neg q]; exact r g
 · by_cases q : g = f
   · rw [q]; exact (keys_putF f y fs).1
   · refine (keys_putF f y fs).2 g (wi g fun z => hg ?_)
     show (if g = f then some u else mA g) = none
     rw [if_neg q]; exact z
theorem Inv.made (I : Inv X pins σ H s) : Inv X pins σ (upd (upd H s.heap.objs.size (.own (s.heap.objs.size + 1))) (s.heap.objs.size + 1) (.ins C s.heap.objs.size []))
   { s with heap := (s.heap.push PySem.W.emptyDict).push (PySem.W.instObj C s.heap.objs.size) } := by
 have e1 : (s.heap.push PySem.W.emptyDict).get? s.heap.objs.size = some PySem.W.emptyDict := Heap.get?_push_size s.heap rfl
 have e2 : ((s.heap.push PySem.W.emptyDict).push (PySem.W.instObj C s.heap.objs.size)).get? (s.heap.objs.size + 1) = some (PySem.W.instObj C s.heap.objs.size) := by
   have := Heap.get?_push_size (s.heap.push PySem.W.emptyDict) (o := PySem.W.instObj C s.heap.objs.size) rfl
   rwa [Heap.size_push] at this
 have e3 : (s.heap.push PySem.W.emptyDict).Ns s.heap.objs.size (fun _ => none) := ⟨PySem.W.emptyDict, #[], _, e1, rfl, (fun e he => absurd he (by simp)), fun _ => rfl⟩
 have I1 := I.laid (a := s.heap.objs.size) (o := .own (s.heap.objs.size + 1)) (h' := s.heap.push PySem.W.emptyDict) (t' := s.toks) (fun b u q => Heap.get?_push_of_some _ q) (Nat.le_refl _) ⟨_, e1⟩
 refine I1.laid (a := s.heap.objs.size + 1) (o := .ins C s.heap.objs.size []) (t' := s.toks) (fun b u q => Heap.get?_push_of_some _ q) (Nat.le_of_eq (Heap.size_push _ _)) ?_
 have ne : s.heap.objs.size ≠ s.heap.objs.size + 1 := Nat.ne_of_lt (Nat.lt_succ_self _)
 refine ⟨by rw [zJ ne, zB], Nat.zero_le _, ne, e2, fun _ => none, (Heap.Ns1.of_empty e3).at fun o q => Heap.get?_push_of_some _ q, fun _ => True.intro, fun y hy => absurd rfl hy⟩
theorem attr_of {prog : Program} {w : World} {env : Env} {e : Expr} {f : Str} {pos : Pos} {s : Shared} {Q : Value → Shared → Prop} (hb : attributeBase e f env (eval e env) = eval e env)
   (h : wpAny (model prog w) A (eval e env) (fun o s₁ => wpAny (model prog w) A (getAttr o f true) Q E s₁) E s) : wpAny (model prog w) A (eval (.Attribute e f pos) env) Q E s :=
 Attribute_any_ h (by rw [arm_eval_Attribute, hb])
end
def tFld (K : PySem.W.Frag) (ta : TE) (f : Str) : TE := fun σ H Q => ta σ H fun x H1 => ∃ a C dx fs v, x = .ref a ∧ H1 a = some (.ins C dx fs) ∧ Cls K C ∧ NoAttr K C f ∧ fs.lookup f = some v ∧ Q v H1
def sFld (K : PySem.W.Frag) (ta tv : TE) (f : Str) : TS := fun D σ H => tv σ H fun y H1 => ta σ H1 fun x H2 => ∃ a C dx fs, x = .ref a ∧ H2 a = some (.ins C dx fs) ∧ Cls K C ∧ NoAttr K C f ∧ fs.length < 1000 ∧
 D.nx σ (upd H2 a (.ins C dx (putF f y fs)))
section
variable {X : Cx} {o e value : Expr} {f : Str} {pos pos' tpos : Pos} {ta tv : TE}
theorem zV (he : PE X e ta) (hb : attributeBase e f X.env (eval e X.env) = eval e X.env) : PE X (.Attribute e f pos) (tFld X.K ta f) := by
 intro pins s σ H Q I h
 refine attr_of hb (thn (he pins s σ H _ I h) fun u s1 ⟨x, H1, I1, rx, a, C, dx, fs, v, ex, ea, c, n, l, q⟩ => ?_)
 subst ex
 obtain rfl : u = Value.ref a := rx
 exact getattr_ok I1 ea c n l fun u' s2 I2 ru => ⟨v, H1, I2, ru, q⟩
theorem ps_fld (ha : PE X o ta) (hv : PE X value tv) (hs : swapsWith value (some (.Attribute o f pos')) pos.line X.env = pure false) : PS X (.Assign [.Attribute o f pos'] value pos) (sFld X.K ta tv f) := by
 intro pins s σ H D I h
 refine plainObj_wpAny_Assign_Attribute (thn (hv pins s σ H _ I h) fun u s1 ⟨y, H1, I1, ry, q⟩ => thn (ha pins s1 σ H1 _ I1 q) fun ov s2 ⟨x, H2, I2, rx, a, C, dx, fs, ex, ea, c, n, l, q2⟩ => ?_) hs
 subst ex
 obtain rfl : ov = Value.ref a := rx
 exact setattr_ok I2 ea c n l ry fun s3 I3 => ⟨σ, _, I3, q2⟩
end
section
variable {X : Cx} {pins : List (Addr × Obj)} {σ : St} {H : Hp} {s : Shared} {A : Around} {E : Value → Shared → Prop} {Q : Value → Shared → Prop} {c : Value} {b : Bool}
inductive TyOf (K : PySem.W.Frag) (H : Hp) : V → Value → Prop where
 | non : TyOf K H .non (.type "NoneType")
 | bl (x : Bool) : TyOf K H (.bl x) (.type "bool")
 | int (i : Int) : TyOf K H (.int i) (.type "int")
 | str (x : Str) : TyOf K H (.str x) (.type "str")
 | flt (x : UInt64) : TyOf K H (.flt x) (.type "float")
 | lst {a : Addr} {xs : List V} (e : H a = some (.lst xs)) : TyOf K H (.ref a) (.type "list")
 | frz {a : Addr} {o : Obj} {xs : List V} (e : H a = some (.frz o (.lst xs))) : TyOf K H (.ref a) (.type "list")
 | tup {a : Addr} {xs : List V} (e : H a = some (.tup xs)) : TyOf K H (.ref a) (.type "tuple")
 | dK {a : Addr} {kvs : List (Key × V)} (e : H a = some (.dK kvs)) : TyOf K H (.ref a) (.type "dict")
 | dT {a : Addr} {kvs : List (List Key × V)} (e : H a = some (.dT kvs)) : TyOf K H (.ref a) (.type "dict")
 | ins {a C dx : Addr} {fs : List (Str × V)} (e : H a = some (.ins C dx fs)) (cl : Cls K C) (ha : PySem.W.findIn K (.ref C) "__class__" = some (some (.builtin "object.__class__")))
     (hn : PySem.W.specialIn K (.builtin "object.__class__") "__get__" = some (some (.builtin "getset_descriptor.__get__"))) (htk : PySem.W.takesIn K (.builtin "object.__class__") = some true)
     (hm : PySem.W.mroIn K C (.type "object") = some true) : TyOf K H (.ref a) (.ref C)
end
end L2
namespace L2
open PySem PySem.Spec PyProof.Rows
structure Room (k : Nat) (A : Around) : Prop where
 hd : A.handled = none
 dp : A.depth + 3 * k + 5 < recursionLimit
 un : A.units + 16 * k + 200 < cLine
theorem Room.mono {j k : Nat} {A : Around} (r : Room k A) (h : j ≤ k) : Room j A := ⟨r.hd, by have := r.dp; omega, by have := r.un; omega⟩
theorem Room.deeper {k : Nat} {A : Around} (r : Room (k + 1) A) (env : Env) : Room k (A.deeper env) :=
 ⟨r.hd, by have := r.dp; show A.depth + 1 + 3 * k + 5 < _; omega, by have := r.un; show A.units + 3 + 16 * k + 200 < _; omega⟩
theorem Room.in1 {k : Nat} {A : Around} (r : Room (k + 1) A) : Room k A.in1 :=
 ⟨r.hd, by have := r.dp; show A.depth + 3 * k + 5 < _; omega, by have := r.un; show A.units + 1 + 16 * k + 200 < _; omega⟩
theorem make_depth {A : Around} {C : Addr} {us : List Value} {kw : List (Str × Value)} : (A.under (.builtin "type.__call__" ⟨.ref C :: us, kw⟩)).depth = A.depth + 1 := by
 first | rfl | simp [Around.under, Code.weight, Code.isCreation, Code.isGuard, Code.isCaller, Code.frames, Code.isFrame, guardIds]
theorem make_units {A : Around} {C : Addr} {us : List Value} {kw : List (Str × Value)} : (A.under (.builtin "type.__call__" ⟨.ref C :: us, kw⟩)).units = A.units + 1 := by
 first | rfl | simp [Around.under, Code.cUnits, Code.frames, Code.isFrame]
theorem Room.make {k : Nat} {A : Around} (r : Room (k + 1) A) (C : Addr) (us : List Value) (kw : List (Str × Value)) : Room k (A.under (.builtin "type.__call__" ⟨.ref C :: us, kw⟩)) :=
 ⟨r.hd, by have := r.dp; rw [make_depth]; omega, by have := r.un; rw [make_units]; omega⟩
theorem Room.depth {k : Nat} {A : Around} (r : Room k A) : A.depth < recursionLimit := by have := r.dp; omega
theorem Room.units {k : Nat} {A : Around} (r : Room k A) : A.units + 64 < cLine := by have := r.un; omega
def tNil : TA := fun _ H Q => Q [] H
def tCons (ta : TE) (tr : TA) : TA := fun σ H Q => ta σ H fun x H1 => tr σ H1 fun xs H2 => Q (x :: xs) H2
section
variable {X : Cx} {e : Expr} {es : List Expr} {te : TE} {t : TA} {pos : Pos}
theorem zD : PA X [] tNil := fun _ _ _ _ H Q I h => Calls.spliced_nil ⟨[], H, I, .nil, h⟩
theorem zA (ha : PE X e te) (hr : PA X es t) (hs : starEach (e :: es) X.env = (false, eval e X.env) :: starEach es X.env := by rfl) : PA X (e :: es) (tCons te t) := by
 intro pos pins s σ H Q I h
 rw [hs]
 show wpAny _ _ (spliced ((false, eval e X.env) :: backTo pos (starEach es X.env))) _ _ s
 refine Calls.spliced_cons (thn (ha pins s σ H _ I h) fun u s1 ⟨x, H1, I1, r1, q1⟩ => ?_)
 exact thn (hr pos pins s1 σ H1 _ I1 q1) fun us s2 ⟨xs, H2, I2, r2, q2⟩ => ⟨x :: xs, H2, I2, .cons r1 r2, q2⟩
def tTup (t : TA) : TE := fun σ H Q => t σ H fun xs H1 => xs.length ≤ sizeLine ∧ ∀ p, H1 p = none → Q (.ref p) (upd H1 p (.tup xs))
def tLst (t : TA) : TE := fun σ H Q => t σ H fun xs H1 => xs.length ≤ sizeLine ∧ ∀ p, H1 p = none → Q (.ref p) (upd H1 p (.lst xs))
theorem yS {x1} (h : PA X es t) : PE X (.Tuple es x1 pos) (tTup t) := by
 intro pins s σ H Q I hq
 refine wpAny_Tuple_spliced (thn (h pos pins s σ H _ I hq) fun us s1 ⟨xs, H1, I1, r, z, q⟩ => ⟨by rw [← r.length]; exact z, ?_⟩)
 have hf : H1 s1.heap.objs.size = none := I1.hok.fresh (Nat.le_refl _)
 refine ⟨.ref s1.heap.objs.size, upd H1 s1.heap.objs.size (.tup xs), I1.laid (t' := s1.toks) (fun b u e => Heap.get?_push_of_some _ e) (Nat.le_refl _) ?_, rfl, q _ hf⟩
 exact ⟨z, us, r, ⟨_, Heap.get?_push_size _ rfl, rfl, _, rfl⟩⟩
theorem yU (h : PA X es t) : PE X (.List es pos) (tLst t) := by
 intro pins s σ H Q I hq
 refine wpAny_List_spliced (thn (h pos pins s σ H _ I hq) fun us s1 ⟨xs, H1, I1, r, z, q⟩ => ⟨by rw [← r.length]; exact z, ?_⟩)
 have hf : H1 s1.heap.objs.size = none := I1.hok.fresh (Nat.le_refl _)
 refine ⟨.ref s1.heap.objs.size, upd H1 s1.heap.objs.size (.lst xs), I1.laid (t' := s1.toks) (fun b u e => Heap.get?_push_of_some _ e) (Nat.le_refl _) ?_, rfl, q _ hf⟩
 exact ⟨z, us, 0, r, Heap.get?_push_size _ rfl⟩
end
abbrev Sp := List V → Hp → VK → XK → Prop
abbrev CXT := List Env → Hp → Shared → XK → Value → Shared → Prop
structure Env0 (P : Program) (w : World) (K : PySem.W.Frag) (mg : Str → Option Value) (base : Heap) (A : Around) (outer : List Env) (s : Shared) (H : Hp) : Prop where
 frames : A.frames = some outer
 mod : Mod K mg base
 bs : ∀ b o, base.get? b = some o → s.heap.get? b = some o ∧ H b = none
 bsz : base.objs.size ≤ s.heap.objs.size
 funs : s.heap.FunFrames base outer
 frf : ∀ b ∈ frs outer, H b = none
 hok : HOk P w H s.heap
 bare : AllBare s.gens
def CE (outer : List Env) (P : Program) (w : World) (H : Hp) (s : Shared) (Q : VK) (u : Value) (s' : Shared) : Prop :=
 ∃ v H', s'.os = s.os ∧ AllBare s'.gens ∧ Un (frs outer) [] H H' s.heap s'.heap ∧ HOk P w H' s'.heap ∧ RelV v u ∧ Q v H'
def CR (CX : CXT) (outer : List Env) (P : Program) (w : World) (H : Hp) (s : Shared) (Q : VK) (E : XK) (r : Result) (s' : Shared) : Prop :=
 match r with
 | .ok (.ret u) => CE outer P w H s Q u s'
 | .ok _ => False
 | .error e => CX outer H s E e s'
structure FnOk (P : Program) (w : World) (K : PySem.W.Frag) (mg : Str → Option Value) (base : Heap) (CX : CXT) (k : Nat) (f : Addr) (fd : FuncData) (ps : List Str) (sp : Sp) : Prop where
 len : ∀ vs H Q E, sp vs H Q E → vs.length = ps.length
 run : ∀ (A : Around) (outer : List Env) (s : Shared) (H : Hp) (args : Args) (us : List Value) (vs : List V) (Q : VK) (E : XK), Room k A → Env0 P w K mg base A outer s H → BindsTo s fd args (ps.zip us) → Vals vs us → sp vs H Q E →
   codeAny (model P w) A (.call (.ref f) args) (CR CX outer P w H s Q E) s
theorem FnOk.mono {P : Program} {w : World} {K : PySem.W.Frag} {mg : Str → Option Value} {base : Heap} {CX : CXT} {j k : Nat} {f : Addr} {fd : FuncData} {ps : List Str} {sp : Sp} (F : FnOk P w K mg base CX j f fd ps sp) (h : j ≤ k) :
   FnOk P w K mg base CX k f fd ps sp := ⟨F.len, fun A outer s H args us vs Q E hr => F.run A outer s H args us vs Q E (hr.mono h)⟩
theorem FnOk.imp {P : Program} {w : World} {K : PySem.W.Frag} {mg : Str → Option Value} {base : Heap} {CX : CXT} {k : Nat} {f : Addr} {fd : FuncData} {ps : List Str} {sp sp' : Sp} (F : FnOk P w K mg base CX k f fd ps sp)
   (h : ∀ vs H Q E, sp' vs H Q E → sp vs H Q E) : FnOk P w K mg base CX k f fd ps sp' :=
 ⟨fun vs H Q E q => F.len vs H Q E (h _ _ _ _ q), fun A outer s H args us vs Q E hr he hb hv hs => F.run A outer s H args us vs Q E hr he hb hv (h _ _ _ _ hs)⟩
theorem Env0.make {P : Program} {w : World} {K : PySem.W.Frag} {mg : Str → Option Value} {base : Heap} {A : Around} {outer : List Env} {s : Shared} {H : Hp} (e : Env0 P w K mg base A outer s H) (C : Addr) (us : List Value) (kw : List (Str × Value)) :
   Env0 P w K mg base (A.under (.builtin "type.__call__" ⟨.ref C :: us, kw⟩)) outer s H := ⟨by first | exact e.frames | (simpa [Around.under, Code.envs, Code.isFrame, pushEnvs] using e.frames), e.mod, e.bs, e.bsz, e.funs, e.frf, e.hok, e.bare⟩
theorem Env0.in1 {P : Program} {w : World} {K : PySem.W.Frag} {mg : Str → Option Value} {base : Heap} {A : Around} {outer : List Env} {s : Shared} {H : Hp} (e : Env0 P w K mg base A outer s H) :
   Env0 P w K mg base A.in1 outer s H := ⟨e.frames, e.mod, e.bs, e.bsz, e.funs, e.frf, e.hok, e.bare⟩
section
variable {X : Cx} {pins : List (Addr × Obj)} {σ : St} {H : Hp} {s s' : Shared}
theorem Inv.env0 (I : Inv X pins σ H s) : Env0 X.prog X.w X.K X.mg X.base X.A X.stack s H :=
 ⟨I.ok.frames, I.ok.mod, I.bs, Nat.le_trans I.ok.bsz I.sz, I.stack, I.stkFree, I.hok, I.bare⟩
theorem Inv.after {Q : VK} {u : Value} (I : Inv X pins σ H s) (h : CE X.stack X.prog X.w H s Q u s') : EP X pins σ Q u s' := by
 obtain ⟨v, H', os, bare, un, hok, r, q⟩ := h
 obtain ⟨hh, g, d, t, os'⟩ := s'
 obtain rfl : os' = s.os := os
 exact ⟨v, H', I.call (h' := hh) (g' := g) (d' := d) (t' := t) (ch := []) un hok bare (fun b z => absurd z (by simp)), r, q⟩
end
def tCall (sp : Sp) (dvs : List V) (E : XK) (t : TA) : TE := fun σ H Q => t σ H fun vs H1 => sp (vs ++ dvs) H1 Q E
def tMake (C : Addr) (sp : Sp) (dvs : List V) (E : XK) (t : TA) : TE := fun σ H Q => t σ H fun vs H1 => ∀ x dx, H1 x = none → H1 dx = none → dx ≠ x →
 sp (.ref x :: (vs ++ dvs)) (upd (upd H1 dx (.own x)) x (.ins C dx [])) (fun v H2 => v = .non ∧ Q (.ref x) H2) E
def Binds (K : PySem.W.Frag) (fd : FuncData) (ps : List Str) (ds : List Value) : Prop :=
 ∀ (s : Shared) (us : List Value), K.In s.heap → (us ++ ds).length = ps.length → BindsTo s fd ⟨us, []⟩ (ps.zip (us ++ ds))
theorem Binds.all {K : PySem.W.Frag} {fd : FuncData} {ps : List Str} (h : ∀ us : List Value, us.length = ps.length → bindArgs fd ⟨us, []⟩ = pure (ps.zip us)) : Binds K fd ps [] := fun s us _ hl => by
 rw [List.append_nil] at hl ⊢
 exact .of_eq (h us hl)
def Passes (CX : CXT) (X : Cx) (E : XK) : Prop := ∀ (pins : List (Addr × Obj)) (σ : St) (H : Hp) (s : Shared) (e : Value) (s' : Shared), Inv X pins σ H s → CX X.stack H s E e s' → X.xe e s'
section
variable {X : Cx} {CX : CXT} {k : Nat} {f C : Addr} {fd : FuncData} {ps : List Str} {sp : Sp} {dvs : List V} {ds : List Value} {E : XK} {x m : Str} {p pos apos : Pos} {e o : Expr} {es : List Expr} {ta : TE} {t : TA}
theorem run_fn {pins : List (Addr × Obj)} {σ : St} {H : Hp} {s : Shared} {Q : VK} {us : List Value} {vs : List V} (F : FnOk X.prog X.w X.K X.mg X.base CX k f fd ps sp) (hr : Room k X.A) (hb : Binds X.K fd ps ds) (hd : Vals dvs ds) (hx : Passes CX X E)
   (I : Inv X pins σ H s) (r : Vals vs us) (h : sp (vs ++ dvs) H Q E) : wpAny (model X.prog X.w) X.A (call (.ref f) us) (EP X pins σ Q) X.xe s := by
 have r2 : Vals (vs ++ dvs) (us ++ ds) := r.append hd
 have hl : (us ++ ds).length = ps.length := by rw [← r2.length]; exact F.len _ _ _ _ h
 refine wpAny_call (codeAny_mono (F.run X.A X.stack s H ⟨us, []⟩ (us ++ ds) (vs ++ dvs) Q E hr I.env0 (hb s us I.kIn hl) r2 h) fun r s' hq => ?_)
 cases r with
 | error e => exact hx pins σ H s e s' I hq
 | ok fl =>
   cases fl with
   | ret u => exact I.after hq
   | next => exact False.elim hq
   | brk => exact False.elim hq
   | cont => exact False.elim hq
theorem zL (F : FnOk X.prog X.w X.K X.mg X.base CX k f fd ps sp) (hr : Room k X.A) (hg : Gl X x) (hm : X.mg x = some (.ref f)) (hk : PySem.W.keepIn X.K (.ref f) = true) (hb : Binds X.K fd ps ds) (hd : Vals dvs ds) (hx : Passes CX X E)
   (ha : PA X (e :: es) t) (hdb : (x == ("__debug__" : Str)) = false := by decide) (he : starEach (e :: es) X.env = (false, eval e X.env) :: starEach es X.env := by rfl) (hpl : (backTo pos (starEach es X.env)).any (·.1) = false := by rfl) :
   PE X (.Call (.Name x p) (e :: es) [] pos) (tCall sp dvs E t) := by
 intro pins s σ H Q I h
 refine wpAny_Call_Name_kw (ld_glob I hg hm ?_ hdb)
 refine PySem.W.callWith_K (h₀ := X.base) I.ok.mod.kin hk (thn (ha pos pins s σ H _ I h) fun us s1 ⟨vs, H1, I1, r, q⟩ => ⟨I1.kIn, ?_⟩) he hpl
 exact run_fn F hr hb hd hx I1 r q
structure Mk (K : PySem.W.Frag) (C f : Addr) : Prop where
 makes : PySem.W.makesIn K C = true
 init : PySem.W.findIn K (.ref C) "__init__" = some (some (.ref f))
 fn : PySem.W.isFn K (.ref f) = true
 kp : PySem.W.keepIn K (.ref C) = true
theorem run_make {pins : List (Addr × Obj)} {σ : St} {H : Hp} {s : Shared} {Q : VK} {us : List Value} {vs : List V} (M : Mk X.K C f) (F : FnOk X.prog X.w X.K X.mg X.base CX k f fd ps sp) (hr : Room (k + 1) X.A) (hb : Binds X.K fd ps ds) (hd : Vals dvs ds)
   (hx : Passes CX X E) (I : Inv X pins σ H s) (r : Vals vs us)
   (h : ∀ x dx, H x = none → H dx = none → dx ≠ x → sp (.ref x :: (vs ++ dvs)) (upd (upd H dx (.own x)) x (.ins C dx [])) (fun v H2 => v = .non ∧ Q (.ref x) H2) E) :
   wpAny (model X.prog X.w) X.A (call (.ref C) us) (EP X pins σ Q) X.xe s := by
 have hq := h (s.heap.objs.size + 1) s.heap.objs.size (I.hok.fresh (Nat.le_succ _)) (I.hok.fresh (Nat.le_refl _)) (Nat.ne_of_lt (Nat.lt_succ_self _))
 have I2 := Inv.made (C := C) I
 have r2 : Vals (V.ref (s.heap.objs.size + 1) :: (vs ++ dvs)) (Value.ref (s.heap.objs.size + 1) :: (us ++ ds)) := .cons rfl (r.append hd)
 have hl : (Value.ref (s.heap.objs.size + 1) :: us ++ ds).length = ps.length := by
   have e := r2.length
   rw [F.len _ _ _ _ hq] at e
   exact e.symm
 refine wpAny_call (make_map (f := f) I.kIn M.makes M.init (beq_iff_eq.mp M.fn) (codeAny_mono (F.run _ X.stack _ _ ⟨Value.ref (s.heap.objs.size + 1) :: us, []⟩ (Value.ref (s.heap.objs.size + 1) :: (us ++ ds)) _ _ E (hr.make C us [])
   (I2.env0.make C us []) (hb _ (Value.ref (s.heap.objs.size + 1) :: us) I2.kIn hl) r2 hq) fun r s' hq' => ?_))
 cases r with
 | error e => exact hx pins σ _ _ e s' I2 hq'
 | ok fl =>
   cases fl with
   | ret u =>
     obtain ⟨v, H', I3, rv, ev, q3⟩ := I2.after hq'
     subst ev
     exact ⟨rv, ⟨V.ref (s.heap.objs.size + 1), H', I3, rfl, q3⟩⟩
   | next => exact False.elim hq'
   | brk => exact False.elim hq'
   | cont => exact False.elim hq'
theorem yQ (M : Mk X.K C f) (F : FnOk X.prog X.w X.K X.mg X.base CX k f fd ps sp) (hr : Room (k + 1) X.A) (hg : Gl X x) (hm : X.mg x = some (.ref C)) (hb : Binds X.K fd ps ds) (hd : Vals dvs ds) (hx : Passes CX X E)
   (ha : PA X (e :: es) t) (hdb : (x == ("__debug__" : Str)) = false := by decide) (he : starEach (e :: es) X.env = (false, eval e X.env) :: starEach es X.env := by rfl) (hpl : (backTo pos (starEach es X.env)).any (·.1) = false := by rfl) :
   PE X (.Call (.Name x p) (e :: es) [] pos) (tMake C sp dvs E t) := by
 intro pins s σ H Q I h
 refine wpAny_Call_Name_kw (ld_glob I hg hm ?_ hdb)
 refine PySem.W.callWith_K (h₀ := X.base) I.ok.mod.kin M.kp (thn (ha pos pins s σ H _ I h) fun us s1 ⟨vs, H1, I1, r, q⟩ => ⟨I1.kIn, ?_⟩) he hpl
 exact run_make M F hr hb hd hx I1 r q
theorem pe_make0 (M : Mk X.K C f) (F : FnOk X.prog X.w X.K X.mg X.base CX k f fd ps sp) (hr : Room (k + 1) X.A) (hg : Gl X x) (hm : X.mg x = some (.ref C)) (hb : Binds X.K fd ps ds) (hd : Vals dvs ds) (hx : Passes CX X E)
   (hdb : (x == ("__debug__" : Str)) = false := by decide) : PE X (.Call (.Name x p) [] [] pos) (tMake C sp dvs E tNil) := by
 intro pins s σ H Q I h
 refine wpAny_Call_Name_kw (ld_glob I hg hm ?_ hdb)
 exact PySem.W.callWith_K0 I.kIn M.kp (run_make (us := []) M F hr hb hd hx I .nil h)
end
section
variable {X : Cx} {CX : CXT} {k : Nat} {f C : Addr} {fd : FuncData} {ps ks : List Str} {sp : Sp} {E : XK} {x m : Str} {p pos apos kpos : Pos} {e o : Expr} {es : List Expr} {kws : List Keyword} {te ta : TE} {t tk : TA} {nm : Option Str}
structure KBinds (K : PySem.W.Frag) (fd : FuncData) (ps ks : List Str) (g : List Value → List Value → List Value) (gV : List V → List V → List V) : Prop where
 to : ∀ (s : Shared) (us ws : List Value), K.In s.heap → (g us ws).length = ps.length → BindsTo s fd ⟨us, ks.zip ws⟩ (ps.zip (g us ws))
 rel : ∀ {vs : List V} {us : List Value} {zs : List V} {ws : List Value}, Vals vs us → Vals zs ws → Vals (gV vs zs) (g us ws)
variable {g : List Value → List Value → List Value} {gV : List V → List V → List V}
end
structure FnScope (N P : List Str) (sc : Scope) : Prop where
 kind : sc.kind = .function
 co : sc.isCoroutine = false
 gen : sc.isGenerator = false
 nd : N.Nodup
 pre : N.take P.length = P
 par : ∀ x ∈ P, sc.names.lookup x = some .local ∨ sc.names.lookup x = some .cell
 nofree : ∀ y ∈ sc.names, y.2 ≠ .free
theorem bindL_out {kindOf : Str → Option NameKind} {x : Str} : ∀ {binds : List (Str × Value)} {m : Str → Option Value}, (∀ v, (x, v) ∉ binds) → bindL kindOf binds m x = m x
 | [], _, _ => rfl
 | (n, v) :: r, m, h => by
   unfold bindL
   rw [bindL_out fun w hw => h w (List.mem_cons_of_mem _ hw)]
   split
   · have : x ≠ n := by rintro rfl; exact h v List.mem_cons_self
     simp [this]
   · rfl
theorem bindC_out {kindOf : Str → Option NameKind} {x : Str} : ∀ {binds : List (Str × Value)} {m : Str → Option Value}, (∀ v, (x, v) ∉ binds) → bindC kindOf binds m x = m x
 | [], _, _ => rfl
 | (n, v) :: r, m, h => by
   unfold bindC
   rw [bindC_out fun w hw => h w (List.mem_cons_of_mem _ hw)]
   split
   · rfl
   · have : x ≠ n := by rintro rfl; exact h v List.mem_cons_self
     simp [this]
theorem bindL_get {kindOf : Str → Option NameKind} {x : Str} {v : Value} : ∀ {P : List Str} {vs : List Value} {i : Nat} {m : Str → Option Value}, P.Nodup → P[i]? = some x → vs[i]? = some v → kindOf x = some .local →
   bindL kindOf (P.zip vs) m x = some v
 | [], _, _, _, _, h, _, _ => by simp at h
 | _ :: _, [], _, _, _, _, h, _ => by simp at h
 | p :: P, w :: vs, 0, m, nd, h1, h2, hk => by
   simp at h1 h2; subst h1; subst h2
   show bindL kindOf ((p, w) :: P.zip vs) m p = _
   unfold bindL
   rw [bindL_out fun v hv => (List.nodup_cons.mp nd).1 (List.of_mem_zip hv).1, if_pos hk]
   simp
 | p :: P, w :: vs, i + 1, m, nd, h1, h2, hk => by
   show bindL kindOf ((p, w) :: P.zip vs) m x = _
   unfold bindL
   exact bindL_get (i := i) (List.nodup_cons.mp nd).2 (by simpa using h1) (by simpa using h2) hk
theorem bindC_get {kindOf : Str → Option NameKind} {x : Str} {v : Value} : ∀ {P : List Str} {vs : List Value} {i : Nat} {m : Str → Option Value}, P.Nodup → P[i]? = some x → vs[i]? = some v → kindOf x ≠ some .local →
   bindC kindOf (P.zip vs) m x = some v
 | [], _, _, _, _, h, _, _ => by simp at h
 | _ :: _, [], _, _, _, _, h, _ => by simp at h
 | p :: P, w :: vs, 0, m, nd, h1, h2, hk => by
   simp at h1 h2; subst h1; subst h2
   show bindC kindOf ((p, w) :: P.zip vs) m p = _
   unfold bindC
   rw [bindC_out fun v hv => (List.nodup_cons.mp nd).1 (List.of_mem_zip hv).1, if_neg hk]
   simp
 | p :: P, w :: vs, i + 1, m, nd, h1, h2, hk => by
   show bindC kindOf ((p, w) :: P.zip vs) m x = _
   unfold bindC
   exact bindC_get (i := i) (List.nodup_cons.mp nd).2 (by simpa using h1) (by simpa using h2) hk
def start (N : List Str) (vs : List V) : St := vs.map some ++ List.replicate (N.length - vs.length) none
def cxOf (CX : CXT) (P : Program) (w : World) (K : PySem.W.Frag) (mg : Str → Option Value) (base : Heap) (N : List Str) (qual : Str) (scope : Scope) (f : Addr) (cd : Value) (A : Around) (outer : List Env) (s : Shared) (H : Hp) (E : XK) : Cx where
 prog := P
 w := w
 K := K
 mg := mg
 base := base
 A := A.deeper (envOfC qual scope s.heap.objs.size f cd)
 N := N
 s₀ := s
 H₀ := H
 env := envOfC qual scope s.heap.objs.size f cd
 outer := outer
 stack := envOfC qual scope s.heap.objs.size f cd :: outer
 ex := []
 calm := true
 fn := fun _ => true
 pn := []
 xe := fun e s' => wpAny (model P w) (A.deeper (envOfC qual scope s.heap.objs.size f cd)) (leaving (envOfC qual scope s.heap.objs.size f cd) e) (fun _ s'' => CX outer H s E e s'') (fun e' s'' => CX outer H s E e' s'') s'
theorem cell_has {sc : Scope} {n : Nat} {x : Str} (h : sc.names.lookup x = some .cell) : ∃ c, (cellsFrom n sc.names []).lookup x = some c := by
 have q := PySem.W.cellsFrom_some sc.names n [] (.inl h)
 exact Option.isSome_iff_exists.mp q
theorem inv_start {CX : CXT} {P : Program} {w : World} {K : PySem.W.Frag} {mg : Str → Option Value} {base : Heap} {N ps : List Str} {qual : Str} {scope : Scope} {f : Addr} {cd : Value} {A : Around} {outer : List Env} {s s1 : Shared} {H : Hp} {E : XK} {us : List Value} {vs : List V}
   (S : FnScope N ps scope) (hd : A.handled = none) (e0 : Env0 P w K mg base A outer s H) (hl : vs.length = ps.length) (r : Vals vs us)
   (x : InCallC s s.heap.objs.size (bindL (envOfC qual scope s.heap.objs.size f cd).kindOf (ps.zip us) fun _ => none) (cellsFrom (s.heap.objs.size + 1) scope.names []) (bindC (envOfC qual scope s.heap.objs.size f cd).kindOf (ps.zip us) fun _ => none) s1) :
   Inv (cxOf CX P w K mg base N qual scope f cd A outer s H E) [] (start N vs) H s1 := by
 have hpl : ps.length ≤ N.length := by have := congrArg List.length S.pre; rw [List.length_take] at this; omega
 obtain ⟨h1, tk, rfl, hk⟩ := x.done
 have noA : ∀ b : Addr, b ∉ (cxOf CX P w K mg base N qual scope f cd A outer s H E).ex := fun b z => absurd (show b ∈ ([] : List Addr) from z) (by simp)
 refine ⟨⟨e0.mod, S.kind, rfl, rfl, Nat.le_refl _, fun y z c h1 h2 => ?_, fun y hy => ?_, fun y c _ h => ?_, fun _ => hd, Around.frames_deeper e0.frames, .inr ⟨rfl, rfl⟩, fun b z => absurd z (noA b), e0.bs, e0.bsz, fun b _ _ => noA b, fun b z => absurd z (noA b), e0.funs, e0.frf⟩,
   rfl, e0.bare, Un.kept hk, ⟨_, x.toInCall.ns, fun i y v h1 h2 h3 => ?_⟩, fun y c h => ⟨_, x.cell y c h⟩, e0.hok.fresh (Nat.le_refl _), fun y c h => ?_, fun p hp => absurd (show p ∈ ([] : List (Addr × Obj)) from hp) (by simp), e0.hok.kept hk, ?_⟩
 · exact name_of_addr x.apart (PySem.mem_of_lookup h1) (PySem.mem_of_lookup h2)
 · have hy : scope.names.lookup y = some .cell ∨ scope.names.lookup y = some .free := hy
   rcases hy with hy | hy
   · exact cell_has hy
   · exact absurd rfl (S.nofree _ (PySem.mem_of_lookup hy))
 · exact Nat.le_of_lt (x.above y c (PySem.mem_of_lookup h))
 · have hi : i < vs.length := by
     unfold start at h2
     by_cases hi : i < vs.length
     · exact hi
     · rw [List.getElem?_append_right (by simpa using hi)] at h2
       rw [List.getElem?_replicate] at h2
       split at h2 <;> cases h2
   have ha : vs[i]? = some v := by
     unfold start at h2
     rw [List.getElem?_append_left (by simpa using hi), List.getElem?_map] at h2
     cases e : vs[i]? with
     | none => rw [e] at h2; cases h2
     | some a => rw [e] at h2; cases h2; rfl
   obtain ⟨u, hu, rv⟩ := r.get ha
   have hp : ps[i]? = some y := by
     rw [← S.pre, List.getElem?_take_of_lt (by omega)]; exact h1
   have ndP : ps.Nodup := by rw [← S.pre]; exact S.nd.sublist (List.take_sublist _ _)
   refine ⟨u, rv, ?_⟩
   rcases S.par y (List.mem_of_getElem? hp) with k | k
   · exact .inl ⟨k, bindL_get ndP hp hu k⟩
   · obtain ⟨c, e⟩ := cell_has (n := s.heap.objs.size + 1) k
     refine .inr ⟨.inl k, c, e, ?_⟩
     have q := x.cell y c e
     rw [bindC_get ndP hp hu (by show scope.names.lookup y ≠ _; rw [k]; decide)] at q
     exact q
 · exact e0.hok.fresh (Nat.le_of_lt (x.above y c (PySem.mem_of_lookup h)))
 · unfold start
   show _ = N.length
   rw [List.length_append, List.length_map, List.length_replicate]
   omega
theorem fn_of {CX : CXT} {P : Program} {w : World} {K : PySem.W.Frag} {mg : Str → Option Value} {base : Heap} {k : Nat} {f : Addr} {name qual : Str} {params : Arguments} {body : List Stmt} {scope : Scope} {dV kV doc pm cdv ct oc : Value} {an od : Option Addr}
   {osl : Array (Option Value)} {N ps : List Str} {sp : Sp} (lk : K.lookup f = some ⟨oc, od, .func (PySem.W.fnOf name qual params body scope dV kV doc pm an cdv ct), osl⟩) (hcd : PySem.W.codeIn K cdv qual = true) (S : FnScope N ps scope)
   (len : ∀ vs H Q E, sp vs H Q E → vs.length = ps.length)
   (hbody : ∀ (A : Around) (outer : List Env) (s : Shared) (H : Hp) (vs : List V) (Q : VK) (E : XK), Room k (A.deeper (envOfC qual scope s.heap.objs.size f cdv)) → sp vs H Q E →
     ∃ t, PSs (cxOf CX P w K mg base N qual scope f cdv A outer s H E) body t ∧ t { nx := fun _ H' => Q .non H', rt := Q } (start N vs) H) :
   FnOk P w K mg base CX (k + 1) f (PySem.W.fnOf name qual params body scope dV kV doc pm an cdv ct) ps sp := by
 refine ⟨len, fun A outer s H args us vs Q E hr e0 hb r hsp => ?_⟩
 have hl := len _ _ _ _ hsp
 have KX : K.In s.heap := e0.mod.kin.keeps fun b o e => (e0.bs b o e).1
 have lim : s.heap.NoLimit := e0.mod.nolimit.keeps fun b o e => (e0.bs b o e).1
 have hkind : ∀ y ∈ ps.zip us, scope.names.lookup y.1 = some .local ∨ (scope.names.lookup y.1 = some .cell ∧ ((cellsFrom (s.heap.objs.size + 1) scope.names []).lookup y.1).isSome = true) := fun ⟨n, v⟩ hy => by
   rcases S.par n (List.of_mem_zip hy).1 with q | q
   · exact .inl q
   · exact .inr ⟨q, PySem.W.cellsFrom_some _ _ _ (.inl q)⟩
 refine codeAny_call_function hr.depth (KX _ _ lk) rfl S.co S.gen rfl (PySem.W.codeRec_of KX hcd) (hb _ _ _ _ ?_)
 refine wpAny_newFunctionEnv_cells S.kind hkind fun env he s1 x => ?_
 subst he
 refine ⟨lim.keeps x.toInCall.keep, codeAny_func ?_⟩
 obtain ⟨t, ht, hq⟩ := hbody A outer s H vs Q E (hr.deeper _) hsp
 have I : Inv (cxOf CX P w K mg base N qual scope f cdv A outer s H E) [] (start N vs) H s1 := inv_start S hr.hd e0 hl r x
 refine wpAny_mono (ht [] s1 (start N vs) H _ I hq) (fun fl s' hs => ?_) fun e s' hs => hs
 have fin : ∀ {σ' : St} {H' : Hp} {v : V} {u : Value}, Inv (cxOf CX P w K mg base N qual scope f cdv A outer s H E) [] σ' H' s' → RelV v u → Q v H' → CE outer P w H s Q u s' :=
   fun {σ' H' v u} J rv q => ⟨v, H', J.os, J.bare, J.base, J.hok, rv, q⟩
 cases fl with
 | ret u =>
   obtain ⟨v, σ', H', J, rv, q⟩ := hs
   exact fin J rv q
 | next =>
   obtain ⟨σ', H', J, q⟩ := hs
   exact fin (v := V.non) (u := Value.none) J rfl q
 | brk =>
   obtain ⟨_, _, _, q⟩ := hs
   exact False.elim q
 | cont =>
   obtain ⟨_, _, _, q⟩ := hs
   exact False.elim q
end L2
namespace L2
open PySem PySem.Spec PyProof.Rows
section
variable {X : Cx} {x : Str} {p pos : Pos} {e : Expr} {es : List Expr} {t : TA} {id T : String} {r : List V → Hp → VK → Prop}
def tCB (r : List V → Hp → VK → Prop) (t : TA) : TE := fun σ H Q => t σ H fun vs H1 => r vs H1 Q
theorem zT (hc : CallR X (.builtin id) r) (hg : Gl X x) (hm : X.mg x = none) (hv : bootBuiltins x = some (.builtin id)) (ha : PA X (e :: es) t) (hn : x ≠ "__name__" := by decide) (hdb : (x == ("__debug__" : Str)) = false := by decide)
   (he : starEach (e :: es) X.env = (false, eval e X.env) :: starEach es X.env := by rfl) (hpl : (backTo pos (starEach es X.env)).any (·.1) = false := by rfl) : PE X (.Call (.Name x p) (e :: es) [] pos) (tCB r t) := by
 intro pins s σ H Q I h
 refine wpAny_Call_Name_kw (ld_blt I hg hm hv ?_ hn hdb)
 exact PyProof.Rows.callWith_builtin1 (thn (ha pos pins s σ H _ I h) fun us s1 ⟨vs, H1, I1, r1, q1⟩ => hc pins s1 σ H1 vs us Q I1 r1 q1) he hpl
theorem pe_callTy (hc : CallR X (.type T) r) (hg : Gl X x) (hm : X.mg x = none) (hv : bootBuiltins x = some (.type T)) (ha : PA X (e :: es) t) (hn : x ≠ "__name__" := by decide) (hdb : (x == ("__debug__" : Str)) = false := by decide)
   (he : starEach (e :: es) X.env = (false, eval e X.env) :: starEach es X.env := by rfl) (hpl : (backTo pos (starEach es X.env)).any (·.1) = false := by rfl) : PE X (.Call (.Name x p) (e :: es) [] pos) (tCB r t) := by
 intro pins s σ H Q I h
 refine wpAny_Call_Name_kw (ld_blt I hg hm hv ?_ hn hdb)
 exact PyProof.Rows.callWith_type1 (thn (ha pos pins s σ H _ I h) fun us s1 ⟨vs, H1, I1, r1, q1⟩ => hc pins s1 σ H1 vs us Q I1 r1 q1) he hpl
end
end L2
namespace HT
open PySem PyProof.Rows
section
open PySem.SeqAt
open PySem.AutoSeq1 (wpAny_loadPart')
open PySem.MeetsSeq PySem.MeetsSeq2 PySem.MeetsSeq3
end
section
variable {prog : Program} {w : World} {A : Around} {E : Value → Shared → Prop} {s : Shared}
def sIx (n d : Nat) : Option Int → Nat
 | none => d
 | some v => if v < 0 then (v + (n : Int)).toNat else min v.toNat n
theorem sIx_nat (n d k : Nat) : sIx n d (some (k : Int)) = min k n := by
 show (if (k : Int) < 0 then ((k : Int) + (n : Int)).toNat else min (k : Int).toNat n) = min k n
 rw [if_neg (by omega), Int.toNat_natCast]
end
end HT
namespace L2
open PySem PySem.Spec PyProof.Rows
abbrev TO := St → Hp → (Option Int → Hp → Prop) → Prop
def PO (X : Cx) (e : Option Expr) (t : TO) : Prop :=
 ∀ (pins : List (Addr × Obj)) (s : Shared) (σ : St) (H : Hp) (Q : Option Int → Hp → Prop), Inv X pins σ H s → t σ H Q →
   wpAny (model X.prog X.w) X.A (evalPart e X.env) (fun u s' => ∃ o H', Inv X pins σ H' s' ∧ IsPart u o ∧ Q o H') X.xe s
def tNoPart : TO := fun _ H Q => Q none H
def tPart (t : TE) : TO := fun σ H Q => t σ H fun x H1 => ∃ i, x = .int i ∧ Q (some i) H1
section
variable {X : Cx} {e : Expr} {te : TE} {lo hi : Option Expr} {tl th : TO} {pos p2 : Pos}
theorem po_none : PO X none tNoPart := by
 intro pins s σ H Q I h
 rw [evalPart_none]
 exact wpAny_pure ⟨none, H, I, .none, h⟩
theorem po_some (h : PE X e te) : PO X (some e) (tPart te) := by
 intro pins s σ H Q I hw
 rw [evalPart_some]
 refine thn (h pins s σ H _ I hw) fun u s1 ⟨x, H1, I1, r1, q1⟩ => ?_
 obtain ⟨i, rfl, q⟩ := q1
 obtain ⟨t, rfl⟩ := r1
 exact ⟨some i, H1, I1, .int i t, q⟩
def SlR (X : Cx) (r : V → Option Int → Option Int → Hp → VK → Prop) : Prop :=
 ∀ (pins : List (Addr × Obj)) (s : Shared) (σ : St) (H : Hp) (x : V) (v vl vu : Value) (lo hi : Option Int) (sl : Addr) (Q : VK), Inv X pins σ H s → RelV x v → s.heap.IsSliceOf sl vl vu .none → IsPart vl lo → IsPart vu hi → r x lo hi H Q →
   ∃ T id, typeLookup (.type T) "__getitem__" = pure (some (.builtin id)) ∧ s.TypeIs v T ∧ wpAny (model X.prog X.w) X.A (getItem v (.ref sl)) (EP X pins σ Q) X.xe s
theorem SlR.or {r r' : V → Option Int → Option Int → Hp → VK → Prop} (h : SlR X r) (h' : SlR X r') : SlR X (fun x lo hi H Q => r x lo hi H Q ∨ r' x lo hi H Q) := by
 intro pins s σ H x v vl vu lo hi sl Q I rx hs pl pu q
 rcases q with q | q
 · exact h pins s σ H x v vl vu lo hi sl Q I rx hs pl pu q
 · exact h' pins s σ H x v vl vu lo hi sl Q I rx hs pl pu q
def tSl (r : V → Option Int → Option Int → Hp → VK → Prop) (te : TE) (tl th : TO) : TE := fun σ H Q => te σ H fun x H1 => tl σ H1 fun l H2 => th σ H2 fun u H3 => r x l u H3 Q
theorem pe_slice {r : V → Option Int → Option Int → Hp → VK → Prop} (hr : SlR X r) (he : PE X e te) (hl : PO X lo tl) (hu : PO X hi th) : PE X (.Subscript e (.Slice lo hi none p2) pos) (tSl r te tl th) := by
 intro pins s σ H Q I h
 refine Subscript_ (thn (he pins s σ H _ I h) fun v s1 ⟨x, H1, I1, r1, q1⟩ => ?_)
 refine wpAny_Slice (thn (hl pins s1 σ H1 _ I1 q1) fun vl s2 ⟨l, H2, I2, pl, q2⟩ => thn (hu pins s2 σ H2 _ I2 q2) fun vu s3 ⟨u, H3, I3, pu, q3⟩ => ?_)
 rw [evalPart_none]
 refine wpAny_pure ?_
 have I4 : Inv X pins σ H3 { s3 with heap := s3.heap.push { cls := .type "slice", data := .fields #[vl, vu, .none] } } := I3.kept (t' := s3.toks) fun b ob q => Heap.get?_push_of_some _ q
 obtain ⟨T, id, hT, ht, hg⟩ := hr pins { s3 with heap := s3.heap.push { cls := .type "slice", data := .fields #[vl, vu, .none] } } σ H3 x v vl vu l u s3.heap.objs.size Q I4 r1 (Heap.IsSliceOf.new ..) pl pu q3
 show wpAny (model X.prog X.w) X.A (subscriptTail e (.Slice lo hi none p2) v (.ref s3.heap.objs.size)) (EP X pins σ Q) X.xe { s3 with heap := s3.heap.push { cls := .type "slice", data := .fields #[vl, vu, .none] } }
 exact tail_any (ops := [.ref s3.heap.objs.size, v]) ht hT hg (by with_unfolding_all rfl)
def cutV (xs : List V) (lo hi : Option Int) : List V := (xs.drop (HT.sIx xs.length 0 lo)).take (HT.sIx xs.length xs.length hi - HT.sIx xs.length 0 lo)
theorem cutV_length (xs : List V) (lo hi : Option Int) : (cutV xs lo hi).length ≤ xs.length := by
 unfold cutV
 rw [List.length_take, List.length_drop]
 omega
end
end L2
namespace L2
open PySem PySem.Spec PyProof.Rows
def ixN (n : Nat) (i : Int) : Option Nat := if 0 ≤ i then (if i < n then some i.toNat else none) else if -(n : Int) ≤ i then some (i + n).toNat else none
def atI {α : Type} (xs : List α) (i : Int) : Option α := (ixN xs.length i).bind fun j => xs[j]?
theorem ixN_seq {n : Nat} {i : Int} {j : Nat} (h : ixN n i = some j) : seqIndex? i n = some j ∧ j < n ∧ -(n : Int) ≤ i ∧ i < n := by
 unfold ixN at h
 by_cases h0 : 0 ≤ i
 · rw [if_pos h0] at h
   by_cases h1 : i < n
   · rw [if_pos h1] at h
     have e : i.toNat = j := Option.some.inj h
     exact ⟨by rw [seqIndex_of h0 h1, e], by omega, by omega, h1⟩
   · rw [if_neg h1] at h; cases h
 · rw [if_neg h0] at h
   by_cases h1 : -(n : Int) ≤ i
   · rw [if_pos h1] at h
     have e : (i + n).toNat = j := Option.some.inj h
     exact ⟨by rw [seqIndex_neg (by omega) h1, e], by omega, h1, by omega⟩
   · rw [if_neg h1] at h; cases h
theorem atI_get {α : Type} {xs : List α} {i : Int} {v : α} (h : atI xs i = some v) : ∃ j, seqIndex? i xs.length = some j ∧ xs[j]? = some v ∧ j < xs.length ∧ -(xs.length : Int) ≤ i ∧ i < xs.length := by
 unfold atI at h
 cases e : ixN xs.length i with
 | none => rw [e] at h; cases h
 | some j =>
   rw [e] at h
   obtain ⟨h1, h2, h3, h4⟩ := ixN_seq e
   exact ⟨j, h1, h, h2, h3, h4⟩
theorem zH {α : Type} {xs : List α} {j : Nat} {v : α} (h : xs[j]? = some v) : atI xs (j : Int) = some v := by
 have hj : j < xs.length := (List.getElem?_eq_some_iff.mp h).1
 have e : ixN xs.length (j : Int) = some j := by
   unfold ixN
   rw [if_pos (by omega), if_pos (by omega)]; simp
 unfold atI; rw [e]; exact h
def PlainIx (b : Expr) : Prop := ∀ o i, subscripted b false o i = operate [o, i] (getItem o i)
def IxR (X : Cx) (r : R2) : Prop :=
 ∀ (value slice : Expr) (pins : List (Addr × Obj)) (s : Shared) (σ : St) (H : Hp) (x y : V) (v u : Value) (Q : VK), Inv X pins σ H s → RelV x v → RelV y u → r x y H Q →
   subscripted slice false v u = operate [v, u] (getItem v u) → wpAny (model X.prog X.w) X.A (subscriptTail value slice v u) (EP X pins σ Q) X.xe s
def MtR (X : Cx) (id : String) (r : V → List V → Hp → VK → Prop) : Prop :=
 ∀ (pins : List (Addr × Obj)) (s : Shared) (σ : St) (H : Hp) (x : V) (xs : List V) (v : Value) (us : List Value) (Q : VK), Inv X pins σ H s → RelV x v → Vals xs us → r x xs H Q →
   wpAny (model X.prog X.w) X.A (call (.builtin id) (v :: us)) (EP X pins σ Q) X.xe s
section
variable {X : Cx} {a b : Expr} {ta tb : TE} {pos : Pos}
theorem IxR.or {r r' : R2} (h : IxR X r) (h' : IxR X r') : IxR X (fun x y H Q => r x y H Q ∨ r' x y H Q) := by
 intro value slice pins s σ H x y v u Q I rx ry q hs
 rcases q with q | q
 · exact h value slice pins s σ H x y v u Q I rx ry q hs
 · exact h' value slice pins s σ H x y v u Q I rx ry q hs
theorem MtR.or {id : String} {r r' : V → List V → Hp → VK → Prop} (h : MtR X id r) (h' : MtR X id r') : MtR X id (fun x xs H Q => r x xs H Q ∨ r' x xs H Q) := by
 intro pins s σ H x xs v us Q I rx rs q
 rcases q with q | q
 · exact h pins s σ H x xs v us Q I rx rs q
 · exact h' pins s σ H x xs v us Q I rx rs q
theorem zM {r : R2} (hr : IxR X r) (ha : PE X a ta) (hb : PE X b tb) (hs : PlainIx b) : PE X (.Subscript a b pos) (tOp r ta tb) := by
 intro pins s σ H Q I h
 exact Subscript_ (binT ha hb I h fun v u s2 x y H2 I2 rx ry q => hr a b pins s2 σ H2 x y v u Q I2 rx ry q (hs _ _))
def rIxL (K : PySem.W.Frag) : R2 := fun x y H Q => ∃ p xs i v, x = .ref p ∧ y = .int i ∧ SqL K H p xs ∧ atI xs i = some v ∧ Q v H
def rIxT (K : PySem.W.Frag) : R2 := fun x y H Q => ∃ p xs i v, x = .ref p ∧ y = .int i ∧ SqT K H p xs ∧ atI xs i = some v ∧ Q v H
def rIxS : R2 := fun x y H Q => ∃ z i c, x = .str z ∧ y = .int i ∧ z.length ≤ sizeLine ∧ atI z.cps.toList i = some c ∧ Q (.str ⟨#[c]⟩) H
theorem yF : IxR X (rIxL X.K) := by
 intro value slice pins s σ H x y v u Q I rx ry h hs
 obtain ⟨p, xs, i, z, rfl, rfl, hq, he, q⟩ := h
 cases rx
 obtain ⟨t, rfl⟩ := ry
 obtain ⟨its, r, pl, hz⟩ := I.list hq
 obtain ⟨j, h1, h2, h3, h4, h5⟩ := atI_get he
 obtain ⟨w, ew, rw'⟩ := r.get h2
 have hl := r.length
 have hn := line63
 have fin : EP X pins σ Q w s := ⟨z, H, I, rw', q⟩
 by_cases h0 : 0 ≤ i
 · have hj : i.toNat = j := by
     rw [seqIndex_of h0 h5] at h1
     exact Option.some.inj h1
   exact item_listR pl.isList h0 (by omega) (by rw [hj]; simpa using ew) fin hs
 · have hj : (i + (its.toArray.size : Int)).toNat = j := by
     rw [seqIndex_neg (by omega) h4] at h1
     rw [List.size_toArray, ← hl]
     exact Option.some.inj h1
   exact subscriptTail_builtinR (x := w) pl.isList.typeIs slot_list_getitem.lookup
     (wpAny_getItem_list_neg (Q := fun r s' => r = w ∧ EP X pins σ Q r s') pl.isList (by omega) (by rw [List.size_toArray] <;> omega) (by omega) (by rw [hj]; simpa using ew) ⟨rfl, fin⟩) hs
theorem zP : IxR X (rIxT X.K) := by
 intro value slice pins s σ H x y v u Q I rx ry h hs
 obtain ⟨p, xs, i, z, rfl, rfl, hq, he, q⟩ := h
 cases rx
 obtain ⟨t, rfl⟩ := ry
 obtain ⟨its, r, pl, hz⟩ := I.tuple hq
 obtain ⟨j, h1, h2, h3, h4, h5⟩ := atI_get he
 obtain ⟨w, ew, rw'⟩ := r.get h2
 have hl := r.length
 have hn := line63
 have fin : EP X pins σ Q w s := ⟨z, H, I, rw', q⟩
 exact subscriptTail_builtinR (x := w) pl.typeIs slot_tuple_getitem.lookup
   (getItem_tuple (j := j) (Q := fun r s' => r = w ∧ EP X pins σ Q r s') pl (by omega) (by omega) (by rw [List.size_toArray, ← hl]; exact h1) (by simpa using ew) ⟨rfl, fin⟩) hs
theorem ix_str : IxR X rIxS := by
 intro value slice pins s σ H x y v u Q I rx ry h hs
 obtain ⟨z, i, c, rfl, rfl, hz, he, q⟩ := h
 obtain ⟨t, rfl⟩ := rx
 obtain ⟨t', rfl⟩ := ry
 obtain ⟨j, h1, h2, h3, h4, h5⟩ := atI_get he
 have hl : z.cps.toList.length = z.length := by simp [Str.length]
 rw [hl] at h1 h4 h5
 have hn := line63
 exact tail_any (typeIs_str s z t) slot_str_getitem.lookup (getItem_str (c := c) (by
   have e1 : decide (i < -(2 ^ 63 : Int)) = false := decide_eq_false (by omega)
   have e2 : decide (i ≥ 2 ^ 63) = false := decide_eq_false (by omega)
   rw [e1, e2, Bool.or_false]) (by rw [h1]; simpa using h2) ⟨.str ⟨#[c]⟩, H, I.tok _, ⟨_, rfl⟩, q⟩) hs
theorem Inv.lst {pins : List (Addr × Obj)} {σ : St} {H : Hp} {s : Shared} {p : Addr} {xs : List V} (I : Inv X pins σ H s) (h : H p = some (.lst xs)) :
   ∃ (its : List Value) (n : Nat), Vals xs its ∧ s.heap.get? p = some { cls := .type "list", data := .seq its.toArray n } ∧ xs.length ≤ sizeLine := by
 obtain ⟨z, its, n, r, e⟩ := I.hok p _ h
 exact ⟨its, n, r, e, z⟩
theorem slice_bounds (lo hi : Option Int) (n : Nat) : (sliceBounds lo hi none n).1 = ((HT.sIx n 0 lo : Nat) : Int) ∧ (sliceBounds lo hi none n).2.1 = ((HT.sIx n n hi : Nat) : Int) ∧ (sliceBounds lo hi none n).2.2 = 1 := by
 refine ⟨?_, ?_, rfl⟩
 · cases lo with
   | none => simp [sliceBounds, HT.sIx]
   | some i =>
     simp only [sliceBounds, HT.sIx, Option.getD_none, show (1 : Int) > 0 by decide, if_true]
     by_cases h : i < 0
     · simp only [h, if_true] <;> omega
     · simp only [h, if_false] <;> omega
 · cases hi with
   | none => simp [sliceBounds, HT.sIx]
   | some i =>
     simp only [sliceBounds, HT.sIx, Option.getD_none, show (1 : Int) > 0 by decide, if_true]
     by_cases h : i < 0
     · simp only [h, if_true] <;> omega
     · simp only [h, if_false] <;> omega
theorem slicePick_cut (its : List Value) (lo hi : Option Int) : slicePick its.toArray lo hi none = ((its.drop (HT.sIx its.length 0 lo)).take (HT.sIx its.length its.length hi - HT.sIx its.length 0 lo)).toArray := by
 obtain ⟨h1, h2, h3⟩ := slice_bounds lo hi its.toArray.size
 unfold slicePick
 rw [h1, h2, h3]
 simp only [sliceRange_one, pick_run, List.size_toArray] <;> rfl
def rSlL (K : PySem.W.Frag) : V → Option Int → Option Int → Hp → VK → Prop := fun x lo hi H Q => ∃ a xs, x = .ref a ∧ SqL K H a xs ∧ ∀ p, H p = none → Q (.ref p) (upd H p (.lst (cutV xs lo hi)))
theorem sl_list : SlR X (rSlL X.K) := by
 intro pins s σ H x v vl vu lo hi sl Q I rx hs pl pu h
 obtain ⟨a, xs, rfl, hx, q⟩ := h
 cases rx
 obtain ⟨its, r, ht, hz⟩ := I.list hx
 have hlen := r.length
 refine ⟨"list", _, slot_list_getitem.lookup, ht.isList.typeIs, ?_⟩
 refine wpAny_getItem_list_slice ht.isList hs pl pu .none (by simp) ?_ (by rw [List.size_toArray] <;> omega)
 rw [slicePick_cut, ← hlen]
 refine ⟨.ref s.heap.objs.size, _, I.laid (t' := s.toks) (o := .lst (cutV xs lo hi)) (fun b ob q => Heap.get?_push_of_some _ q) (Nat.le_refl _) ?_, rfl, q _ (I.hok.fresh (Nat.le_refl _))⟩
 exact ⟨Nat.le_trans (cutV_length xs lo hi) hz, _, 0, (r.drop (HT.sIx xs.length 0 lo)).take (HT.sIx xs.length xs.length hi - HT.sIx xs.length 0 lo), Heap.get?_push_size _ rfl⟩
def flatV : V → Bool
 | .non => true
 | .bl _ => true
 | .int _ => true
 | .str _ => true
 | _ => false
def eqV : V → V → Bool
 | .non, .non => true
 | .bl a, .bl b => a == b
 | .bl a, .int b => (if a then 1 else 0) == b
 | .int a, .bl b => a == (if b then 1 else 0)
 | .int a, .int b => a == b
 | .str a, .str b => a == b
 | _, _ => false
theorem eqAt_V {A : Around} {s : Shared} {y x : V} {u v : Value} (ry : RelV y u) (rx : RelV x v) (fy : flatV y = true) (fx : flatV x = true) : SeqAt.EqAt A s u v (eqV y x) := by
 cases y with
 | non =>
   cases ry
   cases x with
   | non => cases rx; exact SeqAt.EqAt.same _
   | bl b => cases rx; exact SeqAt.EqAt.none_bool b
   | int b => obtain ⟨t, rfl⟩ := rx; exact SeqAt.EqAt.none_int b t
   | str b => obtain ⟨t, rfl⟩ := rx; exact SeqAt.EqAt.none_str b t
   | _ => exact absurd (show false = true from fx) Bool.false_ne_true
 | bl a =>
   cases ry
   cases x with
   | non => cases rx; exact SeqAt.EqAt.bool_none a
   | bl b => cases rx; exact SeqAt.EqAt.bool_bool a b
   | int b => obtain ⟨t, rfl⟩ := rx; exact SeqAt.EqAt.bool_int a b t
   | str b => obtain ⟨t, rfl⟩ := rx; exact SeqAt.EqAt.bool_str a b t
   | _ => exact absurd (show false = true from fx) Bool.false_ne_true
 | int a =>
   obtain ⟨t', rfl⟩ := ry
   cases x with
   | non => cases rx; exact SeqAt.EqAt.int_none a t'
   | bl b => cases rx; exact SeqAt.EqAt.int_bool a t' b
   | int b => obtain ⟨t, rfl⟩ := rx; exact SeqAt.EqAt.int_int a t' b t
   | str b => obtain ⟨t, rfl⟩ := rx; exact SeqAt.EqAt.int_str a t' b t
   | _ => exact absurd (show false = true from fx) Bool.false_ne_true
 | str a =>
   obtain ⟨t', rfl⟩ := ry
   cases x with
   | non => cases rx; exact SeqAt.EqAt.str_none a t'
   | bl b => cases rx; exact SeqAt.EqAt.str_bool a t' b
   | int b => obtain ⟨t, rfl⟩ := rx; exact SeqAt.EqAt.str_int a t' b t
   | str b => obtain ⟨t, rfl⟩ := rx; exact SeqAt.EqAt.str_str a t' b t
   | _ => exact absurd (show false = true from fx) Bool.false_ne_true
 | _ => exact absurd (show false = true from fy) Bool.false_ne_true
def eqU (x : V) (u : Value) : Bool := match u with
 | .none => eqV .non x
 | .bool b => eqV (.bl b) x
 | .int i _ => eqV (.int i) x
 | .str z _ => eqV (.str z) x
 | _ => false
theorem eqU_of {x y : V} {u : Value} (r : RelV y u) (f : flatV y = true) : eqU x u = eqV y x := by
 cases y with
 | non => cases r; rfl
 | bl b => cases r; rfl
 | int i => obtain ⟨t, rfl⟩ := r; rfl
 | str z => obtain ⟨t, rfl⟩ := r; rfl
 | _ => exact absurd (show false = true from f) Bool.false_ne_true
theorem any_eqU {x : V} : ∀ {xs : List V} {us : List Value}, Vals xs us → xs.all flatV = true → us.any (eqU x) = xs.any fun y => eqV y x
 | _, _, .nil, _ => rfl
 | y :: xs, u :: us, .cons r t, f => by
   rw [List.all_cons, Bool.and_eq_true] at f
   rw [List.any_cons, List.any_cons, eqU_of r f.1, any_eqU t f.2]
theorem mem_eqAt {A : Around} {s : Shared} {x : V} {v : Value} (rx : RelV x v) (fx : flatV x = true) : ∀ {xs : List V} {us : List Value}, Vals xs us → xs.all flatV = true → ∀ u ∈ us, SeqAt.EqAt A s u v (eqU x u)
 | _, _, .nil, _ => fun u hu => by cases hu
 | y :: xs, u :: us, .cons r t, f => fun u' hu => by
   rw [List.all_cons, Bool.and_eq_true] at f
   rcases List.mem_cons.mp hu with rfl | hu
   · rw [eqU_of r f.1]; exact eqAt_V r rx f.1 fx
   · exact mem_eqAt rx fx t f.2 u' hu
def inV (x : V) (xs : List V) : Bool := xs.any fun y => eqV y x
def rIn (K : PySem.W.Frag) (neg : Bool) : R2 := fun x y H Q => ∃ p xs, y = .ref p ∧ (SqL K H p xs ∨ SqT K H p xs) ∧ flatV x = true ∧ xs.all flatV = true ∧ Q (.bl (if neg then !inV x xs else inV x xs)) H
theorem op_in_seq : OpR X (compareOp .In) (rIn X.K false) := by
 intro pins s σ H x y v u Q I rx ry h
 obtain ⟨p, xs, rfl, hq, fx, fs, q⟩ := h
 cases ry
 rcases hq with hq | hq
 · obtain ⟨its, r, pl, hz⟩ := I.list hq
   refine SeqAt.in_listAt (eqU x) pl.isList (fun w hw => mem_eqAt rx fx r fs w (by simpa using hw)) ⟨.bl _, H, I, rfl, ?_⟩
   rw [show its.toArray.any (eqU x) = its.any (eqU x) by simp, any_eqU r fs]
   exact q
 · obtain ⟨its, r, pl, hz⟩ := I.tuple hq
   refine SeqAt.in_tupleAt (eqU x) pl (fun w hw => mem_eqAt rx fx r fs w (by simpa using hw)) ⟨.bl _, H, I, rfl, ?_⟩
   rw [show its.toArray.any (eqU x) = its.any (eqU x) by simp, any_eqU r fs]
   exact q
theorem op_notIn_seq : OpR X (compareOp .NotIn) (rIn X.K true) := by
 intro pins s σ H x y v u Q I rx ry h
 obtain ⟨p, xs, rfl, hq, fx, fs, q⟩ := h
 cases ry
 rcases hq with hq | hq
 · obtain ⟨its, r, pl, hz⟩ := I.list hq
   refine SeqAt.notIn_listAt (eqU x) pl.isList (fun w hw => mem_eqAt rx fx r fs w (by simpa using hw)) ⟨.bl _, H, I, rfl, ?_⟩
   rw [show its.toArray.any (eqU x) = its.any (eqU x) by simp, any_eqU r fs]
   exact q
 · obtain ⟨its, r, pl, hz⟩ := I.tuple hq
   refine SeqAt.notIn_tupleAt (eqU x) pl (fun w hw => mem_eqAt rx fx r fs w (by simpa using hw)) ⟨.bl _, H, I, rfl, ?_⟩
   rw [show its.toArray.any (eqU x) = its.any (eqU x) by simp, any_eqU r fs]
   exact q
theorem yR : CallR X (.builtin "len") (fun xs H Q => ∃ p ys, xs = [.ref p] ∧ (SqL X.K H p ys ∨ SqT X.K H p ys) ∧ Q (.int ys.length) H) := by
 intro pins s σ H xs us Q I r h
 obtain ⟨p, ys, rfl, hq, q⟩ := h
 obtain ⟨u, rfl, rx⟩ := vals1 r
 cases rx
 have hn := line63
 rcases hq with hq | hq
 · obtain ⟨its, r', pl, hz⟩ := I.list hq
   have hlen := r'.length
   exact Calls.call_len_list pl.isList (by simp only [List.size_toArray] <;> omega) ⟨.int ys.length, H, I.tok _, ⟨s.toks + 1, by rw [List.size_toArray, hlen]⟩, q⟩
 · obtain ⟨its, r', pl, hz⟩ := I.tuple hq
   have hlen := r'.length
   exact len_tuple pl (by simp only [List.size_toArray] <;> omega) ⟨.int ys.length, H, I.tok _, ⟨s.toks + 1, by rw [List.size_toArray, hlen]⟩, q⟩
theorem CallR.or {f : Value} {r r' : List V → Hp → VK → Prop} (h : CallR X f r) (h' : CallR X f r') : CallR X f (fun xs H Q => r xs H Q ∨ r' xs H Q) := by
 intro pins s σ H xs us Q I rs q
 rcases q with q | q
 · exact h pins s σ H xs us Q I rs q
 · exact h' pins s σ H xs us Q I rs q
theorem call_list_of : CallR X (.type "list") (fun xs H Q => ∃ p ys, xs = [.ref p] ∧ (SqL X.K H p ys ∨ SqT X.K H p ys) ∧ ∀ l, H l = none → Q (.ref l) (upd H l (.lst ys))) := by
 intro pins s σ H xs us Q I r h
 obtain ⟨p, ys, rfl, hq, q⟩ := h
 obtain ⟨u, rfl, rx⟩ := vals1 r
 cases rx
 have fin : ∀ (its : List Value), Vals ys its → ys.length ≤ sizeLine → ∀ (h' : Heap) (c' : Nat), (∀ b o', s.heap.get? b = some o' → h'.get? b = some o') →
     h'.get? s.heap.objs.size = some { cls := .type "list", dict := none, data := .seq its.toArray c', slots := #[] } → EP X pins σ Q (.ref s.heap.objs.size) { s with heap := h' } := fun its r' hz h' c' kp e =>
   ⟨.ref s.heap.objs.size, _, I.laid (t' := s.toks) kp (Nat.le_refl _) (show ObjOk X.prog X.w _ h' _ (.lst ys) from ⟨hz, its, c', r', e⟩), rfl, q _ (I.hok.fresh (Nat.le_refl _))⟩
 rcases hq with hq | hq
 · obtain ⟨its, r', pl, hz⟩ := I.list hq
   have hlen := r'.length
   obtain ⟨o, ho, hc, n, hd⟩ := pl.isList
   exact call_list_seq p (.inl rfl) ho hc hd (fun h' c' kp e => fin its r' hz h' c' kp e) (by simp only [List.size_toArray] <;> omega)
 · obtain ⟨its, r', pl, hz⟩ := I.tuple hq
   have hlen := r'.length
   obtain ⟨o, ho, hc, n, hd⟩ := pl
   exact call_list_seq p (.inr rfl) ho hc hd (fun h' c' kp e => fin its r' hz h' c' kp e) (by simp only [List.size_toArray] <;> omega)
def tyV (K : PySem.W.Frag) (T : String) (x : V) (H : Hp) : Prop := match x with
 | .str _ => T = "str"
 | .int _ => T = "int"
 | .ref p => (T = "list" ∧ ∃ xs, SqL K H p xs) ∨ (T = "tuple" ∧ ∃ o, K.lookup p = some o ∧ o.cls = .type "tuple" ∧ o.dict = none) ∨
     (T = "dict" ∧ ((∃ kvs, H p = some (.dK kvs)) ∨ ∃ kvs, H p = some (.dT kvs))) ∨ (T = "set" ∧ ∃ S n, H p = some (.set S n))
 | _ => False
theorem tyV_is {pins : List (Addr × Obj)} {σ : St} {H : Hp} {s : Shared} {T : String} {x : V} {v : Value} (I : Inv X pins σ H s) (r : RelV x v) (ty : tyV X.K T x H) :
   s.TypeIs v T ∧ ∀ a, v = .ref a → ∃ ob, s.heap.get? a = some ob ∧ ob.dict = none := by
 cases x with
 | str z =>
   obtain ⟨t, rfl⟩ := r
   cases (show T = "str" from ty)
   exact ⟨typeIs_str s z t, fun _ e => nomatch e⟩
 | int i =>
   obtain ⟨t, rfl⟩ := r
   cases (show T = "int" from ty)
   exact ⟨typeIs_int s i t, fun _ e => nomatch e⟩
 | ref p =>
   cases r
   rcases ty with ⟨rfl, xs, hq⟩ | ⟨rfl, o, hk, hc, hd⟩ | ⟨rfl, hk⟩ | ⟨rfl, S, n, hk⟩
   · obtain ⟨its, _, pl, _⟩ := I.list hq
     refine ⟨pl.isList.typeIs, fun a e => ?_⟩
     cases e
     obtain ⟨o, n, e, c, hd, _⟩ := pl
     exact ⟨o, e, hd⟩
   · refine ⟨⟨o, I.kIn p o hk, hc⟩, fun a e => ?_⟩
     cases e
     exact ⟨o, I.kIn _ o hk, hd⟩
   · have z : ∃ o, s.heap.get? p = some o ∧ o.ExactDict := by
       rcases hk with ⟨kvs, hk⟩ | ⟨kvs, hk⟩
       · obtain ⟨_, _, _, _, o, _, _, e, ex, _⟩ := I.hok p _ hk
         exact ⟨o, e, ex⟩
       · obtain ⟨_, _, _, _, o, _, _, e, ex, _⟩ := I.hok p _ hk
         exact ⟨o, e, ex⟩
     obtain ⟨o, e, ex⟩ := z
     refine ⟨⟨o, e, ex.1⟩, fun a e2 => ?_⟩
     cases e2
     exact ⟨o, e, ex.2.1⟩
   · obtain ⟨o, _, _, _, e, ex, _⟩ := I.hok p _ hk
     refine ⟨⟨o, e, ex.1⟩, fun a e2 => ?_⟩
     cases e2
     exact ⟨o, e, ex.2.1⟩
 | _ => exact False.elim ty
def tBM0 (K : PySem.W.Frag) (T : String) (r : V → List V → Hp → VK → Prop) (to : TE) : TE := fun σ H Q => to σ H fun x H1 => tyV K T x H1 ∧ r x [] H1 Q
def tBM (K : PySem.W.Frag) (T : String) (r : V → List V → Hp → VK → Prop) (to : TE) (t : TA) : TE := fun σ H Q => to σ H fun x H1 => tyV K T x H1 ∧ t σ H1 fun xs H2 => r x xs H2 Q
variable {o e : Expr} {es : List Expr} {to : TE} {t : TA} {name : Str} {apos cpos : Pos} {T id : String} {r : V → List V → Hp → VK → Prop}
theorem pe_bm0 (pa : PlainAttrs T) (slot : Slot T name id) (hty : typeOf (.builtin id) = pure (.type "method_descriptor")) (hm : MtR X id r) (ho : PE X o to)
   (hbase : attributeBase o name X.env (eval o X.env) = eval o X.env := by rfl) (hline : (apos.endLine == cpos.line) = true := by rfl) : PE X (.Call (.Attribute o name apos) [] [] cpos) (tBM0 X.K T r to) := by
 intro pins s σ H Q I h
 refine wpAny_Call_method0_late hbase hline (thn (ho pins s σ H _ I h) fun v s1 ⟨x, H1, I1, r1, ty, q1⟩ => ?_)
 obtain ⟨h1, h2⟩ := tyV_is I1 r1 ty
 exact ⟨T, id, pa, slot, hty, h1, h2, Calls.callWith_builtin rfl (PySem.evalArgs_none (hm pins s1 σ H1 x [] v [] Q I1 r1 .nil q1))⟩
theorem pe_bm (pa : PlainAttrs T) (slot : Slot T name id) (hty : typeOf (.builtin id) = pure (.type "method_descriptor")) (hm : MtR X id r) (ho : PE X o to) (ha : PA X (e :: es) t)
   (hbase : attributeBase o name X.env (eval o X.env) = eval o X.env := by rfl)
   (hfew : ((backTo cpos (starEach (e :: es) X.env)).all (fun x => !x.1) && (backToKw cpos (keywordEach [] X.env)).all (fun x => x.1.isSome)
     && decide ((e :: es).length + ([] : List Keyword).length + (if ([] : List Keyword).isEmpty then 0 else 1) < 30)) = true := by rfl)
   (hline : (apos.endLine == cpos.line) = true := by rfl) (hs : starEach (e :: es) X.env = (false, eval e X.env) :: starEach es X.env := by rfl) (hplain : (backTo cpos (starEach es X.env)).any (·.1) = false := by rfl) :
   PE X (.Call (.Attribute o name apos) (e :: es) [] cpos) (tBM X.K T r to t) := by
 intro pins s σ H Q I h
 refine wpAny_Call_method_late hbase hfew hline rfl (thn (ho pins s σ H _ I h) fun v s1 ⟨x, H1, I1, r1, ty, q1⟩ => ?_)
 obtain ⟨h1, h2⟩ := tyV_is I1 r1 ty
 refine ⟨T, id, pa, slot, hty, h1, h2, ?_⟩
 have hA := ha cpos pins s1 σ H1 _ I1 q1
 rw [hs] at hA ⊢
 refine Calls.callWith_builtin (by show (false || (backTo cpos (starEach es X.env)).any (·.1)) = false; rw [hplain] <;> rfl) (Calls.evalArgs_plain ?_)
 exact thn hA fun us s2 ⟨vs, H2, I2, r2, q2⟩ => hm pins s2 σ H2 x vs v us Q I2 r1 r2 q2
end
end L2
namespace L2
open PySem PySem.Spec PyProof.Rows
def MtM (X : Cx) (id : String) (r : V → List V → Hp → VK → Prop) : Prop :=
 ∀ (pins : List (Addr × Obj)) (s : Shared) (σ : St) (H : Hp) (x : V) (xs : List V) (v : Value) (us : List Value) (Q : VK), Inv X pins σ H s → RelV x v → Vals xs us → r x xs H Q →
   wpAny (model X.prog X.w) X.A (call (.builtin id) (v :: us)) (EP X pins σ Q) X.xe s
theorem Vals.one : ∀ {x : V} {us : List Value}, Vals [x] us → ∃ u, us = [u] ∧ RelV x u
 | _, _, .cons r .nil => ⟨_, rfl, r⟩
theorem Vals.two : ∀ {x y : V} {us : List Value}, Vals [x, y] us → ∃ u v, us = [u, v] ∧ RelV x u ∧ RelV y v
 | _, _, _, .cons r (.cons q .nil) => ⟨_, _, rfl, r, q⟩
theorem Vals.zero : ∀ {us : List Value}, Vals [] us → us = []
 | _, .nil => rfl
theorem Vals.dropLast {xs : List V} {us : List Value} (h : Vals xs us) : Vals xs.dropLast us.dropLast := by
 induction h with
 | nil => exact .nil
 | cons r t ih =>
   cases t with
   | nil => exact .nil
   | cons q t' => exact .cons r ih
theorem Vals.eraseIdx : ∀ {xs : List V} {us : List Value} (i : Nat), Vals xs us → Vals (xs.eraseIdx i) (us.eraseIdx i)
 | _, _, _, .nil => .nil
 | _, _, 0, .cons _ t => t
 | _, _, i + 1, .cons r t => .cons r (Vals.eraseIdx i t)
theorem Vals.reverse {xs : List V} {us : List Value} (h : Vals xs us) : Vals xs.reverse us.reverse := by
 induction h with
 | nil => exact .nil
 | cons r t ih => rw [List.reverse_cons, List.reverse_cons]; exact Vals.append ih (.cons r .nil)
theorem erase_last {α : Type} (l : List α) : l.eraseIdx (l.length - 1) = l.dropLast := by
 induction l with
 | nil => rfl
 | cons a r ih =>
   cases r with
   | nil => rfl
   | cons b r =>
     have e : (a :: b :: r).length - 1 = ((b :: r).length - 1) + 1 := by
       have h1 : (a :: b :: r).length = r.length + 2 := rfl
       have h2 : (b :: r).length = r.length + 1 := rfl
       omega
     rw [e, List.eraseIdx_cons_succ, ih]
     all_goals rfl
section
variable {X : Cx} {pins : List (Addr × Obj)} {σ : St} {H : Hp} {s : Shared} {l b : Addr} {xs ys zs : List V}
theorem Inv.lset {its its' : List Value} {n : Nat} {f : Array Value → Array Value} {t' : Nat} (I : Inv X pins σ H s) (hH : H l = some (.lst xs))
   (e : s.heap.get? l = some { cls := .type "list", data := .seq its.toArray n }) (hf : f its.toArray = its'.toArray) (hv : Vals ys its') (hz : ys.length ≤ sizeLine) :
   Inv X pins σ (upd H l (.lst ys)) { s with heap := s.heap.update l (Obj.mapSeq f), toks := t' } := by
 have q := PySem.IsL.update e f
 rw [hf] at q
 refine I.write (x := l) (e := l) (by rw [hH]; exact trivial) (.inl rfl) (fun b' u hb hu => (Heap.get?_update_other s.heap (Obj.mapSeq f) (Ne.symm hb)).trans hu) ⟨_, q⟩ ?_
 exact ⟨hz, its', _, hv, q⟩
theorem Inv.lnew {its : List Value} {t' : Nat} (I : Inv X pins σ H s) (hv : Vals ys its) (hz : ys.length ≤ sizeLine) :
   Inv X pins σ (upd H s.heap.objs.size (.lst ys)) { s with heap := s.heap.push { cls := .type "list", data := .seq its.toArray }, toks := t' } :=
 I.laid (fun _ _ q => Heap.get?_push_of_some _ q) (Nat.le_refl _) ⟨hz, its, 0, hv, Heap.get?_push_size _ rfl⟩
theorem Inv.fresh (I : Inv X pins σ H s) : H s.heap.objs.size = none := I.hok.fresh (Nat.le_refl _)
theorem Inv.lstM (I : Inv X pins σ H s) (hH : H l = some (.lst xs)) : xs.length ≤ sizeLine ∧ ∃ (its : List Value) (n : Nat), Vals xs its ∧ xs.length = its.length ∧ s.heap.get? l = some { cls := .type "list", data := .seq its.toArray n } := by
 obtain ⟨z, its, n, r, e⟩ := I.hok l _ hH
 exact ⟨z, its, n, r, r.length, e⟩
end
section
variable {X : Cx}
def rAppend : V → List V → Hp → VK → Prop := fun x vs H Q => ∃ l xs y, x = .ref l ∧ vs = [y] ∧ H l = some (.lst xs) ∧ xs.length < sizeLine ∧ Q .non (upd H l (.lst (xs ++ [y])))
theorem mt_append : MtM X "list.append" rAppend := by
 intro pins s σ H x vs v us Q I rx rv h
 obtain ⟨l, xs, y, rfl, rfl, hH, hz, q⟩ := h
 cases rx
 obtain ⟨u, rfl, ru⟩ := rv.one
 obtain ⟨z, its, n, r, hl, e⟩ := I.lstM hH
 refine call_meets F.slot_list_append ⟨_, e, rfl⟩ F.entry_list_append (F.args_list_append_2 _ _) (PySem.list_append l its.toArray n u (by rw [List.size_toArray]; omega)) ⟨e, ?_⟩
 refine ⟨.non, _, I.lset (its' := its ++ [u]) hH e (by simp) (r.append (.cons ru .nil)) ?_, rfl, q⟩
 rw [List.length_append, List.length_singleton]
 omega
def rPop : V → List V → Hp → VK → Prop := fun x vs H Q => ∃ l xs y, x = .ref l ∧ vs = [] ∧ H l = some (.lst xs) ∧ xs[xs.length - 1]? = some y ∧ Q y (upd H l (.lst xs.dropLast))
theorem mt_pop : MtM X "list.pop" rPop := by
 intro pins s σ H x vs v us Q I rx rv h
 obtain ⟨l, xs, y, rfl, rfl, hH, hy, q⟩ := h
 cases rx
 have hus := rv.zero
 subst hus
 obtain ⟨z, its, n, r, hl, e⟩ := I.lstM hH
 obtain ⟨u, hu, ru⟩ := r.get hy
 have hy' : its.toArray[its.toArray.size - 1]? = some u := by
   show its.toArray[its.length - 1]? = some u
   rw [← Array.getElem?_toList, ← hl]
   exact hu
 refine call_meets F.slot_list_pop ⟨_, e, rfl⟩ F.entry_list_pop (F.args_list_pop_1 _) (MeetsSeq.list_pop_last l its.toArray n u hy' (by rw [List.size_toArray]; omega)) ⟨e, ?_⟩
 refine ⟨y, _, I.lset (its' := its.dropLast) hH e ?_ r.dropLast ?_, ru, q⟩
 · show its.toArray.eraseIdxIfInBounds (its.toArray.size - 1) = its.dropLast.toArray
   rw [List.size_toArray, List.eraseIdxIfInBounds_toArray, erase_last]
 · rw [List.length_dropLast]
   omega
def rCat : R2 := fun x y H Q => ∃ l b xs zs, x = .ref l ∧ y = .ref b ∧ H l = some (.lst xs) ∧ H b = some (.lst zs) ∧ xs.length + zs.length ≤ sizeLine ∧ ∀ p, H p = none → Q (.ref p) (upd H p (.lst (xs ++ zs)))
theorem op_cat : OpR X (binaryOp .Add) rCat := by
 intro pins s σ H x y v u Q I rx ry h
 obtain ⟨l, b, xs, zs, rfl, rfl, hH, hB, hz, q⟩ := h
 cases rx
 cases ry
 obtain ⟨z, its, n, r, hl, e⟩ := I.lstM hH
 obtain ⟨z2, its2, n2, r2, hl2, e2⟩ := I.lstM hB
 refine PySem.P.add_list e e2 ?_ (by rw [List.size_toArray, List.size_toArray]; omega)
 have ea : its.toArray ++ its2.toArray = (its ++ its2).toArray := by simp
 rw [ea]
 exact ⟨.ref _, _, I.lnew (t' := s.toks) (r.append r2) (by rw [List.length_append]; omega), rfl, q _ I.fresh⟩
end
section
variable {prog : Program} {w : World} {A : Around} {E : Value → Shared → Prop} {s : Shared}
end
section
variable {X : Cx}
end
end L2
namespace Att
open PySem PySem.W PySem.Calls PyProof.Rows
theorem ints_of_wellAll {P : Params} {h : Heap} : ∀ (ns : List Int) (vs : List Value), WellAll P h vs (ns.map WData.int) → IntsAre vs ns := by
 intro ns
 induction ns with
 | nil =>
   intro vs w
   rw [List.map_nil] at w
   cases w
   exact .nil
 | cons n ns ih =>
   intro vs w
   rw [List.map_cons] at w
   cases w with
   | cons a b =>
     cases a
     exact .cons _ _ (ih _ b)
theorem script_of {l : OpenLaw} {n : Nat} (hn : l.most = some n) {P : Params} {h : Heap} {args : List WData} {vals : List Value}
   (hpre : l.row.toRowW.claim.pre args = true) (hwl : WellAll P h vals args) :
   ∃ a vs ns, vals = [Value.ref a] ∧ args = [WData.list (ns.map WData.int)] ∧ h.get? a = some { cls := .type "list", data := .seq vs.toArray } ∧ IntsAre vs ns ∧ ns.length ≤ n := by
 have hsh : WShape.hasAll [] args [.list .int] = true := (pre_splitW hpre).1
 have hc : l.pre.holds [] { args := args } = true := (pre_splitW hpre).2
 obtain ⟨d, r, rfl, h1, h2⟩ := hasAllW_cons hsh
 obtain rfl := hasAllW_nil h2
 obtain ⟨xs, rfl, h3⟩ := hasW_list h1
 obtain ⟨ns, rfl⟩ := items_int h3
 have hlen : ns.length ≤ n := by
   unfold OpenLaw.pre at hc
   have h4 : (WTm.not (.lt (.lit (.int (n : Int))) (.len (.arg 0)))).holds [] { args := [.list (ns.map .int)] } = true := by
     have h4 := (holds_andW hc).1
     rw [hn] at h4
     exact h4
   have h5 := condW_of h4 (w_not (w_lt w_lit (w_len_list (w_arg rfl))))
   rw [List.length_map] at h5
   refine Nat.le_of_not_lt fun q => ?_
   have q' : (n : Int) < ((ns.length : Nat) : Int) := by omega
   first
     | (rw [decide_eq_true q'] at h5; exact absurd h5 (by decide))
     | (simp at h5; omega)
 cases hwl with
 | cons w1 w2 =>
   cases w2
   cases w1 with
   | list ho hall => exact ⟨_, _, ns, rfl, rfl, ho, ints_of_wellAll ns _ hall, hlen⟩
theorem post_true (l : OpenLaw) (args : List WData) : l.row.toRowW.claim.post args (.bool true) args = true :=
 postW_of (r := l.row.toRowW) (X := (true == true))
   (show WShape.has [] (.bool true) .bool = true by first | rfl | decide | simp [WShape.has, WShape.arms, WShape.armsAll])
   (show (WTm.eq .res (.lit (.bool true))).value [] { args := args, res := some (.bool true), after := args } = some (.bool (true == true)) from w_eq_bool (w_res rfl) w_lit) rfl
section
variable {prog : Program} {w : World} {A : Around} {E : Value → Shared → Prop} {s : Shared} {K : Frag}
end
end Att
namespace L2
open PySem PySem.Spec PyProof.Rows
theorem vals_ints : ∀ {vs : List Value} {ns : List Int}, IntsAre vs ns → Vals (ns.map V.int) vs
 | _, _, .nil => .nil
 | _, _, .cons n t h => .cons ⟨t, rfl⟩ (vals_ints h)
def Only (H : Hp) : Prop := ∀ b, H b = none ∨ ∃ o xs, H b = some (.frz o (.lst xs))
theorem law_call {P : Program} {w : World} {K : PySem.W.Frag} {mg mb : Str → Option Value} {CX : CXT} {k : Nat} {fa a : Addr} {fd : FuncData} {x : Str} {sp : Sp} {s₁ : Shared} {vs : List Value} {ns : List Int}
   (KX : K.In s₁.heap) (hns : s₁.heap.Ns mainGlobals mg) (hb : s₁.heap.Ns builtinsNs mb) (hbb : ∀ x : Str, x ≠ "__name__" → mb x = bootBuiltins x) (hlim : s₁.heap.NoLimit) (hg : s₁.gens = #[])
   (ha : s₁.heap.get? a = some { cls := .type "list", data := .seq vs.toArray }) (hi : IntsAre vs ns) (hl : ns.length ≤ sizeLine) (hr : Room k callerA)
   (F : ∀ base : Heap, K.In base → base.Ns mainGlobals mg → FnOk P w K mg base CX k fa fd [x] sp) (hbind : ∀ (s : Shared) (u : Value), BindsTo s fd ⟨[u], []⟩ [(x, u)])
   (hsp : ∀ H : Hp, Only H → SqL K H a (ns.map V.int) → sp [.ref a] H (fun v _ => v = .bl true) fun _ _ _ => False)
   (hCX : ∀ H e s', CX [] H s₁ (fun _ _ _ => False) e s' → False) :
   codeAny (model P w) callerA (.call (.ref fa) ⟨[.ref a], []⟩) (fun r s' => r = .ok (.ret (.bool true)) ∧ OldK s₁.heap s'.heap ∧ s'.os = s₁.os ∧ AllBare s'.gens) s₁ := by
 have rv := vals_ints hi
 have lenV := hi.length
 have core : ∀ H : Hp, Only H → SqL K H a (ns.map V.int) → HOk P w H s₁.heap → (∀ b, H b ≠ none → b = a) → (H a ≠ none → K.lookup a = none) →
     codeAny (model P w) callerA (.call (.ref fa) ⟨[.ref a], []⟩) (fun r s' => r = .ok (.ret (.bool true)) ∧ OldK s₁.heap s'.heap ∧ s'.os = s₁.os ∧ AllBare s'.gens) s₁ := by
   intro H hO hS hok hA hK
   have base_of : ∀ {b : Addr} {o : Obj}, s₁.heap.get? b = some o → H b = none → (hidT s₁.heap H).get? b = some o := fun e n => hidT_get e n
   have noA : ∀ {b : Addr} {o : Obj} {es : Array DictEntry} {ep : Nat}, s₁.heap.get? b = some o → o.data = .dict es ep → H b = none := fun {b o es ep} e d => by
     cases q : H b with
     | none => rfl
     | some u =>
       have e' : b = a := hA b (by rw [q]; simp)
       subst e'
       rw [ha] at e; cases e
       have d' : Data.seq vs.toArray _ = Data.dict es ep := d
       cases d'
   have nsK : ∀ {b : Addr} {m : Str → Option Value}, s₁.heap.Ns b m → (hidT s₁.heap H).Ns b m := fun {b m} ⟨o, es, ep, e, d, r⟩ => ⟨o, es, ep, base_of e (noA e d), d, r⟩
   have hKb : K.In (hidT s₁.heap H) := fun b o e => base_of (KX b o e) (by
     cases q : H b with
     | none => rfl
     | some u =>
       have e' : b = a := hA b (by rw [q]; simp)
       subst e'
       rw [hK (by rw [q]; simp)] at e; cases e)
   have hM : Mod K mg (hidT s₁.heap H) := ⟨hKb, nsK hns, ⟨mb, nsK hb, hbb⟩, let ⟨mc, h1, h2⟩ := hlim; ⟨mc, nsK h1, h2⟩⟩
   have e0 : Env0 P w K mg (hidT s₁.heap H) callerA [] s₁ H := ⟨rfl, hM, fun b o e => of_hidT e, Nat.le_of_eq (hidT_size _ _), trivial, fun b hb => absurd (show b ∈ ([] : List Addr) from hb) (by simp), hok, .of_eq hg⟩
   refine codeAny_mono ((F _ hKb (nsK hns)).run callerA [] s₁ H ⟨[.ref a], []⟩ [.ref a] [.ref a] _ _ hr e0 (hbind s₁ (.ref a)) (.cons rfl .nil) (hsp H hO hS)) fun r s' h => ?_
   cases r with
   | error e => exact (hCX H e s' h).elim
   | ok fl =>
     cases fl with
     | next => exact False.elim h
     | brk => exact False.elim h
     | cont => exact False.elim h
     | ret u =>
       obtain ⟨v, H', os, bare, un, hok', r', q⟩ := h
       have q' : v = .bl true := q
       subst q'
       obtain rfl : u = Value.bool true := r'
       refine ⟨rfl, OldK.of_keep fun b o e => ?_, os, bare⟩
       cases q : H b with
       | none => exact un.keep b o e q (by intro z; exact absurd (show b ∈ ([] : List Addr) from z) (by simp)) (by simp)
       | some u =>
         rcases hO b with z | ⟨ob, xs, z⟩
         · rw [q] at z; cases z
         · have z2 := un.frzs b ob _ z
           obtain ⟨e1, _⟩ := hok b _ z
           obtain ⟨e2, _⟩ := hok' b _ z2
           rw [e] at e1; cases e1
           exact e2
 cases hk : K.lookup a with
 | some o =>
   have e := KX a o hk
   rw [ha] at e
   cases e
   refine core (fun _ => none) (fun _ => .inl rfl) (.inr ⟨_, vs.toArray, _, hk, rfl, rfl, rfl, by rw [List.size_toArray, lenV]; exact hl, by simpa using rv⟩) (fun b u z => by have z' : (none : Option HO) = some u := z; cases z') (fun b z => absurd rfl z) fun z => absurd rfl z
 | none =>
   refine core (fun b => if b = a then some (.frz { cls := .type "list", data := .seq vs.toArray } (.lst (ns.map V.int))) else none) (fun b => ?_) (.inl (.inr ⟨{ cls := .type "list", data := .seq vs.toArray }, if_pos rfl⟩)) (fun b u z => ?_) (fun b z => ?_) fun _ => hk
   · by_cases hb : b = a
     · exact .inr ⟨_, _, if_pos hb⟩
     · exact .inl (if_neg hb)
   · by_cases hb : b = a
     · have z' := (if_pos hb).symm.trans z
       cases z'
       subst hb
       exact ⟨ha, by rw [List.length_map]; exact hl, vs, _, rv, ha⟩
     · have z' := (if_neg hb).symm.trans z
       cases z'
   · by_cases hb : b = a
     · exact hb
     · exact absurd (if_neg hb) z
end L2
namespace L2
open PySem PySem.Spec PyProof.Rows
abbrev KOf {K : PySem.W.Frag} {h : Heap} (_ : K.In h) : PySem.W.Frag := K
end L2
namespace L2
open PySem PySem.Spec PyProof.Rows
def inClass (s : Stmt) (j : Nat) : Stmt := match s with
 | .ClassDef _ _ _ body _ _ _ _ _ _ _ => body.getD j (.Pass ⟨0, 0, 0, 0⟩)
 | _ => .Pass ⟨0, 0, 0, 0⟩
def defArgs (s : Stmt) : Arguments := match s with
 | .FunctionDef _ a _ _ _ _ _ _ _ _ => a
 | _ => { posonlyargs := [], args := [], vararg := none, kwonlyargs := [], kw_defaults := [], kwarg := none, defaults := [] }
def defBody (s : Stmt) : List Stmt := match s with
 | .FunctionDef _ _ b _ _ _ _ _ _ _ => b
 | _ => []
def defScope (s : Stmt) : Scope := match s with
 | .FunctionDef _ _ _ _ _ _ sc _ _ _ => sc
 | _ => { kind := .function, names := [], isGenerator := false, isCoroutine := false }
abbrev CX0 : CXT := fun _ _ _ _ _ _ => False
abbrev E0 : XK := fun _ _ _ => False
theorem zO {X : Cx} : Passes CX0 X E0 := fun _ _ _ _ _ _ _ h => h.elim
structure Fun (K : PySem.W.Frag) (x qual : Str) (st : Stmt) (f : Addr) (fd : FuncData) : Prop where
 ex : ∃ (oc : Value) (od : Option Addr) (kV doc pm : Value) (an : Option Addr) (cdv ct : Value) (osl : Array (Option Value)),
   fd = PySem.W.fnOf x qual (defArgs st) (defBody st) (defScope st) .none kV doc pm an cdv ct ∧ K.lookup f = some ⟨oc, od, .func fd, osl⟩ ∧ PySem.W.codeIn K cdv qual = true
 kp : PySem.W.keepIn K (.ref f) = true
section
variable {P : Program} {w : World} {K : PySem.W.Frag} {mg : Str → Option Value} {base : Heap}
theorem Fun.ok {x qual : Str} {st : Stmt} {f : Addr} {fd : FuncData} {N ps : List Str} {k : Nat} {sp : Sp} (F : Fun K x qual st f fd) (S : FnScope N ps (defScope st)) (len : ∀ vs H Q E, sp vs H Q E → vs.length = ps.length)
   (hbody : ∀ (cdv : Value) (A : Around) (outer : List Env) (s : Shared) (H : Hp) (vs : List V) (Q : VK) (E : XK), Room k (A.deeper (envOfC qual (defScope st) s.heap.objs.size f cdv)) → sp vs H Q E →
     ∃ t, PSs (cxOf CX0 P w K mg base N qual (defScope st) f cdv A outer s H E).nox (defBody st) t ∧ t { nx := fun _ H' => Q .non H', rt := Q } (start N vs) H) : FnOk P w K mg base CX0 (k + 1) f fd ps sp := by
 obtain ⟨oc, od, kV, doc, pm, an, cdv, ct, osl, rfl, lk, hcd⟩ := F.ex
 refine fn_of lk hcd S len fun A outer s H vs Q E hr hsp => ?_
 obtain ⟨t, h, q⟩ := hbody cdv A outer s H vs Q E hr hsp
 exact ⟨t, h.nox, q⟩
theorem Fun.binds {x qual : Str} {st : Stmt} {f : Addr} {fd : FuncData} {ps : List Str} (F : Fun K x qual st f fd)
   (h : ∀ (kV doc pm : Value) (an : Option Addr) (cdv ct : Value) (us : List Value), us.length = ps.length → bindArgs (PySem.W.fnOf x qual (defArgs st) (defBody st) (defScope st) .none kV doc pm an cdv ct) ⟨us, []⟩ = pure (ps.zip us)) : Binds K fd ps [] := by
 obtain ⟨oc, od, kV, doc, pm, an, cdv, ct, osl, rfl, lk, hcd⟩ := F.ex
 exact .all (h kV doc pm an cdv ct)
theorem fun_mk {x qual : Str} {st : Stmt} {f : Addr} {oc : Value} {od an : Option Addr} {osl : Array (Option Value)} {kV doc pm cdv ct : Value} (l : K.lookup f = some ⟨oc, od, .func (PySem.W.fnOf x qual (defArgs st) (defBody st) (defScope st) .none kV doc pm an cdv ct), osl⟩)
   (c : PySem.W.codeIn K cdv qual = true) (k : PySem.W.keepIn K (.ref f) = true) : Fun K x qual st f (PySem.W.fnOf x qual (defArgs st) (defBody st) (defScope st) .none kV doc pm an cdv ct) := ⟨⟨oc, od, kV, doc, pm, an, cdv, ct, osl, rfl, l, c⟩, k⟩
end
theorem hu_of {A : Around} {k : Nat} (hr : Room k A) : A.units + 1 < cLine := Nat.lt_of_le_of_lt (Nat.add_le_add_left (by decide : 1 ≤ 64) _) hr.units
section
variable {X : Cx}
theorem pv (i : Nat) {x : Str} {pos : Pos} (hN : X.N[i]? = some x := by rfl) (hv : Vis X.env.scope x := by first | exact Or.inl rfl | exact Or.inr (Or.inl rfl) | exact Or.inr (Or.inr rfl)) (hd : (x == ("__debug__" : Str)) = false := by decide)
   (hcd : (x == ("__classdict__" : Str)) = false := by decide) : PE X (.Name x pos) (tVar i) := pe_var hN hv hd hcd
end
theorem iteF {A B : Prop} (h : B) : if false = true then A else B := by
 rw [if_neg Bool.false_ne_true]
 exact h
theorem iteT {A B : Prop} (h : A) : if true = true then A else B := by
 rw [if_pos rfl]
 exact h
theorem ite2 {c A B : Prop} [Decidable c] (h1 : c → A) (h2 : ¬ c → B) : if c then A else B := by
 by_cases h : c
 · rw [if_pos h]
   exact h1 h
 · rw [if_neg h]
   exact h2 h
def Same (H H' : Hp) : Prop := ∀ b o, H b = some o → H' b = some o
theorem Same.refl (H : Hp) : Same H H := fun _ _ h => h
theorem Same.trans {H H1 H2 : Hp} (a : Same H H1) (b : Same H1 H2) : Same H H2 := fun c o h => b c o (a c o h)
theorem Same.free {H H' : Hp} (e : Same H H') {l : Addr} (h : H' l = Option.none) : H l = Option.none := by
 cases q : H l with
 | none => rfl
 | some o =>
   rw [e l o q] at h
   cases h
theorem Same.seq {K : PySem.W.Frag} {H H' : Hp} {a : Addr} {xs : List V} (e : Same H H') (h : SqL K H a xs) : SqL K H' a xs := by
 rcases h with (h | ⟨o, h⟩) | h
 · exact .inl (.inl (e _ _ h))
 · exact .inl (.inr ⟨o, e _ _ h⟩)
 · exact .inr h
end L2
namespace L2
open PySem PySem.Spec PyProof.Rows
section
variable {κ : Type} [DecidableEq κ]
def valV (kvs : List (κ × V)) (k : κ) : Option V := (kvs.find? fun kv => decide (kv.1 = k)).map (·.2)
def putK (kvs : List (κ × V)) (k : κ) (v : V) : List (κ × V) :=
 if (kvs.any fun kv => decide (kv.1 = k)) = true then kvs.map (fun kv => if kv.1 = k then (kv.1, v) else kv) else kvs ++ [(k, v)]
def dropK (kvs : List (κ × V)) (k : κ) : List (κ × V) := kvs.filter fun kv => decide (kv.1 ≠ k)
theorem yX {p : κ × V} {r : List (κ × V)} {k : κ} (e : p.1 = k) : valV (p :: r) k = some p.2 := by simp [valV, List.find?_cons, e]
theorem yV {p : κ × V} {r : List (κ × V)} {k : κ} (e : ¬ p.1 = k) : valV (p :: r) k = valV r k := by simp [valV, List.find?_cons, e]
theorem valV_any (k : κ) : ∀ kvs : List (κ × V), (kvs.any fun kv => decide (kv.1 = k)) = (valV kvs k).isSome
 | [] => rfl
 | p :: r => by
   rw [List.any_cons]
   by_cases e : p.1 = k
   · simp only [yX e, decide_eq_true e, Bool.true_or, Option.isSome_some]
   · rw [yV e, decide_eq_false e, Bool.false_or]; exact valV_any k r
theorem valV_map (k j : κ) (y : V) : ∀ kvs : List (κ × V), valV (kvs.map fun kv => if kv.1 = k then (kv.1, y) else kv) j = (valV kvs j).map fun x => if j = k then y else x
 | [] => rfl
 | p :: r => by
   have ih := valV_map k j y r
   rw [List.map_cons]
   by_cases h : p.1 = k
   · rw [if_pos h]
     by_cases e : p.1 = j
     · rw [yX (p := (p.1, y)) e, yX e, Option.map_some, if_pos (e.symm.trans h)]
     · rw [yV (p := (p.1, y)) e, yV e, ih]
   · rw [if_neg h]
     by_cases e : p.1 = j
     · rw [yX (p := p) e, yX e, Option.map_some, if_neg (fun z => h (e.trans z))]
     · rw [yV (p := p) e, yV e, ih]
theorem valV_snoc (k j : κ) (y : V) : ∀ kvs : List (κ × V), valV kvs k = none → valV (kvs ++ [(k, y)]) j = if j = k then some y else valV kvs j
 | [], _ => by
   by_cases e : k = j
   · rw [if_pos e.symm]; exact yX (p := (k, y)) e
   · rw [if_neg (fun z => e z.symm)]; exact yV (p := (k, y)) e
 | p :: r, hn => by
   rw [List.cons_append]
   have hk : ¬ p.1 = k := fun z => by rw [yX z] at hn; cases hn
   rw [yV hk] at hn
   have ih := valV_snoc k j y r hn
   by_cases e : p.1 = j
   · rw [yX e, yX e, if_neg (fun z => hk (e.trans z))]
   · rw [yV e, yV e, ih]
theorem valV_put (kvs : List (κ × V)) (k j : κ) (y : V) : valV (putK kvs k y) j = if j = k then some y else valV kvs j := by
 unfold putK
 by_cases a : (kvs.any fun kv => decide (kv.1 = k)) = true
 · rw [if_pos a, valV_map]
   rw [valV_any] at a
   by_cases e : j = k
   · obtain ⟨x, hx⟩ := Option.isSome_iff_exists.mp a
     rw [if_pos e, e, hx, Option.map_some, if_pos rfl]
   · rw [if_neg e]
     cases valV kvs j with
     | none => rfl
     | some x => rw [Option.map_some, if_neg e]
 · rw [if_neg a]
   refine valV_snoc k j y kvs ?_
   rw [valV_any] at a
   cases q : valV kvs k with
   | none => rfl
   | some x => rw [q] at a; exact (a rfl).elim
theorem length_putK (kvs : List (κ × V)) (k : κ) (v : V) : (putK kvs k v).length ≤ kvs.length + 1 := by
 unfold putK
 split
 · rw [List.length_map]; omega
 · rw [List.length_append, List.length_cons, List.length_nil]; omega
theorem RelO.isSome_eq {o : Option V} {u : Option Value} (r : RelO o u) : o.isSome = u.isSome := by
 cases o with
 | none => cases u with
   | none => rfl
   | some _ => exact (show False from r).elim
 | some _ => cases u with
   | none => exact (show False from r).elim
   | some _ => rfl
theorem RelO.getD {o : Option V} {u : Option Value} {d : V} {d' : Value} (r : RelO o u) (rd : RelV d d') : RelV (o.getD d) (u.getD d') := by
 cases o with
 | none => cases u with
   | none => exact rd
   | some _ => exact (show False from r).elim
 | some _ => cases u with
   | none => exact (show False from r).elim
   | some _ => exact r
theorem KV.val {kvs : List (κ × V)} {vs : List (κ × Value)} (r : KV kvs vs) (k : κ) : RelO (valV kvs k) (valueAt vs k) := by
 unfold KV at r
 induction r with
 | nil => exact True.intro
 | @cons p q ps qs h t ih =>
   obtain ⟨h1, h2⟩ := h
   by_cases e : p.1 = k
   · have e' : q.1 = k := h1.symm.trans e
     have b : valueAt (q :: qs) k = some q.2 := by simp [valueAt, List.find?_cons, e']
     rw [yX e, b]; exact h2
   · have e' : ¬ q.1 = k := fun z => e (h1.trans z)
     have b : valueAt (q :: qs) k = valueAt qs k := by simp [valueAt, List.find?_cons, e']
     rw [yV e, b]; exact ih
theorem KV.any {kvs : List (κ × V)} {vs : List (κ × Value)} (r : KV kvs vs) (k : κ) : (kvs.any fun kv => decide (kv.1 = k)) = vs.any fun kv => decide (kv.1 = k) := by
 unfold KV at r
 induction r with
 | nil => rfl
 | cons h t ih => rw [List.any_cons, List.any_cons, ih, h.1]
theorem KV.repl {kvs : List (κ × V)} {vs : List (κ × Value)} (r : KV kvs vs) (k : κ) {y : V} {u : Value} (ry : RelV y u) :
   KV (kvs.map fun kv => if kv.1 = k then (kv.1, y) else kv) (vs.map fun kv => if kv.1 = k then (kv.1, u) else kv) := by
 unfold KV at r ⊢
 induction r with
 | nil => exact .nil
 | @cons p q ps qs h t ih =>
   rw [List.map_cons, List.map_cons]
   refine .cons ?_ ih
   obtain ⟨h1, h2⟩ := h
   by_cases e : p.1 = k
   · rw [if_pos e, if_pos (h1.symm.trans e)]; exact ⟨h1, ry⟩
   · rw [if_neg e, if_neg (fun z => e (h1.trans z))]; exact ⟨h1, h2⟩
theorem KV.put {kvs : List (κ × V)} {vs : List (κ × Value)} (r : KV kvs vs) (k : κ) {y : V} {u : Value} (ry : RelV y u) : KV (putK kvs k y) (stored vs k u) := by
 unfold putK stored
 rw [r.any k]
 by_cases e : (vs.any fun kv => decide (kv.1 = k)) = true
 · rw [if_pos e, if_pos e]; exact r.repl k ry
 · rw [if_neg e, if_neg e]; exact Paired.snoc r ⟨rfl, ry⟩
theorem KV.drop {kvs : List (κ × V)} {vs : List (κ × Value)} (r : KV kvs vs) (k : κ) : KV (dropK kvs k) (without vs k) := by
 unfold KV at r ⊢
 unfold dropK without
 induction r with
 | nil => exact .nil
 | @cons p q ps qs h t ih =>
   obtain ⟨h1, h2⟩ := h
   rw [List.filter_cons, List.filter_cons]
   by_cases e : p.1 = k
   · have a : ¬ decide (p.1 ≠ k) = true := by simp [e]
     have b : ¬ decide (q.1 ≠ k) = true := by simp [h1.symm.trans e]
     rw [if_neg a, if_neg b]; exact ih
   · have e' : ¬ q.1 = k := fun z => e (h1.trans z)
     have a : decide (p.1 ≠ k) = true := by simp [e]
     have b : decide (q.1 ≠ k) = true := by simp [e']
     rw [if_pos a, if_pos b]; exact .cons ⟨h1, h2⟩ ih
theorem KV.keys {kvs : List (κ × V)} {vs : List (κ × Value)} (r : KV kvs vs) : kvs.map (·.1) = vs.map (·.1) := by
 unfold KV at r
 induction r with
 | nil => rfl
 | cons h t ih => rw [List.map_cons, List.map_cons, ih, h.1]
theorem KV.length {kvs : List (κ × V)} {vs : List (κ × Value)} (r : KV kvs vs) : kvs.length = vs.length := Paired.length r
end
theorem kV_is {P : Program} {w : World} {k : Key} {u : Value} (r : RelV (kV k) u) : (mixKind P w).is k u = true := by
 cases k with
 | inl i => obtain ⟨t, e⟩ := (show ∃ t, u = Value.int i t from r); subst e; exact mixKind_int P w i t
 | inr x => obtain ⟨t, e⟩ := (show ∃ t, u = Value.str x t from r); subst e; exact mixKind_str P w x t
theorem items_are {P : Program} {w : World} : ∀ {ks : List Key} {us : List Value}, Vals (ks.map kV) us → ItemsAre (mixKind P w) ks us
 | [], _, r => by rw [List.map_nil] at r; cases r; exact .nil
 | k :: ks, _, r => by
   rw [List.map_cons] at r
   cases r with
   | cons h t => exact .cons (kV_is h) (items_are t)
abbrev KT (H : Hp) : List (List Key × V) → List (List Key × Addr × Value) → Prop := Paired fun p q => p.1 = q.1 ∧ H q.2.1 = some (.tup (p.1.map kV)) ∧ RelV p.2 q.2.2
theorem KT.val {H : Hp} {kvs : List (List Key × V)} {xs : List (List Key × Addr × Value)} (r : KT H kvs xs) (k : List Key) : RelO (valV kvs k) ((atKey xs k).map (·.2)) := by
 induction r with
 | nil => exact True.intro
 | @cons p q ps qs h t ih =>
   obtain ⟨h1, _, h2⟩ := h
   by_cases e : p.1 = k
   · have e' : q.1 = k := h1.symm.trans e
     have b : atKey (q :: qs) k = some q.2 := by simp [atKey, List.find?_cons, e']
     rw [yX e, b]; exact h2
   · have e' : ¬ q.1 = k := fun z => e (h1.trans z)
     have b : atKey (q :: qs) k = atKey qs k := by simp [atKey, List.find?_cons, e']
     rw [yV e, b]; exact ih
theorem KT.repl {H : Hp} {kvs : List (List Key × V)} {xs : List (List Key × Addr × Value)} (r : KT H kvs xs) (k : List Key) {y : V} {u : Value} (ry : RelV y u) :
   KT H (kvs.map fun kv => if kv.1 = k then (kv.1, y) else kv) (xs.map (putAt k u)) := by
 induction r with
 | nil => exact .nil
 | @cons p q ps qs h t ih =>
   rw [List.map_cons, List.map_cons]
   refine .cons ?_ ih
   obtain ⟨h1, h2, h3⟩ := h
   unfold putAt
   by_cases e : p.1 = k
   · rw [if_pos e, if_pos (h1.symm.trans e)]; exact ⟨h1, h2, ry⟩
   · rw [if_neg e, if_neg (fun z => e (h1.trans z))]; exact ⟨h1, h2, h3⟩
theorem KT.put {H : Hp} {kvs : List (List Key × V)} {xs : List (List Key × Addr × Value)} (r : KT H kvs xs) (k : List Key) {b : Addr} {y : V} {u : Value} (hb : H b = some (.tup (k.map kV))) (ry : RelV y u) :
   KT H (putK kvs k y) (storedH xs k b u) := by
 have e : (kvs.any fun kv => decide (kv.1 = k)) = (atKey xs k).isSome := by
   rw [valV_any, (r.val k).isSome_eq, Option.isSome_map]
 unfold putK storedH
 rw [e]
 by_cases q : (atKey xs k).isSome = true
 · rw [if_pos q, if_pos q]; exact r.repl k ry
 · rw [if_neg q, if_neg q]; exact Paired.snoc r ⟨rfl, hb, ry⟩
theorem KT.keeps {H H' : Hp} {kvs : List (List Key × V)} {xs : List (List Key × Addr × Value)} (r : KT H kvs xs) (ht : ∀ b ys, H b = some (.tup ys) → H' b = some (.tup ys)) : KT H' kvs xs :=
 Paired.mapP r fun _ _ z => ⟨z.1, ht _ _ z.2.1, z.2.2⟩
section
variable {P : Program} {w : World} {H : Hp} {h : Heap} {a : Addr}
theorem rd_of {u : HO} (ok : HOk P w H h) (e : Rd H a u) : ObjOk P w H h a u := e.ok ok
theorem dk_rd {kvs : List (Key × V)} (ok : HOk P w H h) (e : Rd H a (.dK kvs)) : kvs.length ≤ sizeLine ∧ (a == sysModules) = false ∧ ∃ vs, KV kvs vs ∧ h.DictOf (mixKind P w) a vs :=
 show ObjOk P w H h a (.dK kvs) from rd_of ok e
theorem dk_of {kvs : List (Key × V)} (ok : HOk P w H h) (e : H a = some (.dK kvs)) : kvs.length ≤ sizeLine ∧ (a == sysModules) = false ∧ ∃ vs, KV kvs vs ∧ h.DictOf (mixKind P w) a vs := dk_rd ok (.inl e)
theorem key_of {ks : List Key} (ok : HOk P w H h) (e : H a = some (.tup (ks.map kV))) : (tupleKind (mixKind P w)).is h ks a := by
 obtain ⟨_, its, r, o, h1, h2, n, h3⟩ := (show ObjOk P w H h a (.tup (ks.map kV)) from ok a _ e)
 exact ⟨o, its.toArray, n, h1, h2, h3, by simpa using items_are r⟩
theorem dt_rd {kvs : List (List Key × V)} (ok : HOk P w H h) (e : Rd H a (.dT kvs)) : kvs.length ≤ sizeLine ∧ (a == sysModules) = false ∧
   ∃ xs, KT H kvs xs ∧ h.DictOfH (tupleKind (mixKind P w)) a xs := by
 obtain ⟨z, y, xs, r, o, es, ep, h1, h2, h3, h4, h5⟩ := (show ObjOk P w H h a (.dT kvs) from rd_of ok e)
 refine ⟨z, y, xs, r, o, es, ep, h1, h2, h3, h4, fun x hx => ?_, h5⟩
 have all : ∀ {l : List (List Key × V)} {m : List (List Key × Addr × Value)}, KT H l m → ∀ x ∈ m, (tupleKind (mixKind P w)).is h x.1 x.2.1 := by
   intro l m q
   induction q with
   | nil => intro x hx; exact nomatch hx
   | @cons p q ps qs hq t ih =>
     intro x hx
     rcases List.mem_cons.mp hx with e | hx
     · subst e
       exact key_of ok (by rw [← hq.1]; exact hq.2.1)
     · exact ih x hx
 exact all r x hx
theorem dt_of {kvs : List (List Key × V)} (ok : HOk P w H h) (e : H a = some (.dT kvs)) : kvs.length ≤ sizeLine ∧ (a == sysModules) = false ∧
   ∃ xs, KT H kvs xs ∧ h.DictOfH (tupleKind (mixKind P w)) a xs := dt_rd ok (.inl e)
end
def DGet (H : Hp) (a : Addr) (y : V) (r : Option V) : Prop :=
 (∃ kvs k, Rd H a (.dK kvs) ∧ y = kV k ∧ r = valV kvs k) ∨ ∃ kvs k b, Rd H a (.dT kvs) ∧ y = .ref b ∧ H b = some (.tup (k.map kV)) ∧ r = valV kvs k
def DPut (H : Hp) (a : Addr) (y v : V) (H' : Hp) : Prop :=
 (∃ kvs k, H a = some (.dK kvs) ∧ y = kV k ∧ kvs.length < sizeLine ∧ H' = upd H a (.dK (putK kvs k v))) ∨
 ∃ kvs k b, H a = some (.dT kvs) ∧ y = .ref b ∧ H b = some (.tup (k.map kV)) ∧ kvs.length < sizeLine ∧ H' = upd H a (.dT (putK kvs k v))
theorem DGet.k {H : Hp} {a : Addr} {kvs : List (Key × V)} {k : Key} (e : H a = some (.dK kvs)) : DGet H a (kV k) (valV kvs k) := .inl ⟨kvs, k, .inl e, rfl, rfl⟩
theorem DGet.t {H : Hp} {a b : Addr} {kvs : List (List Key × V)} {k : List Key} (e : H a = some (.dT kvs)) (eb : H b = some (.tup (k.map kV))) : DGet H a (.ref b) (valV kvs k) := .inr ⟨kvs, k, b, .inl e, rfl, eb, rfl⟩
theorem DPut.k {H : Hp} {a : Addr} {kvs : List (Key × V)} {k : Key} {v : V} (e : H a = some (.dK kvs)) (hl : kvs.length < sizeLine) : DPut H a (kV k) v (upd H a (.dK (putK kvs k v))) := .inl ⟨kvs, k, e, rfl, hl, rfl⟩
theorem DPut.t {H : Hp} {a b : Addr} {kvs : List (List Key × V)} {k : List Key} {v : V} (e : H a = some (.dT kvs)) (eb : H b = some (.tup (k.map kV))) (hl : kvs.length < sizeLine) :
   DPut H a (.ref b) v (upd H a (.dT (putK kvs k v))) := .inr ⟨kvs, k, b, e, rfl, eb, hl, rfl⟩
section
variable {X : Cx} {pins : List (Addr × Obj)} {σ : St} {H : Hp} {s : Shared} {a : Addr} {y v : V} {u r : Value} {o : Option V} {A : Around} {E : Value → Shared → Prop}
theorem Inv.big (I : Inv X pins σ H s) : sysModules < s.heap.objs.size := by
 have h : mainGlobals < s.heap.objs.size := (I.mod.glob.keeps I.bk).lt
 exact Nat.lt_trans (by decide) h
theorem d_getItem {Q : Value → Shared → Prop} (hu : A.units + 1 < cLine) (I : Inv X pins σ H s) (g : DGet H a y (some v)) (ry : RelV y u) (h : ∀ w' s', Inv X pins σ H s' → RelV v w' → Q w' s') :
   wpAny (model X.prog X.w) A (getItem (.ref a) u) Q E s := by
 rcases g with ⟨kvs, k, e, ey, l⟩ | ⟨kvs, k, b, e, ey, eb, l⟩
 · subst ey
   obtain ⟨z, hd, vs, rel, dd⟩ := dk_rd I.hok e
   obtain ⟨w', hw, rw'⟩ := RelO.some_of (v := v) (o := valueAt vs k) (by rw [l]; exact rel.val k)
   exact wpAny_getItem_of (kV_is ry) dd.mapOf hw (h w' _ (I.tok _) rw')
 · subst ey
   cases (show u = Value.ref b from ry)
   obtain ⟨z, hd, xs, rel, dd⟩ := dt_rd I.hok e
   obtain ⟨w', hw, rw'⟩ := RelO.some_of (v := v) (o := (atKey xs k).map (·.2)) (by rw [l]; exact rel.val k)
   obtain ⟨p, hp, hp2⟩ := Option.map_eq_some_iff.mp hw
   refine wpAny_getItem_heap (tupleKind_room_in1 hu) (key_of I.hok eb) dd hp ?_
   rw [hp2]
   exact h w' _ (I.tok _) rw'
theorem d_in {Q : Value → Shared → Prop} (hu : A.units + 1 < cLine) (I : Inv X pins σ H s) (g : DGet H a y o) (ry : RelV y u) (h : ∀ s', Inv X pins σ H s' → Q (.bool o.isSome) s') :
   wpAny (model X.prog X.w) A (compareOp .In u (.ref a)) Q E s := by
 rcases g with ⟨kvs, k, e, ey, l⟩ | ⟨kvs, k, b, e, ey, eb, l⟩
 · subst ey
   obtain ⟨z, hd, vs, rel, dd⟩ := dk_rd I.hok e
   refine wpAny_in_of (kV_is ry) hd dd.mapOf ?_
   rw [← (rel.val k).isSome_eq, ← l]
   exact h _ (I.tok _)
 · subst ey
   cases (show u = Value.ref b from ry)
   obtain ⟨z, hd, xs, rel, dd⟩ := dt_rd I.hok e
   refine wpAny_in_heap (tupleKind_room_in1 hu) (key_of I.hok eb) hd dd ?_
   have q := (rel.val k).isSome_eq
   rw [Option.isSome_map] at q
   rw [← q, ← l]
   exact h _ (I.tok _)
theorem d_write {h' : Heap} {t' : Nat} {ob : HO} (I : Inv X pins σ H s) (mu : Mut (H a)) (hs : Heap.SameBut a s.heap h') (he : ∃ q, h'.get? a = some q) (new : ObjOk X.prog X.w (upd H a ob) h' a ob) :
   Inv X pins σ (upd H a ob) { s with heap := h', toks := t' } :=
 I.write (x := a) (e := a) mu (.inl rfl) (fun b q hb z => (hs.2 b hb).trans z) he new
theorem dk_new {P : Program} {w : World} {H' : Hp} {h' : Heap} {kvs : List (Key × V)} {vs : List (Key × Value)} (z : kvs.length ≤ sizeLine) (hd : (a == sysModules) = false) (rel : KV kvs vs) (dd : h'.DictOf (mixKind P w) a vs) :
   ObjOk P w H' h' a (.dK kvs) := ⟨z, hd, vs, rel, dd⟩
theorem d_setItem {H' : Hp} {Q : Unit → Shared → Prop} (hu : A.units + 1 < cLine) (I : Inv X pins σ H s) (g : DPut H a y v H') (ry : RelV y u) (rv : RelV v r) (h : ∀ s', Inv X pins σ H' s' → Q () s') :
   wpAny (model X.prog X.w) A (setItem (.ref a) u r) Q E s := by
 rcases g with ⟨kvs, k, e, ey, l, eH⟩ | ⟨kvs, k, b, e, ey, eb, l, eH⟩
 · subst ey eH
   obtain ⟨z, hd, vs, rel, dd⟩ := dk_of I.hok e
   have hz : vs.length ≤ sizeLine := by rw [← rel.length]; exact z
   have hl : (putK kvs k v).length ≤ sizeLine := by have := length_putK kvs k v; omega
   refine wpAny_setItem_pairs (hsz := hz) (kV_is ry) dd fun h' dd' hs => h _ ?_
   have he : ∃ q, h'.get? a = some q := let ⟨q, _, _, hq, _⟩ := dd'; ⟨q, hq⟩
   exact d_write I (by rw [e]; exact True.intro) hs he (dk_new hl hd (rel.put k rv) dd')
 · subst ey eH
   cases (show u = Value.ref b from ry)
   obtain ⟨z, hd, xs, rel, dd⟩ := dt_of I.hok e
   have hz : xs.length ≤ sizeLine := by rw [← Paired.length rel]; exact z
   have hl : (putK kvs k v).length ≤ sizeLine := by have := length_putK kvs k v; omega
   refine wpAny_setItem_heap (hsz := hz) (tupleKind_room_in1 hu) (key_of I.hok eb) dd fun h' dd' hs => h _ ?_
   obtain ⟨q, es, ep, hq, h2, h3, h4, _, h5⟩ := dd'
   refine d_write I (by rw [e]; exact True.intro) hs ⟨q, hq⟩ ⟨hl, hd, _, (rel.put k eb rv).keeps fun c ys ec => ?_, q, es, ep, hq, h2, h3, h4, h5⟩
   rw [zJ (ne_of ec e (fun z => nomatch z))]
   exact ec
end
section
variable {X : Cx} {pins : List (Addr × Obj)} {σ : St} {H : Hp} {s : Shared} {a : Addr} {kvs : List (Key × V)} {k : Key} {u : Value} {A : Around} {E : Value → Shared → Prop}
end
def NoSl (i : Expr) : Prop := ∀ ov iv, subscripted i false ov iv = operate [ov, iv] (getItem ov iv)
theorem subD_of {prog : Program} {w : World} {A : Around} {E : Value → Shared → Prop} {s : Shared} {env : Env} {value slice : Expr} {pos : Pos} {T id : String} {Q : Value → Shared → Prop}
   (hl : typeLookup (.type T) "__getitem__" = pure (some (.builtin id))) (hs : NoSl slice)
   (h : wpAny (model prog w) A (eval value env) (fun o s₁ => wpAny (model prog w) A (eval slice env) (fun i s₂ => s₂.TypeIs o T ∧ wpAny (model prog w) A (getItem o i) Q E s₂) E s₁) E s) :
   wpAny (model prog w) A (eval (.Subscript value slice pos) env) Q E s := by
 refine Subscript_ (wpAny_mono h (fun o s₁ h₁ => wpAny_mono h₁ (fun i s₂ h₂ => ?_) fun _ _ x => x) fun _ _ x => x)
 obtain ⟨hT, h₂⟩ := h₂
 unfold subscriptTail
 refine wpAny_bind ?_
 rw [getitemInPython_of_ne hT.not_modules]
 refine wpAny_bind (wpAny_specialOf hT hl ?_)
 have fin : wpAny (model prog w) A (subscripted slice false o i) (fun r s₃ => wpAny (model prog w) A (letTemporaryGo value o r >>= fun _ => pure r) Q E s₃) E s₂ := by
   rw [hs o i]
   exact wpAny_operating (wpAny_mono h₂ (fun r s₃ h₃ => wpAny_bind (wpAny_letTemporaryGo (wpAny_pure h₃))) fun _ _ x => x)
 first
   | exact wpAny_pure (wpAny_bind fin)
   | exact wpAny_bind (wpAny_pure (wpAny_bind fin))
   | exact wpAny_bind fin
theorem dict_typeIs {X : Cx} {pins : List (Addr × Obj)} {σ : St} {H : Hp} {s : Shared} {a : Addr} {y : V} {o : Option V} (I : Inv X pins σ H s) (g : DGet H a y o) : s.TypeIs (.ref a) "dict" := by
 rcases g with ⟨kvs, k, e, _, _⟩ | ⟨kvs, k, b, e, _, _, _⟩
 · obtain ⟨_, _, vs, _, dd⟩ := dk_rd I.hok e
   exact dd.typeIs
 · obtain ⟨_, _, xs, _, dd⟩ := dt_rd I.hok e
   exact dd.typeIs
def tDGet (td ty : TE) : TE := fun σ H Q => td σ H fun x H1 => ty σ H1 fun y H2 => ∃ a v, x = .ref a ∧ DGet H2 a y (some v) ∧ Q v H2
def sDPut (td ty tv : TE) : TS := fun D σ H => tv σ H fun v H1 => td σ H1 fun x H2 => ty σ H2 fun y H3 => ∃ a H4, x = .ref a ∧ DPut H3 a y v H4 ∧ D.nx σ H4
section
variable {X : Cx} {o i e value : Expr} {pos pos' tpos : Pos} {td ty tv : TE}
theorem pe_dget (hu : X.A.units + 1 < cLine) (ho : PE X o td) (hi : PE X i ty) (hs : NoSl i) : PE X (.Subscript o i pos) (tDGet td ty) := by
 intro pins s σ H Q I h
 refine subD_of PySem.F.slot_dict_getitem.lookup hs (thn (ho pins s σ H _ I h) fun u s1 ⟨x, H1, I1, rx, q1⟩ => thn (hi pins s1 σ H1 _ I1 q1) fun iv s2 ⟨y, H2, I2, ry, a, v, ex, g, q2⟩ => ?_)
 subst ex
 obtain rfl : u = Value.ref a := rx
 exact ⟨dict_typeIs I2 g, d_getItem hu I2 g ry fun w' s3 I3 rw' => ⟨v, H2, I3, rw', q2⟩⟩
theorem ps_dput (hu : X.A.units + 1 < cLine) (ho : PE X o td) (hi : PE X i ty) (hv : PE X value tv) (hs : swapsWith value (some (.Subscript o i pos')) pos.line X.env = pure false) :
   PS X (.Assign [.Subscript o i pos'] value pos) (sDPut td ty tv) := by
 intro pins s σ H D I h
 refine wpAny_Assign_Subscript (thn (hv pins s σ H _ I h) fun r s1 ⟨v, H1, I1, rv, q1⟩ => thn (ho pins s1 σ H1 _ I1 q1) fun u s2 ⟨x, H2, I2, rx, q2⟩ => thn (hi pins s2 σ H2 _ I2 q2) fun iv s3 ⟨y, H3, I3, ry, a, H4, ex, g, q3⟩ => ?_) hs
 subst ex
 obtain rfl : u = Value.ref a := rx
 exact d_setItem hu I3 g ry rv fun s4 I4 => ⟨σ, H4, I4, q3⟩
end
theorem dk_empty {P : Program} {w : World} {H : Hp} (h : Heap) (hb : sysModules < h.objs.size) : ObjOk P w H (h.push { cls := .type "dict", data := .dict #[] }) h.objs.size (.dK []) :=
 ⟨Nat.zero_le _, beq_eq_false_iff_ne.mpr (Ne.symm (Nat.ne_of_lt hb)), [], .nil, Heap.DictOf.new h⟩
def tDNewK : TE := fun _ H Q => ∀ p, H p = none → Q (.ref p) (upd H p (.dK []))
section
variable {X : Cx} {pos : Pos}
theorem pe_dnewK : PE X (.Dict [] [] pos) tDNewK := fun pins s σ H Q I h =>
 wpAny_Dict_empty ⟨.ref s.heap.objs.size, _, I.laid (a := s.heap.objs.size) (o := .dK []) (t' := s.toks) (fun _ _ q => Heap.get?_push_of_some _ q) (Nat.le_refl _) (dk_empty s.heap I.big), rfl, h _ (I.hok.fresh (Nat.le_refl _))⟩
end
def tPairs : List (TE × TE) → St → Hp → (List (V × V) → Hp → Prop) → Prop
 | [], _, H, Q => Q [] H
 | (tk, tv) :: r, σ, H, Q => tk σ H fun x H1 => tv σ H1 fun y H2 => tPairs r σ H2 fun ps H3 => Q ((x, y) :: ps) H3
abbrev VV : List (V × V) → List (Value × Value) → Prop := Paired fun p q => RelV p.1 q.1 ∧ RelV p.2 q.2
def PPs (X : Cx) (pos : Pos) (keys : List (Option Expr)) (values : List Expr) (trs : List (TE × TE)) : Prop :=
 ∀ (pins : List (Addr × Obj)) (s : Shared) (σ : St) (H : Hp) (Q : List (V × V) → Hp → Prop), Inv X pins σ H s → tPairs trs σ H Q →
   wpAny (model X.prog X.w) X.A (evalPairs (pairTrees keys values X.env pos)) (fun vs s' => ∃ ps H', Inv X pins σ H' s' ∧ VV ps vs ∧ Q ps H') X.xe s
structure M1 (X : Cx) (o : Expr) (m : Str) (apos : Pos) (e : Expr) (cpos : Pos) : Prop where
 base : attributeBase o m X.env (eval o X.env) = eval o X.env
 few : ((backTo cpos (starEach [e] X.env)).all (fun x => !x.1) && (backToKw cpos (keywordEach [] X.env)).all (fun x => x.1.isSome)
   && decide (([e] : List Expr).length + ([] : List Keyword).length + (if ([] : List Keyword).isEmpty then 0 else 1) < 30)) = true
 line : (apos.endLine == cpos.line) = true
 trees : backTo cpos (starEach [e] X.env) = [(false, eval e X.env)]
structure M2 (X : Cx) (o : Expr) (m : Str) (apos : Pos) (e f : Expr) (cpos : Pos) : Prop where
 base : attributeBase o m X.env (eval o X.env) = eval o X.env
 few : ((backTo cpos (starEach [e, f] X.env)).all (fun x => !x.1) && (backToKw cpos (keywordEach [] X.env)).all (fun x => x.1.isSome)
   && decide (([e, f] : List Expr).length + ([] : List Keyword).length + (if ([] : List Keyword).isEmpty then 0 else 1) < 30)) = true
 line : (apos.endLine == cpos.line) = true
 trees : backTo cpos (starEach [e, f] X.env) = [(false, eval e X.env), (false, eval f X.env)]
def IsD (H : Hp) (a : Addr) : Prop := (∃ kvs, Rd H a (.dK kvs)) ∨ ∃ kvs, Rd H a (.dT kvs)
theorem isD_at {X : Cx} {pins : List (Addr × Obj)} {σ : St} {H : Hp} {s : Shared} {a : Addr} (I : Inv X pins σ H s) (d : IsD H a) :
   s.TypeIs (.ref a) "dict" ∧ (∀ b, Value.ref a = .ref b → ∃ ob, s.heap.get? b = some ob ∧ ob.dict = none) ∧ (a == sysModules) = false := by
 rcases d with ⟨kvs, e⟩ | ⟨kvs, e⟩
 · obtain ⟨_, hd, vs, _, dd⟩ := dk_rd I.hok e
   refine ⟨dd.typeIs, fun b q => ?_, hd⟩
   cases q
   obtain ⟨ob, _, _, h1, h2, _⟩ := dd
   exact ⟨ob, h1, h2.2.1⟩
 · obtain ⟨_, hd, xs, _, dd⟩ := dt_rd I.hok e
   refine ⟨dd.typeIs, fun b q => ?_, hd⟩
   cases q
   obtain ⟨ob, _, _, h1, h2, _⟩ := dd
   exact ⟨ob, h1, h2.2.1⟩
section
variable {X : Cx} {pins : List (Addr × Obj)} {σ : St} {H : Hp} {s : Shared} {a : Addr} {y d : V} {u r : Value} {o : Option V} {A : Around} {E : Value → Shared → Prop}
theorem d_get1 {Q : Value → Shared → Prop} (hu : A.units + 1 < cLine) (I : Inv X pins σ H s) (g : DGet H a y o) (ry : RelV y u) (h : ∀ w' s', Inv X pins σ H s' → RelV (o.getD .non) w' → Q w' s') :
   wpAny (model X.prog X.w) A (call (.builtin "dict.get") [.ref a, u]) Q E s := by
 rcases g with ⟨kvs, k, e, ey, l⟩ | ⟨kvs, k, b, e, ey, eb, l⟩
 · subst ey
   obtain ⟨z, hd, vs, rel, dd⟩ := dk_rd I.hok e
   refine call_meetsIn PySem.F.slot_dict_get dd.typeIs PySem.F.entry_dict_get (PySem.F.args_dict_get_2 _ _) (meets_dict_get (mixKind X.prog X.w) a (kV_is ry) hd) ⟨_, dd.mapOf, h _ _ (I.tok _) ?_⟩
   rw [l]
   exact (rel.val k).getD rfl
 · subst ey
   cases (show u = Value.ref b from ry)
   obtain ⟨z, hd, xs, rel, dd⟩ := dt_rd I.hok e
   refine call_meetsIn PySem.F.slot_dict_get dd.typeIs PySem.F.entry_dict_get (PySem.F.args_dict_get_2 _ _) (meetsH_dict_get (tupleKind (mixKind X.prog X.w)) a b hd) ⟨tupleKind_room_in1 hu, k, xs, key_of I.hok eb, dd, h _ _ (I.tok _) ?_⟩
   rw [l]
   exact (rel.val k).getD rfl
end
def tDGet1 (td ty : TE) : TE := fun σ H Q => td σ H fun x H1 => ∃ a, x = .ref a ∧ IsD H1 a ∧ ty σ H1 fun y H2 => ∃ o, DGet H2 a y o ∧ Q (o.getD .non) H2
section
variable {X : Cx} {o e f : Expr} {apos cpos : Pos} {td ty tx : TE}
theorem pe_dget1 (hu : X.A.units + 1 < cLine) (ho : PE X o td) (he : PE X e ty) (m : M1 X o "get" apos e cpos) : PE X (.Call (.Attribute o "get" apos) [e] [] cpos) (tDGet1 td ty) := by
 intro pins s σ H Q I h
 refine wpAny_Call_method m.base m.few m.line PySem.F.plainAttrs_dict PySem.F.slot_dict_get PySem.F.type_dict_get (thn (ho pins s σ H _ I h) fun u s1 ⟨x, H1, I1, rx, a, ex, d, q1⟩ => ?_)
 subst ex
 obtain rfl : u = Value.ref a := rx
 obtain ⟨t1, t2, _⟩ := isD_at I1 d
 refine ⟨t1, t2, ?_⟩
 rw [m.trees]
 refine Calls.callWith_builtin rfl (Calls.evalArgs_plain (Calls.spliced_cons (thn (he pins s1 σ H1 _ I1 q1) fun iv s2 ⟨y, H2, I2, ry, ov, g, q2⟩ => Calls.spliced_nil ?_)))
 exact d_get1 hu I2 g ry fun w' s3 I3 rw' => ⟨_, H2, I3, rw', q2⟩
end
section
variable {X : Cx} {pins : List (Addr × Obj)} {σ : St} {H : Hp} {s : Shared} {a : Addr} {kvs : List (Key × V)} {A : Around} {E : Value → Shared → Prop}
end
section
variable {X : Cx} {pins : List (Addr × Obj)} {σ : St} {H : Hp} {s : Shared} {a : Addr} {y : V} {u : Value} {A : Around} {E : Value → Shared → Prop}
end
end L2
namespace L2
open PySem PySem.Spec PyProof.Rows
section
variable {X : Cx}
end
section
variable {κ : Type} [DecidableEq κ]
theorem valV_not {kvs : List (κ × V)} {k : κ} (h : valV kvs k = none) : ¬ k ∈ kvs.map (·.1) := by
 intro m
 obtain ⟨p, hp, e⟩ := List.mem_map.mp m
 have q : (kvs.any fun kv => decide (kv.1 = k)) = true := List.any_eq_true.mpr ⟨p, hp, decide_eq_true e⟩
 rw [valV_any, h] at q
 exact absurd q (by simp)
end
end L2
namespace L2
open PySem PySem.Spec PyProof.Rows PySem.Calls
section
variable {prog : Program} {w : World} {A : Around} {R : Result → Shared → Prop} {s : Shared}
theorem compLoop_go {elt target iter : Expr} {scope : Scope} {pos : Pos} {it acc : Value} {env : Env} (I : Nat → Shared → Prop)
   (turn : ∀ n s, I n s → wpAny (model prog w) A (pyNext it) (fun r s₁ => match r with
     | none => R (.ok .next) s₁
     | some v => wpAny (model prog w) A (letOwnedTupleGo target it v) (fun _ s₂ => wpAny (model prog w) A (assign target env v) (fun _ s₃ =>
         wpAny (model prog w) A (eval elt env) (fun x s₄ =>
           wpAny (model prog w) A (call (.builtin "list.append") [acc, x]) (fun _ s₅ => ∃ m, m < n ∧ I m s₅) (notedBy (model prog w) A env fun e s' => R (.error e) s') s₄)
           (notedBy (model prog w) A env fun e s' => R (.error e) s') s₃) (notedBy (model prog w) A env fun e s' => R (.error e) s') s₂) (notedBy (model prog w) A env fun e s' => R (.error e) s') s₁)
     (notedBy (model prog w) A env fun e s' => R (.error e) s') s)
   (n : Nat) (h : I n s) : codeAny (model prog w) A (.compLoop (.ListComp elt [⟨target, iter, [], 0⟩] scope pos) 0 it acc env) R s := by
 refine codeAny_loop rfl I (fun n s hI => ?_) n h
 show wpAny _ A ((compTurn (.ListComp elt [⟨target, iter, [], 0⟩] scope pos) 0 it acc env).onRaise (fun x => do noteFrame x env; theTreesLotGoes x)) _ _ s
 refine wpAny_noted ?_
 rw [compTurn_list1]
 refine wpAny_bind (wpAny_standAt (wpAny_bind (wpAny_mono (turn n s hI) (fun r s₁ h₁ => ?_) fun _ _ h' => h')))
 cases r with
 | none => exact wpAny_pure h₁
 | some v =>
   refine wpAny_bind (wpAny_mono h₁ (fun _ s₂ h₂ => wpAny_bind (wpAny_mono h₂ (fun _ s₃ h₃ => ?_) fun _ _ h' => h')) fun _ _ h' => h')
   exact wpAny_bind (wpAny_bind (wpAny_mono h₃ (fun x s₄ h₄ => wpAny_bind (wpAny_mono h₄ (fun _ s₅ h₅ => wpAny_pure (wpAny_pure ⟨rfl, h₅⟩)) fun _ _ h' => h')) fun _ _ h' => h'))
end
def clOf (env : Env) : List (Str × NameKind) → List (Str × Addr) → List (Str × Addr)
 | [], cs => cs
 | (n, k) :: r, cs => clOf env r (if k == .free then match env.cells.lookup n with | some c => (n, c) :: cs | none => cs else cs)
theorem clOf_mem {env : Env} : ∀ {ns : List (Str × NameKind)} {cs : List (Str × Addr)} {y : Str} {c : Addr}, (y, c) ∈ clOf env ns cs → (y, c) ∈ cs ∨ env.cells.lookup y = some c
 | [], _, _, _, h => .inl h
 | (n, k) :: r, cs, y, c, h => by
   unfold clOf at h
   rcases clOf_mem h with q | q
   · split at q
     · cases e : env.cells.lookup n with
       | none => rw [e] at q; exact .inl q
       | some d =>
         rw [e] at q
         rcases List.mem_cons.mp q with z | z
         · cases z; exact .inr e
         · exact .inl z
     · exact .inl q
   · exact .inr q
theorem clOf_has {env : Env} : ∀ {ns : List (Str × NameKind)} {cs : List (Str × Addr)} {y : Str}, ((∃ c, (y, c) ∈ cs) ∨ ((y, NameKind.free) ∈ ns ∧ ∃ c, env.cells.lookup y = some c)) → ∃ c, (y, c) ∈ clOf env ns cs
 | [], _, _, h => by
   rcases h with h | ⟨h, _⟩
   · exact h
   · cases h
 | (n, k) :: r, cs, y, h => by
   unfold clOf
   apply clOf_has
   rcases h with ⟨c, h⟩ | ⟨h, c, e⟩
   · left
     split
     · cases e : env.cells.lookup n with
       | none => exact ⟨c, h⟩
       | some d => exact ⟨c, List.mem_cons_of_mem _ h⟩
     · exact ⟨c, h⟩
   · rcases List.mem_cons.mp h with z | z
     · cases z
       left
       rw [e]
       exact ⟨c, by simp⟩
     · exact .inr ⟨z, c, e⟩
theorem closure_cl {env : Env} : ∀ {ns : List (Str × NameKind)} {cs : List (Str × Addr)}, (∀ y, (y, NameKind.free) ∈ ns → ∃ c, env.cells.lookup y = some c) →
   (forIn ns cs fun (x : Str × NameKind) (r : List (Str × Addr)) => (if x.2 == NameKind.free then (do let c ← cellOf env x.1; pure (ForInStep.yield ((x.1, c) :: r))) else pure (ForInStep.yield r) : Sem (ForInStep (List (Str × Addr))))) = (pure (clOf env ns cs) : Sem (List (Str × Addr)))
 | [], _, _ => rfl
 | (n, k) :: r, cs, h => by
   have ih := @closure_cl env r
   rw [List.forIn_cons]
   unfold clOf
   cases hk : k == NameKind.free with
   | false =>
     simp only [Bool.false_eq_true, if_false]
     exact ih fun y hy => h y (List.mem_cons_of_mem _ hy)
   | true =>
     have ek : k = NameKind.free := by simpa using hk
     subst ek
     obtain ⟨c, e⟩ := h n (by simp)
     have ec : cellOf env n = pure c := by unfold cellOf; rw [e]
     simp only [if_true]
     rw [ec, e]
     exact ih fun y hy => h y (List.mem_cons_of_mem _ hy)
theorem closure_eq {scope : Scope} {env : Env} (h : ∀ y, (y, NameKind.free) ∈ scope.names → ∃ c, env.cells.lookup y = some c) : closureFor scope env = pure (clOf env scope.names []) := by
 have q := closure_cl (cs := []) h
 unfold closureFor
 exact congrArg (fun m => m >>= fun r => pure r) q
end L2
namespace L2
open PySem PySem.Spec PyProof.Rows PySem.Calls
theorem xG {env : Env} {y : Str} : ∀ {names : List (Str × NameKind)},
   (names.map fun (n, k) => if (k == NameKind.free && env.scope.kind == .function && env.kindOf n == some .cell) then (n, NameKind.cell) else (n, k)).lookup y
     = (names.lookup y).map fun k => if (k == NameKind.free && env.scope.kind == .function && env.kindOf y == some .cell) then NameKind.cell else k
 | [] => rfl
 | (n, k) :: r => by
   have ih := @xG env y r
   by_cases hx : y = n
   · subst hx
     simp only [List.map_cons]
     split <;> rename_i hc
     · rw [List.lookup_cons, List.lookup_cons]; simp only [beq_self_eq_true, Option.map_some]; rw [if_pos hc]
     · rw [List.lookup_cons, List.lookup_cons]; simp only [beq_self_eq_true, Option.map_some]; rw [if_neg hc]
   · have hb : (y == n) = false := beq_eq_false_iff_ne.mpr hx
     simp only [List.map_cons]
     split <;> simp only [List.lookup_cons, hb] <;> exact ih
section
variable {X : Cx} {pins : List (Addr × Obj)} {σ : St} {H : Hp} {s : Shared} {a : Addr} {o : HO}
theorem Inv.track (I : Inv X pins σ H s) (f : FpOk X pins H a) (hs : X.s₀.heap.objs.size ≤ a) (new : ObjOk X.prog X.w (upd H a o) s.heap a o) : Inv X pins σ (upd H a o) s := by
 obtain ⟨f0, f1, f2, f3, f4, f5⟩ := f
 have old : ∀ b ob, X.s₀.heap.get? b = some ob → b ≠ a := fun b ob e z => by subst z; exact absurd (Nat.lt_of_lt_of_le (Heap.lt_size e) hs) (Nat.lt_irrefl _)
 refine ⟨I.ok, I.os, I.bare, ⟨I.base.keep, I.base.slot, fun b ob e n hx => ?_, I.base.there, fun b xs e => ?_, fun b ob u e => ?_, fun b ps e => ?_⟩, I.loc, I.cell, ?_, fun x c e => ?_, fun p hp => ?_, fun b u e => ?_, I.len⟩
 · rw [zJ (old b ob e)]; exact I.base.free b ob e n hx
 · have q := I.base.tups b xs e; rw [zJ (zN q f0)]; exact q
 · have q := I.base.frzs b ob u e; rw [zJ (zN q f0)]; exact q
 · obtain ⟨more, q⟩ := I.base.tbls b ps e; exact ⟨more, by rw [zJ (zN q f0)]; exact q⟩
 · rw [zJ (Ne.symm f1)]; exact I.free
 · rw [zJ (f4 x c e)]; exact I.freeC x c e
 · obtain ⟨e, n, ne, nf, d⟩ := I.pin p hp
   exact ⟨e, by rw [zJ (f5 p hp)]; exact n, ne, nf, d⟩
 · by_cases hb : b = a
   · subst hb; rw [zB] at e; cases e; exact new
   · rw [zJ hb] at e
     exact (I.hok b u e).stay (fun c v _ q => q) (fun c q => by rw [zJ (zN q f0)]; exact q) fun c xs q => by rw [zJ (zN q f0)]; exact q
end
def compCx (X : Cx) (scope : Scope) (C : Addr) (x : Str) (M : List Str) (s₂ : Shared) (H₂ : Hp) (fp : List Addr) : Cx :=
 { X with N := x :: M, s₀ := s₂, H₀ := H₂, env := compEnvC scope (clOf X.env scope.names []) C X.env, outer := X.stack, ex := fp, fn := fun _ => false, pn := [], xe := fun _ _ => False }
structure CompOk (X : Cx) (scope : Scope) (x : Str) (M : List Str) : Prop where
 kind : scope.kind = .function
 cell : ∀ y ∈ scope.names, y.2 ≠ .cell
 names : ∀ y ∈ scope.names, y.2 = .local → scope.names.lookup y.1 = some .local
 loc : scope.names.lookup x = some .local
 nd : (x :: M).Nodup
 free : ∀ y, (y, NameKind.free) ∈ scope.names → X.env.scope.names.lookup y = some .cell ∨ X.env.scope.names.lookup y = some .free
 len : M.length = X.N.length
 sub : ∀ (j : Nat) y, M[j]? = some y → scope.names.lookup y = some .local ∨ scope.names.lookup y = some .free → X.N[j]? = some y ∧ scope.names.lookup y = some .free
def compOkB (names outer : List (Str × NameKind)) (N M : List Str) (x : Str) : Bool :=
 names.all (fun y => decide (y.2 ≠ .cell)) && names.all (fun y => decide (y.2 = .local → names.lookup y.1 = some .local)) && decide (names.lookup x = some .local) && decide (x :: M).Nodup &&
 names.all (fun y => decide (y.2 = .free → (outer.lookup y.1 = some .cell ∨ outer.lookup y.1 = some .free))) && decide (M.length = N.length) &&
 (M.zip N).all (fun p => decide (names.lookup p.1 = some .local ∨ names.lookup p.1 = some .free → p.1 = p.2 ∧ names.lookup p.1 = some .free))
theorem compOk_of {X : Cx} {scope : Scope} {x : Str} {M : List Str} (hk : scope.kind = .function) (h : compOkB scope.names X.env.scope.names X.N M x = true) : CompOk X scope x M := by
 unfold compOkB at h
 simp only [Bool.and_eq_true, List.all_eq_true, decide_eq_true_eq] at h
 obtain ⟨⟨⟨⟨⟨⟨h1, h2⟩, h3⟩, h4⟩, h5⟩, h6⟩, h7⟩ := h
 refine ⟨hk, h1, h2, h3, h4, fun y hy => h5 _ hy rfl, h6, fun j y e q => ?_⟩
 have hj : j < M.length := (List.getElem?_eq_some_iff.mp e).1
 have hj2 : j < X.N.length := by omega
 have z : (M.zip X.N)[j]? = some (y, X.N[j]) := by rw [List.getElem?_zip_eq_some]; exact ⟨e, by simp [hj2]⟩
 have r := h7 _ (List.mem_of_getElem? z) q
 exact ⟨by rw [List.getElem?_eq_getElem hj2]; exact congrArg some r.1.symm, r.2⟩
section
variable {X : Cx} {scope : Scope} {x : Str} {M : List Str} {pins : List (Addr × Obj)} {σ : St} {H₂ : Hp} {s₂ : Shared}
theorem CompOk.cl_of {y : Str} {c : Addr} (h : (clOf X.env scope.names []).lookup y = some c) : X.env.cells.lookup y = some c := by
 rcases clOf_mem (PySem.mem_of_lookup h) with q | q
 · cases q
 · exact q
theorem CompOk.cl_has (K : CompOk X scope x M) (ok : X.Ok) {y : Str} (h : (y, NameKind.free) ∈ scope.names) : ∃ c, (clOf X.env scope.names []).lookup y = some c ∧ X.env.cells.lookup y = some c := by
 have e1 : ∃ c, X.env.cells.lookup y = some c := ok.has y (K.free y h)
 obtain ⟨c, hc⟩ := clOf_has (env := X.env) (ns := scope.names) (cs := []) (y := y) (.inr ⟨h, e1⟩)
 have q : ∃ c, (clOf X.env scope.names []).lookup y = some c := by
   cases e : (clOf X.env scope.names []).lookup y with
   | some c => exact ⟨c, rfl⟩
   | none =>
     rw [List.lookup_eq_none_iff] at e
     have := e _ hc
     simp at this
 obtain ⟨c', hc'⟩ := q
 exact ⟨c', hc', CompOk.cl_of hc'⟩
theorem CompOk.closure (K : CompOk X scope x M) (ok : X.Ok) : closureFor scope X.env = pure (clOf X.env scope.names []) :=
 closure_eq fun y hy => by obtain ⟨c, _, q⟩ := K.cl_has ok hy; exact ⟨c, q⟩
theorem inv_comp (K : CompOk X scope x M) (I : Inv X pins σ H₂ s₂) {fp : List Addr} (hf : ∀ b ∈ fp, FpOk X pins H₂ b) (hfl : ∀ b ∈ fp, b < s₂.heap.objs.size) {C : Addr} (hC : s₂.heap.objs.size ≤ C) {h₁ : Heap} {t : Nat} {m : Str → Option Value} (hn : h₁.Ns C m)
   (hk : ∀ b o, s₂.heap.get? b = some o → h₁.get? b = some o) : Inv (compCx X scope C x M s₂ H₂ fp) [] (none :: σ) H₂ { s₂ with heap := h₁, toks := t } := by
 have lt : ∀ {b : Addr} {o : Obj}, s₂.heap.get? b = some o → b ≠ C := fun {b o} e z => by subst z; exact absurd (Nat.lt_of_lt_of_le (Heap.lt_size e) hC) (Nat.lt_irrefl _)
 have cC : ∀ y c, (clOf X.env scope.names []).lookup y = some c → c ≠ C := fun y c e => by
   obtain ⟨v, o, ho, _⟩ := I.cell y c (CompOk.cl_of e)
   exact lt ho
 have sub : ∀ b ∈ frs X.stack, b = X.env.locals ∨ b ∈ X.fs := fun b hb => List.mem_cons.mp (I.stkSub b hb)
 have ok : (compCx X scope C x M s₂ H₂ fp).Ok := by
   refine ⟨I.ok.mod, K.kind, I.ok.glob, I.ok.blt, hC, fun y z c h1 h2 => ?_, fun y hy => ?_, fun y c z => ?_, I.ok.hd, I.ok.frames, .inl rfl, fun b hb => ⟨?_, fun y c e => ?_⟩, I.bs, Nat.le_trans I.ok.bsz I.sz, fun b o e hb => ?_, fun b hb hb2 => ?_, I.stack, I.stkFree⟩
   · exact I.ok.inj y z c (CompOk.cl_of h1) (CompOk.cl_of h2)
   · have hy' : (relabel scope X.env).names.lookup y = some .cell ∨ (relabel scope X.env).names.lookup y = some .free := hy
     have q : (y, NameKind.free) ∈ scope.names := by
       unfold relabel at hy'
       rw [xG] at hy'
       cases e : scope.names.lookup y with
       | none => rw [e] at hy'; simp at hy'
       | some k =>
         have hm := PySem.mem_of_lookup e
         cases k with
         | free => exact hm
         | cell => exact absurd rfl (K.cell _ hm)
         | _ => rw [e] at hy'; simp at hy'
     obtain ⟨c, q, _⟩ := K.cl_has I.ok q
     exact ⟨c, q⟩
   · exact Bool.noConfusion (show false = true from z)
   · intro z
     have z' : b = C := z
     subst z'
     exact absurd (Nat.lt_of_lt_of_le (hfl b hb) hC) (Nat.lt_irrefl _)
   · exact (hf b hb).2.2.2.2.1 y c (CompOk.cl_of e)
   · have q := (hf b hb).2.2.2.1
     rcases q with q | q
     · exact I.ok.noex b o e q
     · exact absurd (Nat.lt_of_lt_of_le (Heap.lt_size (I.ok.bs b o e).1) q) (Nat.lt_irrefl _)
   · rcases sub b hb2 with z | z
     · exact (hf b hb).2.1 z
     · exact (hf b hb).2.2.1 z
 refine ⟨ok, rfl, I.bare, Un.kept hk, ⟨m, hn, fun i y v e1 e2 e3 => ?_⟩, fun y c e => ?_, ?_, fun y c e => ?_, fun p hp => absurd (show p ∈ ([] : List (Addr × Obj)) from hp) (by simp), I.hok.kept hk, ?_⟩
 · cases i with
   | zero =>
     have e2' : some (none : Option V) = some (some v) := e2
     cases e2'
   | succ j =>
     have e1' : M[j]? = some y := e1
     have e2' : σ[j]? = some (some v) := e2
     have e3' : (relabel scope X.env).names.lookup y = some .local ∨ (relabel scope X.env).names.lookup y = some .cell ∨ (relabel scope X.env).names.lookup y = some .free := e3
     have q : scope.names.lookup y = some .local ∨ scope.names.lookup y = some .free := by
       unfold relabel at e3'
       rw [xG] at e3'
       cases e : scope.names.lookup y with
       | none => rw [e] at e3'; simp at e3'
       | some k =>
         have hm := PySem.mem_of_lookup e
         cases k with
         | free => exact .inr rfl
         | «local» => exact .inl rfl
         | cell => exact absurd rfl (K.cell _ hm)
         | _ => rw [e] at e3'; simp at e3'
     obtain ⟨nj, fr⟩ := K.sub j y e1' q
     have hm := PySem.mem_of_lookup fr
     have kd := K.free y hm
     have vs : Vis X.env.scope y := .inr kd
     obtain ⟨mo, _, lo⟩ := I.loc
     obtain ⟨u, r, l⟩ := lo j y v nj e2' vs
     refine ⟨u, r, .inr ⟨?_, ?_⟩⟩
     · show (relabel scope X.env).names.lookup y = some .cell ∨ (relabel scope X.env).names.lookup y = some .free
       unfold relabel
       rw [xG, fr]
       simp only [Option.map_some]
       split
       · exact .inl rfl
       · exact .inr rfl
     · obtain ⟨c, q1, q2⟩ := K.cl_has I.ok hm
       rcases l with ⟨k, _⟩ | ⟨_, c', q3, z⟩
       · have k' : X.env.scope.names.lookup y = some .local := k
         rcases kd with kd | kd <;> · rw [k'] at kd; cases kd
       · rw [q2] at q3
         cases q3
         obtain ⟨oc, ho, hd⟩ := z
         exact ⟨c, q1, oc, hk _ _ ho, hd⟩
 · obtain ⟨v, oc, ho, hd⟩ := I.cell y c (CompOk.cl_of e)
   exact ⟨v, oc, hk _ _ ho, hd⟩
 · exact I.hok.fresh hC
 · exact I.freeC y c (CompOk.cl_of e)
 · show (none :: σ).length = (x :: M).length
   rw [List.length_cons, List.length_cons, K.len, I.len]
end
end L2
namespace L2
open PySem PySem.Spec PyProof.Rows PySem.Calls
def tComp (wi : TI) (te : TE) : TE := fun σ H Q => wi σ H fun J H1 => ∃ (n : Nat) (W : Nat → List V → Hp → Prop), n ≤ sizeLine ∧ W 0 [] H1 ∧ ∀ i ys H, i ≤ n → ys.length = i → W i ys H →
 (J.stop i H ∧ ∀ p, H p = none → Q (.ref p) (upd H p (.lst ys))) ∨ (J.go i H ∧ i < n ∧ ∀ x H', J.yld i H x H' → te (some x :: σ) H' fun v H'' => W (i + 1) (ys ++ [v]) H'')
section
variable {X : Cx} {scope : Scope} {x : Str} {M : List Str} {pins : List (Addr × Obj)} {σ : St} {H₂ : Hp} {s₂ : Shared} {elt iter : Expr} {px pos : Pos} {te : TE} {wi : TI}
theorem comp_block (K : CompOk X scope x M) (hc : X.calm = true) (I : Inv X pins σ H₂ s₂) (he : ∀ (C : Addr) (s₂ : Shared) (H₂ : Hp) (fp : List Addr), PE (compCx X scope C x M s₂ H₂ fp) elt te)
   {it : Addr} {fp : List Addr} {tn : Nat → Heap → Prop} {J : It} (T : Turn X.prog X.w X.K (.Name x px) J fp it tn) (st : tn 0 s₂.heap) (hf : ∀ b ∈ fp, FpOk X pins H₂ b) {n : Nat} (hsz : n ≤ sizeLine) {W : Nat → List V → Hp → Prop} {F : List V → Hp → Prop}
   (w0 : W 0 [] H₂) (turn : ∀ i ys H, i ≤ n → ys.length = i → W i ys H → (J.stop i H ∧ F ys H) ∨ (J.go i H ∧ i < n ∧ ∀ x H', J.yld i H x H' → te (some x :: σ) H' fun v H'' => W (i + 1) (ys ++ [v]) H''))
   {E : Value → Shared → Prop} {RR : Value → Addr → Result → Shared → Prop}
   (hRR : ∀ (D C : Addr) (s' : Shared) (H' : Hp) (ys : List V) (m : Str → Option Value), Inv X pins σ (upd H' D (.lst ys)) s' → H' D = none → FpOk X pins (upd H' D (.lst ys)) C → s'.heap.Ns C m → F ys H' → RR (.ref D) C (.ok .next) s') :
   wpAny (model X.prog X.w) X.A (newList []) (fun acc s₃ => wpAny (model X.prog X.w) X.A (newFunctionEnv scope X.env.globals (clOf X.env scope.names []) [] X.env.qual none .none (some X.env)) (fun cenv s₄ =>
     codeAny (model X.prog X.w) X.A (.compStart (.ListComp elt [⟨.Name x px, iter, [], 0⟩] scope pos) 0 (.ref it) acc { cenv with scope := relabel scope X.env }) (RR acc cenv.locals) s₄) E s₃) E s₂ := by
 refine wpAny_newObj_type (wpAny_newFunctionEnv K.cell (by intro y hy; simp at hy) (fun h₁ hns₁ hsb₁ => ?_) K.kind)
 dsimp only at hns₁ hsb₁ ⊢
 generalize hH2 : s₂.heap.push { cls := .type "list", dict := none, data := .seq ([] : List Value).toArray } = H2 at hns₁ hsb₁ ⊢
 have hC : H2.objs.size = s₂.heap.objs.size + 1 := by rw [← hH2, Heap.size_push]
 have hDC : s₂.heap.objs.size ≠ H2.objs.size := by rw [hC]; exact Nat.ne_of_lt (Nat.lt_succ_self _)
 have below : ∀ b, b < s₂.heap.objs.size → b ≠ H2.objs.size ∧ b ≠ s₂.heap.objs.size := fun b hb => ⟨by rw [hC]; exact Nat.ne_of_lt (Nat.lt_succ_of_lt hb), Nat.ne_of_lt hb⟩
 have hfl : ∀ b ∈ fp, b < s₂.heap.objs.size := fun b hb => by obtain ⟨o, e, _⟩ := T.obj _ _ st b hb; exact Heap.lt_size e
 have old : ∀ b o, s₂.heap.get? b = some o → h₁.get? b = some o := fun b o e => hsb₁.extBut b o (below b (Heap.lt_size e)).1 (Heap.get?_push_of_some _ (hH2 ▸ Heap.get?_push_of_some _ e))
 have hacc : h₁.get? s₂.heap.objs.size = some { cls := .type "list", data := .seq ([] : List Value).toArray 0 } := hsb₁.extBut _ _ hDC (Heap.get?_push_of_some _ (hH2 ▸ Heap.get?_push_size _ rfl))
 generalize hCC : H2.objs.size = C at *
 generalize hDD : s₂.heap.objs.size = D at *
 have hCle : s₂.heap.objs.size ≤ C := by rw [hDD, hC]; exact Nat.le_succ _
 have st₁ : tn 0 h₁ := T.keep _ _ _ st fun b _ o e => old b o e
 have I₁ := inv_comp (t := s₂.toks + ([] : List (Str × Value)).length) K I hf (fun b hb => by rw [hDD]; exact hfl b hb) hCle hns₁ old
 generalize hX' : compCx X scope C x M s₂ H₂ fp = X' at I₁
 have eX : X'.prog = X.prog ∧ X'.w = X.w ∧ X'.K = X.K ∧ X'.calm = true ∧ X'.A = X.A ∧ X'.ex = fp ∧ X'.env = compEnvC scope (clOf X.env scope.names []) C X.env ∧ X'.s₀ = s₂ ∧ X'.pn = [] := by
   subst hX'; exact ⟨rfl, rfl, rfl, hc, rfl, rfl, rfl, rfl, rfl⟩
 obtain ⟨eP, ew, eK, ec, eA, eex, eenv, es0, epn⟩ := eX
 have eL : X'.env.locals = C := by rw [eenv]; rfl
 have cells' : ∀ y c, X'.env.cells.lookup y = some c → X.env.cells.lookup y = some c := fun y c e => by rw [eenv] at e; exact CompOk.cl_of e
 have efs : X'.fs = frs X.stack := by subst hX'; rfl
 have fsub : ∀ b ∈ X'.fs, b = X.env.locals ∨ b ∈ X.fs := fun b hb => List.mem_cons.mp (I.stkSub b (by rw [← efs]; exact hb))
 have fpok : ∀ {pn : List (Addr × Obj)} {H' : Hp}, (∀ p ∈ pn, p.1 = D) → (∀ b ∈ fp, H' b = none) → ∀ b ∈ fp, FpOk X' pn H' b := fun {pn H'} hp hn b hb => by
   refine ⟨hn b hb, ?_, fun z => ?_, .inl (by rw [eex]; exact hb), fun y c e => (hf b hb).2.2.2.2.1 y c (cells' y c e), fun p hq => ?_⟩
   · rw [eL]; exact (below b (hfl b hb)).1
   · rcases fsub b z with q | q
     · exact (hf b hb).2.1 q
     · exact (hf b hb).2.2.1 q
   · rw [epn, List.nil_append] at hq
     rw [hp p hq]; exact Ne.symm (below b (hfl b hb)).2
 have Dfp : D ∉ fp := fun z => Nat.lt_irrefl _ (hfl D z)
 have ltL : X.env.locals < D := by have := I.lt; rw [hDD] at this; exact this
 have ltF : ∀ b ∈ X.fs, b < D := fun b hb => Nat.lt_of_not_le fun z => I.nofs (a := b) (by rw [hDD]; exact z) hb
 have newok : ∀ {b : Addr} {pn : List (Addr × Obj)} {H' : Hp}, D ≤ b → b ≠ C → H' b = none → (∀ p ∈ pn, p.1 ≠ b) → FpOk X' pn H' b := fun {b pn H'} hb hbC hn hp => by
   refine ⟨hn, by rw [eL]; exact hbC, fun z => ?_, .inr (by rw [es0, hDD]; exact hb), fun y c e => ?_, fun p hq => ?_⟩
   · rcases fsub b z with q | q
     · rw [q] at hb; exact absurd (Nat.lt_of_lt_of_le ltL hb) (Nat.lt_irrefl _)
     · exact absurd (Nat.lt_of_lt_of_le (ltF b q) hb) (Nat.lt_irrefl _)
   · obtain ⟨v, o, ho, _⟩ := I.cell y c (cells' y c e)
     have := Heap.lt_size ho
     rw [hDD] at this
     exact Nat.ne_of_lt (Nat.lt_of_lt_of_le this hb)
   · rw [epn, List.nil_append] at hq
     exact hp p hq
 have outer : ∀ {σ' : St} {H' : Hp} {s' : Shared} {pn : List (Addr × Obj)}, Inv X' pn σ' H' s' → Inv X pins σ H' s' := fun {σ' H' s' pn} J' => by
   subst hX'
   refine I.call' (ch := fp) J'.os J'.base J'.hok J'.bare fun b hb => ?_
   obtain ⟨f0, f1, f2, f3, f4, f5⟩ := hf b hb
   exact ⟨f3, f1, f4, f5⟩
 have outok : ∀ {b : Addr} {H' : Hp}, D ≤ b → H' b = none → FpOk X pins H' b := fun {b H'} hb hn => by
   have q := I.fpOk (H' := H') (b := b) (by rw [hDD]; exact hb) hn
   exact q
 have loop : ∀ s₃ : Shared, s₃ = { s₂ with heap := h₁, toks := s₂.toks + ([] : List (Str × Value)).length } →
     codeAny (model X.prog X.w) X.A (.compLoop (.ListComp elt [⟨.Name x px, iter, [], 0⟩] scope pos) 0 (.ref it) (.ref D) (compEnvC scope (clOf X.env scope.names []) C X.env)) (RR (.ref D) C) s₃ := by
   rintro s₃ rfl
   refine compLoop_go (fun k s' => ∃ (i : Nat) (ys : List V) (its : List Value) (σ0 : Option V) (H' : Hp), i ≤ n ∧ k = n + 1 - i ∧ ys.length = i ∧ Inv X' [] (σ0 :: σ) H' s' ∧ tn i s'.heap ∧ (∀ b ∈ fp, H' b = none) ∧ H' D = none ∧ Vals ys its ∧
     (∃ c, s'.heap.get? D = some { cls := .type "list", data := .seq its.toArray c }) ∧ W i ys H') ?_ (n + 1) ⟨0, [], [], none, H₂, Nat.zero_le _, rfl, rfl, I₁, st₁, fun b hb => (hf b hb).1, by rw [← hDD]; exact I.hok.fresh (Nat.le_refl _), .nil, ⟨0, hacc⟩, w0⟩
   rintro k s' ⟨i, ys, its, σ0, H', hi, rfl, hyl, I', st', fr', hD', rv, ⟨c, hobj⟩, w'⟩
   have hx0 : X'.N[0]? = some x := by subst hX'; rfl
   have hxl : X'.env.scope.names.lookup x = some .local := by rw [eenv]; exact lookup_relabel_local K.loc
   have hNd : X'.N.Nodup := by subst hX'; exact K.nd
   rcases turn i ys H' hi hyl w' with ⟨stop, fin⟩ | ⟨go, hlt, step⟩
   · have pinD : Inv X' [(D, { cls := .type "list", data := .seq its.toArray c })] (σ0 :: σ) H' s' := I'.pins_of fun p hp => by
       obtain rfl : p = (D, { cls := .type "list", data := .seq its.toArray c }) := by simpa using hp
       refine ⟨hobj, hD', ?_, ?_, fun v z => nomatch z⟩
       · rw [eL]; exact hDC
       · intro z
         rcases fsub D z with q | q
         · rw [q] at ltL; exact Nat.lt_irrefl _ ltL
         · exact Nat.lt_irrefl _ (ltF D q)
     have q := T.done X' eP ew eK ec i _ s' (σ0 :: σ) H' (notedBy (model X.prog X.w) X.A (compEnvC scope (clOf X.env scope.names []) C X.env) fun e s' => RR (.ref D) C (.error e) s') pinD (fpok (fun p hp => by obtain rfl : p = (D, { cls := .type "list", data := .seq its.toArray c }) := (by simpa using hp); rfl) fr') st' stop
     rw [eA] at q
     refine wpAny_mono q (fun r s4 ⟨hr, I4⟩ => ?_) fun _ _ z => z
     subst hr
     obtain ⟨e4, n4, _⟩ := I4.pin (D, { cls := .type "list", data := .seq its.toArray c }) (List.mem_append_right _ (by simp))
     have O4 := outer I4
     obtain ⟨m4, ns4, _⟩ := I4.loc
     rw [eL] at ns4
     refine hRR D C s4 H' ys m4 (O4.track (outok (Nat.le_refl _) n4) (Nat.le_trans I.sz (by rw [hDD]; exact Nat.le_refl _)) ⟨by rw [hyl]; exact Nat.le_trans hi hsz, its, c, rv, e4⟩) n4 (outok (by rw [hC]; exact Nat.le_succ _) ?_) ns4 fin
     rw [zJ (Ne.symm hDC)]
     have := I4.free
     rw [eL] at this
     exact this
   · have pinD : Inv X' [(D, { cls := .type "list", data := .seq its.toArray c })] (σ0 :: σ) H' s' := I'.pins_of fun p hp => by
       obtain rfl : p = (D, { cls := .type "list", data := .seq its.toArray c }) := by simpa using hp
       refine ⟨hobj, hD', ?_, ?_, fun v z => nomatch z⟩
       · rw [eL]; exact hDC
       · intro z
         rcases fsub D z with q | q
         · rw [q] at ltL; exact Nat.lt_irrefl _ ltL
         · exact Nat.lt_irrefl _ (ltF D q)
     have pd : ∀ p ∈ [(D, ({ cls := .type "list", data := .seq its.toArray c } : Obj))], p.1 = D := fun p hp => by obtain rfl : p = (D, { cls := .type "list", data := .seq its.toArray c }) := (by simpa using hp); rfl
     have q := T.item X' eP ew eK ec i _ s' (σ0 :: σ) H' (notedBy (model X.prog X.w) X.A (compEnvC scope (clOf X.env scope.names []) C X.env) fun e s' => RR (.ref D) C (.error e) s') pinD (fpok pd fr') st' go
     rw [eA] at q
     refine wpAny_mono q (fun r s4 ⟨u, hr, h4⟩ => ?_) fun _ _ z => z
     subst hr
     refine wpAny_mono h4 (fun _ s5 ⟨xv, H5, I5, r5, y5, st5, fr5⟩ => ?_) fun _ _ z => z
     have I5' := I5.pinned (fpok pd fr5) (T.obj _ _ st5)
     refine wpAny_assign_Name ?_
     rw [← eenv]
     refine store_ok I5' hNd hx0 (.inl hxl) r5 (fun s6 I6 => ?_) (.inr hxl)
     have te6 := step xv H5 y5
     have q6 := (he C s₂ H₂ fp) (([(D, ({ cls := .type "list", data := .seq its.toArray c } : Obj))]) ++ pinsAt fp s5.heap) s6 (some xv :: σ) H5 (fun v H'' => W (i + 1) (ys ++ [v]) H'') (by rw [hX']; exact I6) te6
     rw [hX', eP, ew, eA] at q6
     refine wpAny_mono q6 (fun u7 s7 ⟨v7, H7, I7, r7, w7⟩ => ?_) (fun _ _ z => by subst hX'; exact (show False from z).elim)
     obtain ⟨e7, n7, _⟩ := I7.pin (D, { cls := .type "list", data := .seq its.toArray c }) (List.mem_append_right _ (List.mem_append_left _ (by simp)))
     refine append_at (hsz := by rw [List.size_toArray, ← rv.length, hyl]; exact Nat.le_trans hi hsz) e7 fun h8 sb8 g8 => ?_
     have I8 : Inv X' [] (some xv :: σ) H7 { s7 with heap := h8, toks := s7.toks } := (I7.pins_of (pins' := []) fun p hp => absurd hp (by simp)).turned (t' := s7.toks) (it := D) (fun b o hb e => (sb8.2 b hb).trans e) n7 (by rw [eL]; exact hDC) (.inr (by rw [es0, hDD]; exact Nat.le_refl _))
       (newok (H' := H7) (pn := []) (Nat.le_refl _) hDC n7 (fun p hp => absurd hp (by simp))).2.2.2.2.1 (fun p hp => by rw [epn] at hp; exact absurd hp (by simp))
     refine ⟨n + 1 - (i + 1), by omega, i + 1, ys ++ [v7], its ++ [u7], some xv, H7, hlt, rfl, by rw [List.length_append, List.length_singleton, hyl], I8, ?_, fun b hb => ?_, n7, rv.append (.cons r7 .nil), ⟨c + 1, ?_⟩, w7⟩
     · refine T.keep _ _ _ st5 fun b hb o e => ?_
       have e' := (I7.pin (b, o) (List.mem_append_right _ (List.mem_append_right _ (yY hb e)))).1
       exact (sb8.2 b (fun z => Dfp (z ▸ hb))).trans e'
     · obtain ⟨o, e, d⟩ := T.obj _ _ st5 b hb
       exact (I7.pin (b, o) (List.mem_append_right _ (List.mem_append_right _ (yY hb e)))).2.1
     · rw [g8, List.push_toArray]
 exact codeAny_compStart_list (loop _ rfl) (T.self X.A 0 _ _ _ st₁ (loop _ rfl))
theorem pe_comp (K : CompOk X scope x M) (hc : X.calm = true) (hi : PI X (.Name x px) iter wi) (he : ∀ (C : Addr) (s₂ : Shared) (H₂ : Hp) (fp : List Addr), PE (compCx X scope C x M s₂ H₂ fp) elt te)
   (hs : ∀ x, foldedSetIterable iter X.env x = pure x := by intro _; rfl) : PE X (.ListComp elt [⟨.Name x px, iter, [], 0⟩] scope pos) (tComp wi te) := by
 intro pins s σ H Q I h
 rw [eval_ListComp]
 refine wpAny_comprehension_free (use := none) rfl hs (K.closure I.ok) K.kind K.names (thn (hi pins s σ H _ I h) fun v s1 h1 => thn h1 fun itv s2 h2 => ?_)
 obtain ⟨it, fp, tn, J, H2, e, I2, T, st2, f2, n, W, hsz, w0, turn⟩ := h2
 subst e
 refine comp_block (RR := fun acc C => compPost (model X.prog X.w) X.A X.xe none (EP X pins σ Q) acc C) K hc I2 he T st2 f2 hsz (F := fun ys H => ∀ p, H p = none → Q (.ref p) (upd H p (.lst ys))) w0 turn ?_
 intro D C s' H' ys m I' n' fC ns fin
 refine ⟨m, ns, fun h' sb => ?_⟩
 obtain ⟨f0, f1, f2, f3, f4, f5⟩ := fC
 exact ⟨.ref D, _, I'.turned (t' := s'.toks) (it := C) (fun b o hb e => (sb.2 b hb).trans e) f0 f1 f3 f4 f5, rfl, fin D n'⟩
end
end L2
namespace L2
open PySem PySem.Spec PyProof.Rows PySem.Calls
def S (l : List Nat) : Str := ⟨l.toArray⟩
abbrev cd (x : Str) : List Nat := x.cps.toList
theorem cd_S (l : List Nat) : cd (S l) = l := rfl
theorem S_cd (x : Str) : S (cd x) = x := by cases x; rfl
theorem cd_inj {x y : Str} (h : cd x = cd y) : x = y := by rw [← S_cd x, ← S_cd y, h]
theorem len_S (l : List Nat) : (S l).length = l.length := by show l.toArray.size = _; simp
theorem len_cd (x : Str) : x.length = (cd x).length := by show x.cps.size = _; simp
theorem S_app (a b : List Nat) : S a ++ S b = S (a ++ b) := by
 show (⟨a.toArray ++ b.toArray⟩ : Str) = ⟨(a ++ b).toArray⟩
 simp
theorem xF (x y : Str) : cd (x ++ y) = cd x ++ cd y := by
 show (x.cps ++ y.cps).toList = _
 simp
section
variable {X : Cx} {tg : Expr}
end
theorem comp_range {lo : Int} {n : Nat} {te : TE} {σ : St} {H : Hp} {Q : VK} (hz : n ≤ sizeLine) (W : Nat → List V → Hp → Prop) (h0 : W 0 [] H)
   (hs : ∀ i ys H, i < n → ys.length = i → W i ys H → te (some (.int (lo + i)) :: σ) H fun v H' => W (i + 1) (ys ++ [v]) H')
   (hd : ∀ ys H, ys.length = n → W n ys H → ∀ p, H p = none → Q (.ref p) (upd H p (.lst ys))) :
   ∃ (m : Nat) (W : Nat → List V → Hp → Prop), m ≤ sizeLine ∧ W 0 [] H ∧ ∀ i ys H, i ≤ m → ys.length = i → W i ys H →
     ((Itr lo n).stop i H ∧ ∀ p, H p = none → Q (.ref p) (upd H p (.lst ys))) ∨ ((Itr lo n).go i H ∧ i < m ∧ ∀ v H', (Itr lo n).yld i H v H' → te (some v :: σ) H' fun v H'' => W (i + 1) (ys ++ [v]) H'') := by
 refine ⟨n, W, hz, h0, fun i ys H hi hl hw => ?_⟩
 by_cases hlt : i < n
 · refine .inr ⟨hlt, hlt, fun v H' y => ?_⟩
   obtain ⟨e, y⟩ := y
   subst e y
   exact hs i ys _ hlt hl hw
 · have e : i = n := by omega
   subst e
   exact .inl ⟨Nat.le_refl _, hd ys H hl hw⟩
section
variable {X : Cx}
theorem strs_of {ys : List Str} : ∀ {its : List Value}, Vals (ys.map V.str) its → StrsAre its ys := by
 induction ys with
 | nil => intro its r; cases r; exact .nil
 | cons y ys ih =>
   intro its r
   cases r with
   | cons a b => obtain ⟨t, rfl⟩ := a; exact .cons _ _ (ih b)
def joinS (sep : Str) (ys : List Str) : Str := Txt.join sep ys
theorem mt_join : MtM X "str.join" (fun x vs H Q => ∃ (sep : Str) (p : Addr) (ys : List Str), x = .str sep ∧ vs = [.ref p] ∧ (SqL X.K H p (ys.map V.str) ∨ SqT X.K H p (ys.map V.str)) ∧ (ys.map (·.length)).sum + ys.length * sep.length ≤ 16777216 ∧ Q (.str (joinS sep ys)) H) := by
 intro pins s σ H x vs v us Q I rx rv h
 obtain ⟨sep, p, ys, rfl, rfl, hq, hz, q⟩ := h
 obtain ⟨t, rfl⟩ := rx
 obtain ⟨u, rfl, ru⟩ := rv.one
 cases ru
 rcases hq with hq | hq
 · obtain ⟨its, r, pl, _⟩ := I.list hq
   exact join_list pl.isList (by simpa using strs_of r) hz fun t' k => ⟨.str _, H, I.tok _, ⟨_, rfl⟩, q⟩
 · obtain ⟨its, r, pl, _⟩ := I.tuple hq
   exact join_tuple pl (by simpa using strs_of r) hz fun t' k => ⟨.str _, H, I.tok _, ⟨_, rfl⟩, q⟩
theorem op_mulB : OpR X (binaryOp .Mult) (rI (fun i j => Builtin.Int.intBits i ≤ 60000000 ∧ Builtin.Int.intBits j ≤ 60000000) fun i j => .int (i * j)) := opI fun i j _ _ _ _ _ hc q => mul_int q (IntMulOk.of_le hc.1 hc.2 (by decide))
end
end L2
namespace Att
open PySem PySem.W PySem.Calls PyProof.Rows
theorem bits_of_lay {ns : List Int} (h : WData.layableAll [WData.list (ns.map WData.int)] = true) : ∀ n ∈ ns, Builtin.Int.intBits n ≤ 1048576 := by
 have h1 : (WData.list (ns.map WData.int)).layable = true := by simpa [WData.layableAll] using h
 intro n hn
 have h2 := layableW_item h1 (.int n) (List.mem_map.mpr ⟨n, hn, rfl⟩)
 have h3 := (layableW_iff.mp h2).2.2
 simpa [WData.weight, Builtin.Int.intBits] using h3
theorem attach_callB {l : OpenLaw} {n : Nat} {q : Program} {loose : List Str} {XP : (Str → Option Value) → Heap → Prop} {YP : World → Heap → Prop} {d : DefRec}
   (hn : l.most = some n) (hdf : d.params.defaults = [])
   (call : ∀ (w : World) (s₀ s₁ : Shared) (mg mb : Str → Option Value) (fa : Addr) (o : Obj) (pm cd doc : Value) (a : Addr) (vs : List Value) (ns : List Int),
     Ground q loose [] XP w s₀ mg mb s₁.heap → YP w s₁.heap →
     s₁.heap.get? fa = some o → o.data = .func (docDef d.name d.params d.body d.scope pm cd doc) → s₁.heap.CodeRec cd d.name → mg d.name = some (.ref fa) →
     s₁.heap.get? a = some { cls := .type "list", data := .seq vs.toArray } → IntsAre vs ns → ns.length ≤ n → (∀ n ∈ ns, Builtin.Int.intBits n ≤ 1048576) → s₁.gens = #[] →
     codeAny (model l.prog w) callerA (.call (.ref fa) ⟨[.ref a], []⟩) (fun r s' => r = .ok (.ret (.bool true)) ∧ OldK s₁.heap s'.heap ∧ s'.os = s₁.os ∧ AllBare s'.gens) s₁) :
   WalkO q loose XP YP l.row.toRowW d [] (fun f vs => PySem.call f vs) := by
 intro w s₀ s₁ mg mb G Y fa o pm cd doc dV kV ho hd hcd hD hmg hg args vals as hpre hlay hrd hwl hlo
 obtain rfl : dV = .none := Dflts.none hD hdf
 obtain rfl : kV = .none := Dflts.noKw hD
 obtain ⟨a, vs, ns, rfl, rfl, hobj, hints, hlen⟩ := script_of hn hpre hwl
 refine enter_call (codeAny_mono (call w s₀ s₁ mg mb fa o pm cd doc a vs ns G Y ho (fd_plain hd) hcd hmg hobj hints hlen (bits_of_lay hlay) hg) fun r s' hq => ?_)
 obtain ⟨rfl, h2, h3, h4⟩ := hq
 exact ⟨.inl ⟨.bool true, .bool true, [], rfl, fun _ => rfl, .bool true, post_true l _, fun _ => ⟨List.Pairwise.nil, fun _ hm => (nomatch hm)⟩⟩, h2, h3, h4⟩
end Att
namespace L2
open PySem PySem.Spec PyProof.Rows
theorem walk_ofB {l : PySem.W.OpenLaw} {n k : Nat} {q : Program} {loose : List Str} {XP : (Str → Option Value) → Heap → Prop} {YP : World → Heap → Prop} {d : DefRec} {K : Params → PySem.W.Frag} {CX : World → CXT} {sp : World → Sp} {x : Str}
   (hn : l.most = some n) (hn2 : n ≤ sizeLine) (hdf : d.params.defaults = []) (hr : Room k callerA)
   (hY : ∀ (w : World) (h : Heap), YP w h → (K w.params).In h)
   (F : ∀ (w : World) (mg : Str → Option Value) (fa : Addr) (h : Heap), (K w.params).In h → h.Ns mainGlobals mg → mg d.name = some (.ref fa) →
     ∃ fd : FuncData, (∀ (s : Shared) (u : Value), BindsTo s fd ⟨[u], []⟩ [(x, u)]) ∧
       ∀ base : Heap, (K w.params).In base → base.Ns mainGlobals mg → FnOk l.prog w (K w.params) mg base (CX w) k fa fd [x] (sp w))
   (hsp : ∀ (w : World) (H : Hp) (a : Addr) (ns : List Int), ns.length ≤ n → (∀ n ∈ ns, Builtin.Int.intBits n ≤ 1048576) → Only H → SqL (K w.params) H a (ns.map V.int) → sp w [.ref a] H (fun v _ => v = .bl true) fun _ _ _ => False)
   (hCX : ∀ (w : World) (H : Hp) (s : Shared) (e : Value) (s' : Shared), CX w [] H s (fun _ _ _ => False) e s' → False) :
   PySem.W.WalkO q loose XP YP l.row.toRowW d [] (fun f vs => PySem.call f vs) := by
 refine Att.attach_callB hn hdf fun w s₀ s₁ mg mb fa o pm cd doc a vs ns G Y ho hd hcd hmg hobj hints hlen hbits hg => ?_
 have KX := hY w _ Y
 obtain ⟨fd, hb, hF⟩ := F w mg fa _ KX G.T.g hmg
 exact law_call KX G.T.g G.T.b G.T.builtins G.T.nolimit hg hobj hints (Nat.le_trans hlen hn2) hr hF hb (fun H hO hS => hsp w H a ns hlen hbits hO hS) fun H e s' => hCX w H s₁ e s'
def GlobV (mg : Str → Option Value) (x : Str) (v : V) : Prop := ∃ u, mg x = some u ∧ RelV v u
theorem yH {X : Cx} {x : Str} {v : V} {pos : Pos} (hg : Gl X x) (h : GlobV X.mg x v) (hd : (x == ("__debug__" : Str)) = false := by decide) : PE X (.Name x pos) (tC v) := by
 obtain ⟨u, hm, r⟩ := h
 exact pe_glob hg hm r hd
theorem SqT.mod {K : PySem.W.Frag} {a : Addr} {oc : Value} {od : Option Addr} {its : Array Value} {n : Nat} {sl : Array (Option Value)} {xs : List V} (h : K.lookup a = some ⟨oc, od, .seq its n, sl⟩) (hc : oc = .type "tuple") (hz : its.size ≤ sizeLine) (hv : Vals xs its.toList) (H : Hp) : SqT K H a xs :=
 .inr ⟨_, its, n, h, hc, rfl, hz, hv⟩
theorem Same.tup {K : PySem.W.Frag} {H H' : Hp} {a : Addr} {xs : List V} (e : Same H H') (h : SqT K H a xs) : SqT K H' a xs := by
 rcases h with (h | ⟨o, h⟩) | h
 · exact .inl (.inl (e _ _ h))
 · exact .inl (.inr ⟨o, e _ _ h⟩)
 · exact .inr h
theorem zG {H : Hp} {p : Addr} (h : H p = none) (o : HO) : Same H (upd H p o) := fun b u q => by rw [zJ (zN q h)]; exact q
namespace Bt
theorem int : bootBuiltins "int" = some (.type "int") := PyProof.Rows.boot_int
theorem bool : bootBuiltins "bool" = some (.type "bool") := PyProof.Rows.boot_bool
theorem str : bootBuiltins "str" = some (.type "str") := PyProof.Rows.boot_str
theorem list : bootBuiltins "list" = some (.type "list") := PyProof.Rows.boot_list
theorem tuple : bootBuiltins "tuple" = some (.type "tuple") := PyProof.Rows.boot_tuple
theorem dict : bootBuiltins "dict" = some (.type "dict") := PyProof.Rows.boot_dict
theorem set : bootBuiltins "set" = some (.type "set") := PyProof.Rows.boot_set
theorem isinstance : bootBuiltins "isinstance" = some (.builtin "isinstance") := PyProof.Rows.boot_isinstance
theorem all : bootBuiltins "all" = some (.builtin "all") := PyProof.Rows.boot_all
theorem abs : bootBuiltins "abs" = some (.builtin "abs") := PyProof.Rows.Boot.«abs»
end Bt
end L2
namespace L2
open PySem PySem.Spec PyProof.Rows
abbrev ib (x : Int) : Nat := Builtin.Int.intBits x
theorem ib_div {x : Int} {y : Int} {m : Nat} (hy : 0 < y) (h : ib x ≤ m) : ib (x / y) ≤ m := by
 rw [← Int.fdiv_eq_ediv_of_nonneg x (Int.le_of_lt hy)]
 exact intBits_fdiv_le h
theorem ib_small {x : Int} (h1 : -(2 ^ 64) < x) (h2 : x < 2 ^ 64) : ib x ≤ 64 := intBits_le_64 h1 h2
theorem ib_big {m : Nat} {x : Int} (h : x.natAbs < 2 ^ m) : ib x ≤ m := intBits_le_iff.mpr h
theorem at_some {α : Type} {l : List α} {i : Int} (h0 : 0 ≤ i) (h1 : i < l.length) : ∃ c, atI l i = some c ∧ l[i.toNat]? = some c := by
 have hk : i.toNat < l.length := by omega
 refine ⟨l[i.toNat], ?_, List.getElem?_eq_getElem hk⟩
 have e : i = ((i.toNat : Nat) : Int) := by omega
 have q : atI l ((i.toNat : Nat) : Int) = some l[i.toNat] := zH (List.getElem?_eq_getElem hk)
 rw [← e] at q
 exact q
theorem Same.ty {K : PySem.W.Frag} {H H' : Hp} {x : V} {t : Value} (e : Same H H') (h : TyOf K H x t) : TyOf K H' x t := by
 cases h with
 | non => exact .non
 | bl x => exact .bl x
 | int i => exact .int i
 | str x => exact .str x
 | flt x => exact .flt x
 | lst q => exact .lst (e _ _ q)
 | frz q => exact .frz (e _ _ q)
 | tup q => exact .tup (e _ _ q)
 | dK q => exact .dK (e _ _ q)
 | dT q => exact .dT (e _ _ q)
 | ins q a b c d f => exact .ins (e _ _ q) a b c d f
theorem yL {n m : Nat} (h : n ≤ m) (hm : m ≤ 16777216 := by decide) : n ≤ sizeLine := by rw [sizeLine_eq]; omega
def joinL (sep : List Nat) : List (List Nat) → List Nat
 | [] => []
 | [x] => x
 | x :: y :: r => x ++ sep ++ joinL sep (y :: r)
theorem joinS_is (sep : Str) (ys : List Str) : joinS sep ys = S (joinL (cd sep) (ys.map cd)) := by
 have e : joinS sep ys = Str.join sep ys := StrLaws.glued_eq_join sep ys
 rw [e]
 clear e
 induction ys with
 | nil => rfl
 | cons y r ih =>
   cases r with
   | nil => exact (S_cd y).symm
   | cons z r =>
     show y ++ sep ++ Str.join sep (z :: r) = S (cd y ++ cd sep ++ joinL (cd sep) ((z :: r).map cd))
     rw [ih, ← S_app, ← S_app, S_cd, S_cd]
structure CompR (J : It) (te : TE) (σ : St) (H1 : Hp) (Q : VK) : Prop where
 ex : ∃ (n : Nat) (W : Nat → List V → Hp → Prop), n ≤ sizeLine ∧ W 0 [] H1 ∧ ∀ i ys H, i ≤ n → ys.length = i → W i ys H →
   (J.stop i H ∧ ∀ p, H p = none → Q (.ref p) (upd H p (.lst ys))) ∨ (J.go i H ∧ i < n ∧ ∀ x H', J.yld i H x H' → te (some x :: σ) H' fun v H'' => W (i + 1) (ys ++ [v]) H'')
def tCompR (wi : TI) (te : TE) : TE := fun σ H Q => wi σ H fun J H1 => CompR J te σ H1 Q
structure ForR (J : It) (g : TG) (tb : TS) (D : Ends) (σ : St) (H1 : Hp) : Prop where
 ex : ∃ W : Nat → Nat → St → Hp → Prop, (∃ m, W 0 m σ H1) ∧ ∀ i m σ H, W i m σ H →
   (J.stop i H ∧ D.nx σ H) ∨ (J.go i H ∧ ∃ N : St → Hp → Prop, (∀ σ' H', N σ' H' → ∃ m', m' < m ∧ W (i + 1) m' σ' H') ∧ ∀ x H', J.yld i H x H' → g x σ H' fun σ2 H2 => tb { D with nx := N, ct := N, bk := D.nx } σ2 H2)
def tForR (wi : TI) (g : TG) (tb : TS) : TS := fun D σ H => wi σ H fun J H1 => ForR J g tb D σ H1
structure WhileR (c : TT) (tb : TS) (D : Ends) (σ : St) (H : Hp) : Prop where
 ex : tWhile c tb D σ H
def tWhileR (c : TT) (tb : TS) : TS := fun D σ H => WhileR c tb D σ H
theorem PI.weak {X : Cx} {tg iter : Expr} {wi : TI} (h : PI X tg iter wi) {pins : List (Addr × Obj)} {s : Shared} {σ : St} {H : Hp} {R R' : It → Hp → Prop} (I : Inv X pins σ H s) (hw : wi σ H R) (hR : ∀ J H1, R J H1 → R' J H1) :
   wpAny (model X.prog X.w) X.A (eval iter X.env) (fun v s1 => wpAny (model X.prog X.w) X.A (pyIter v) (PIE X pins σ tg R') X.xe s1) X.xe s := by
 refine thn (h pins s σ H R I hw) fun v s1 h1 => thn h1 fun itv s2 ⟨it, fp, tn, J, H', e, I', T, st, f, r⟩ => ?_
 exact ⟨it, fp, tn, J, H', e, I', T, st, f, hR J H' r⟩
section
variable {X : Cx} {scope : Scope} {x : Str} {M : List Str} {elt iter : Expr} {px pos : Pos} {te : TE} {wi : TI}
theorem pi_conv {tg : Expr} {wi wi' : TI} (h : PI X tg iter wi) (hw : ∀ σ H R, wi' σ H R → ∃ R0, wi σ H R0 ∧ ∀ J H1, R0 J H1 → R J H1) : PI X tg iter wi' := by
 intro pins s σ H R I q
 obtain ⟨R0, q0, hR⟩ := hw σ H R q
 exact h.weak I q0 hR
theorem pe_compR (K : CompOk X scope x M) (hc : X.calm = true) (hi : PI X (.Name x px) iter wi) (he : ∀ (C : Addr) (s₂ : Shared) (H₂ : Hp) (fp : List Addr), PE (compCx X scope C x M s₂ H₂ fp) elt te)
   (hs : ∀ x, foldedSetIterable iter X.env x = pure x := by intro _; rfl) : PE X (.ListComp elt [⟨.Name x px, iter, [], 0⟩] scope pos) (tCompR wi te) := by
 intro pins s σ H Q I h
 have q := pe_comp (pos := pos) K hc (wi := fun σ0 H0 R0 => ∃ R, wi σ0 H0 R ∧ ∀ J H1, R J H1 → R0 J H1) (pi_conv hi fun σ H R ⟨R1, a, b⟩ => ⟨R1, a, b⟩) he hs pins s σ H Q I
 exact q ⟨_, h, fun J H1 r => r.ex⟩
theorem ps_forR {tg : Expr} {body : List Stmt} {g : TG} {tb : TS} (hp : PassesOwn (model X.prog X.w) X.A X.env X.xe) (hc : X.calm = true) (hi : PI X tg iter wi) (hg : PG X tg g) (hb : PSs X body tb)
   (hs : ∀ x, foldedSetIterable iter X.env x = pure x := by intro _; rfl) : PS X (.For tg iter body [] pos) (tForR wi g tb) := by
 intro pins s σ H D I h
 have q := ps_for (pos := pos) hp hc (wi := fun σ0 H0 R0 => ∃ R, wi σ0 H0 R ∧ ∀ J H1, R J H1 → R0 J H1) (pi_conv hi fun σ H R ⟨R1, a, b⟩ => ⟨R1, a, b⟩) hg hb hs pins s σ H D I
 exact q ⟨_, h, fun J H1 r => r.ex⟩
theorem ps_whileR {c : Expr} {body : List Stmt} {tc : TT} {tb : TS} (hp : PassesOwn (model X.prog X.w) X.A X.env X.xe) (hc : PT X c tc) (hb : PSs X body tb) : PS X (.While c body [] pos) (tWhileR tc tb) := fun pins s σ H D I h => ps_while hp hc hb pins s σ H D I h.ex
end
theorem comp_rangeR {lo : Int} {n : Nat} {te : TE} {σ : St} {H : Hp} {Q : VK} (hz : n ≤ sizeLine) (W : Nat → List V → Hp → Prop) (h0 : W 0 [] H)
   (hs : ∀ i ys H, i < n → ys.length = i → W i ys H → te (some (.int (lo + i)) :: σ) H fun v H' => W (i + 1) (ys ++ [v]) H')
   (hd : ∀ ys H, ys.length = n → W n ys H → ∀ p, H p = none → Q (.ref p) (upd H p (.lst ys))) : CompR (Itr lo n) te σ H Q := ⟨comp_range hz W h0 hs hd⟩
theorem for_listR {K : PySem.W.Frag} {a : Addr} {xs : List V} {g : TG} {tb : TS} {D : Ends} {σ : St} {H : Hp} (Pv : Nat → St → Hp → Prop) (h0 : Pv 0 σ H) (hl : ∀ i σ H, i ≤ xs.length → Pv i σ H → SqL K H a xs)
   (hs : ∀ i x σ H, xs[i]? = some x → Pv i σ H → g x σ H fun σ2 H2 => tb { D with nx := Pv (i + 1), ct := Pv (i + 1), bk := D.nx } σ2 H2) (hd : ∀ σ H, Pv xs.length σ H → D.nx σ H) : ForR (Itl K a) g tb D σ H := ⟨for_list Pv h0 hl hs hd⟩
theorem for_rangeR {lo : Int} {n : Nat} {g : TG} {tb : TS} {D : Ends} {σ : St} {H : Hp} (Pv : Nat → St → Hp → Prop) (h0 : Pv 0 σ H)
   (hs : ∀ i σ H, i < n → Pv i σ H → g (.int (lo + i)) σ H fun σ2 H2 => tb { D with nx := Pv (i + 1), ct := Pv (i + 1), bk := D.nx } σ2 H2) (hd : ∀ σ H, Pv n σ H → D.nx σ H) : ForR (Itr lo n) g tb D σ H := ⟨for_range Pv h0 hs hd⟩
theorem cutV_map {α : Type} (f : α → V) (l : List α) (lo hi : Option Int) : ∃ ms : List α, cutV (l.map f) lo hi = ms.map f ∧ (∀ m ∈ ms, m ∈ l) ∧ ms.length ≤ l.length := by
 refine ⟨(l.drop (HT.sIx (l.map f).length 0 lo)).take (HT.sIx (l.map f).length (l.map f).length hi - HT.sIx (l.map f).length 0 lo), ?_, fun m hm => ?_, ?_⟩
 · unfold cutV
   rw [List.map_take, List.map_drop]
 · exact List.mem_of_mem_drop (List.mem_of_mem_take hm)
 · rw [List.length_take, List.length_drop]; omega
theorem map_get {α : Type} {f : α → V} {l : List α} {i : Nat} {x : V} (h : (l.map f)[i]? = some x) : ∃ a, l[i]? = some a ∧ x = f a := by
 rw [List.getElem?_map] at h
 cases e : l[i]? with
 | none => rw [e] at h; cases h
 | some a => rw [e] at h; exact ⟨a, rfl, (Option.some.inj h).symm⟩
theorem kit_ty {K : PySem.W.Frag} {a b : String} {r : Bool} (h : (if (Value.type a == Value.type b) = true then some true else if PySem.W.kitMeta b = true then (fastBuiltinMro a).map (·.contains (Value.type b)) else none) = some r) : PySem.W.kitOne K (.type a) (.type b) = some r := h
end L2
namespace L2
open PySem PySem.Spec PyProof.Rows PySem.Calls
def TrD (h base : Heap) (e : Addr) (cls : Value) (dct : Option Addr) (fl : Value) : Prop :=
 ∃ oe vs T oT ts, h.get? e = some oe ∧ (oe.cls = cls ∧ oe.dict = dct) ∧ oe.data = .fields vs ∧ vs[1]? = some (.ref T) ∧ base.get? T = none ∧ T ≠ e ∧ h.get? T = some oT ∧ oT.data = .fields ts ∧ ts[3]? = some fl
def FlyD (base : Heap) (l : List Env) (e : Addr) (cls : Value) (dct : Option Addr) (fl : Value) (h : Heap) : Prop :=
 base.StaysIn h ∧ base.get? e = none ∧ h.FunFrames base l ∧ TrD h base e cls dct fl
theorem FlyD.there {base h : Heap} {l : List Env} {e : Addr} {cls fl : Value} {dct : Option Addr} (x : FlyD base l e cls dct fl h) : ∃ ob, h.get? e = some ob ∧ ob.cls = cls ∧ ob.dict = dct ∧ ∃ vs, ob.data = .fields vs := by
 obtain ⟨_, _, _, oe, vs, _, _, _, he, hc, hd, _⟩ := x
 exact ⟨oe, he, hc.1, hc.2, vs, hd⟩
theorem dict_mapF (o : Obj) (g : Array Value → Array Value) : (Obj.mapFields g o).dict = o.dict := by
 obtain ⟨a, b, c, d⟩ := o
 cases c <;> rfl
section
variable {M : Model} {A : Around} {E : Value → Shared → Prop} {s : Shared}
theorem entryD {base : Heap} {env : Env} {outer : List Env} {L e : Addr} {oe : Obj} {vs : Array Value} {head : Value} {hadNext : Bool} {Q : Unit → Shared → Prop}
   (hfr : A.frames = some (env :: outer)) (hl : s.heap.FunFrames base (env :: outer)) (hf : env.frame = some L)
   (he : s.heap.get? e = some oe) (hkb : base.StaysIn s.heap) (hen : base.get? e = none) (hd : oe.data = .fields vs) (hsz : 1 < vs.size)
   (h : ∀ h', FlyD base (env :: outer) e oe.cls oe.dict (rawInt L) h' → s.heap.UpToSlots h' → Q () { s with heap := h' }) :
   wpAny M A (do let a ← frameOf env; let pl ← entryPlaceOf L hadNext; let b ← EntryCells.newEntry head a .none (rawInt L) .none pl; setField (.ref e) 1 b) Q E s := by
 have n1 : e ∉ (env :: outer).filterMap (·.frame) := fun hm => by
   obtain ⟨_, o, ho, z⟩ := hl.mem hm
   rw [he] at ho; injection ho with ho; subst ho; exact z vs hd
 refine wpAny_bind (wpAny_frameOf_fun hfr hl hf fun g1 p1 => ?_)
 refine wpAny_bind (wpAny_entryPlaceOf fun pl hpl => ?_)
 unfold EntryCells.newEntry newFields
 refine wpAny_bind (wpAny_newObj_type ?_ (hpl.sizeOk5 _ _ _ _ _))
 have q1 : g1.get? e = some oe := (p1.2.1 e n1).trans he
 have k1 : base.StaysIn g1 := fun b o z => (p1.2.1 b fun hm => by rw [(hl.mem hm).1] at z; cases z).trans (hkb b o z)
 generalize hT : ({ cls := .type "traceback", dict := none, data := .fields ([head, .ref L, .none, rawInt L, .none] ++ (if pl.isEmpty then List.replicate 6 Value.none else pl)).toArray } : Obj) = oT
 have q2 := Heap.get?_push_of_some (h := g1) oT q1
 refine wpAny_setField q2 hd hsz (h _ ?_ ?_)
 all_goals
   have hne : g1.objs.size ≠ e := Nat.ne_of_gt (Heap.lt_size q1)
   have d3 := Obj.data_mapFields hd (·.setIfInBounds 1 (Value.ref g1.objs.size))
   have keep : ∀ b o, b ≠ e → g1.get? b = some o → ((g1.push oT).update e (Obj.mapFields (·.setIfInBounds 1 (Value.ref g1.objs.size)))).get? b = some o := fun b o z1 z2 => by
     rw [Heap.get?_update_other _ _ (Ne.symm z1)]
     exact Heap.get?_push_of_some _ z2
   have noR : ∀ b o, s.heap.get? b = some o → (∀ vs, o.data ≠ .fields vs) → b ≠ e := fun b o z1 z2 q => by
     rw [q, he] at z1; injection z1 with z1; subst z1; exact z2 vs hd
 · refine ⟨fun b o z => keep b o (fun q => by rw [q, hen] at z; cases z) (k1 b o z), hen, hl.of_keeps fun b o z1 z2 => ?_, ?_⟩
   · obtain ⟨sl, hs⟩ := p1.2.2 b o z1
     exact ⟨_, keep b _ (noR b o z1 z2) hs, rfl⟩
   · refine ⟨_, _, g1.objs.size, oT, ([head, .ref L, .none, rawInt L, .none] ++ (if pl.isEmpty then List.replicate 6 Value.none else pl)).toArray, Heap.get?_update_self _ q2 (Obj.isFreed_of_fields d3), ⟨Obj.cls_mapFields _ _, dict_mapF _ _⟩, d3, by simp [hsz], k1.fresh, hne, ?_, by rw [← hT], by first | (simp; done) | (rcases hpl with rfl | ⟨_, _, _, _, _, _, _, rfl⟩ <;> simp)⟩
     rw [Heap.get?_update_other _ _ (Ne.symm hne)]
     exact Heap.get?_push_size g1 (by rw [← hT]; rfl)
 · intro b o z1 z2
   obtain ⟨sl, hs⟩ := p1.2.2 b o z1
   exact ⟨sl, keep b _ (noR b o z1 z2) hs⟩
theorem noteFirstD {base : Heap} {env : Env} {outer : List Env} {L e : Addr} {oe : Obj} {vs : Array Value} {Q : Unit → Shared → Prop}
   (hfr : A.frames = some (env :: outer)) (hl : s.heap.FunFrames base (env :: outer)) (hf : env.frame = some L)
   (he : s.heap.get? e = some oe) (hkb : base.StaysIn s.heap) (hen : base.get? e = none) (hd : oe.data = .fields vs) (h1 : vs[1]? = some .none)
   (h : ∀ h', FlyD base (env :: outer) e oe.cls oe.dict (rawInt L) h' → s.heap.UpToSlots h' → Q () { s with heap := h' }) : wpAny M A (noteFrame (.ref e) env) Q E s := by
 unfold noteFrame
 simp only [hf]
 refine wpAny_bind (wpAny_field he hd h1 ?_)
 rw [if_neg (by decide)]
 exact entryD hfr hl hf he hkb hen hd (Array.getElem?_eq_some_iff.mp h1).1 h
theorem noteOnD {base : Heap} {env : Env} {outer : List Env} {L e : Addr} {cls : Value} {dct : Option Addr} {Q : Unit → Shared → Prop}
   (hfr : A.frames = some (env :: outer)) (hf : env.frame = some L) (x : FlyD base (env :: outer) e cls dct .none s.heap)
   (h : ∀ h', FlyD base (env :: outer) e cls dct (rawInt L) h' → s.heap.UpToSlots h' → Q () { s with heap := h' }) : wpAny M A (noteFrame (.ref e) env) Q E s := by
 obtain ⟨hkb, hen, hl, oe, vs, T, oT, ts, he, ⟨hc, hdc⟩, hd, h1, hnT, hTe, hT, hdT, h3⟩ := x
 subst hc hdc
 unfold noteFrame
 simp only [hf]
 refine wpAny_bind (wpAny_field he hd h1 ?_)
 rw [if_pos (show (Value.ref T != Value.none) = true from by simp)]
 refine wpAny_bind (wpAny_field hT hdT h3 ?_)
 rw [if_neg (show ¬ ((Value.none == rawInt L) = true) from by simp [rawInt])]
 refine wpAny_bind (wpAny_setField hT hdT (Array.getElem?_eq_some_iff.mp h3).1 ?_)
 have oth : ∀ b, b ≠ T → (s.heap.update T (Obj.mapFields (·.setIfInBounds 3 Value.none))).get? b = s.heap.get? b := fun b z => Heap.get?_update_other _ _ (Ne.symm z)
 have noR : ∀ b o, s.heap.get? b = some o → (∀ vs, o.data ≠ .fields vs) → b ≠ T := fun b o z1 z2 q => by
   rw [q, hT] at z1; injection z1 with z1; subst z1; exact z2 ts hdT
 refine entryD (oe := oe) (vs := vs) hfr (hl.of_keeps fun b o z1 z2 => ⟨o, (oth b (noR b o z1 z2)).trans z1, rfl⟩) hf ((oth e (Ne.symm hTe)).trans he)
   (fun b o z => (oth b fun q => by rw [q, hnT] at z; cases z).trans (hkb b o z)) hen hd (Array.getElem?_eq_some_iff.mp h1).1
   fun h' x1 x2 => h h' x1 fun b o z1 z2 => x2 b o ((oth b (noR b o z1 z2)).trans z1) z2
theorem flightD {base : Heap} {l : List Env} {e : Addr} {cls fl : Value} {dct : Option Addr} {Q : Unit → Shared → Prop} (x : FlyD base l e cls dct fl s.heap)
   (h : ∀ h', FlyD base l e cls dct .none h' → s.heap.UpToSlots h' → Q () { s with heap := h' }) : wpAny M A (setFlight (.ref e) none) Q E s := by
 obtain ⟨hkb, hen, hl, oe, vs, T, oT, ts, he, hc, hd, h1, hnT, hTe, hT, hdT, h3⟩ := x
 have z3 : 3 < ts.size := (Array.getElem?_eq_some_iff.mp h3).1
 have oth : ∀ b, b ≠ T → (s.heap.update T (Obj.mapFields (·.setIfInBounds 3 ((none : Option Addr).elim Value.none fun f => rawInt f)))).get? b = s.heap.get? b :=
   fun b z => Heap.get?_update_other _ _ (Ne.symm z)
 have noR : ∀ b o, s.heap.get? b = some o → (∀ vs, o.data ≠ .fields vs) → b ≠ T := fun b o z1 z2 q => by
   rw [q, hT] at z1; injection z1 with z1; subst z1; exact z2 ts hdT
 unfold setFlight
 refine wpAny_bind (wpAny_field he hd h1 ?_)
 rw [if_pos (show (Value.ref T != Value.none) = true from by simp)]
 refine wpAny_setField hT hdT z3 (h _ ⟨fun b o z => (oth b fun q => by rw [q, hnT] at z; cases z).trans (hkb b o z), hen,
   hl.of_keeps fun b o z1 z2 => ⟨o, (oth b (noR b o z1 z2)).trans z1, rfl⟩, ?_⟩ fun b o z1 z2 => ⟨o.slots, (oth b (noR b o z1 z2)).trans z1⟩)
 exact ⟨oe, vs, T, _, _, (oth e (Ne.symm hTe)).trans he, hc, hd, h1, hnT, hTe, Heap.get?_update_self _ hT (Obj.isFreed_of_fields (Obj.data_mapFields hdT _)), Obj.data_mapFields hdT _, by simp [z3]⟩
theorem FlyD.less {base h : Heap} {env : Env} {l : List Env} {e : Addr} {cls fl : Value} {dct : Option Addr} (x : FlyD base (env :: l) e cls dct fl h) : FlyD base l e cls dct fl h := by
 obtain ⟨a, b, ⟨_, _, c⟩, d⟩ := x
 exact ⟨a, b, c, d⟩
theorem leaveFirstD {base : Heap} {env : Env} {outer : List Env} {L e : Addr} {oe : Obj} {vs : Array Value} {Q : Unit → Shared → Prop}
   (hfr : A.frames = some (env :: outer)) (hl : s.heap.FunFrames base (env :: outer)) (hf : env.frame = some L)
   (he : s.heap.get? e = some oe) (hkb : base.StaysIn s.heap) (hen : base.get? e = none) (hd : oe.data = .fields vs) (h1 : vs[1]? = some .none)
   (h : ∀ h', FlyD base outer e oe.cls oe.dict .none h' → s.heap.UpToSlots h' → Q () { s with heap := h' }) : wpAny M A (leaving env (.ref e)) Q E s := by
 unfold leaving
 refine wpAny_bind (noteFirstD hfr hl hf he hkb hen hd h1 fun g1 x1 u1 => ?_)
 refine flightD (s := { s with heap := g1 }) x1 fun g2 x2 u2 => ?_
 exact h g2 x2.less (u1.trans u2)
theorem leaveOnD {base : Heap} {env : Env} {outer : List Env} {L e : Addr} {cls : Value} {dct : Option Addr} {Q : Unit → Shared → Prop}
   (hfr : A.frames = some (env :: outer)) (hf : env.frame = some L) (x : FlyD base (env :: outer) e cls dct .none s.heap)
   (h : ∀ h', FlyD base outer e cls dct .none h' → s.heap.UpToSlots h' → Q () { s with heap := h' }) : wpAny M A (leaving env (.ref e)) Q E s := by
 unfold leaving
 refine wpAny_bind (noteOnD hfr hf x fun g1 x1 u1 => ?_)
 refine flightD (s := { s with heap := g1 }) x1 fun g2 x2 u2 => ?_
 exact h g2 x2.less (u1.trans u2)
end
end L2
namespace L2
open PySem PySem.Spec PyProof.Rows PySem.Calls
structure XUn (outer : List Env) (H H' : Hp) (h B h1 : Heap) : Prop where
 keepB : ∀ b o, h.get? b = some o → H b = none → b ∉ frs outer → B.get? b = some o
 thereB : ∀ b o, h.get? b = some o → b ∉ frs outer → ∃ o', B.get? b = some o'
 slot : ∀ b o, h.get? b = some o → H b = none → b ∈ frs outer → ∃ sl, h1.get? b = some { o with slots := sl }
 free : ∀ b o, h.get? b = some o → H b = none → H' b = none
 tups : ∀ b xs, H b = some (.tup xs) → H' b = some (.tup xs)
 frzs : ∀ b o u, H b = some (.frz o u) → H' b = some (.frz o u)
 tbls : ∀ b ps, H b = some (.tbl ps) → ∃ more, H' b = some (.tbl (ps ++ more))
theorem XUn.step {outer : List Env} {H H' : Hp} {h B h1 h2 base : Heap} (x : XUn outer H H' h B h1) (fr : h1.FunFrames base outer) (up : h1.UpToSlots h2) : XUn outer H H' h B h2 :=
 ⟨x.keepB, x.thereB, fun b o e n hb => by
   obtain ⟨sl, q⟩ := x.slot b o e n hb
   obtain ⟨_, o', ho', hd'⟩ := fr.mem hb
   rw [q] at ho'; cases ho'
   obtain ⟨sl', q'⟩ := up b _ q hd'
   exact ⟨sl', q'⟩, x.free, x.tups, x.frzs, x.tbls⟩
theorem XUn.un {outer : List Env} {H H' : Hp} {h B h1 : Heap} (x : XUn outer H H' h B h1) (st : B.StaysIn h1) (fr : h1.FunFrames B outer) : Un (frs outer) [] H H' h h1 :=
 ⟨fun b o e n hb _ => st b o (x.keepB b o e n hb), fun b o e n hb _ => x.slot b o e n hb, fun b o e n _ => x.free b o e n, fun b o e _ => by
   by_cases hb : b ∈ frs outer
   · obtain ⟨_, o', ho', _⟩ := fr.mem hb
     exact ⟨o', ho'⟩
   · obtain ⟨o', q⟩ := x.thereB b o e hb
     exact ⟨o', st b o' q⟩, x.tups, x.frzs, x.tbls⟩
def CXW (P : Program) (w : World) : CXT := fun outer H s E e s' =>
 ∃ (ea : Addr) (cls : Value) (dct : Option Addr) (H' : Hp) (B : Heap), e = .ref ea ∧ FlyD B outer ea cls dct .none s'.heap ∧ s'.os = s.os ∧ AllBare s'.gens ∧ HOk P w H' B ∧ XUn outer H H' s.heap B s'.heap ∧ E cls dct H'
section
variable {P : Program} {w : World} {K : PySem.W.Frag} {mg : Str → Option Value} {base : Heap} {N : List Str} {qual : Str} {scope : Scope} {f : Addr} {cdv : Value} {A : Around} {outer : List Env} {s : Shared} {H : Hp} {E : XK}
theorem passX : Passes (CXW P w) (cxOf (CXW P w) P w K mg base N qual scope f cdv A outer s H E) E := by
 intro pins σ H1 s1 e s' I h
 obtain ⟨ea, cls, dct, H', B, rfl, fl, os, bare, hok, x, hE⟩ := h
 show wpAny (model P w) _ (leaving (envOfC qual scope s.heap.objs.size f cdv) (.ref ea)) _ _ _
 have noL : ∀ b o, s.heap.get? b = some o → b ∉ frs outer → b ∉ frs (cxOf (CXW P w) P w K mg base N qual scope f cdv A outer s H E).stack := fun b o q n z => by
   rcases List.mem_cons.mp (I.stkSub b z) with z | z
   · have : b < s.heap.objs.size := Heap.lt_size q
     have a := I.ok.above
     rw [← z] at a
     exact absurd (Nat.lt_of_lt_of_le this a) (Nat.lt_irrefl _)
   · exact n z
 refine leaveOnD (outer := outer) I.ok.frames rfl fl fun h2 fl2 up => ?_
 have x2 := x.step fl.2.2.1 up
 refine ⟨ea, cls, dct, H', B, rfl, fl2, os.trans I.os, bare, hok, ⟨fun b o q n hb => ?_, fun b o q hb => ?_, fun b o q n hb => ?_, fun b o q n => ?_, fun b xs q => x.tups b xs (I.base.tups b xs q), fun b o u q => x.frzs b o u (I.base.frzs b o u q), fun b ps q => ?_⟩, hE⟩
 · exact x.keepB b o (I.base.keep b o q n hb (fun z => nomatch z)) (I.base.free b o q n (fun z => nomatch z)) (noL b o q hb)
 · obtain ⟨o', q'⟩ := I.base.there b o q (fun z => nomatch z)
   exact x.thereB b o' q' (noL b o q hb)
 · obtain ⟨sl, q'⟩ := I.base.slot b o q n hb (fun z => nomatch z)
   obtain ⟨sl', q2⟩ := x2.slot b _ q' (I.base.free b o q n (fun z => nomatch z)) (by
     obtain ⟨env, he, hf⟩ := List.mem_filterMap.mp hb
     exact List.mem_filterMap.mpr ⟨env, List.mem_cons_of_mem _ he, hf⟩)
   exact ⟨sl', q2⟩
 · obtain ⟨o', q'⟩ := I.base.there b o q (fun z => nomatch z)
   exact x.free b o' q' (I.base.free b o q n (fun z => nomatch z))
 · obtain ⟨m1, e1⟩ := I.base.tbls b ps q
   obtain ⟨m2, e2⟩ := x.tbls b _ e1
   exact ⟨m1 ++ m2, by rw [e2, Array.append_assoc]⟩
end
section
variable {P : Program} {w : World} {K : PySem.W.Frag} {mg : Str → Option Value} {base : Heap}
theorem Fun.okX {x qual : Str} {st : Stmt} {f : Addr} {fd : FuncData} {N ps : List Str} {k : Nat} {sp : Sp} (F : Fun K x qual st f fd) (S : FnScope N ps (defScope st)) (len : ∀ vs H Q E, sp vs H Q E → vs.length = ps.length)
   (hbody : ∀ (cdv : Value) (A : Around) (outer : List Env) (s : Shared) (H : Hp) (vs : List V) (Q : VK) (E : XK), Room k (A.deeper (envOfC qual (defScope st) s.heap.objs.size f cdv)) → sp vs H Q E →
     ∃ t, PSs (cxOf (CXW P w) P w K mg base N qual (defScope st) f cdv A outer s H E) (defBody st) t ∧ t { nx := fun _ H' => Q .non H', rt := Q } (start N vs) H) : FnOk P w K mg base (CXW P w) (k + 1) f fd ps sp := by
 obtain ⟨oc, od, kV, doc, pm, an, cdv, ct, osl, rfl, lk, hcd⟩ := F.ex
 exact fn_of lk hcd S len fun A outer s H vs Q E hr hsp => hbody cdv A outer s H vs Q E hr hsp
end
end L2
namespace L2
open PySem PySem.Spec PyProof.Rows PySem.Calls PySem.W PySem.Builtin PySem.Builtin.ObjectAttr PySem.Builtin.Getset_descriptor
section
variable {prog : Program} {w : World} {A : Around} {E : Value → Shared → Prop} {s : Shared} {K : PySem.W.Frag} {x D : Addr}
def ClsAt (h : Heap) (x D : Addr) : Prop := ∃ o, h.get? x = some o ∧ o.cls = .ref D
theorem ClsAt.type {M : Model} {h : Heap} (p : ClsAt h x D) : Looks M h (typeOf (.ref x)) (.ref D) := by
 obtain ⟨o, e, c⟩ := p
 exact c ▸ (Looks.ld e).andThen .now
theorem looks_data {M : Model} {h : Heap} {name : Str} {a g : Value} (X : K.In h) (hf : findIn K (.ref D) name = some (some a)) (hg : specialIn K a "__get__" = some (some g)) (ht : takesIn K a = some true) : Looks M h (find (.ref x) (.ref D) name) (.bind g a) := by
 have l1 := looks_findIn (M := M) X hf
 have l2 : Looks M h (getOf (some a)) (some g) := looks_specialIn X hg
 have l3 := looks_takesIn (M := M) X ht
 refine l1.andThen (l2.andThen ?_)
 have l4 : Looks M h (dataDescriptor? (some a) (some g)) (some (g, a)) := l3.andThen .now
 exact l4.andThen (Looks.tag .now)
structure ExcCls (K : PySem.W.Frag) (D : Addr) : Prop where
 ga : findIn K (.ref D) "__getattribute__" = some (some (.builtin "BaseException.__getattribute__"))
 gk : findIn K (.ref D) "__getattr__" = some none
 cl : (clsIn K D).isSome = true
 ha : findIn K (.ref D) "__class__" = some (some (.builtin "object.__class__"))
 hn : specialIn K (.builtin "object.__class__") "__get__" = some (some (.builtin "getset_descriptor.__get__"))
 tk : takesIn K (.builtin "object.__class__") = some true
 mo : mroIn K D (.type "object") = some true
 mb : mroIn K D (.type "BaseException") = some true
theorem class_get {R : Result → Shared → Prop} (c : ExcCls K D) (X : K.In s.heap) (p : ClsAt s.heap x D) (q : R (.ok (.ret (.ref D))) s) :
   codeAny (model prog w) A (.call (.builtin "getset_descriptor.__get__") ⟨[.builtin "object.__class__", .ref x, .ref D], []⟩) R s := by
 obtain ⟨hh, g, d, t, os⟩ := s
 obtain ⟨o, eo, ec⟩ := id p
 have t0 := p.type (M := model prog w)
 have l1 := looks_mroIn (M := model prog w) X c.mo
 have arg0 := KF.args_gs (Value.builtin "object.__class__") (Value.ref x) (Value.ref D)
 refine codeAny_call_builtin KF.slot_gs.plain KF.entry_gs
   (KF.slot_gs.check _ _ _ _ _ _ _ _ KF.type_class arg0 ?_)
 unfold Builtin.«getset_descriptor.__get__»
   descrGet
 rw [dga_obj]; refine wpAny_bind (wpAny_pure ?_)
 unfold descrGetter descrCheckInstance
   descrNameAndClass isInstance
 simp only [KF.owner_class]; (repeat lk)
 refine ⟨Code.quiet_builtin _
   (by symm), codeAny_builtin KF.entry_class ?_⟩
 unfold Builtin.«object.__class__»
   shownTypeOf
 (repeat lk); exact q
theorem class_call {tk : Tok} {R : Result → Shared → Prop} (c : ExcCls K D) (X : K.In s.heap) (p : ClsAt s.heap x D) (q : R (.ok (.ret (.ref D))) s) :
   codeAny (model prog w) A (.call (.builtin "BaseException.__getattribute__") ⟨[.ref x, .str "__class__" tk], []⟩) R s := by
 obtain ⟨hh, g, d, t, os⟩ := s
 obtain ⟨o, eo, ec⟩ := id p
 have t0 := p.type (M := model prog w)
 have lb := looks_mroIn (M := model prog w) X c.mb
 have f0 := looks_data (x := x) (M := model prog w) X c.ha c.hn c.tk
 have hk : builtinKind "BaseException.__getattribute__" = some .slot := by symm
 have hsplit : splitId "BaseException.__getattribute__" = some ("BaseException", "__getattribute__") := by symm
 have ha := F.args_bexc_ga (.ref x) (.str "__class__" tk)
 refine codeAny_call_builtin F.excAttr_ValueError.ga.plain F.entry_bexc_ga ?_
 simp only [checkBuiltinCall, hk, hsplit]
 unfold isInstance
 refine wpAny_bind ?_
 (repeat (first | (with_reducible refine wpAny_call (class_get c X p ?_)) | lk))
 exact q
theorem class_of {Q : Option Value → Shared → Prop} (c : ExcCls K D) (X : K.In s.heap) (p : ClsAt s.heap x D) (q : Q (some (.ref D)) { s with toks := s.toks + 1 }) : wpAny (model prog w) A (getAttr? (.ref x) "__class__") Q E s := by
 obtain ⟨hh, g, d, t, os⟩ := s
 obtain ⟨o, eo, ec⟩ := id p
 have t0 := p.type (M := model prog w)
 have t1 := looks_findIn (M := model prog w) X c.ga
 have f1 := looks_findIn (M := model prog w) X c.gk
 have f3 := F.excAttr_ValueError.ga.bind (.ref x)
 unfold getAttr? getAttrBy? getAttrBy
 refine wpAny_bind (wpAny_mkText (wpAny_bind (wpAny_attempt (wpAny_holding (wpAny_bind (t0.at (wpAny_bind (t1.at ?_))))))))
 show wpAny _ _ (getAttrByItsOwn _ _ _ _ _ _) _ _ _
 unfold getAttrByItsOwn hookBefore
 refine wpAny_bind (f1.at (wpAny_bind (wpAny_attempt (wpAny_holding ?_))))
 show wpAny _ _ (boundAndCalled _ _ _) _ _ _
 unfold boundAndCalled
 rw [f3]
 refine wpAny_bind (wpAny_pure (wpAny_call ?_))
 refine class_call c (s := ⟨hh, g, d, t + 1, os⟩) X p ?_
 exact wpAny_pure (wpAny_pure q)
theorem kit_exc (c : ExcCls K D) : KitX K (.ref x) (.ref D) (fun h => ClsAt h x D) where
 ty := fun _ _ _ p => p.type
 it := fun _ _ X _ => by
   obtain ⟨cd, e⟩ := Option.isSome_iff_exists.mp c.cl
   unfold clsIn at e
   split at e
   · rename_i c' d' cd' sl' ho
     intro A' Q' E' s' k q
     unfold isType loadHead
     exact wpAny_bind (wpAny_loadPart (k _ _ (X _ _ ho)) (wpAny_pure q))
   · cases e
 ne := fun h tp dd its n sl X htp => by
   obtain ⟨cd, e⟩ := Option.isSome_iff_exists.mp c.cl
   refine Bool.eq_false_iff.mpr fun q => ?_
   have z : D = tp := Value.ref.inj (beq_iff_eq.mp q)
   subst z
   unfold clsIn at e
   split at e
   · rename_i c' d' cd' sl' ho
     have z := (X _ _ ho).symm.trans htp
     cases z
   · cases e
 ca := fun X p k => class_of c X p k
end
def excO (a D : Addr) : HO := .ext fun h => ClsAt h a D
def excD (a D dx : Addr) : HO := .ext fun h => ∃ o, h.get? a = some o ∧ o.cls = .ref D ∧ o.dict = some dx ∧ ∃ vs, o.data = .fields vs
def excA (a D : Addr) : Option Addr → HO
 | none => excO a D
 | some dx => excD a D dx
inductive TyE (K : PySem.W.Frag) (H : Hp) : V → Value → Prop where
 | old {x : V} {t : Value} (h : TyOf K H x t) : TyE K H x t
 | exc {a D : Addr} (h : H a = some (excO a D)) (c : ExcCls K D) : TyE K H (.ref a) (.ref D)
 | tpl {a : Addr} {xs : List V} (h : SqT K H a xs) : TyE K H (.ref a) (.type "tuple")
 | excd {a D dx : Addr} (h : H a = some (excD a D dx)) (c : ExcCls K D) : TyE K H (.ref a) (.ref D)
def vVal : V → Value
 | .ref a => .ref a
 | .ty n => .type n
 | _ => .none
def isCls : V → Bool
 | .ref _ => true
 | .ty _ => true
 | _ => false
section
variable {X : Cx} {pins : List (Addr × Obj)} {σ : St} {H : Hp} {s : Shared} {A : Around} {E : Value → Shared → Prop} {Q : Value → Shared → Prop} {c : Value} {b : Bool}
theorem kit_of {x : V} {u t : Value} (I : Inv X pins σ H s) (rx : RelV x u) (ty : TyE X.K H x t) : (∃ P : Heap → Prop, KitX X.K u t P ∧ P s.heap) ∧ u ≠ .builtin "__main__.__loader__#opaque" := by
 cases ty with
 | @tpl a xs h =>
   cases (show u = Value.ref a from rx)
   obtain ⟨its, r, pl, hz⟩ := I.tuple h
   obtain ⟨o, h1, h2, _⟩ := pl
   exact ⟨⟨_, kitx_tuple, ⟨o, h1, h2⟩⟩, fun z => nomatch z⟩
 | old ty =>
   cases ty with
   | non => cases (show u = Value.none from rx); exact ⟨⟨_, kitx_none, True.intro⟩, fun z => nomatch z⟩
   | bl y => cases (show u = Value.bool y from rx); exact ⟨⟨_, kitx_bool, True.intro⟩, fun z => nomatch z⟩
   | int i => obtain ⟨t, q⟩ := (show ∃ t, u = Value.int i t from rx); cases q; exact ⟨⟨_, kitx_int, True.intro⟩, fun z => nomatch z⟩
   | str y => obtain ⟨t, q⟩ := (show ∃ t, u = Value.str y t from rx); cases q; exact ⟨⟨_, kitx_str, True.intro⟩, fun z => nomatch z⟩
   | flt y => obtain ⟨t, q⟩ := (show ∃ t, u = Value.float y t from rx); cases q; exact ⟨⟨_, kitx_float, True.intro⟩, fun z => nomatch z⟩
   | @lst a xs ea =>
     cases (show u = Value.ref a from rx)
     obtain ⟨_, _, n, _, h1⟩ := (show ObjOk X.prog X.w H s.heap a (.lst xs) from I.hok a _ ea)
     exact ⟨⟨_, kitx_list, ⟨_, h1, rfl⟩⟩, fun z => nomatch z⟩
   | @frz a ob xs ea =>
     cases (show u = Value.ref a from rx)
     obtain ⟨_, _, _, n, _, h1⟩ := (show ObjOk X.prog X.w H s.heap a (.frz ob (.lst xs)) from I.hok a _ ea)
     exact ⟨⟨_, kitx_list, ⟨_, h1, rfl⟩⟩, fun z => nomatch z⟩
   | @tup a xs ea =>
     cases (show u = Value.ref a from rx)
     obtain ⟨_, _, _, p⟩ := (show ObjOk X.prog X.w H s.heap a (.tup xs) from I.hok a _ ea)
     obtain ⟨o, h1, h2, _⟩ := p
     exact ⟨⟨_, kitx_tuple, ⟨o, h1, h2⟩⟩, fun z => nomatch z⟩
   | @dK a kvs ea =>
     cases (show u = Value.ref a from rx)
     obtain ⟨_, _, vs, _, p⟩ := (show ObjOk X.prog X.w H s.heap a (.dK kvs) from I.hok a _ ea)
     obtain ⟨o, es, ep, h1, h2, _⟩ := p
     exact ⟨⟨_, kitx_dict, ⟨o, h1, h2.1⟩⟩, fun z => nomatch z⟩
   | @dT a kvs ea =>
     cases (show u = Value.ref a from rx)
     obtain ⟨_, _, xs, _, o, es, ep, h1, h2, _⟩ := (show ObjOk X.prog X.w H s.heap a (.dT kvs) from I.hok a _ ea)
     exact ⟨⟨_, kitx_dict, ⟨o, h1, h2.1⟩⟩, fun z => nomatch z⟩
   | @ins a C dx fs ea cl ha hn htk hm =>
     cases (show u = Value.ref a from rx)
     obtain ⟨mA, O, _⟩ := ins_get I.hok ea
     obtain ⟨od, J, _⟩ := O.look
     exact ⟨⟨_, kitx_own (cl.get _) cl.hd ha hn htk hm, J⟩, fun z => nomatch z⟩
 | @exc a D h c =>
   cases (show u = Value.ref a from rx)
   obtain ⟨p, _⟩ := (show ObjOk X.prog X.w H s.heap a (excO a D) from I.hok a _ h)
   exact ⟨⟨_, kit_exc c, p⟩, fun z => nomatch z⟩
 | @excd a D dx h c =>
   cases (show u = Value.ref a from rx)
   obtain ⟨⟨o, e, k, _⟩, _⟩ := (show ObjOk X.prog X.w H s.heap a (excD a D dx) from I.hok a _ h)
   exact ⟨⟨_, kit_exc c, ⟨o, e, k⟩⟩, fun z => nomatch z⟩
theorem vVal_rel {x : V} {u : Value} (h : isCls x = true) (r : RelV x u) : u = vVal x := by
 cases x with
 | ref a => exact r
 | ty n => exact r
 | _ => cases h
theorem vVals_rel : ∀ {xs : List V} {us : List Value}, xs.all isCls = true → Vals xs us → us = xs.map vVal
 | [], _, _, .nil => rfl
 | x :: xs, _, h, .cons r rs => by
   rw [List.all_cons, Bool.and_eq_true] at h
   rw [vVal_rel h.1 r, vVals_rel h.2 rs]; rfl
theorem zZ : CallR X (.builtin "isinstance") (fun xs H Q => ∃ x y t b, xs = [x, y] ∧ isCls y = true ∧ TyE X.K H x t ∧ PySem.W.kitOne X.K t (vVal y) = some b ∧ Q (.bl b) H) := by
 intro pins s σ H xs us Q I r h
 obtain ⟨x, y, t, b, rfl, hc, ty, e, q⟩ := h
 obtain ⟨u, w', rfl, rx, ry⟩ := vals2 r
 obtain rfl := vVal_rel hc ry
 obtain ⟨⟨P, Z, p⟩, nb⟩ := kit_of I rx ty
 exact kia_one Z I.kIn p e nb fun tk => ⟨.bl b, H, I.tok _, rfl, q⟩
theorem call_isiT : CallR X (.builtin "isinstance") (fun xs H Q => ∃ x tp cs t b, xs = [x, .ref tp] ∧ H tp = some (.tup cs) ∧ cs.all isCls = true ∧ TyE X.K H x t ∧ PySem.W.kitAny X.K t (cs.map vVal) = some b ∧ Q (.bl b) H) := by
 intro pins s σ H xs us Q I r h
 obtain ⟨x, tp, cs, t, b, rfl, ht, hc, ty, e, q⟩ := h
 obtain ⟨u, w', rfl, rx, ry⟩ := vals2 r
 cases ry
 obtain ⟨⟨P, Z, p⟩, nb⟩ := kit_of I rx ty
 obtain ⟨_, its, rv, o, ho, hcl, n, hd⟩ := (show ObjOk X.prog X.w H s.heap tp (.tup cs) from I.hok tp _ ht)
 obtain rfl := vVals_rel hc rv
 obtain ⟨oc, od, oda, osl⟩ := o
 dsimp only at hcl hd
 subst hcl hd
 exact kia_tup Z I.kIn p ho e nb fun tk => ⟨.bl b, H, I.tok _, rfl, q⟩
end
end L2
namespace L2
open PySem PySem.Spec PyProof.Rows PySem.Calls PySem.W
abbrev mroVE : List Value := [.type "ValueError", .type "Exception", .type "BaseException", .type "object"]
section
variable {P : Program} {w : World} {K : PySem.W.Frag} {mg : Str → Option Value} {base : Heap} {N : List Str} {qual : Str} {scope : Scope} {f : Addr} {cdv : Value} {A : Around} {outer : List Env} {s : Shared} {H : Hp} {E : XK}
end
def CXAt (X : Cx) (pins : List (Addr × Obj)) (σ : St) (E : XK) (e : Value) (s' : Shared) : Prop := ∃ H1 s1, Inv X pins σ H1 s1 ∧ CXW X.prog X.w X.stack H1 s1 E e s'
abbrev TEx := St → Hp → VK → XK → Prop
abbrev TSx := Ends → (St → XK) → St → Hp → Prop
def PEx (X : Cx) (e : Expr) (t : TEx) : Prop :=
 ∀ (pins : List (Addr × Obj)) (s : Shared) (σ : St) (H : Hp) (Q : VK) (E : XK), Inv X pins σ H s → t σ H Q E → wpAny (model X.prog X.w) X.A (eval e X.env) (EP X pins σ Q) (CXAt X pins σ E) s
def PSx (X : Cx) (st : Stmt) (t : TSx) : Prop :=
 ∀ (pins : List (Addr × Obj)) (s : Shared) (σ : St) (H : Hp) (D : Ends) (E : St → XK), Inv X pins σ H s → t D E σ H → wpAny (model X.prog X.w) X.A (exec st X.env) (SP X pins D) (fun e s' => ∃ σ', CXAt X pins σ' (E σ') e s') s
def PSsx (X : Cx) (st : List Stmt) (t : TSx) : Prop :=
 ∀ (pins : List (Addr × Obj)) (s : Shared) (σ : St) (H : Hp) (D : Ends) (E : St → XK), Inv X pins σ H s → t D E σ H → wpAny (model X.prog X.w) X.A (execs st X.env) (SP X pins D) (fun e s' => ∃ σ', CXAt X pins σ' (E σ') e s') s
section
variable {X : Cx} {k : Nat} {f C : Addr} {fd : FuncData} {ps : List Str} {sp : Sp} {dvs : List V} {ds : List Value} {x m : Str} {p pos apos : Pos} {e o : Expr} {es : List Expr} {ta : TE} {t : TA}
theorem PA.nox {es : List Expr} {t : TA} (h : PA X.nox es t) (E : Value → Shared → Prop) {pos : Pos} {pins : List (Addr × Obj)} {s : Shared} {σ : St} {H : Hp} {Q : List V → Hp → Prop} (I : Inv X pins σ H s) (q : t σ H Q) :
   wpAny (model X.prog X.w) X.A (spliced (backTo pos (starEach es X.env))) (AP X pins σ Q) E s :=
 wpAny_mono (h pos pins s σ H Q (I.wish _) q) (fun _ _ ⟨vs, H', I', r, q⟩ => ⟨vs, H', I'.unwish, r, q⟩) fun _ _ z => False.elim z
theorem PE.noxE {e : Expr} {t : TE} (h : PE X.nox e t) (E : Value → Shared → Prop) {pins : List (Addr × Obj)} {s : Shared} {σ : St} {H : Hp} {Q : VK} (I : Inv X pins σ H s) (q : t σ H Q) :
   wpAny (model X.prog X.w) X.A (eval e X.env) (EP X pins σ Q) E s :=
 wpAny_mono (h pins s σ H Q (I.wish _) q) (fun _ _ ⟨v, H', I', r, q⟩ => ⟨v, H', I'.unwish, r, q⟩) fun _ _ z => False.elim z
theorem run_fnx {pins : List (Addr × Obj)} {σ : St} {H : Hp} {s : Shared} {Q : VK} {E : XK} {us : List Value} {vs : List V} (F : FnOk X.prog X.w X.K X.mg X.base (CXW X.prog X.w) k f fd ps sp) (hr : Room k X.A) (hb : Binds X.K fd ps ds) (hd : Vals dvs ds)
   (I : Inv X pins σ H s) (r : Vals vs us) (h : sp (vs ++ dvs) H Q E) : wpAny (model X.prog X.w) X.A (call (.ref f) us) (EP X pins σ Q) (CXAt X pins σ E) s := by
 have r2 : Vals (vs ++ dvs) (us ++ ds) := r.append hd
 have hl : (us ++ ds).length = ps.length := by rw [← r2.length]; exact F.len _ _ _ _ h
 refine wpAny_call (codeAny_mono (F.run X.A X.stack s H ⟨us, []⟩ (us ++ ds) (vs ++ dvs) Q E hr I.env0 (hb s us I.kIn hl) r2 h) fun r s' hq => ?_)
 cases r with
 | error e => exact ⟨H, s, I, hq⟩
 | ok fl =>
   cases fl with
   | ret u => exact I.after hq
   | next => exact False.elim hq
   | brk => exact False.elim hq
   | cont => exact False.elim hq
theorem psx_one {st : Stmt} {t : TSx} (h1 : PSx X st t) : PSsx X [st] t := by
 intro pins s σ H D E I h
 refine wpAny_execs_cons (wpAny_mono (h1 pins s σ H D E I h) (fun f s1 q => ?_) fun _ _ z => z)
 cases f with
 | next => exact wpAny_execs_nil q
 | ret v => exact q
 | brk => exact q
 | cont => exact q
end
def hcx (X : Cx) (e : Addr) : Cx := { X with A := X.A.mark (some (.ref e)), calm := false, xe := fun _ _ => False }
theorem hcx_in {X : Cx} {e : Addr} {pins : List (Addr × Obj)} {σ : St} {H : Hp} {s : Shared} (I : Inv X pins σ H s) : Inv (hcx X e) pins σ H s := by
 obtain ⟨ok, os, bare, bs, loc, cell, free, freeC, pin, hok, len⟩ := I
 exact ⟨⟨ok.mod, ok.kind, ok.glob, ok.blt, ok.above, ok.inj, ok.has, ok.cab, fun z => Bool.noConfusion (show false = true from z), ok.frames, ok.stk, ok.exf, ok.bs, ok.bsz, ok.noex, ok.exfs, ok.funs, ok.frf⟩, os, bare, bs, loc, cell, free, freeC, pin, hok, len⟩
theorem hcx_out {X : Cx} {e : Addr} (ok : X.Ok) {pins : List (Addr × Obj)} {σ : St} {H : Hp} {s : Shared} (I : Inv (hcx X e) pins σ H s) : Inv X pins σ H s := by
 obtain ⟨_, os, bare, bs, loc, cell, free, freeC, pin, hok, len⟩ := I
 exact ⟨ok, os, bare, bs, loc, cell, free, freeC, pin, hok, len⟩
theorem hcx_sp {X : Cx} {e : Addr} (ok : X.Ok) {pins : List (Addr × Obj)} {D : Ends} {f : Flow} {s : Shared} (h : SP (hcx X e) pins D f s) : SP X pins D f s := by
 cases f with
 | next => obtain ⟨σ', H', I, q⟩ := h; exact ⟨σ', H', hcx_out ok I, q⟩
 | brk => obtain ⟨σ', H', I, q⟩ := h; exact ⟨σ', H', hcx_out ok I, q⟩
 | cont => obtain ⟨σ', H', I, q⟩ := h; exact ⟨σ', H', hcx_out ok I, q⟩
 | ret u => obtain ⟨v, σ', H', I, r, q⟩ := h; exact ⟨v, σ', H', hcx_out ok I, r, q⟩
section
variable {X : Cx} {body suite : List Stmt} {b₀ : Stmt} {x : Str} {C : Addr} {np hpos pos : Pos} {tb : TSx} {th : TS}
end
end L2
namespace L2
open PySem PySem.Spec PyProof.Rows PySem.Calls PySem.W
section
variable {X : Cx} {pins : List (Addr × Obj)} {σ : St} {H : Hp} {s : Shared}
theorem Inv.trackN {a : Addr} {o : HO} (I : Inv X pins σ H s) (f0 : H a = none) (old : ∀ b ob, X.s₀.heap.get? b = some ob → b ≠ a) (f1 : X.env.locals ≠ a) (f4 : ∀ x c, X.env.cells.lookup x = some c → c ≠ a) (f5 : ∀ p ∈ X.pn ++ pins, p.1 ≠ a)
   (new : ObjOk X.prog X.w (upd H a o) s.heap a o) : Inv X pins σ (upd H a o) s := by
 refine ⟨I.ok, I.os, I.bare, ⟨I.base.keep, I.base.slot, fun b ob e n hx => ?_, I.base.there, fun b xs e => ?_, fun b ob u e => ?_, fun b ps e => ?_⟩, I.loc, I.cell, ?_, fun x c e => ?_, fun p hp => ?_, fun b u e => ?_, I.len⟩
 · rw [zJ (old b ob e)]; exact I.base.free b ob e n hx
 · have q := I.base.tups b xs e; rw [zJ (zN q f0)]; exact q
 · have q := I.base.frzs b ob u e; rw [zJ (zN q f0)]; exact q
 · obtain ⟨more, q⟩ := I.base.tbls b ps e; exact ⟨more, by rw [zJ (zN q f0)]; exact q⟩
 · rw [zJ f1]; exact I.free
 · rw [zJ (f4 x c e)]; exact I.freeC x c e
 · obtain ⟨e, n, ne, nf, d⟩ := I.pin p hp
   exact ⟨e, by rw [zJ (f5 p hp)]; exact n, ne, nf, d⟩
 · by_cases hb : b = a
   · subst hb; rw [zB] at e; cases e; exact new
   · rw [zJ hb] at e
     exact (I.hok b u e).stay (fun c v _ q => q) (fun c q => by rw [zJ (zN q f0)]; exact q) fun c xs q => by rw [zJ (zN q f0)]; exact q
theorem name_gone {M : Model} {A : Around} {E : Value → Shared → Prop} {j : Nat} {n : Str} {pos : Pos} {Q : Unit → Shared → Prop} (I : Inv X pins σ H s) (hN : X.N.Nodup) (hj : X.N[j]? = some n) (hl : X.env.scope.names.lookup n = some .local)
   (h : ∀ s', Inv X pins (σ.set j none) H s' → Q () s') : wpAny M A (do bindName X.env n .none; unbindBehindTheSuite X.env n pos) Q E s := by
 obtain ⟨m, hn, lo⟩ := id I.loc
 have hjσ : j < σ.length := by rw [I.len]; exact (List.getElem?_eq_some_iff.mp hj).1
 refine wpAny_nameGoes_keeps hl hn (by rw [I.ok.kind]; rfl) fun h' v hn' sb => h _ ?_
 have cne := I.cne
 have ltL : ∀ b o, X.s₀.heap.get? b = some o → b ≠ X.env.locals := fun b o e => Nat.ne_of_lt (Nat.lt_of_lt_of_le (Heap.lt_size e) I.ok.above)
 refine ⟨I.ok, I.os, I.bare, ⟨fun b o e n hb hx => ?_, fun b o e n hb hx => ?_, I.base.free, fun b o e hx => ?_, I.base.tups, I.base.frzs, I.base.tbls⟩, ⟨_, hn', fun i y v' e1 e2 e3 => ?_⟩, fun y c e => ?_, I.free, I.freeC, fun p hp => ?_, fun b ob e => ?_, ?_⟩
 · exact (sb.2 b (ltL b o e)).trans (I.base.keep b o e n hb hx)
 · obtain ⟨sl, q⟩ := I.base.slot b o e n hb hx
   exact ⟨sl, (sb.2 b (ltL b o e)).trans q⟩
 · obtain ⟨o', q⟩ := I.base.there b o e hx
   exact ⟨o', (sb.2 b (ltL b o e)).trans q⟩
 · by_cases hij : i = j
   · subst hij
     rw [List.getElem?_set_self hjσ] at e2
     cases e2
   · rw [List.getElem?_set_ne (Ne.symm hij)] at e2
     obtain ⟨u', r', q⟩ := lo i y v' e1 e2 e3
     refine ⟨u', r', ?_⟩
     rcases q with ⟨k, e⟩ | ⟨k, c, e, z⟩
     · refine .inl ⟨k, ?_⟩
       have hy : y ≠ n := fun e => hij (nodup_ix hN e1 (e ▸ hj))
       simp [hy, e]
     · exact .inr ⟨k, c, e, z.sameBut sb (cne y c e)⟩
 · obtain ⟨w', z⟩ := I.cell y c e
   exact ⟨w', z.sameBut sb (cne y c e)⟩
 · obtain ⟨e, n, ne, nf, d⟩ := I.pin p hp
   exact ⟨(sb.2 p.1 ne).trans e, n, ne, nf, d⟩
 · refine (I.hok b ob e).stay (fun c w' hc q => (sb.2 c ?_).trans q) (fun _ q => q) fun _ _ q => q
   rintro rfl
   rcases hc with z | z
   · rw [← z, I.free] at e; cases e
   · rw [I.free] at z; cases z
 · rw [List.length_set]; exact I.len
end
section
variable {X : Cx} {body suite : List Stmt} {b₀ : Stmt} {x n : Str} {C : Addr} {np hpos pos : Pos} {tb : TSx} {th : TS} {j : Nat}
def endsAs (D : Ends) (j : Nat) : Ends := { nx := fun σ H => D.nx (σ.set j none) H, rt := D.rt, bk := fun σ H => D.bk (σ.set j none) H, ct := fun σ H => D.ct (σ.set j none) H }
def tTryAs (K : PySem.W.Frag) (C : Addr) (j : Nat) (tb : TSx) (th : TS) : TS := fun D σ H => tb D (fun σ' cls dct H' => ∃ G : Addr, cls = .ref G ∧ PySem.W.exmOne K cls (.ref C) = some true ∧ ∀ ea, H' ea = none → th (endsAs D j) (σ'.set j (some (.ref ea))) (upd H' ea (excA ea G dct))) σ H
theorem ps_tryAs (hN : X.N.Nodup) (hj : X.N[j]? = some n) (hl : X.env.scope.names.lookup n = some .local) (hex : X.ex = []) (hst : X.stack = X.env :: X.outer) (hfr : X.env.frame = some X.env.locals) (hb : PSsx X body tb) (hg : Gl X x) (hm : X.mg x = some (.ref C))
   (hh : ∀ ea, PSs (hcx X ea) (b₀ :: suite) th) (hd : (x == ("__debug__" : Str)) = false := by decide) :
   PS X (.Try body [.ExceptHandler (some (.Name x np)) (some n) (b₀ :: suite) hpos] [] [] pos) (tTryAs X.K C j tb th) := by
 intro pins s σ H D I h
 refine wpAny_Try_except (wpAny_mono (hb pins s σ H D _ I h) (fun f s1 q => ?_) fun e s1 q => ?_)
 · cases f with
   | next => exact wpAny_execs_nil q
   | ret v => exact q
   | brk => exact q
   | cont => exact q
 · obtain ⟨σ', H1, s2, I1, ea, cls, dct, H', B, rfl, fl, os, bare, hok, xu, G, rfl, hx, q⟩ := q
   rw [hst] at fl
   have back : ∀ (h' : Heap) (tk : Nat), B.StaysIn h' → h'.FunFrames B X.stack → XUn X.stack H1 H' s2.heap B h' → Inv X pins σ' H' { s1 with heap := h', toks := tk } := fun h' tk st fr xu' =>
     I1.call' (ch := []) os (xu'.un st fr) (hok.kept st) bare fun b z => nomatch z
   have fr0 : s1.heap.FunFrames B X.stack := by rw [hst]; exact fl.2.2.1
   refine noteOnD (by rw [I.ok.frames, hst]) hfr fl fun h4 held4 up4 => ?_
   have x4 := xu.step fr0 up4
   refine flightD held4 fun h5 fl5 up5 => ?_
   have fr4 : h4.FunFrames B X.stack := by rw [hst]; exact held4.2.2.1
   have x5 := x4.step fr4 up5
   have fr5 : h5.FunFrames B X.stack := by rw [hst]; exact fl5.2.2.1
   have I5 : Inv X pins σ' H' { s1 with heap := h5 } := back h5 s1.toks fl5.1 fr5 x5
   obtain ⟨ob, hob, hobc, -⟩ := fl5.there
   have LT : Looks (model X.prog X.w) h5 (typeOf (.ref ea)) (.ref G) := hobc ▸ (Looks.ld hob).andThen .now
   refine wpAny_handleBy_cons (codeAny_handlers_test ?_) (by intro z; cases z)
   have ld := fun Q E q => ld_glob (X := hcx X ea) (pos := np) (Q := Q) (E := E) (hcx_in I5) hg hm q hd
   refine ld _ _ ?_
   refine (exm_one (M := model X.prog X.w) I5.kIn LT hx).here ?_
   refine codeAny_handlers_suite_as ?_
   refine flightD fl5 fun h6 fl6 up6 => ?_
   have x6 := x5.step fr5 up6
   have fr6 : h6.FunFrames B X.stack := by rw [hst]; exact fl6.2.2.1
   have I6 : Inv X pins σ' H' { s1 with heap := h6 } := back h6 s1.toks fl6.1 fr6 x6
   obtain ⟨oe, eoe, coe, dcoe, vs, doe⟩ := fl6.there
   have nee : ∀ b o, s2.heap.get? b = some o → b ≠ ea := fun b o e z => by
     subst z
     by_cases hbf : b ∈ frs X.stack
     · obtain ⟨_, o', ho', hd'⟩ := fr6.mem hbf
       rw [eoe] at ho'; cases ho'
       exact hd' vs doe
     · obtain ⟨o', q'⟩ := xu.thereB b o e hbf
       rw [fl6.2.1] at q'; cases q'
   have fe : H' ea = none := by
     cases z : H' ea with
     | none => rfl
     | some u =>
       have lt := hok ea u z
       exact absurd lt fun lt => by
         have q' : ∃ o, B.get? ea = some o := by
           cases u with
           | lst xs => obtain ⟨_, _, _, _, e⟩ := lt; exact ⟨_, e⟩
           | tup xs => obtain ⟨_, _, _, o, e, _⟩ := lt; exact ⟨_, e⟩
           | dK kvs => obtain ⟨_, _, _, _, o, _, _, e, _⟩ := lt; exact ⟨_, e⟩
           | dT kvs => obtain ⟨_, _, _, _, o, _, _, e, _⟩ := lt; exact ⟨_, e⟩
           | set S n => obtain ⟨o, _, _, _, e, _⟩ := lt; exact ⟨_, e⟩
           | ins C dx fs => obtain ⟨_, _, _, e, _⟩ := lt; exact ⟨_, e⟩
           | own y => exact lt
           | xd fs => obtain ⟨_, ⟨o, _, _, e, _⟩, _⟩ := lt; exact ⟨_, e⟩
           | rng lo hi => obtain ⟨_, _, _, e⟩ := lt; exact ⟨_, e⟩
           | frz o u => exact ⟨_, lt.1⟩
           | tbl ps => exact ⟨_, lt⟩
           | met f y => exact ⟨_, lt⟩
           | ext φ => exact lt.2.1
         obtain ⟨o, q'⟩ := q'
         rw [fl6.2.1] at q'; cases q'
   have I7 : Inv X pins σ' (upd H' ea (excA ea G dct)) { s1 with heap := h6 } := by
     refine I6.trackN fe (fun b ob' e z => ?_) (fun z => ?_) (fun y c e z => ?_) (fun p hp z => ?_) (by
       cases dct with
       | none => exact ⟨⟨oe, eoe, coe⟩, ⟨oe, eoe⟩, fun h1 h2 ⟨o, e, c⟩ k => ⟨o, k o e, c⟩⟩
       | some dx => exact ⟨⟨oe, eoe, coe, dcoe, vs, doe⟩, ⟨oe, eoe⟩, fun h1 h2 ⟨o, e, c⟩ k => ⟨o, k o e, c⟩⟩)
     · obtain ⟨o', e'⟩ := I1.base.there b ob' e (by rw [hex]; exact fun z => nomatch z)
       exact nee b o' e' z
     · obtain ⟨m, ⟨o, _, _, e, _⟩, _⟩ := I1.loc
       exact nee _ o e z
     · obtain ⟨v, o, e', _⟩ := I1.cell y c e
       exact nee c o e' z
     · exact nee p.1 p.2 (I1.pin p hp).1 z
   refine store_ok (X := hcx X ea) (v := .ref ea) (hcx_in I7) hN hj (.inl hl) rfl (fun s8 I8 => ?_) (.inr hl)
   refine wpAny_mono (hh ea pins s8 _ _ (endsAs D j) I8 (q ea fe)) (fun f s9 q9 => ?_) fun _ _ z => (show False from z).elim
   have q9 := hcx_sp I.ok q9
   cases f with
   | next => obtain ⟨σ9, H9, I9, q9⟩ := q9; exact name_gone I9 hN hj hl fun s' I' => ⟨_, H9, I', q9⟩
   | brk => obtain ⟨σ9, H9, I9, q9⟩ := q9; exact name_gone I9 hN hj hl fun s' I' => ⟨_, H9, I', q9⟩
   | cont => obtain ⟨σ9, H9, I9, q9⟩ := q9; exact name_gone I9 hN hj hl fun s' I' => ⟨_, H9, I', q9⟩
   | ret u => obtain ⟨v, σ9, H9, I9, r9, q9⟩ := q9; exact name_gone I9 hN hj hl fun s' I' => ⟨v, _, H9, I', r9, q9⟩
end
end L2
namespace L2
open PySem PySem.Spec PyProof.Rows PySem.Calls
section
variable {X : Cx}
def repN (l : List Nat) : Nat → List Nat
 | 0 => []
 | k + 1 => repN l k ++ l
theorem repN_len (l : List Nat) : ∀ k, (repN l k).length = k * l.length
 | 0 => by simp [repN]
 | k + 1 => by rw [repN, List.length_append, repN_len l k, Nat.succ_mul]
theorem rep_is (x : Str) (k : Nat) : (⟨(List.replicate k x.cps).foldl (· ++ ·) #[]⟩ : Str) = S (repN (cd x) k) := by
 have g : ∀ k, (List.replicate k x.cps).foldl (· ++ ·) #[] = (repN (cd x) k).toArray := fun k => by
   induction k with
   | zero => rfl
   | succ k ih => rw [List.replicate_succ', List.foldl_append, ih]; show _ ++ x.cps = _; rw [repN]; apply Array.ext'; simp [cd]
 rw [g]; rfl
theorem op_mul_str : OpR X (binaryOp .Mult) (fun x y H Q => ∃ z n, x = .str z ∧ y = .int n ∧ 0 ≤ n ∧ n ≤ 1000000 ∧ z.length * n.toNat ≤ 1000000 ∧ z.length ≤ 1000000 ∧ Q (.str (S (repN (cd z) n.toNat))) H) := by
 intro pins s σ H x y v u Q I rx ry h
 obtain ⟨z, n, rfl, rfl, h0, h1, h2, h3, q⟩ := h
 obtain ⟨t, rfl⟩ := rx
 obtain ⟨t', rfl⟩ := ry
 have tl : Builtin.Str.tooLong (z.length * n.toNat) = false := by
   unfold Builtin.Str.tooLong
   exact decide_eq_false (by rw [sizeLine_eq]; omega)
 refine P.mul_str ?_ ?_ (fun _ _ => tl) ?_
 · rw [decide_eq_false (by omega), decide_eq_false (by omega)]; rfl
 · intro hn _ hgt
   have : (2 ^ 63 - 1 : Int) / n ≥ 1000000 := by
     have : (1000000 : Int) * n ≤ 2 ^ 63 - 1 := by omega
     exact Int.le_ediv_of_mul_le (by omega) this
   omega
 · have fin : ∀ y : Str, y = S (repN (cd z) n.toNat) → ∀ t tk, EP X pins σ Q (.str y t) { s with toks := tk } := fun y e t tk => by
     subst e; exact ⟨.str _, H, I.tok _, ⟨_, rfl⟩, q⟩
   by_cases hn : n < 1
   · rw [if_pos hn]
     have e0 : n = 0 := by omega
     subst e0
     exact ⟨by rw [sizeLine_eq]; exact Nat.zero_le _, fin _ rfl _ _⟩
   · rw [if_neg hn]
     by_cases h1 : (n == 1 || z.length == 0) = true
     · rw [if_pos h1]
       refine fin z ?_ t s.toks
       rcases Bool.or_eq_true_iff.mp h1 with e | e
       · have e' : n = 1 := by simpa using e
         subst e'
         show z = S (repN (cd z) 1)
         rw [show repN (cd z) 1 = cd z from by simp [repN], S_cd]
       · have e' : (cd z) = [] := List.eq_nil_of_length_eq_zero (by rw [← len_cd]; simpa using e)
         have : ∀ k, repN [] k = [] := fun k => by induction k with | zero => rfl | succ k ih => simp [repN, ih]
         rw [e', this, ← e', S_cd]
     · rw [if_neg h1]
       refine ⟨?_, fin _ (rep_is z n.toNat) _ _⟩
       rw [rep_is, len_S, repN_len, ← len_cd, sizeLine_eq, Nat.mul_comm]
       omega
end
end L2
namespace L2
open PySem PySem.Spec PyProof.Rows PySem.Calls
structure FunD (K : PySem.W.Frag) (x qual : Str) (st : Stmt) (ds : List Value) (f : Addr) (fd : FuncData) : Prop where
 ex : ∃ (T : Addr) (oc : Value) (od : Option Addr) (kV doc pm : Value) (an : Option Addr) (cdv ct : Value) (osl : Array (Option Value)) (to : Obj) (n : Nat),
   fd = PySem.W.fnOf x qual (defArgs st) (defBody st) (defScope st) (.ref T) kV doc pm an cdv ct ∧ K.lookup f = some ⟨oc, od, .func fd, osl⟩ ∧ PySem.W.codeIn K cdv qual = true ∧ K.lookup T = some to ∧ to.cls = .type "tuple" ∧ to.data = .seq ds.toArray n
 kp : PySem.W.keepIn K (.ref f) = true
section
variable {P : Program} {w : World} {K : PySem.W.Frag} {mg : Str → Option Value} {base : Heap} {x qual : Str} {st : Stmt} {f : Addr} {fd : FuncData} {N ps : List Str} {k : Nat} {sp : Sp} {ds : List Value}
theorem FunD.okX (F : FunD K x qual st ds f fd) (S : FnScope N ps (defScope st)) (len : ∀ vs H Q E, sp vs H Q E → vs.length = ps.length)
   (hbody : ∀ (cdv : Value) (A : Around) (outer : List Env) (s : Shared) (H : Hp) (vs : List V) (Q : VK) (E : XK), Room k (A.deeper (envOfC qual (defScope st) s.heap.objs.size f cdv)) → sp vs H Q E →
     ∃ t, PSs (cxOf (CXW P w) P w K mg base N qual (defScope st) f cdv A outer s H E) (defBody st) t ∧ t { nx := fun _ H' => Q .non H', rt := Q } (start N vs) H) : FnOk P w K mg base (CXW P w) (k + 1) f fd ps sp := by
 obtain ⟨T, oc, od, kV, doc, pm, an, cdv, ct, osl, to, n, rfl, lk, hcd, _⟩ := F.ex
 exact fn_of lk hcd S len fun A outer s H vs Q E hr hsp => hbody cdv A outer s H vs Q E hr hsp
theorem FunD.ok (F : FunD K x qual st ds f fd) (S : FnScope N ps (defScope st)) (len : ∀ vs H Q E, sp vs H Q E → vs.length = ps.length)
   (hbody : ∀ (cdv : Value) (A : Around) (outer : List Env) (s : Shared) (H : Hp) (vs : List V) (Q : VK) (E : XK), Room k (A.deeper (envOfC qual (defScope st) s.heap.objs.size f cdv)) → sp vs H Q E →
     ∃ t, PSs (cxOf CX0 P w K mg base N qual (defScope st) f cdv A outer s H E).nox (defBody st) t ∧ t { nx := fun _ H' => Q .non H', rt := Q } (start N vs) H) : FnOk P w K mg base CX0 (k + 1) f fd ps sp := by
 obtain ⟨T, oc, od, kV, doc, pm, an, cdv, ct, osl, to, n, rfl, lk, hcd, _⟩ := F.ex
 refine fn_of lk hcd S len fun A outer s H vs Q E hr hsp => ?_
 obtain ⟨t, h, q⟩ := hbody cdv A outer s H vs Q E hr hsp
 exact ⟨t, h.nox, q⟩
theorem FunD.binds {es : List Value} (F : FunD K x qual st ds f fd)
   (h : ∀ (T : Addr) (kV doc pm : Value) (an : Option Addr) (cdv ct : Value) (us : List Value) (M : Model) (A : Around) (E : Value → Shared → Prop) (Q : List (Str × Value) → Shared → Prop) (s : Shared) (to : Obj) (n : Nat), s.heap.get? T = some to → to.cls = .type "tuple" → to.data = .seq ds.toArray n →
     (us ++ es).length = ps.length → Q (ps.zip (us ++ es)) s → wpAny M A (bindArgs (PySem.W.fnOf x qual (defArgs st) (defBody st) (defScope st) (.ref T) kV doc pm an cdv ct) ⟨us, []⟩) Q E s) : Binds K fd ps es := by
 obtain ⟨T, oc, od, kV, doc, pm, an, cdv, ct, osl, to, n, rfl, lk, hcd, lt, tc, td⟩ := F.ex
 intro s us X hl M A E Q q
 exact h T kV doc pm an cdv ct us M A E Q s to n (X _ _ lt) tc td hl q
end
section
variable {K : PySem.W.Frag} {C D : Addr} {cd : ClassData} {r b : Bool} {T : String}
theorem xC : PySem.W.kitOne K (.ref D) (.ref D) = some true := by unfold PySem.W.kitOne; rw [if_pos (beq_self_eq_true _)]
theorem kitCls_ref (h1 : PySem.W.clsIn K C = some cd) (h2 : PySem.W.typeIn K (.ref C) = some (.type "type")) (h3 : PySem.W.mroIn K D (.ref C) = some r) : PySem.W.kitCls K (.ref D) (.ref C) = some r := by
 show (if ((PySem.W.clsIn K C).isSome && PySem.W.typeIn K (.ref C) == some (.type "type")) = true then PySem.W.mroIn K D (.ref C) else none) = some r
 rw [h1, h2, h3]; rfl
theorem yB (h1 : PySem.W.clsIn K C = some cd) (h2 : PySem.W.typeIn K (.ref C) = some (.type "type")) (h3 : PySem.W.mroIn K D (.ref C) = some r) (hne : (Value.ref D == Value.ref C) = false) : PySem.W.kitOne K (.ref D) (.ref C) = some r := by
 unfold PySem.W.kitOne
 rw [if_neg (by rw [hne]; decide)]
 exact kitCls_ref h1 h2 h3
theorem kit_rty (hm : PySem.W.kitMeta T = true) (h3 : PySem.W.mroIn K D (.type T) = some r) : PySem.W.kitOne K (.ref D) (.type T) = some r := by
 unfold PySem.W.kitOne
 rw [if_neg (by intro z; cases beq_iff_eq.mp z)]
 show (if PySem.W.kitMeta T = true then PySem.W.mroIn K D (.type T) else none) = some r
 rw [if_pos hm]; exact h3
theorem kit_tyr {S : String} (h1 : PySem.W.clsIn K C = some cd) (h2 : PySem.W.typeIn K (.ref C) = some (.type "type")) (h3 : PySem.W.subIn K (.type S) (.ref C) = some r) : PySem.W.kitOne K (.type S) (.ref C) = some r := by
 unfold PySem.W.kitOne
 rw [if_neg (by intro z; cases beq_iff_eq.mp z)]
 show (if ((PySem.W.clsIn K C).isSome && PySem.W.typeIn K (.ref C) == some (.type "type")) = true then PySem.W.subIn K (.type S) (.ref C) else none) = some r
 rw [h1, h2, h3]; rfl
theorem exm_ref (h0 : PySem.W.subIn K (.ref C) (.type "BaseException") = some true) (h1 : PySem.W.clsIn K C = some cd) (h2 : PySem.W.typeIn K (.ref C) = some (.type "type")) (h3 : PySem.W.mroIn K D (.ref C) = some r) : PySem.W.exmOne K (.ref D) (.ref C) = some r := by
 unfold PySem.W.exmOne
 rw [h0, if_pos (by rfl)]
 exact kitCls_ref h1 h2 h3
theorem excCls_mk (ga : PySem.W.findIn K (.ref D) "__getattribute__" = some (some (.builtin "BaseException.__getattribute__"))) (gk : PySem.W.findIn K (.ref D) "__getattr__" = some none) (cl : PySem.W.clsIn K D = some cd) (ha : PySem.W.findIn K (.ref D) "__class__" = some (some (.builtin "object.__class__")))
   (hn : PySem.W.specialIn K (.builtin "object.__class__") "__get__" = some (some (.builtin "getset_descriptor.__get__"))) (tk : PySem.W.takesIn K (.builtin "object.__class__") = some true) (mo : PySem.W.mroIn K D (.type "object") = some true) (mb : PySem.W.mroIn K D (.type "BaseException") = some true) : ExcCls K D :=
 ⟨ga, gk, by rw [cl]; rfl, ha, hn, tk, mo, mb⟩
theorem app_len {α : Type} {us ds : List α} {n m : Nat} (h : (us ++ ds).length = n) (hm : ds.length + m = n) : us.length = m := by rw [List.length_append] at h; omega
theorem funD_mk {x qual : Str} {st : Stmt} {f T : Addr} {oc : Value} {od an dd : Option Addr} {osl dsl : Array (Option Value)} {kV doc pm cdv ct : Value} {ds : List Value} {n : Nat} (l : K.lookup f = some ⟨oc, od, .func (PySem.W.fnOf x qual (defArgs st) (defBody st) (defScope st) (.ref T) kV doc pm an cdv ct), osl⟩)
   (c : PySem.W.codeIn K cdv qual = true) (k : PySem.W.keepIn K (.ref f) = true) (lt : K.lookup T = some ⟨.type "tuple", dd, .seq ds.toArray n, dsl⟩) : FunD K x qual st ds f (PySem.W.fnOf x qual (defArgs st) (defBody st) (defScope st) (.ref T) kV doc pm an cdv ct) :=
 ⟨⟨T, oc, od, kV, doc, pm, an, cdv, ct, osl, _, n, rfl, l, c, lt, rfl, rfl⟩, k⟩
end
end L2
namespace L2
theorem Bt.ValueError : PySem.bootBuiltins "ValueError" = some (.type "ValueError") := PyProof.Rows.Boot.«ValueError»
open PySem PySem.Spec PyProof.Rows
def val (l : List Nat) : Int := l.foldl (fun a c => a * 10 + ((c - 48 : Nat) : Int)) 0
structure Fine (n : Nat) (z : Str) : Prop where
 len : z.length ≤ n
 cod : ∀ c ∈ cd z, c < 1000
theorem Fine.mono {n m : Nat} {z : Str} (h : Fine n z) (l : n ≤ m) : Fine m z := ⟨Nat.le_trans h.len l, h.cod⟩
theorem Fine.size {n : Nat} {z : Str} (h : Fine n z) (hn : n ≤ 100000 := by decide) : z.length ≤ sizeLine := by rw [sizeLine_eq]; have := h.len; omega
theorem Fine.int {i : Int} {k : Nat} (hk : 0 < k) (h : i.natAbs < 10 ^ k) : Fine (k + 1) (toString i) := by
 refine ⟨?_, fun c hc => ?_⟩
 · rw [show ((toString i : String) : Str).length = (toString i).length from PySem.ofString_length _]
   exact int_text_length_le10 hk h
 · rcases Nat.lt_or_ge c 1000 with z | z
   · exact z
   · exact absurd hc (int_text_free' c ⟨by omega, by omega⟩ i)
end L2
namespace L2
open PySem PySem.Spec PyProof.Rows PySem.Calls
structure EqJ (X : Cx) (H : Hp) (n : Nat) (x y : V) (b : Bool) : Prop where
 rc : ∀ (pins : List (Addr × Obj)) (s : Shared) (σ : St) (u v : Value) (A : Around), Inv X pins σ H s → RelV x u → RelV y v → A.units + n < cLine → SeqAt.RcAt A s u v b
 ne : ∀ (pins : List (Addr × Obj)) (s : Shared) (σ : St) (u v : Value) (A : Around), Inv X pins σ H s → RelV x u → RelV y v → A.units + n < cLine → SeqAt.RcNeAt A s u v (!b)
def EqJi (X : Cx) (H : Hp) (n : Nat) (x y : V) (b : Bool) : Prop :=
 ∀ (pins : List (Addr × Obj)) (s : Shared) (σ : St) (u v : Value) (A : Around), Inv X pins σ H s → RelV x u → RelV y v → A.units + n < cLine → SeqAt.EqAt A s u v b
section
variable {X : Cx} {H : Hp} {n : Nat} {x y : V} {b : Bool} {p q : Addr} {xs ys : List V}
theorem vals_at {xs : List V} {us : List Value} (r : Vals xs us) {j : Nat} (h : j < us.toArray.size) : ∃ x, xs[j]? = some x ∧ RelV x us.toArray[j] := by
 have hj : j < us.length := by simpa using h
 have hx : j < xs.length := by rw [r.length]; exact hj
 obtain ⟨u, hu, ru⟩ := r.get (List.getElem?_eq_getElem hx)
 refine ⟨xs[j], List.getElem?_eq_getElem hx, ?_⟩
 rw [List.getElem?_eq_getElem hj] at hu
 cases hu
 simpa using ru
theorem eqj_lists {e : Nat → Bool} (h : SqL X.K H p xs) (k : SqL X.K H q ys) (hl : xs.length = ys.length) (he : ∀ (j : Nat) x y, xs[j]? = some x → ys[j]? = some y → EqJi X H n x y (e j)) :
   EqJ X H (n + 1) (.ref p) (.ref q) ((List.range xs.length).all e) := by
 have g : ∀ (pins : List (Addr × Obj)) (s : Shared) (σ : St) (A : Around), Inv X pins σ H s → A.units + (n + 1) < cLine → ∃ its its' : List Value, s.heap.IsList p its.toArray ∧ s.heap.IsList q its'.toArray ∧ its.toArray.size = its'.toArray.size ∧ its.toArray.size = xs.length ∧
     ∀ j (h1 : j < its.toArray.size) (h2 : j < its'.toArray.size), SeqAt.EqAt A.in1 s its.toArray[j] its'.toArray[j] (e j) := fun pins s σ A I hu => by
   obtain ⟨its, r, pl, _⟩ := I.list h
   obtain ⟨its', r', pl', _⟩ := I.list k
   have l1 := r.length
   have l2 := r'.length
   refine ⟨its, its', pl.isList, pl'.isList, by simp only [List.size_toArray]; omega, by simp only [List.size_toArray]; omega, fun j h1 h2 => ?_⟩
   obtain ⟨x, hx, rx⟩ := vals_at r h1
   obtain ⟨y, hy, ry⟩ := vals_at r' h2
   exact he j x y hx hy pins s σ _ _ A.in1 I rx ry (by show A.units + 1 + n < _; omega)
 refine ⟨fun pins s σ u v A I rx ry hu => ?_, fun pins s σ u v A I rx ry hu => ?_⟩ <;> (cases rx; cases ry; have hu' : A.units < cLine := by omega)
 · obtain ⟨its, its', a, b, c, d, z⟩ := g pins s σ A I hu
   rw [← d]; exact SeqAt.RcAt.lists a b c hu' z
 · obtain ⟨its, its', a, b, c, d, z⟩ := g pins s σ A I hu
   rw [← d]; exact SeqAt.RcNeAt.lists a b c hu' z
theorem eqj_lists_len (h : SqL X.K H p xs) (k : SqL X.K H q ys) (hl : xs.length ≠ ys.length) : EqJ X H (n + 1) (.ref p) (.ref q) false := by
 refine ⟨fun pins s σ u v A I rx ry hu => ?_, fun pins s σ u v A I rx ry hu => ?_⟩ <;> (cases rx; cases ry; have hu' : A.units < cLine := by omega)
 · obtain ⟨its, r, pl, _⟩ := I.list h
   obtain ⟨its', r', pl', _⟩ := I.list k
   exact SeqAt.RcAt.lists_lengths pl.isList pl'.isList (by rw [List.size_toArray, List.size_toArray, ← r.length, ← r'.length]; simpa using hl) hu'
 · obtain ⟨its, r, pl, _⟩ := I.list h
   obtain ⟨its', r', pl', _⟩ := I.list k
   exact SeqAt.RcNeAt.lists_lengths pl.isList pl'.isList (by rw [List.size_toArray, List.size_toArray, ← r.length, ← r'.length]; simpa using hl) hu'
theorem all_get {xs : List V} (h : xs.all flatV = true) {j : Nat} {x : V} (e : xs[j]? = some x) : flatV x = true ∧ xs.getD j .non = x :=
 ⟨List.all_eq_true.mp h x (List.mem_of_getElem? e), by rw [List.getD, e]; rfl⟩
theorem op_eqJ (hu : X.A.units + 20 < cLine) : OpR X (compareOp .Eq) (fun x y H Q => ∃ b, EqJ X H 20 x y b ∧ Q (.bl b) H) := by
 intro pins s σ H x y v u Q I rx ry h
 obtain ⟨b, e, q⟩ := h
 exact e.rc pins s σ v u X.A I rx ry hu X.prog X.w X.xe _ ⟨.bl b, H, I, rfl, q⟩
theorem op_neJ (hu : X.A.units + 20 < cLine) : OpR X (compareOp .NotEq) (fun x y H Q => ∃ b, EqJ X H 20 x y b ∧ Q (.bl (!b)) H) := by
 intro pins s σ H x y v u Q I rx ry h
 obtain ⟨b, e, q⟩ := h
 exact e.ne pins s σ v u X.A I rx ry hu X.prog X.w X.xe _ ⟨.bl (!b), H, I, rfl, q⟩
theorem hu20 {A : Around} {k : Nat} (hr : Room k A) : A.units + 20 < cLine := by have := hr.units; omega
end
end L2
namespace L2
open PySem PySem.Spec PyProof.Rows PySem.Calls
section
variable {P : Program} {w : World} {K : PySem.W.Frag} {mg : Str → Option Value} {base : Heap}
structure MethJ (P : Program) (w : World) (K : PySem.W.Frag) (mg : Str → Option Value) (base : Heap) (CX : CXT) (k : Nat) (C : Addr) (m : Str) where
 f : Addr
 fd : FuncData
 ps : List Str
 sp : Sp
 ds : List Value
 dvs : List V
 c : Cls K C
 hm : Meth K C m f
 F : FnOk P w K mg base CX k f fd ps sp
 hb : Binds K fd ps ds
 hd : Vals dvs ds
end
theorem passW0 {X : Cx} : Passes (CXW X.prog X.w) X E0 := fun _ _ _ _ _ _ _ h => by
 obtain ⟨_, _, _, _, _, _, _, _, _, _, _, z⟩ := h
 exact z.elim
section
variable {X : Cx} {CX : CXT} {k : Nat} {E : XK} {m : Str} {pos apos : Pos} {e o : Expr} {es : List Expr} {ta : TE} {t : TA}
def tMethG (X : Cx) (CX : CXT) (k : Nat) (m : Str) (E : XK) (ta : TE) (t : TA) : TE := fun σ H Q => ta σ H fun x H1 => ∃ (a C dx : Addr) (fs : List (Str × V)) (M : MethJ X.prog X.w X.K X.mg X.base CX k C m), x = .ref a ∧ H1 a = some (.ins C dx fs) ∧ fs.lookup m = none ∧
 t σ H1 fun vs H2 => M.sp (x :: (vs ++ M.dvs)) H2 Q E
theorem yO {pl : Sem Bool} (hr : Room k X.A) (hx : Passes CX X E) (he : PE X o ta) (ha : PA X (e :: es) t)
   (hst : starEach (e :: es) X.env = (false, eval e X.env) :: starEach es X.env := by rfl) (hpl : (backTo pos (starEach es X.env)).any (·.1) = false := by rfl)
   (ht : eval (.Call (.Attribute o m apos) (e :: es) [] pos) X.env = (do
     let ov ← eval o X.env
     standAt apos.atName
     let (f, first) ← holding [ov] (getMethod ov m pl)
     callWith pos f first (backTo pos (starEach (e :: es) X.env)) (backToKw pos (keywordEach [] X.env))) := by rfl) :
   PE X (.Call (.Attribute o m apos) (e :: es) [] pos) (tMethG X CX k m E ta t) := by
 intro pins s σ H Q I h
 refine PySem.W.methodCall_KW (pl := pl) (thn (he pins s σ H _ I h) fun u s1 ⟨x, H1, I1, rx, a, C, dx, fs, M, ex, ea, l, q⟩ => ?_) ht
 subst ex
 obtain rfl : u = Value.ref a := rx
 refine getmeth_ok I1 ea M.c M.hm l ?_
 refine PySem.W.callWith_K (first := [.ref a]) (h₀ := X.base) I.ok.mod.kin M.hm.kp (thn (ha pos pins s1 σ H1 _ I1 q) fun us s2 ⟨vs, H2, I2, r, q2⟩ => ⟨I2.kIn, ?_⟩) hst hpl
 exact run_fn (us := .ref a :: us) (vs := .ref a :: vs) M.F hr M.hb M.hd hx I2 (.cons rfl r) q2
theorem pe_methG0 {pl : Sem Bool} (hr : Room k X.A) (hx : Passes CX X E) (he : PE X o ta)
   (ht : eval (.Call (.Attribute o m apos) [] [] pos) X.env = (do
     let ov ← eval o X.env
     standAt apos.atName
     let (f, first) ← holding [ov] (getMethod ov m pl)
     callWith pos f first (backTo pos (starEach [] X.env)) (backToKw pos (keywordEach [] X.env))) := by rfl) :
   PE X (.Call (.Attribute o m apos) [] [] pos) (tMethG X CX k m E ta tNil) := by
 intro pins s σ H Q I h
 refine PySem.W.methodCall_KW (pl := pl) (thn (he pins s σ H _ I h) fun u s1 ⟨x, H1, I1, rx, a, C, dx, fs, M, ex, ea, l, q⟩ => ?_) ht
 subst ex
 obtain rfl : u = Value.ref a := rx
 refine getmeth_ok I1 ea M.c M.hm l ?_
 exact PySem.W.callWith_K0 (first := [.ref a]) I1.kIn M.hm.kp (run_fn (us := [.ref a]) (vs := [.ref a]) M.F hr M.hb M.hd hx I1 (.cons rfl .nil) q)
def tMethGX (X : Cx) (k : Nat) (m : Str) (ta : TE) (t : TA) : TEx := fun σ H Q E => ta σ H fun x H1 => ∃ (a C dx : Addr) (fs : List (Str × V)) (M : MethJ X.prog X.w X.K X.mg X.base (CXW X.prog X.w) k C m), x = .ref a ∧ H1 a = some (.ins C dx fs) ∧ fs.lookup m = none ∧
 t σ H1 fun vs H2 => M.sp (x :: (vs ++ M.dvs)) H2 Q E
theorem pex_methG {pl : Sem Bool} (hr : Room k X.A) (he : PE X.nox o ta) (ha : PA X.nox (e :: es) t)
   (hst : starEach (e :: es) X.env = (false, eval e X.env) :: starEach es X.env := by rfl) (hpl : (backTo pos (starEach es X.env)).any (·.1) = false := by rfl)
   (ht : eval (.Call (.Attribute o m apos) (e :: es) [] pos) X.env = (do
     let ov ← eval o X.env
     standAt apos.atName
     let (f, first) ← holding [ov] (getMethod ov m pl)
     callWith pos f first (backTo pos (starEach (e :: es) X.env)) (backToKw pos (keywordEach [] X.env))) := by rfl) :
   PEx X (.Call (.Attribute o m apos) (e :: es) [] pos) (tMethGX X k m ta t) := by
 intro pins s σ H Q E I h
 refine PySem.W.methodCall_KW (pl := pl) (wpAny_mono (he.noxE (CXAt X pins σ E) I h) (fun u s1 ⟨x, H1, I1, rx, a, C, dx, fs, M, ex, ea, l, q⟩ => ?_) fun _ _ z => z) ht
 subst ex
 obtain rfl : u = Value.ref a := rx
 refine getmeth_ok I1 ea M.c M.hm l ?_
 refine PySem.W.callWith_K (first := [.ref a]) (h₀ := X.base) I.ok.mod.kin M.hm.kp (wpAny_mono (ha.nox (CXAt X pins σ E) I1 q) (fun us s2 ⟨vs, H2, I2, r, q2⟩ => ⟨I2.kIn, ?_⟩) fun _ _ z => z) hst hpl
 exact run_fnx (us := .ref a :: us) (vs := .ref a :: vs) M.F hr M.hb M.hd I2 (.cons rfl r) q2
structure ClsFn (K : PySem.W.Frag) (C : Addr) (m : Str) (f : Addr) : Prop where
 rd : PySem.W.readsIn K C (.type "type") = true
 at_ : PySem.W.findCls K (.ref C) (.type "type") m = some (.val (.ref f))
 sp : PySem.W.specialIn K (.ref C) "__getattribute__" = some (some (.builtin "type.__getattribute__"))
 kp : PySem.W.keepIn K (.ref f) = true
theorem pe_clsfn {pl : Sem Bool} {C f : Addr} {fd : FuncData} {ps : List Str} {sp : Sp} {x : Str} {np : Pos} (c : ClsFn X.K C m f) (F : FnOk X.prog X.w X.K X.mg X.base CX k f fd ps sp) (hr : Room k X.A) (hg : Gl X x) (hmg : X.mg x = some (.ref C)) (hb : Binds X.K fd ps []) (hx : Passes CX X E)
   (ha : PA X (e :: es) t) (hd : (x == ("__debug__" : Str)) = false := by decide)
   (hst : starEach (e :: es) X.env = (false, eval e X.env) :: starEach es X.env := by rfl) (hpl : (backTo pos (starEach es X.env)).any (·.1) = false := by rfl)
   (ht : eval (.Call (.Attribute (.Name x np) m apos) (e :: es) [] pos) X.env = (do
     let ov ← eval (.Name x np) X.env
     standAt apos.atName
     let (f, first) ← holding [ov] (getMethod ov m pl)
     callWith pos f first (backTo pos (starEach (e :: es) X.env)) (backToKw pos (keywordEach [] X.env))) := by rfl) :
   PE X (.Call (.Attribute (.Name x np) m apos) (e :: es) [] pos) (tCall sp [] E t) := by
 intro pins s σ H Q I h
 refine PySem.W.methodCall_KW (pl := pl) (ld_glob I hg hmg ?_ hd) ht
 refine PySem.W.method_cls I.kIn c.sp (PySem.W.cls_value (s := s) I.kIn c.rd c.at_ rfl ?_)
 refine PySem.W.callWith_K (first := []) (h₀ := X.base) I.ok.mod.kin c.kp (thn (ha pos pins _ σ H _ (I.tok _) h) fun us s2 ⟨vs, H2, I2, r, q2⟩ => ⟨I2.kIn, ?_⟩) hst hpl
 exact run_fn (us := us) (vs := vs) F hr hb .nil hx I2 r q2
end
end L2
namespace L2
open PySem PySem.Spec PyProof.Rows
def dig (n : Nat) : List Nat := (Nat.toDigits 10 n).map Char.toNat
theorem dig_len {k n : Nat} (hk : 1 ≤ k) (hn : n < 10 ^ k) : (dig n).length ≤ k := by unfold dig; rw [List.length_map]; exact toDigits_len_pow (by decide) hk hn
def numL (i : Int) : List Nat := if i < 0 then 45 :: dig i.natAbs else dig i.natAbs
theorem cd_str (i : Int) : cd ((toString i : String) : Str) = numL i := by
 show (Str.ofString (toString i)).cps.toList = _
 rw [signs_ofString]
 unfold numL
 cases i with
 | ofNat m =>
   rw [if_neg (show ¬ Int.ofNat m < 0 from by have : Int.ofNat m = (m : Int) := rfl; omega)]
   show (Nat.repr m).toList.map Char.toNat = _
   rw [Nat.toList_repr]; rfl
 | negSucc m =>
   rw [if_pos (Int.negSucc_lt_zero m)]
   have : (toString (Int.negSucc m)) = "-" ++ Nat.repr (m + 1) := rfl
   rw [this, String.toList_append, Nat.toList_repr]; rfl
end L2
namespace L2
open PySem PySem.Spec PyProof.Rows PySem.Calls
section
variable {X : Cx}
end
theorem lk1 {a : Str} {v : V} {r : List (Str × V)} : ((a, v) :: r).lookup a = some v := by rw [List.lookup_cons, beq_self_eq_true]
theorem lk2 {a b : Str} {v w : V} (h : (b == a) = false) {r : List (Str × V)} : ((a, v) :: (b, w) :: r).lookup b = some w := by rw [List.lookup_cons, h]; exact lk1
structure Thing (K : PySem.W.Frag) (H : Hp) (x : V) where
 t : Value
 bi : Bool
 bb : Bool
 bs : Bool
 ty : TyE K H x t
 ki : PySem.W.kitOne K t (.type "int") = some bi
 kb : PySem.W.kitOne K t (.type "bool") = some bb
 ks : PySem.W.kitOne K t (.type "str") = some bs
 hi : (bi && !bb) = true → ∃ n, x = .int n
 hs : bs = true → ∃ z, x = .str z
 ni : ∀ n, x = .int n → (bi && !bb) = true
 ns : ∀ z, x = .str z → bs = true
 hbl : bb = true → ∃ b, x = .bl b
 nbl : ∀ b, x = .bl b → bb = true
theorem Same.seqT {K : PySem.W.Frag} {H H' : Hp} {a : Addr} {xs : List V} (e : Same H H') (h : SqT K H a xs) : SqT K H' a xs := by
 rcases h with h | h
 · exact .inl (h.imp (fun k => e _ _ k) (fun ⟨o, k⟩ => ⟨o, e _ _ k⟩))
 · exact .inr h
theorem Same.tyE' {K : PySem.W.Frag} {H H' : Hp} {x : V} {t : Value} (e : Same H H') (h : TyE K H x t) : TyE K H' x t := by
 cases h with
 | old h => exact .old (e.ty h)
 | exc h c => exact .exc (e _ _ h) c
 | excd h c => exact .excd (e _ _ h) c
 | tpl h => exact .tpl (e.seqT h)
def Thing.same {K : PySem.W.Frag} {H H' : Hp} {x : V} (h : Thing K H x) (e : Same H H') : Thing K H' x := ⟨h.t, h.bi, h.bb, h.bs, e.tyE' h.ty, h.ki, h.kb, h.ks, h.hi, h.hs, h.ni, h.ns, h.hbl, h.nbl⟩
theorem Same.upd {H H' : Hp} {p : Addr} {o : HO} (e : Same H H') (h : H p = none ∨ H p = some o) : Same H (L2.upd H' p o) := fun b u q => by
 by_cases z : b = p
 · subst z
   rcases h with h | h
   · rw [h] at q; cases q
   · rw [h] at q; rw [zB]; exact q
 · rw [zJ z]; exact e b u q
end L2
namespace L2
open PySem PySem.Spec PyProof.Rows
theorem str_is (n : Int) : ((toString n : String) : Str) = S (numL n) := cd_inj (cd_str n)
end L2
namespace L2
open PySem PySem.Spec PyProof.Rows PySem.Calls
theorem pe_eqv {X : Cx} {e : Expr} {te te' : TE} (h : PE X e te') (h2 : te' = te) : PE X e te := h2 ▸ h
def TabK (K : PySem.W.Frag) (a : Addr) (D : List (Str × Bool)) : Prop :=
 (a == sysModules) = false ∧ ∃ o es ep, K.lookup a = some o ∧ o.ExactDict ∧ o.data = .dict es ep ∧ KTD.Rows (fun (b : Bool) (v : Value) => v = .bool b) es.toList D
theorem tabK_mk {K : PySem.W.Frag} {a : Addr} {oc : Value} {od : Option Addr} {es : Array DictEntry} {ep : Nat} {sl : Array (Option Value)} {D : List (Str × Bool)} (h : K.lookup a = some ⟨oc, od, .dict es ep, sl⟩) (hs : (a == sysModules) = false) (hc : oc = .type "dict") (hd : od = none) (hsl : sl = #[]) (hr : KTD.Rows (fun (b : Bool) (v : Value) => v = .bool b) es.toList D) : TabK K a D := by
 subst hc hd hsl
 exact ⟨hs, _, es, ep, h, ⟨rfl, rfl, rfl⟩, rfl, hr⟩
def lookB (D : List (Str × Bool)) (z : Str) : V := match D.lookup z with
 | some b => .bl b
 | none => .non
theorem datum_look (z : Str) : ∀ D : List (Str × Bool), KTD.datumAt z (D.map fun p => (p.1, KTD.Dat.flat (.bool p.2))) = (D.lookup z).map fun b => KTD.Dat.flat (.bool b)
 | [] => rfl
 | (x, b) :: D => by
   show (if decide (z = x) = true then some (KTD.Dat.flat (.bool b)) else KTD.datumAt z (D.map fun p => (p.1, KTD.Dat.flat (.bool p.2)))) = _
   rw [datum_look z D, List.lookup_cons]
   by_cases h : z = x
   · subst h; rw [if_pos (decide_eq_true rfl), beq_self_eq_true]; rfl
   · rw [if_neg (by simpa using h), beq_eq_false_iff_ne.mpr h]
section
variable {X : Cx}
theorem pe_gget {x : Str} {a : Addr} {D : List (Str × Bool)} {e : Expr} {te : TE} {np apos cpos : Pos} (hg : Gl X x) (hm : X.mg x = some (.ref a)) (hT : TabK X.K a D) (he : PE X e te) (m : M1 X (.Name x np) "get" apos e cpos) (hdb : (x == ("__debug__" : Str)) = false := by decide) :
   PE X (.Call (.Attribute (.Name x np) "get" apos) [e] [] cpos) (fun σ H Q => te σ H fun v H1 => ∃ z, v = .str z ∧ Q (lookB D z) H1) := by
 intro pins s σ H Q I h
 obtain ⟨lo, o, es, ep, lk, hc, hd, hr⟩ := hT
 have T0 : KTD.TextTab X.base a (D.map fun p => (p.1, KTD.Dat.flat (.bool p.2))) :=
   ⟨lo, o, es, ep, I.ok.mod.kin _ _ lk, hc, hd, hr.mono (f := fun b => KTD.Dat.flat (.bool b)) fun d v e => by subst e; exact PyProof.V.Flat.bool d⟩
 have T : ∀ {pins : List (Addr × Obj)} {σ : St} {H : Hp} {s : Shared}, Inv X pins σ H s → KTD.Here X.base s.heap a (D.map fun p => (p.1, KTD.Dat.flat (.bool p.2))) := fun I => ⟨T0, I.bk⟩
 refine wpAny_Call_method m.base m.few m.line PySem.F.plainAttrs_dict PySem.F.slot_dict_get PySem.F.type_dict_get (ld_glob I hg hm ?_ hdb)
 refine ⟨(T I).typeIs, (T I).noDict, ?_⟩
 rw [m.trees]
 refine Calls.callWith_builtin rfl (Calls.evalArgs_plain (Calls.spliced_cons (thn (he pins s σ H _ I h) fun iv s2 ⟨y, H2, I2, ry, z, ez, q2⟩ => Calls.spliced_nil ?_)))
 subst ez
 obtain ⟨t, rfl⟩ := ry
 refine call_meetsIn PySem.F.slot_dict_get (T I2).typeIs PySem.F.entry_dict_get (PySem.F.args_dict_get_2 _ _) (KTD.meets_get1 (h₀ := X.base)) ⟨T I2, fun d v ha hv => ?_, fun hn => ?_⟩
 · rw [datum_look] at ha
   cases hl : D.lookup z with
   | none => rw [hl] at ha; cases ha
   | some b =>
     rw [hl] at ha
     cases ha
     have hv' : v = .bool b := PyProof.V.Flat.bool_inv hv
     subst hv'
     refine ⟨.bl b, H2, I2.tok _, rfl, ?_⟩
     unfold lookB at q2
     rw [hl] at q2
     exact q2
 · rw [datum_look] at hn
   cases hl : D.lookup z with
   | some b => rw [hl] at hn; cases hn
   | none =>
     refine ⟨.non, H2, I2.tok _, rfl, ?_⟩
     unfold lookB at q2
     rw [hl] at q2
     exact q2
theorem vals_nth : ∀ {xs : List V} {us : List Value}, Vals xs us → xs.all flatV = true → ∀ {x : V} (j : Nat) (h : j < us.toArray.size), eqU x us.toArray[j] = eqV (xs.getD j .non) x := by
 intro xs us r f x j h
 obtain ⟨y, hy, ry⟩ := vals_at r h
 obtain ⟨a, b⟩ := all_get f hy
 rw [b]
 exact eqU_of ry a
def IdxOf (x : V) (xs : List V) (j : Nat) : Prop := ∃ y, xs[j]? = some y ∧ eqV y x = true ∧ ∀ (m : Nat) z, m < j → xs[m]? = some z → eqV z x = false
theorem mt_lindex : MtM X "list.index" (fun x vs H Q => ∃ p xs y j, x = .ref p ∧ vs = [y] ∧ SqL X.K H p xs ∧ xs.all flatV = true ∧ flatV y = true ∧ IdxOf y xs j ∧ Q (.int (j : Nat)) H) := by
 intro pins s σ H x vs v us Q I rx rv h
 obtain ⟨p, xs, y, j, rfl, rfl, hq, fs, fy, ⟨y', hj, hy, hno⟩, q⟩ := h
 cases rx
 obtain ⟨u, rfl, ru⟩ := rv.one
 obtain ⟨its, r, pl, hz⟩ := I.list hq
 obtain ⟨⟨cls, dd, data, sl⟩, ho, hc, n, hd⟩ := pl.isList
 simp only at hc hd
 subst hc hd
 have hl := r.length
 have hlt : j < xs.length := (List.getElem?_eq_some_iff.mp hj).1
 have hn := line63
 refine call_meets PySem.F.slot_list_index ⟨_, ho, rfl⟩ PySem.F.entry_list_index (PySem.F.args_list_index_2 _ _)
   (SeqAt.list_indexAt p its.toArray n dd sl u (eqU y) j (by rw [List.size_toArray]; omega) (by omega) ?_ ?_) ⟨ho, fun w hw => mem_eqAt ru fy r fs w (by simpa using hw), ⟨.int j, H, I.tok _, ⟨_, rfl⟩, q⟩⟩
 · rw [vals_nth r fs, (all_get fs hj).2]; exact hy
 · intro m hm hmj
   rw [vals_nth r fs]
   have hm' : m < xs.length := by omega
   have e := List.getElem?_eq_getElem hm'
   rw [(all_get fs e).2]
   exact hno m _ hmj e
end
end L2
namespace L2
open PySem PySem.Spec PyProof.Rows PySem.Calls
section
variable {prog : Program} {w : World} {A : Around} {R : Result → Shared → Prop} {I : Addr} {fp wr : List Addr} {G : Array GenState → Array GenState → Prop} {n : Nat} {P : Nat → Value → Prop} {St : Nat → Shared → Prop}
end
section
variable {prog : Program} {w : World} {A : Around} {E : Value → Shared → Prop} {s : Shared}
end
section
variable {X : Cx}
end
end L2
namespace L2
open PySem PySem.Spec PyProof.Rows PySem.Calls
section
variable {X : Cx}
end
end L2
namespace HT
open PySem PySem.Spec PyProof.Rows PySem.Calls
section
variable {prog : Program} {w : World} {A : Around} {E : Value → Shared → Prop} {s : Shared}
end
end HT
namespace L2
open PySem PySem.Spec PyProof.Rows PySem.Calls
section
variable {X : Cx}
end
end L2
namespace L2
open PySem PySem.Spec PyProof.Rows PySem.Calls
def PIfs (X : Cx) (ifs : List Expr) (t : TT) : Prop :=
 ∀ (pins : List (Addr × Obj)) (s : Shared) (σ : St) (H : Hp) (Q : Bool → Hp → Prop), Inv X pins σ H s → t σ H Q →
   wpAny (model X.prog X.w) X.A (forIn ifs true fun c r => if r = true then do let ok ← isTrue c X.env (eval c X.env); pure (ForInStep.yield ok) else pure (ForInStep.yield r)) (TP X pins σ Q) X.xe s
theorem pifs_one {X : Cx} {c : Expr} {t : TT} (hc : PT X c t) : PIfs X [c] t := fun pins s σ H Q I h => by
 rw [List.forIn_cons]
 refine wpAny_bind (wpAny_bind (thn (hc pins s σ H Q I h) fun b s1 q => wpAny_pure ?_))
 exact wpAny_pure q
theorem compLoop_go2 {prog : Program} {w : World} {A : Around} {R : Result → Shared → Prop} {s : Shared} {elt target iter : Expr} {ifs : List Expr} {scope : Scope} {pos : Pos} {it acc : Value} {env : Env} (I : Nat → Shared → Prop)
   (turn : ∀ n s, I n s → wpAny (model prog w) A (pyNext it) (fun r s₁ => match r with
     | none => R (.ok .next) s₁
     | some v => wpAny (model prog w) A (letOwnedTupleGo target it v) (fun _ s₂ => wpAny (model prog w) A (assign target env v) (fun _ s₃ =>
         wpAny (model prog w) A (forIn ifs true fun c r => if r = true then do let ok ← isTrue c env (eval c env); pure (ForInStep.yield ok) else pure (ForInStep.yield r)) (fun ok s₄ =>
           if ok = true then wpAny (model prog w) A (eval elt env) (fun x s₅ =>
             wpAny (model prog w) A (call (.builtin "list.append") [acc, x]) (fun _ s₆ => ∃ m, m < n ∧ I m s₆) (notedBy (model prog w) A env fun e s' => R (.error e) s') s₅)
             (notedBy (model prog w) A env fun e s' => R (.error e) s') s₄ else ∃ m, m < n ∧ I m s₄)
           (notedBy (model prog w) A env fun e s' => R (.error e) s') s₃) (notedBy (model prog w) A env fun e s' => R (.error e) s') s₂) (notedBy (model prog w) A env fun e s' => R (.error e) s') s₁)
     (notedBy (model prog w) A env fun e s' => R (.error e) s') s)
   (n : Nat) (h : I n s) : codeAny (model prog w) A (.compLoop (.ListComp elt [⟨target, iter, ifs, 0⟩] scope pos) 0 it acc env) R s := by
 refine codeAny_loop rfl I (fun n s hI => ?_) n h
 show wpAny _ A ((compTurn (.ListComp elt [⟨target, iter, ifs, 0⟩] scope pos) 0 it acc env).onRaise (fun x => do noteFrame x env; theTreesLotGoes x)) _ _ s
 refine wpAny_noted ?_
 rw [compTurn_list]
 refine wpAny_bind (wpAny_standAt (wpAny_bind (wpAny_mono (turn n s hI) (fun r s₁ h₁ => ?_) fun _ _ h' => h')))
 cases r with
 | none => exact wpAny_pure h₁
 | some v =>
   refine wpAny_bind (wpAny_mono h₁ (fun _ s₂ h₂ => wpAny_bind (wpAny_mono h₂ (fun _ s₃ h₃ => ?_) fun _ _ h' => h')) fun _ _ h' => h')
   refine wpAny_bind (wpAny_mono h₃ (fun ok s₄ h₄ => ?_) fun _ _ h' => h')
   cases ok with
   | false => exact wpAny_pure ⟨rfl, h₄⟩
   | true => exact wpAny_bind (wpAny_bind (wpAny_mono h₄ (fun x s₅ h₅ => wpAny_bind (wpAny_mono h₅ (fun _ s₆ h₆ => wpAny_pure (wpAny_pure ⟨rfl, h₆⟩)) fun _ _ h' => h')) fun _ _ h' => h'))
structure CompOk2 (X : Cx) (scope : Scope) (x y : Str) (M : List Str) : Prop where
 base : CompOk X scope x M
 loc2 : scope.names.lookup y = some .local
 nd2 : (x :: y :: M).Nodup
section
variable {X : Cx} {scope : Scope} {x y : Str} {M : List Str} {pins : List (Addr × Obj)} {σ : St} {H₂ : Hp} {s₂ : Shared} {elt iter tg : Expr} {ifs : List Expr} {pos : Pos} {te : TE} {wi : TI} {g : TG} {tc : TT}
end
end L2
namespace L2
open PySem PySem.Spec PyProof.Rows PySem.Calls
section
variable {X : Cx} {scope : Scope} {x y : Str} {M : List Str} {elt iter : Expr} {ifs : List Expr} {pos p1 p2 p3 : Pos} {kk : Nat} {te : TE} {wi : TI} {tc : TT}
structure CompRT (K : PySem.W.Frag) (J : It) (tc : TT) (te : TE) (σ : St) (H1 : Hp) (Q : VK) : Prop where
 ex : ∃ (n : Nat) (W : Nat → List V → Hp → Prop), n ≤ sizeLine ∧ W 0 [] H1 ∧ ∀ i ys H, i ≤ n → ys.length ≤ i → W i ys H →
   (J.stop i H ∧ ∀ p, H p = none → Q (.ref p) (upd H p (.lst ys))) ∨ (J.go i H ∧ i < n ∧ ∀ z H', J.yld i H z H' → ∃ (p : Addr) (a b : V), z = .ref p ∧ SqT K H' p [a, b] ∧ tc (some a :: some b :: σ) H' fun c H3 => if c = true then te (some a :: some b :: σ) H3 fun z H4 => W (i + 1) (ys ++ [z]) H4 else W (i + 1) ys H3)
end
section
variable {prog : Program} {w : World} {A : Around} {E : Value → Shared → Prop} {s : Shared}
end
section
variable {X : Cx}
end
section
variable {X : Cx} {tg : Expr}
end
end L2
namespace L2
open PySem PySem.Spec PyProof.Rows PySem.Calls
end L2
namespace L2
open PySem PySem.Spec PyProof.Rows PySem.Calls
def tDropX (te : TEx) : TSx := fun D E σ H => te σ H (fun _ H1 => D.nx σ H1) (E σ)
theorem psx_expr {X : Cx} {e : Expr} {te : TEx} {pos : Pos} (he : PEx X e te) (hs : swapsWith e none pos.line X.env = pure false := by rfl) : PSx X (.Expr e pos) (tDropX te) := by
 intro pins s σ H D E I h
 exact wpAny_Expr_any (wpAny_mono (he pins s σ H _ _ I h) (fun v s1 ⟨x, H1, I1, r1, q1⟩ => ⟨σ, H1, I1, q1⟩) fun e s' z => ⟨σ, z⟩) I.quiet hs
end L2
namespace L2
open PySem PySem.Spec PyProof.Rows PySem.Calls
open PySem.W (tabObj CodeHd kla_obj kla_fn)
structure LamD where
 qual : Str
 params : Arguments
 body : Expr
 scope : Scope
 x : Str
 y : Str
def SameB (P : Addr) (H H' : Hp) : Prop := ∀ b u, b ≠ P → H b = some u → H' b = some u
theorem SameB.trans {P : Addr} {H H1 H2 : Hp} (a : SameB P H H1) (b : SameB P H1 H2) : SameB P H H2 := fun c u n e => b c u n (a c u n e)
theorem SameB.refl {P : Addr} {H : Hp} : SameB P H H := fun _ _ _ e => e
theorem IsCell.one {h1 h2 : Heap} {c : Addr} {v : Option Value} (x : h1.IsCell c v) (k : ∀ o, h1.get? c = some o → h2.get? c = some o) : h2.IsCell c v :=
 let ⟨o, ho, hd⟩ := x; ⟨o, k o ho, hd⟩
structure LamD.Ok (D : LamD) : Prop where
 kind : D.scope.kind = .function
 co : D.scope.isCoroutine = false
 gen : D.scope.isGenerator = false
 names : D.scope.names = [(D.x, .local), (D.y, .free)]
 ne : D.x ≠ D.y
 bind : ∀ (cc : Addr) (pm cdv ct u : Value), bindArgs (kla_fn "<lambda>" D.qual D.params D.body D.scope [(D.y, cc)] pm cdv ct) ⟨[u], []⟩ = pure [(D.x, u)]
theorem LamD.Ok.of {D : LamD} (O : D.Ok) {x : Str} {k : NameKind} (h : D.scope.names.lookup x = some k) : (x = D.x ∧ k = .local) ∨ (x = D.y ∧ k = .free) := by
 rw [O.names, List.lookup_cons] at h
 cases e : x == D.x with
 | true => rw [e] at h; cases h; exact .inl ⟨eq_of_beq e, rfl⟩
 | false =>
   rw [e, List.lookup_cons] at h
   cases e2 : x == D.y with
   | true => rw [e2] at h; cases h; exact .inr ⟨eq_of_beq e2, rfl⟩
   | false => rw [e2] at h; cases h
end L2
namespace L2
open PySem PySem.Spec PyProof.Rows PySem.Calls
open PySem.W (tabObj CodeHd kla_obj kla_fn)
end L2
namespace L2
open PySem PySem.Spec PyProof.Rows PySem.Calls
open PySem.W (tabObj CodeHd kla_obj kla_fn)
end L2
namespace L2
open PySem PySem.Spec PyProof.Rows PySem.Calls
section
variable {X : Cx}
end
end L2
namespace L2
open PySem PySem.Spec PyProof.Rows PySem.Calls
section
variable {X : Cx}
end
end L2
namespace L2
open PySem PySem.Spec
end L2
namespace L2
open PySem PySem.Spec PyProof.Rows PySem.Calls
section
variable {X : Cx}
def TJ := St → Hp → (Hp → Prop) → Prop
def JP (X : Cx) (n : Nat) (es : List Expr) (t : TJ) : Prop := ∀ (out : Str) (pins : List (Addr × Obj)) (s : Shared) (σ : St) (H : Hp) (Q : VK), out.length ≤ n → Inv X pins σ H s → t σ H (fun H1 => ∀ y, Q (.str y) H1) → wpAny (model X.prog X.w) X.A (joinParts out (evalEach es X.env)) (EP X pins σ Q) X.xe s
theorem jp_nil {n : Nat} (hn : n ≤ 16777216 := by symm) : JP X n [] (fun σ H K => K H) := by
 intro out pins s σ H Q ho I h
 refine joinParts_nilE (joinParts_nil ⟨.str _, H, I.tok _, ⟨_, rfl⟩, h _⟩ ?_)
 rw [sizeLine_eq]; omega
theorem jp_c {n : Nat} {c : Str} {j : Nat} {p : Pos} {es : List Expr} {t : TJ} (h : JP X (n + c.length) es t) (hn : n + c.length ≤ 16777216 := by symm) : JP X n (.Constant (.str c) j p :: es) t := by
 intro out pins s σ H Q ho I ht
 have hl : (out ++ c).length ≤ n + c.length := by rw [strLen_append]; omega
 exact joinParts_consE (joinParts_cons (Calls.Constant_str ⟨by rw [sizeLine_eq]; omega, h _ pins _ σ H Q hl (I.tok _) ht⟩))
theorem pe_fstrJ {v1 v2 : Expr} {rest : List Expr} {pos : Pos} {t : TJ} (h : JP X 0 (v1 :: v2 :: rest) t) : PE X (.JoinedStr (v1 :: v2 :: rest) pos) (fun σ H Q => t σ H fun H1 => ∀ y, Q (.str y) H1) := by
 intro pins s σ H Q I ht
 exact JoinedStr_many (h Str.empty pins s σ H Q (Nat.le_refl _) I ht)
end
end L2
namespace L2
open PySem PySem.Spec PyProof.Rows PySem.Calls
section
variable {X : Cx}
end
end L2
namespace L2
open PySem PySem.Spec PyProof.Rows PySem.Calls
section
variable {X : Cx} {scope : Scope} {x y : Str} {M : List Str} {tg elt iter : Expr} {ifs : List Expr} {pos p1 p2 p3 : Pos} {kk : Nat} {te : TE} {wi : TI} {tc : TT} {g : TG}
end
end L2
namespace L2
open PySem PySem.Spec PyProof.Rows PySem.Calls
end L2
namespace L2
open PySem PySem.Spec PyProof.Rows PySem.Calls
section
variable {X : Cx} {pins : List (Addr × Obj)} {σ : St} {H : Hp} {s : Shared} {h' : Heap}
end
section
variable {X : Cx} {ea eb : Expr} {t : TA} {p pos tp : Pos} {elts : List Expr} {x1 : Nat}
end
end L2
namespace L2
open PySem PySem.Spec PyProof.Rows PySem.Calls
end L2
namespace L2
open PySem PySem.Spec PyProof.Rows PySem.Calls
section
variable {X : Cx} {scope : Scope} {x : Str} {M : List Str} {pins : List (Addr × Obj)} {σ : St} {H₂ : Hp} {s₂ : Shared} {elt iter tg : Expr} {ifs : List Expr} {pos px : Pos} {te : TE} {wi : TI} {g : TG} {tc : TT}
def tCompF0 (wi : TI) (g : TG) (tc : TT) (te : TE) : TE := fun σ H Q => wi σ H fun J H1 => ∃ (n : Nat) (W : Nat → List V → Hp → Prop), n ≤ sizeLine ∧ W 0 [] H1 ∧ ∀ i ys H, i ≤ n → ys.length ≤ i → W i ys H →
 (J.stop i H ∧ ∀ p, H p = none → Q (.ref p) (upd H p (.lst ys))) ∨ (J.go i H ∧ i < n ∧ ∀ x H', J.yld i H x H' → ∀ u, g x (u :: σ) H' fun ρ H2 => (∃ u', ρ = u' :: σ) ∧ tc ρ H2 fun c H3 => if c = true then te ρ H3 fun z H4 => W (i + 1) (ys ++ [z]) H4 else W (i + 1) ys H3)
theorem comp_blockF (K : CompOk X scope x M) (hc : X.calm = true) (I : Inv X pins σ H₂ s₂) (hg : ∀ (C : Addr) (s₂ : Shared) (H₂ : Hp) (fp : List Addr), PG (compCx X scope C x M s₂ H₂ fp) tg g) (ht : ∀ (C : Addr) (s₂ : Shared) (H₂ : Hp) (fp : List Addr), PIfs (compCx X scope C x M s₂ H₂ fp) ifs tc) (he : ∀ (C : Addr) (s₂ : Shared) (H₂ : Hp) (fp : List Addr), PE (compCx X scope C x M s₂ H₂ fp) elt te)
   {it : Addr} {fp : List Addr} {tn : Nat → Heap → Prop} {J : It} (T : Turn X.prog X.w X.K tg J fp it tn) (st : tn 0 s₂.heap) (hf : ∀ b ∈ fp, FpOk X pins H₂ b) {n : Nat} (hsz : n ≤ sizeLine) {W : Nat → List V → Hp → Prop} {F : List V → Hp → Prop}
   (w0 : W 0 [] H₂) (turn : ∀ i ys H, i ≤ n → ys.length ≤ i → W i ys H → (J.stop i H ∧ F ys H) ∨ (J.go i H ∧ i < n ∧ ∀ x H', J.yld i H x H' → ∀ u, g x (u :: σ) H' fun ρ H2 => (∃ u', ρ = u' :: σ) ∧ tc ρ H2 fun c H3 => if c = true then te ρ H3 fun z H4 => W (i + 1) (ys ++ [z]) H4 else W (i + 1) ys H3))
   {E : Value → Shared → Prop} {RR : Value → Addr → Result → Shared → Prop}
   (hRR : ∀ (D C : Addr) (s' : Shared) (H' : Hp) (ys : List V) (m : Str → Option Value), Inv X pins σ (upd H' D (.lst ys)) s' → H' D = none → FpOk X pins (upd H' D (.lst ys)) C → s'.heap.Ns C m → F ys H' → RR (.ref D) C (.ok .next) s') :
   wpAny (model X.prog X.w) X.A (newList []) (fun acc s₃ => wpAny (model X.prog X.w) X.A (newFunctionEnv scope X.env.globals (clOf X.env scope.names []) [] X.env.qual none .none (some X.env)) (fun cenv s₄ =>
     codeAny (model X.prog X.w) X.A (.compStart (.ListComp elt [⟨tg, iter, ifs, 0⟩] scope pos) 0 (.ref it) acc { cenv with scope := relabel scope X.env }) (RR acc cenv.locals) s₄) E s₃) E s₂ := by
 refine wpAny_newObj_type (wpAny_newFunctionEnv K.cell (by intro y hy; simp at hy) (fun h₁ hns₁ hsb₁ => ?_) K.kind)
 dsimp only at hns₁ hsb₁ ⊢
 generalize hH2 : s₂.heap.push { cls := .type "list", dict := none, data := .seq ([] : List Value).toArray } = H2 at hns₁ hsb₁ ⊢
 have hC : H2.objs.size = s₂.heap.objs.size + 1 := by rw [← hH2, Heap.size_push]
 have hDC : s₂.heap.objs.size ≠ H2.objs.size := by rw [hC]; exact Nat.ne_of_lt (Nat.lt_succ_self _)
 have below : ∀ b, b < s₂.heap.objs.size → b ≠ H2.objs.size ∧ b ≠ s₂.heap.objs.size := fun b hb => ⟨by rw [hC]; exact Nat.ne_of_lt (Nat.lt_succ_of_lt hb), Nat.ne_of_lt hb⟩
 have hfl : ∀ b ∈ fp, b < s₂.heap.objs.size := fun b hb => by obtain ⟨o, e, _⟩ := T.obj _ _ st b hb; exact Heap.lt_size e
 have old : ∀ b o, s₂.heap.get? b = some o → h₁.get? b = some o := fun b o e => hsb₁.extBut b o (below b (Heap.lt_size e)).1 (Heap.get?_push_of_some _ (hH2 ▸ Heap.get?_push_of_some _ e))
 have hacc : h₁.get? s₂.heap.objs.size = some { cls := .type "list", data := .seq ([] : List Value).toArray 0 } := hsb₁.extBut _ _ hDC (Heap.get?_push_of_some _ (hH2 ▸ Heap.get?_push_size _ rfl))
 generalize hCC : H2.objs.size = C at *
 generalize hDD : s₂.heap.objs.size = D at *
 have hCle : s₂.heap.objs.size ≤ C := by rw [hDD, hC]; exact Nat.le_succ _
 have st₁ : tn 0 h₁ := T.keep _ _ _ st fun b _ o e => old b o e
 have I₁ := inv_comp (t := s₂.toks + ([] : List (Str × Value)).length) K I hf (fun b hb => by rw [hDD]; exact hfl b hb) hCle hns₁ old
 generalize hX' : compCx X scope C x M s₂ H₂ fp = X' at I₁
 have eX : X'.prog = X.prog ∧ X'.w = X.w ∧ X'.K = X.K ∧ X'.calm = true ∧ X'.A = X.A ∧ X'.ex = fp ∧ X'.env = compEnvC scope (clOf X.env scope.names []) C X.env ∧ X'.s₀ = s₂ ∧ X'.pn = [] := by
   subst hX'; exact ⟨rfl, rfl, rfl, hc, rfl, rfl, rfl, rfl, rfl⟩
 obtain ⟨eP, ew, eK, ec, eA, eex, eenv, es0, epn⟩ := eX
 have eL : X'.env.locals = C := by rw [eenv]; rfl
 have cells' : ∀ y c, X'.env.cells.lookup y = some c → X.env.cells.lookup y = some c := fun y c e => by rw [eenv] at e; exact CompOk.cl_of e
 have efs : X'.fs = frs X.stack := by subst hX'; rfl
 have fsub : ∀ b ∈ X'.fs, b = X.env.locals ∨ b ∈ X.fs := fun b hb => List.mem_cons.mp (I.stkSub b (by rw [← efs]; exact hb))
 have fpok : ∀ {pn : List (Addr × Obj)} {H' : Hp}, (∀ p ∈ pn, p.1 = D) → (∀ b ∈ fp, H' b = none) → ∀ b ∈ fp, FpOk X' pn H' b := fun {pn H'} hp hn b hb => by
   refine ⟨hn b hb, ?_, fun z => ?_, .inl (by rw [eex]; exact hb), fun y c e => (hf b hb).2.2.2.2.1 y c (cells' y c e), fun p hq => ?_⟩
   · rw [eL]; exact (below b (hfl b hb)).1
   · rcases fsub b z with q | q
     · exact (hf b hb).2.1 q
     · exact (hf b hb).2.2.1 q
   · rw [epn, List.nil_append] at hq
     rw [hp p hq]; exact Ne.symm (below b (hfl b hb)).2
 have Dfp : D ∉ fp := fun z => Nat.lt_irrefl _ (hfl D z)
 have ltL : X.env.locals < D := by have := I.lt; rw [hDD] at this; exact this
 have ltF : ∀ b ∈ X.fs, b < D := fun b hb => Nat.lt_of_not_le fun z => I.nofs (a := b) (by rw [hDD]; exact z) hb
 have newok : ∀ {b : Addr} {pn : List (Addr × Obj)} {H' : Hp}, D ≤ b → b ≠ C → H' b = none → (∀ p ∈ pn, p.1 ≠ b) → FpOk X' pn H' b := fun {b pn H'} hb hbC hn hp => by
   refine ⟨hn, by rw [eL]; exact hbC, fun z => ?_, .inr (by rw [es0, hDD]; exact hb), fun y c e => ?_, fun p hq => ?_⟩
   · rcases fsub b z with q | q
     · rw [q] at hb; exact absurd (Nat.lt_of_lt_of_le ltL hb) (Nat.lt_irrefl _)
     · exact absurd (Nat.lt_of_lt_of_le (ltF b q) hb) (Nat.lt_irrefl _)
   · obtain ⟨v, o, ho, _⟩ := I.cell y c (cells' y c e)
     have := Heap.lt_size ho
     rw [hDD] at this
     exact Nat.ne_of_lt (Nat.lt_of_lt_of_le this hb)
   · rw [epn, List.nil_append] at hq
     exact hp p hq
 have outer : ∀ {σ' : St} {H' : Hp} {s' : Shared} {pn : List (Addr × Obj)}, Inv X' pn σ' H' s' → Inv X pins σ H' s' := fun {σ' H' s' pn} J' => by
   subst hX'
   refine I.call' (ch := fp) J'.os J'.base J'.hok J'.bare fun b hb => ?_
   obtain ⟨f0, f1, f2, f3, f4, f5⟩ := hf b hb
   exact ⟨f3, f1, f4, f5⟩
 have outok : ∀ {b : Addr} {H' : Hp}, D ≤ b → H' b = none → FpOk X pins H' b := fun {b H'} hb hn => by
   have q := I.fpOk (H' := H') (b := b) (by rw [hDD]; exact hb) hn
   exact q
 have loop : ∀ s₃ : Shared, s₃ = { s₂ with heap := h₁, toks := s₂.toks + ([] : List (Str × Value)).length } →
     codeAny (model X.prog X.w) X.A (.compLoop (.ListComp elt [⟨tg, iter, ifs, 0⟩] scope pos) 0 (.ref it) (.ref D) (compEnvC scope (clOf X.env scope.names []) C X.env)) (RR (.ref D) C) s₃ := by
   rintro s₃ rfl
   refine compLoop_go2 (fun k s' => ∃ (i : Nat) (ys : List V) (its : List Value) (σ0 : Option V) (H' : Hp), i ≤ n ∧ k = n + 1 - i ∧ ys.length ≤ i ∧ Inv X' [] (σ0 :: σ) H' s' ∧ tn i s'.heap ∧ (∀ b ∈ fp, H' b = none) ∧ H' D = none ∧ Vals ys its ∧
     (∃ c, s'.heap.get? D = some { cls := .type "list", data := .seq its.toArray c }) ∧ W i ys H') ?_ (n + 1) ⟨0, [], [], none, H₂, Nat.zero_le _, rfl, Nat.le_refl _, I₁, st₁, fun b hb => (hf b hb).1, by rw [← hDD]; exact I.hok.fresh (Nat.le_refl _), .nil, ⟨0, hacc⟩, w0⟩
   rintro k s' ⟨i, ys, its, σ0, H', hi, rfl, hyl, I', st', fr', hD', rv, ⟨c, hobj⟩, w'⟩
   rcases turn i ys H' hi hyl w' with ⟨stop, fin⟩ | ⟨go, hlt, step⟩
   · have pinD : Inv X' [(D, { cls := .type "list", data := .seq its.toArray c })] (σ0 :: σ) H' s' := I'.pins_of fun p hp => by
       obtain rfl : p = (D, { cls := .type "list", data := .seq its.toArray c }) := by simpa using hp
       refine ⟨hobj, hD', ?_, ?_, fun v z => nomatch z⟩
       · rw [eL]; exact hDC
       · intro z
         rcases fsub D z with q | q
         · rw [q] at ltL; exact Nat.lt_irrefl _ ltL
         · exact Nat.lt_irrefl _ (ltF D q)
     have q := T.done X' eP ew eK ec i _ s' (σ0 :: σ) H' (notedBy (model X.prog X.w) X.A (compEnvC scope (clOf X.env scope.names []) C X.env) fun e s' => RR (.ref D) C (.error e) s') pinD (fpok (fun p hp => by obtain rfl : p = (D, { cls := .type "list", data := .seq its.toArray c }) := (by simpa using hp); rfl) fr') st' stop
     rw [eA] at q
     refine wpAny_mono q (fun r s4 ⟨hr, I4⟩ => ?_) fun _ _ z => z
     subst hr
     obtain ⟨e4, n4, _⟩ := I4.pin (D, { cls := .type "list", data := .seq its.toArray c }) (List.mem_append_right _ (by simp))
     have O4 := outer I4
     obtain ⟨m4, ns4, _⟩ := I4.loc
     rw [eL] at ns4
     refine hRR D C s4 H' ys m4 (O4.track (outok (Nat.le_refl _) n4) (Nat.le_trans I.sz (by rw [hDD]; exact Nat.le_refl _)) ⟨Nat.le_trans hyl (Nat.le_trans hi hsz), its, c, rv, e4⟩) n4 (outok (by rw [hC]; exact Nat.le_succ _) ?_) ns4 fin
     rw [zJ (Ne.symm hDC)]
     have := I4.free
     rw [eL] at this
     exact this
   · have pinD : Inv X' [(D, { cls := .type "list", data := .seq its.toArray c })] (σ0 :: σ) H' s' := I'.pins_of fun p hp => by
       obtain rfl : p = (D, { cls := .type "list", data := .seq its.toArray c }) := by simpa using hp
       refine ⟨hobj, hD', ?_, ?_, fun v z => nomatch z⟩
       · rw [eL]; exact hDC
       · intro z
         rcases fsub D z with q | q
         · rw [q] at ltL; exact Nat.lt_irrefl _ ltL
         · exact Nat.lt_irrefl _ (ltF D q)
     have pd : ∀ p ∈ [(D, ({ cls := .type "list", data := .seq its.toArray c } : Obj))], p.1 = D := fun p hp => by obtain rfl : p = (D, { cls := .type "list", data := .seq its.toArray c }) := (by simpa using hp); rfl
     have q := T.item X' eP ew eK ec i _ s' (σ0 :: σ) H' (notedBy (model X.prog X.w) X.A (compEnvC scope (clOf X.env scope.names []) C X.env) fun e s' => RR (.ref D) C (.error e) s') pinD (fpok pd fr') st' go
     rw [eA] at q
     refine wpAny_mono q (fun r s4 ⟨u, hr, h4⟩ => ?_) fun _ _ z => z
     subst hr
     refine wpAny_mono h4 (fun _ s5 ⟨xv, H5, I5, r5, y5, st5, fr5⟩ => ?_) fun _ _ z => z
     have I5' := I5.pinned (fpok pd fr5) (T.obj _ _ st5)
     rw [← eenv]
     have g6 := step xv H5 y5 σ0
     have q6 := (hg C s₂ H₂ fp) (([(D, ({ cls := .type "list", data := .seq its.toArray c } : Obj))]) ++ pinsAt fp s5.heap) s5 (σ0 :: σ) H5 xv u _ (by rw [hX']; exact I5') r5 g6
     rw [hX', eP, ew, eA] at q6
     refine wpAny_mono q6 (fun _ s6 ⟨ρ, H6, I6, ⟨u', eρ⟩, t6⟩ => ?_) (fun _ _ z => by subst hX'; exact (show False from z).elim)
     subst eρ
     have q7 := (ht C s₂ H₂ fp) _ s6 (u' :: σ) H6 _ (by rw [hX']; exact I6) t6
     rw [hX', eP, ew, eA] at q7
     refine wpAny_mono q7 (fun ok s7 ⟨H7, I7, w7⟩ => ?_) (fun _ _ z => by subst hX'; exact (show False from z).elim)
     have keepT : ∀ {s8 : Shared} {H8 : Hp} {pn : List (Addr × Obj)}, Inv X' (pn ++ (([(D, ({ cls := .type "list", data := .seq its.toArray c } : Obj))]) ++ pinsAt fp s5.heap)) (u' :: σ) H8 s8 → True := fun _ => trivial
     cases ok with
     | false =>
       obtain ⟨e7, n7, _⟩ := I7.pin (D, { cls := .type "list", data := .seq its.toArray c }) (List.mem_append_right _ (List.mem_append_left _ (by simp)))
       refine ⟨n + 1 - (i + 1), by omega, i + 1, ys, its, u', H7, hlt, rfl, Nat.le_succ_of_le hyl, I7.pins_of (pins' := []) fun p hp => absurd hp (by simp), ?_, fun b hb => ?_, n7, rv, ⟨c, e7⟩, w7⟩
       · refine T.keep _ _ _ st5 fun b hb o e => ?_
         exact (I7.pin (b, o) (List.mem_append_right _ (List.mem_append_right _ (yY hb e)))).1
       · obtain ⟨o, e, d⟩ := T.obj _ _ st5 b hb
         exact (I7.pin (b, o) (List.mem_append_right _ (List.mem_append_right _ (yY hb e)))).2.1
     | true =>
       have q8 := (he C s₂ H₂ fp) _ s7 (u' :: σ) H7 (fun z H'' => W (i + 1) (ys ++ [z]) H'') (by rw [hX']; exact I7) w7
       rw [hX', eP, ew, eA] at q8
       refine wpAny_mono q8 (fun u8 s8 ⟨v8, H8, I8, r8, w8⟩ => ?_) (fun _ _ z => by subst hX'; exact (show False from z).elim)
       obtain ⟨e7, n7, _⟩ := I8.pin (D, { cls := .type "list", data := .seq its.toArray c }) (List.mem_append_right _ (List.mem_append_left _ (by simp)))
       refine append_at (hsz := by rw [List.size_toArray, ← rv.length]; exact Nat.le_trans hyl (Nat.le_trans hi hsz)) e7 fun h8 sb8 g8 => ?_
       have I9 : Inv X' [] (u' :: σ) H8 { s8 with heap := h8, toks := s8.toks } := (I8.pins_of (pins' := []) fun p hp => absurd hp (by simp)).turned (t' := s8.toks) (it := D) (fun b o hb e => (sb8.2 b hb).trans e) n7 (by rw [eL]; exact hDC) (.inr (by rw [es0, hDD]; exact Nat.le_refl _))
         (newok (H' := H8) (pn := []) (Nat.le_refl _) hDC n7 (fun p hp => absurd hp (by simp))).2.2.2.2.1 (fun p hp => by rw [epn] at hp; exact absurd hp (by simp))
       refine ⟨n + 1 - (i + 1), by omega, i + 1, ys ++ [v8], its ++ [u8], u', H8, hlt, rfl, by rw [List.length_append, List.length_singleton]; omega, I9, ?_, fun b hb => ?_, n7, rv.append (.cons r8 .nil), ⟨c + 1, ?_⟩, w8⟩
       · refine T.keep _ _ _ st5 fun b hb o e => ?_
         have e' := (I8.pin (b, o) (List.mem_append_right _ (List.mem_append_right _ (yY hb e)))).1
         exact (sb8.2 b (fun z => Dfp (z ▸ hb))).trans e'
       · obtain ⟨o, e, d⟩ := T.obj _ _ st5 b hb
         exact (I8.pin (b, o) (List.mem_append_right _ (List.mem_append_right _ (yY hb e)))).2.1
       · rw [g8, List.push_toArray]
 exact codeAny_compStart_list (loop _ rfl) (T.self X.A 0 _ _ _ st₁ (loop _ rfl))
structure CompRF (J : It) (tc : TT) (te : TE) (σ : St) (H1 : Hp) (Q : VK) : Prop where
 ex : ∃ (n : Nat) (W : Nat → List V → Hp → Prop), n ≤ sizeLine ∧ W 0 [] H1 ∧ ∀ i ys H, i ≤ n → ys.length ≤ i → W i ys H →
   (J.stop i H ∧ ∀ p, H p = none → Q (.ref p) (upd H p (.lst ys))) ∨ (J.go i H ∧ i < n ∧ ∀ z H', J.yld i H z H' → tc (some z :: σ) H' fun c H3 => if c = true then te (some z :: σ) H3 fun z H4 => W (i + 1) (ys ++ [z]) H4 else W (i + 1) ys H3)
def tCompF (wi : TI) (tc : TT) (te : TE) : TE := fun σ H Q => wi σ H fun J H1 => CompRF J tc te σ H1 Q
theorem pg_oneF (K : CompOk X scope x M) {C : Addr} {s₂ : Shared} {H₂ : Hp} {fp : List Addr} : PG (compCx X scope C x M s₂ H₂ fp) (.Name x px) (gName 0) :=
 pg_name K.nd rfl (.inl (lookup_relabel_local K.loc)) (.inr (lookup_relabel_local K.loc))
theorem pifs_eqv {X : Cx} {ifs : List Expr} {t u : TT} (h : PIfs X ifs t) (e : t = u) : PIfs X ifs u := e ▸ h
end
theorem comp_listF {K : PySem.W.Frag} {a : Addr} {xs : List V} {tc : TT} {te : TE} {σ : St} {H : Hp} {Q : VK} (hz : xs.length ≤ sizeLine) (W : Nat → List V → Hp → Prop) (h0 : W 0 [] H) (hq : ∀ i ys H, W i ys H → SqL K H a xs)
   (hs : ∀ i x ys H, xs[i]? = some x → ys.length ≤ i → W i ys H → tc (some x :: σ) H fun c H3 => if c = true then te (some x :: σ) H3 fun z H4 => W (i + 1) (ys ++ [z]) H4 else W (i + 1) ys H3)
   (hd : ∀ ys H, W xs.length ys H → ∀ p, H p = none → Q (.ref p) (upd H p (.lst ys))) : CompRF (Itl K a) tc te σ H Q := by
 refine ⟨xs.length, W, hz, h0, fun i ys H hi hl hw => ?_⟩
 have q := hq i ys H hw
 by_cases hlt : i < xs.length
 · refine .inr ⟨⟨xs, xs[i], q, by simp [hlt]⟩, hlt, fun v H' y => ?_⟩
   obtain ⟨e, y⟩ := y
   subst e
   exact hs i v ys _ (y xs q) hl hw
 · have e : i = xs.length := by omega
   subst e
   exact .inl ⟨⟨xs, q, Nat.le_refl _⟩, hd ys H hw⟩
section
variable {X : Cx} {k : Nat} {m : Str} {pos apos : Pos} {o : Expr} {ta : TE}
end
end L2
namespace L2
open PySem PySem.Spec PyProof.Rows PySem.Calls
section
variable {X : Cx} {ea : Expr} {t : TA} {p pos tp : Pos} {elts : List Expr} {x1 : Nat}
end
end L2
namespace L2
open PySem PySem.Spec PyProof.Rows PySem.Calls
section
variable {X : Cx}
theorem op_in_d (hu : X.A.units + 1 < cLine) : OpR X (compareOp .In) (fun x y H Q => ∃ a o, y = .ref a ∧ DGet H a x o ∧ Q (.bl o.isSome) H) := by
 intro pins s σ H x y v u Q I rx ry h
 obtain ⟨a, o, rfl, g, q⟩ := h
 cases ry
 exact d_in hu I g rx fun s' I' => ⟨.bl _, H, I', rfl, q⟩
end
end L2
namespace L2
open PySem PySem.Spec PySem.Calls PyProof.Rows
def RawD (h : Heap) (d : Addr) (es : Array DictEntry) (ep : Nat) : Prop := ∃ o, h.get? d = some o ∧ o.ExactDict ∧ o.data = .dict es ep
theorem RawD.keep {h h' : Heap} {d : Addr} {es : Array DictEntry} {ep : Nat} (x : RawD h d es ep) (k : ∀ o, h.get? d = some o → h'.get? d = some o) : RawD h' d es ep := let ⟨o, ho, r⟩ := x; ⟨o, k o ho, r⟩
theorem RawD.lt {h : Heap} {d : Addr} {es : Array DictEntry} {ep : Nat} (x : RawD h d es ep) : d < h.objs.size := let ⟨_, ho, _⟩ := x; Heap.lt_size ho
section
variable {prog : Program} {w : World} {A : Around} {E : Value → Shared → Prop} {s : Shared} {d it : Addr} {es : Array DictEntry} {ep i : Nat}
theorem RawD.ty (x : RawD s.heap d es ep) : s.TypeIs (.ref d) "dict" := let ⟨o, ho, c, _⟩ := x; ⟨o, ho, c.1⟩
theorem raw_iter {Q : Value → Shared → Prop} (hd : (d == sysModules) = false) (hm : RawD s.heap d es ep)
   (q : Q (.ref s.heap.objs.size) { s with heap := s.heap.push { cls := .type "dict_keyiterator", data := .fields #[.ref d, .int 0 0, .int es.size 0, .int ep 0] } }) : wpAny (model prog w) A (pyIter (.ref d)) Q E s := by
 obtain ⟨o, ho, hc, hdat⟩ := id hm
 refine wpAny_pyIter_slot hm.ty F.slot_dict_iter (wpAny_call_entry F.slot_dict_iter hm.ty F.entry_dict_iter ?_ (F.args_dict_iter_1 _))
 unfold Builtin.«dict.__iter__»
 refine wpAny_bind ?_
 unfold Builtin.Dict.dictSlotNone
 refine wpAny_bind (wpAny_notOrdered_dict hm.ty ?_)
 refine wpAny_pure ?_
 show wpAny _ _ (Builtin.Dict.showsAll d >>= _) _ _ s
 unfold Builtin.Dict.showsAll
 rw [if_neg (by rw [hd]; exact Bool.false_ne_true)]
 refine wpAny_bind (wpAny_pure (wpAny_bind (wpAny_dictEntries ho hdat (wpAny_bind (wpAny_dictEpoch ho hdat ?_)))))
 refine wpAny_bind (wpAny_newObj_type (wpAny_pure ⟨_, rfl, "dict_keyiterator", _, ⟨_, Heap.get?_push_size _ rfl, rfl⟩, F.slot_dict_keyiterator_next.lookup, ?_⟩))
 simpa [rawInt] using q
theorem raw_item {Q : Option Value → Shared → Prop} (hit : s.heap.IsKeyIter it d i es.size ep) (hm : RawD s.heap d es ep) (hi : i < es.size)
   (q : ∀ h', h'.IsKeyIter it d (i + 1) es.size ep → Heap.SameBut it s.heap h' → Q (some es[i].key) { s with heap := h' }) : wpAny (model prog w) A (pyNext (.ref it)) Q E s := by
 obtain ⟨o, ho, hc, hd⟩ := id hit
 obtain ⟨od, hod, hcd, hdd⟩ := id hm
 unfold pyNext
 refine wpAny_bind (wpAny_attempt (wpAny_callSpecial?_slot (name := Str.ofString "__next__") hit.typeIs F.slot_dict_keyiterator_next
   (wpAny_call_entry F.slot_dict_keyiterator_next hit.typeIs F.entry_dict_keyiterator_next ?_ (F.args_dict_keyiterator_next_1 _))))
 refine wpAny_bind (wpAny_pure (wpAny_bind (wpAny_bind ?_)))
 first | refine wpAny_bind (wpAny_typeNameOfWhole_keyiter hit.typeIs (wpAny_pure ?_)) | refine wpAny_bind (wpAny_typeNameOf_keyiter hit.typeIs (wpAny_pure ?_))
 refine wpAny_bind (wpAny_fieldsOf ho hd ?_)
 simp only [show Builtin.Dict_items.ownsTuple "dict_keyiterator" = false by decide, Bool.false_eq_true, if_false]
 show wpAny _ _ (if (Value.ref d == Value.none) = true then _ else _) _ _ s
 rw [if_neg (show ¬ ((Value.ref d == Value.none) = true) from Bool.false_ne_true)]
 refine wpAny_bind (wpAny_pure (wpAny_bind (wpAny_dictEntries hod hdd ?_)))
 rw [if_neg (by simp)]
 refine wpAny_bind (wpAny_pure (wpAny_bind (wpAny_dictEpoch hod hdd ?_)))
 rw [if_neg (by simp)]
 refine wpAny_pure ?_
 simp only [show ¬ ((i : Int) < 0) from by omega, if_false, Int.toNat_natCast, Array.getElem?_eq_getElem hi]
 refine wpAny_bind ?_
 first | refine wpAny_bind (wpAny_typeNameOfWhole_keyiter hit.typeIs (wpAny_pure ?_)) | refine wpAny_bind (wpAny_typeNameOf_keyiter hit.typeIs (wpAny_pure ?_))
 refine wpAny_bind (wpAny_isOneOf_keyiter hit.typeIs ?_)
 show wpAny _ _ (setField (.ref it) 1 (rawInt ((i : Int) + 1)) >>= _) _ _ s
 refine wpAny_bind (wpAny_setField ho hd (by simp) ?_)
 have hit' : (s.heap.update it (Obj.mapFields (·.setIfInBounds 1 (rawInt ((i : Int) + 1))))).IsKeyIter it d (i + 1) es.size ep :=
   ⟨_, Heap.get?_update_self _ ho (Obj.isFreed_of_fields (Obj.data_mapFields hd _)), (Obj.cls_mapFields ..).trans hc, by rw [Obj.data_mapFields hd]; simp [rawInt]⟩
 refine wpAny_bind (wpAny_holding (wpAny_bind (wpAny_isOneOf_keyiter (s := { s with heap := s.heap.update it (Obj.mapFields (·.setIfInBounds 1 (rawInt ((i : Int) + 1)))) }) hit'.typeIs ?_)))
 show wpAny _ _ (pure es[i].key) _ _ _
 exact wpAny_pure (wpAny_pure ⟨_, rfl, wpAny_pure (q _ hit' (Heap.SameBut.update ..))⟩)
theorem raw_end {Q : Option Value → Shared → Prop} (hh : A.handled = none) (hit : s.heap.IsKeyIter it d es.size es.size ep) (hm : RawD s.heap d es ep)
   (q : ∀ h', Heap.ExtBut it s.heap h' → Q none { s with heap := h' }) : wpAny (model prog w) A (pyNext (.ref it)) Q E s := by
 obtain ⟨o, ho, hc, hd⟩ := id hit
 obtain ⟨od, hod, hcd, hdd⟩ := id hm
 unfold pyNext
 refine wpAny_bind (wpAny_attempt (wpAny_callSpecial?_slot (name := Str.ofString "__next__") hit.typeIs F.slot_dict_keyiterator_next
   (wpAny_call_entry F.slot_dict_keyiterator_next hit.typeIs F.entry_dict_keyiterator_next ?_ (F.args_dict_keyiterator_next_1 _))))
 refine wpAny_bind (wpAny_pure (wpAny_bind (wpAny_bind ?_)))
 first | refine wpAny_bind (wpAny_typeNameOfWhole_keyiter hit.typeIs (wpAny_pure ?_)) | refine wpAny_bind (wpAny_typeNameOf_keyiter hit.typeIs (wpAny_pure ?_))
 refine wpAny_bind (wpAny_fieldsOf ho hd ?_)
 simp only [show Builtin.Dict_items.ownsTuple "dict_keyiterator" = false by decide, Bool.false_eq_true, if_false]
 show wpAny _ _ (if (Value.ref d == Value.none) = true then _ else _) _ _ s
 rw [if_neg (show ¬ ((Value.ref d == Value.none) = true) from Bool.false_ne_true)]
 refine wpAny_bind (wpAny_pure (wpAny_bind (wpAny_dictEntries hod hdd ?_)))
 rw [if_neg (by simp)]
 refine wpAny_bind (wpAny_pure (wpAny_bind (wpAny_dictEpoch hod hdd ?_)))
 rw [if_neg (by simp)]
 refine wpAny_pure ?_
 simp only [show ¬ ((es.size : Int) < 0) from by omega, if_false, Int.toNat_natCast, Array.getElem?_eq_none (Nat.le_refl es.size)]
 refine wpAny_bind ?_
 first | refine wpAny_bind (wpAny_typeNameOfWhole_keyiter hit.typeIs (wpAny_pure ?_)) | refine wpAny_bind (wpAny_typeNameOf_keyiter hit.typeIs (wpAny_pure ?_))
 show wpAny _ _ (setField (.ref it) 0 .none >>= _) _ _ s
 refine wpAny_bind (wpAny_setField ho hd (by simp) ?_)
 show wpAny _ _ (newExc (.type "StopIteration") [] >>= _) _ _ _
 refine wpAny_bind ?_
 simp only [newExc, newTuple]
 refine wpAny_bind (wpAny_newObj_type ?_ (by size_fits))
 refine wpAny_bind (m := firstArgMember _ _) (wpAny_of_eq (a := Value.none) (by first | rfl | (simp only [firstArgMember]; rfl)) ?_)
 refine wpAny_newObj_type ?_ (by size_fits)
 simp only [raiseNew]
 refine wpAny_bind (wpAny_handled ?_)
 rw [show A.in1.handled = none from hh]
 refine wpAny_bind (wpAny_pure (wpAny_throw ?_))
 refine wpAny_bind (wpAny_isInstance (T := "StopIteration") (b := true) ⟨_, Heap.get?_push_size _ rfl, rfl⟩ isSubtype_stop ?_)
 exact wpAny_pure (q _ (((Heap.SameBut.update ..).extBut.push _).push _))
end
section
variable {X : Cx} {pos : Pos}
end
end L2
namespace L2
open PySem PySem.Spec PySem.Calls PySem.W PyProof.Rows
inductive KAll (n : Nat) {α : Type} (R : α → Prop) : KasT α → Prop
 | ret {a : α} : R a → KAll n R (.ret a)
 | ask {i j : Nat} {k : Bool → KasT α} : i < n → j < n → (∀ b, KAll n R (k b)) → KAll n R (.ask i j k)
theorem KAll.bind {n : Nat} {α β : Type} {R : α → Prop} {S : β → Prop} {f : α → KasT β} {t : KasT α} (h : KAll n R t) (k : ∀ a, R a → KAll n S (f a)) : KAll n S (t.bind f) := by
 induction h with
 | ret r => exact k _ r
 | ask hi hj _ ih => exact .ask hi hj ih
def PlG (n : Nat) (p : Array Nat) : Prop := p.size = n ∧ ∀ x ∈ p, x < n
theorem PlG.at {n : Nat} {p : Array Nat} (h : PlG n p) (hn : 0 < n) (k : Nat) : p.getD k 0 < n := by
 rw [Array.getD_eq_getD_getElem?]
 by_cases hk : k < p.size
 · rw [Array.getElem?_eq_getElem hk]; exact h.2 _ (Array.getElem_mem hk)
 · rw [Array.getElem?_eq_none (by omega)]; exact hn
end L2
namespace L2
open PySem PySem.Spec PySem.Calls PySem.W PyProof.Rows
section
variable {prog : Program} {w : World} {A : Around} {E : Value → Shared → Prop} {s : Shared}
def IsTT (h : Heap) (v : Value) : Prop := ∃ x o q t tq tt m, v = .ref x ∧ h.get? x = some o ∧ o.cls = .type "tuple" ∧ o.data = .seq #[.str q tq, .str t tt] m
theorem IsTT.keep {h h' : Heap} {v : Value} (x : IsTT h v) (k : ∀ b o, h.get? b = some o → o.cls = .type "tuple" → h'.get? b = some o) : IsTT h' v := let ⟨a, o, q, t, tq, tt, m, e, ho, hc, r⟩ := x; ⟨a, o, q, t, tq, tt, m, e, k _ _ ho hc, hc, r⟩
end
end L2
namespace L2
open PySem PySem.Spec PyProof.Rows PySem.Calls
section
variable {X : Cx} {scope : Scope} {x y z : Str} {M : List Str} {elt iter : Expr} {ifs : List Expr} {pos p1 p2 p3 p4 : Pos} {kk : Nat} {te : TE} {wi : TI} {tc : TT}
structure CompRT3 (K : PySem.W.Frag) (J : It) (tc : TT) (te : TE) (σ : St) (H1 : Hp) (Q : VK) : Prop where
 ex : ∃ (n : Nat) (W : Nat → List V → Hp → Prop), n ≤ sizeLine ∧ W 0 [] H1 ∧ ∀ i ys H, i ≤ n → ys.length ≤ i → W i ys H →
   (J.stop i H ∧ ∀ p, H p = none → Q (.ref p) (upd H p (.lst ys))) ∨ (J.go i H ∧ i < n ∧ ∀ z H', J.yld i H z H' → ∃ (p : Addr) (a b d : V), z = .ref p ∧ SqT K H' p [a, b, d] ∧ tc (some a :: some b :: σ) H' fun c H3 => if c = true then te (some a :: some b :: σ) H3 fun z H4 => W (i + 1) (ys ++ [z]) H4 else W (i + 1) ys H3)
end
end L2
namespace L2
open PySem PySem.Spec PyProof.Rows PySem.Calls PySem.W PySem.Builtin PySem.Builtin.ObjectAttr PySem.Builtin.Getset_descriptor
structure ExcGet (K : PySem.W.Frag) (D : Addr) (f : Str) : Prop where
 ga : findIn K (.ref D) "__getattribute__" = some (some (.builtin "BaseException.__getattribute__"))
 gk : findIn K (.ref D) "__getattr__" = some none
 hd : hasDictIn K D = true
 at_ : findIn K (.ref D) f = some none
 mb : mroIn K D (.type "BaseException") = some true
section
variable {prog : Program} {w : World} {A : Around} {E : Value → Shared → Prop} {s : Shared} {K : PySem.W.Frag} {x D : Addr} {ox : Obj} {od : Obj} {name : Str} {v : Value}
theorem excGet_call {tk : Tok} {R : Result → Shared → Prop} (c : ExcGet K D name) (X : K.In s.heap) (J : PySem.W.InstAt s.heap x ox D (some od)) (hl : lookIn name od = some (some v)) (q : R (.ok (.ret v)) s) :
   codeAny (model prog w) A (.call (.builtin "BaseException.__getattribute__") ⟨[.ref x, .str name tk], []⟩) R s := by
 obtain ⟨hh, g, d, t, os⟩ := s
 have t0 := J.type (M := model prog w)
 have lb := looks_mroIn (M := model prog w) X c.mb
 have f0 := looks_find (M := model prog w) X J (findObj_own c.hd c.at_ rfl hl)
 have hk : builtinKind "BaseException.__getattribute__" = some .slot := by symm
 have hsplit : splitId "BaseException.__getattribute__" = some ("BaseException", "__getattribute__") := by symm
 have ha := F.args_bexc_ga (.ref x) (.str name tk)
 refine codeAny_call_builtin F.excAttr_ValueError.ga.plain F.entry_bexc_ga ?_
 simp only [checkBuiltinCall, hk, hsplit]
 unfold isInstance
 refine wpAny_bind ?_
 repeat lk
 exact q
theorem excGet_ok {expr : Bool} {Q : Value → Shared → Prop} (c : ExcGet K D name) (X : K.In s.heap) (J : PySem.W.InstAt s.heap x ox D (some od)) (hl : lookIn name od = some (some v)) (hv : handedIn v = true) (q : Q v { s with toks := s.toks + 1 }) :
   wpAny (model prog w) A (getAttr (.ref x) name expr) Q E s := by
 obtain ⟨hh, g, d, t, os⟩ := s
 have t0 := J.type (M := model prog w)
 have t1 := looks_findIn (M := model prog w) X c.ga
 have f1 := looks_findIn (M := model prog w) X c.gk
 have f3 := F.excAttr_ValueError.ga.bind (.ref x)
 unfold getAttr getAttrBy
 refine wpAny_bind (wpAny_mkText (wpAny_holding (wpAny_bind (t0.at (wpAny_bind (t1.at ?_))))))
 show wpAny _ _ (getAttrByItsOwn _ _ _ _ _ _) _ _ _
 unfold getAttrByItsOwn hookBefore
 refine wpAny_bind (f1.at (wpAny_bind (wpAny_attempt (wpAny_holding ?_))))
 unfold callGetattribute
 rw [show (expr && onTheHeap (Value.builtin "BaseException.__getattribute__")) = false from Bool.and_false _, if_neg (by decide)]
 show wpAny _ _ (boundAndCalled _ _ _) _ _ _
 unfold boundAndCalled
 rw [f3]
 refine wpAny_bind (wpAny_pure (wpAny_call ?_))
 refine excGet_call c (s := ⟨hh, g, d, t + 1, os⟩) X J hl ?_
 show wpAny _ _ (handedOut v) _ _ _
 rw [handedOut_of hv]; exact wpAny_pure q
def excMro : List Value → Bool
 | .ref _ :: r => excMro r
 | l => l == mroVE
theorem refuse_exc (self : Value) : ∀ {l : List Value}, excMro l = true → refuseLoop self "__setattr__" l = pure ()
 | .ref c :: r, e => by rw [refuseLoop_ref]; exact refuse_exc self (l := r) e
 | [], e => by cases e
 | .type n :: r, e => by
   have q : (Value.type n :: r) = mroVE := by simpa [excMro] using e
   rw [q]; exact PySem.F.store_ValueError.passes self
 | .none :: r, e => by have q := e; simp [excMro, mroVE] at q
 | .ellipsis :: r, e => by have q := e; simp [excMro, mroVE] at q
 | .notImplemented :: r, e => by have q := e; simp [excMro, mroVE] at q
 | .bytes _ _ :: r, e => by have q := e; simp [excMro, mroVE] at q
 | .bool _ :: r, e => by have q := e; simp [excMro, mroVE] at q
 | .int _ _ :: r, e => by have q := e; simp [excMro, mroVE] at q
 | .str _ _ :: r, e => by have q := e; simp [excMro, mroVE] at q
 | .float _ _ :: r, e => by have q := e; simp [excMro, mroVE] at q
 | .builtin _ :: r, e => by have q := e; simp [excMro, mroVE] at q
structure ExcSet (K : PySem.W.Frag) (D : Addr) (f : Str) : Prop where
 sa : findIn K (.ref D) "__setattr__" = some (some (.builtin "object.__setattr__"))
 hd : hasDictIn K D = true
 at_ : findIn K (.ref D) f = some none
 mr : (clsIn K D).any (fun cd => excMro cd.mro) = true
 mo : mroIn K D (.type "object") = some true
theorem excSet_ok {Q : Unit → Shared → Prop} (c : ExcSet K D name) (X : K.In s.heap) (hx : s.heap.get? x = some ox) (hc : ox.cls = .ref D) (hd : ox.dict = none) (hf : ∃ vs, ox.data = .fields vs)
   (q : ∀ h' dx mA, s.heap.objs.size ≤ dx → h'.get? x = some { ox with dict := some dx } → h'.Ns1 dx mA → mA = (fun y => if y = name then some v else none) → (∀ b o, b ≠ x → s.heap.get? b = some o → h'.get? b = some o) → Q () { s with heap := h', toks := s.toks + 2 }) :
   wpAny (model prog w) A (setAttr (.ref x) name v) Q E s := by
 have J : PySem.W.InstAt s.heap x ox D none := ⟨hx, hc, (by obtain ⟨vs, z⟩ := hf; unfold notCls; rw [z]), (by rw [hd]; exact True.intro)⟩
 refine set_plain X J c.sa ?_
 have SF := PySem.F.store_object
 obtain ⟨cd, hcd, ho⟩ := any_some c.mr
 obtain ⟨cd', hcd', hdd⟩ := any_some c.hd
 obtain rfl : cd = cd' := Option.some.inj (hcd.symm.trans hcd')
 have sub : Looks (model prog w) s.heap (isInstance (.ref x) (.type "object")) true := J.type.andThen (looks_mroIn X c.mo)
 refine codeAny_call_builtin SF.slot.plain SF.entry (@check_slot (model prog w) _ _ { s with toks := s.toks + 1 } "object.__setattr__" "object" "__setattr__" (.ref x) [.str name s.toks, v] [] _ SF.kind SF.split sub (SF.args (.ref x) (.str name s.toks) v) ?_)
 have hm : Looks (model prog w) s.heap (mroOf (.ref D)) cd.mro := (looks_clsIn X hcd).andThen .now
 obtain ⟨hh, g, d, t, os⟩ := s
 dsimp only at X hx J hm sub
 have T0 := J.type (M := model prog w)
 rw [osa_eq, refuse_eq]
 refine wpAny_bind (wpAny_bind (T0.at (wpAny_bind (hm.at ?_))))
 rw [refuse_exc _ ho]
 refine wpAny_pure (wpAny_bind (T0.at (wpAny_bind ((looks_findIn X c.at_).at (wpAny_bind (wpAny_pure ?_))))))
 show wpAny _ _ (storeInOwnDict _ _ _ _ _ _) _ _ _
 obtain ⟨oc, odi, oda, osl⟩ := ox
 dsimp only at hc hd hf
 subst hc hd
 obtain ⟨vs, rfl⟩ := hf
 refine wpAny_bind (wpAny_pure (wpAny_bind (wpAny_bind (wpAny_loadPart hx (wpAny_bind ((looks_clsIn X hcd).at ?_))))))
 rw [hdd]
 have hx1 := Heap.get?_push_of_some (h := hh) { cls := .type "dict", data := .dict #[] } hx
 have nx : x ≠ hh.objs.size := Nat.ne_of_lt (Heap.lt_size hx)
 refine wpAny_bind (wpAny_alloc' ?_)
 refine wpAny_bind (wpAny_update' hx1 ?_)
 refine wpAny_pure ?_
 show wpAny _ _ (storeInDict hh.objs.size (.str name _) name v) _ _ _
 unfold storeInDict newKeyGuard
 have gd : ((hh.push { cls := .type "dict", data := .dict #[] }).update x fun o => { cls := o.cls, dict := some hh.objs.size, data := o.data, slots := o.slots }).get? hh.objs.size
     = some { cls := .type "dict", data := .dict #[] } :=
   (Heap.get?_update_ne _ _ _ _ nx.symm).trans (Heap.get?_push_at rfl rfl)
 have nd : ((hh.push { cls := .type "dict", data := .dict #[] }).update x fun o => { cls := o.cls, dict := some hh.objs.size, data := o.data, slots := o.slots }).Ns hh.objs.size (fun _ => none) :=
   ⟨_, #[], _, gd, rfl, fun e he => absurd he (by simp), fun _ => rfl⟩
 refine wpAny_bind (wpAny_pure (wpAny_bind (wpAny_nsSet1 (Heap.Ns1.of_empty nd) fun h' hn' hs => ?_)))
 obtain ⟨oD, esD, epD, hoD, hdD, hcD⟩ := hn'.count (Within.cons name v Within.nil)
 refine wpAny_bind (wpAny_lookBehind hoD (by rw [hdD]; exact pastItsLine_dict (Nat.le_trans hcD (by rw [List.length_cons, List.length_nil, sizeLine_eq]; omega))) ?_)
 refine wpAny_pure (q h' hh.objs.size _ (Nat.le_refl _) ?_ hn' rfl fun b o n e => ?_)
 · exact (hs.2 x nx).trans (Heap.get?_update_self _ hx1 rfl)
 · exact (hs.2 b (Nat.ne_of_lt (Heap.lt_size e))).trans ((Heap.get?_update_ne _ _ _ _ n).trans (Heap.get?_push_of_some _ e))
end
end L2
namespace L2
open PySem PySem.Spec PyProof.Rows PySem.Calls PySem.W PySem.Builtin PySem.Builtin.ObjectAttr PySem.Builtin.Getset_descriptor
def excInI (K : PySem.W.Frag) (C : Addr) : Bool := match K.lookup C with
 | some ⟨.type "type", _, .cls cd, sl⟩ => (match cd.mro, sl.toList with
   | .ref C' :: bm, [_, _, _, _, some (.builtin n), _] => C' == C && n == "ValueError.__new__" && !cd.hasDel && tailIn K mroVE bm
   | _, _ => false)
 | _ => false
theorem own_objI {K : PySem.W.Frag} {h : Heap} {C : Addr} (X : K.In h) (q : excInI K C = true) :
   ∃ bm N nm qn bs hdct sn sub ab col dd k0 k1 k2 k3 k5, h.get? C = some (excClassObj nm qn C N bs bm hdct sn sub ab col dd k0 k1 k2 k3 k5 "ValueError.__new__") ∧ OwnTail h mroVE bm := by
 unfold excInI at q
 split at q
 · rename_i dd cl sl ho
   split at q
   · rename_i C' bm k0 k1 k2 k3 n k5 hm hs
     simp only [Bool.and_eq_true, Bool.not_eq_true', beq_iff_eq] at q
     obtain ⟨⟨⟨e1, e2⟩, e3⟩, e4⟩ := q
     subst e1 e2
     obtain ⟨c1, c2, c3, c4, c5, c6, c7, c8, c9, c10, c11⟩ := cl
     dsimp only at hm e3; subst hm e3
     have es : sl = #[k0, k1, k2, k3, some (.builtin "ValueError.__new__"), k5] := by
       cases sl with | mk l => (simp only at hs; rw [hs])
     subst es
     exact ⟨bm, c4, c1, c5, c2, c6, c7, c8, c9, c10, dd, k0, k1, k2, k3, k5, X _ _ ho, tail_of_in X e4⟩
   · cases q
 · cases q
def exObj (C : Addr) (dct : Option Addr) (t : Addr) : Obj := { cls := .ref C, dict := dct, data := .fields #[.ref t, .none, .none, .none, .bool false, .none] }
section
variable {prog : Program} {w : World} {A : Around} {E : Value → Shared → Prop} {s : Shared} {K : PySem.W.Frag} {C fI : Addr}
theorem exc_make {rest : List Value} {Q : Value → Shared → Prop} (X : K.In s.heap) (hc : excInI K C = true) (hi : findIn K (.ref C) "__init__" = some (some (.ref fI))) (hf : isFn K (.ref fI) = true)
   (hrest : rest.length ≤ sizeLine)
   (hq : ∀ h' e t, s.heap.objs.size ≤ e → h'.get? e = some (exObj C none t) → (∀ b o, s.heap.get? b = some o → h'.get? b = some o) → h'.objs.size = e + 1 →
     wpAny (model prog w) (A.under (.builtin "type.__call__" ⟨.ref C :: rest, []⟩)) (call (.ref fI) (.ref e :: rest)) (fun r s' => r = .none ∧ Q (.ref e) s') E { s with heap := h' }) :
   wpAny (model prog w) A (call (.ref C) rest) Q E s := by
 obtain ⟨bm, N, nm, qn, bs, hdct, sn, sub, ab, col, dd, k0, k1, k2, k3, k5, hC, T⟩ := own_objI X hc
 obtain ⟨h, g, d, t, os⟩ := s
 dsimp only at X hC T hq
 have FB := PySem.F.excBase_ValueError
 have f1 := tc_lookup
 have f2 := tc_bind (.ref C)
 have hT : (⟨h, g, d, t, os⟩ : Shared).TypeIs (.ref C) "type" := ⟨_, hC, rfl⟩
 refine wpAny_call (codeAny_of_tree ?_)
 show wpAny _ _ (callAny (.ref C) _) _ _ _
 repeat (any_goals (first | assumption | with_reducible refine wpAny_loadPart_at hC ?_ | wp_step))
 refine ⟨rfl, ?_⟩
 refine codeAny_call_builtin_at (Code.quiet_builtin _ (by symm)) entry_typeCall (wpAny_check_type_call_sub hC ?_)
 repeat (first | with_reducible refine wpAny_loadPart_at hC ?_ | with_reducible refine wpAny_madeBy_exc hC ?_ | wp_step)
 refine codeAny_call_builtin_code (Code.quiet_builtin _ FB.quiet) (wpAny_check_new_subT FB T hC ?_)
 refine codeAny_exc_new_subT FB T hC ?_ hrest
 show wpAny _ _ _ _ _ ⟨(h.push { cls := .type "tuple", data := .seq rest.toArray }).push { cls := .ref C, data := .fields #[.ref h.objs.size, .none, .none, .none, .bool false, .none] }, g, d, t, os⟩
 generalize hh' : (h.push { cls := .type "tuple", data := .seq rest.toArray }).push { cls := .ref C, data := .fields #[.ref h.objs.size, .none, .none, .none, .bool false, .none] } = h'
 have kp : ∀ b o, h.get? b = some o → h'.get? b = some o := fun b o e => by rw [← hh']; exact Heap.get?_push_of_some _ (Heap.get?_push_of_some _ e)
 have hC1 := kp _ _ hC
 have X1 : K.In h' := fun b o e => kp b o (X b o e)
 have hget : h'.get? (h.objs.size + 1) = some (exObj C none h.objs.size) := by rw [← hh']; unfold exObj; heap_get
 have hcC : (Value.ref C :: bm).contains (.ref C) = true := by simp
 have hsz : h'.objs.size = h.objs.size + 1 + 1 := by rw [← hh', Heap.size_push, Heap.size_push]
 have L := looks_findIn (M := model prog w) X1 hi
 have cl : (exObj C none h.objs.size).cls = .ref C := rfl
 unfold isInstance
 repeat (first | (with_reducible refine wpAny_loadPart_at hget ?_; rw [cl]) | (with_reducible refine wpAny_isSubtype_exc hC1 ?_; rw [hcC]) | wp_step)
 show wpAny _ _ (typeLookup (.ref C) _) _ _ _
 refine L.at ?_
 refine wpAny_holding (wpAny_bind ?_)
 refine (bind_fn X1 (.ref (h.objs.size + 1)) (beq_iff_eq.mp hf)).at ?_
 refine wpAny_bind (wpAny_mono (hq h' (h.objs.size + 1) h.objs.size (Nat.le_succ _) hget kp hsz) (fun r s' hr => ?_) fun _ _ x => x)
 obtain ⟨rfl, hQ⟩ := hr
 wp_walk
 exact hQ
end
end L2
namespace L2
open PySem PySem.Spec PyProof.Rows PySem.Calls PySem.W PySem.Builtin PySem.Builtin.ObjectAttr PySem.Builtin.Getset_descriptor
def excN (a C : Addr) (dct : Option Addr) : HO := .ext fun h => ∃ t, h.get? a = some (exObj C dct t)
theorem excN_ok {P : Program} {w : World} {H : Hp} {h : Heap} {a C t : Addr} {dct : Option Addr} (e : h.get? a = some (exObj C dct t)) : ObjOk P w H h a (excN a C dct) :=
 ⟨⟨t, e⟩, ⟨_, e⟩, fun _ _ ⟨u, z⟩ k => ⟨u, k _ z⟩⟩
theorem upd_back {H : Hp} {a : Addr} {o : HO} (h : H a = some o) : upd H a o = H := by
 funext b; unfold upd; split
 · rename_i e; rw [e, h]
 · rfl
def hid (H : Hp) (a : Addr) : Hp := fun b => if b = a then none else H b
structure BInit (K : PySem.W.Frag) (C : Addr) : Prop where
 rd : PySem.W.readsIn K C (.type "type") = true
 at_ : PySem.W.findCls K (.ref C) (.type "type") "__init__" = some (.val (.builtin "ValueError.__init__"))
 sp : PySem.W.specialIn K (.ref C) "__getattribute__" = some (some (.builtin "type.__getattribute__"))
section
variable {X : Cx} {pos apos np : Pos} {e : Expr} {es : List Expr} {t : TA} {x : Str} {C0 : Addr}
def tBInit (K : PySem.W.Frag) (t : TA) : TE := fun σ H Q => t σ H fun vs H1 => ∃ a C m, vs = [.ref a, m] ∧ H1 a = some (excN a C none) ∧ excInI K C = true ∧ Q .non H1
theorem pe_binit {pl : Sem Bool} (c : BInit X.K C0) (hg : Gl X x) (hmg : X.mg x = some (.ref C0)) (ha : PA X (e :: es) t) (hd : (x == ("__debug__" : Str)) = false := by decide)
   (hst : starEach (e :: es) X.env = (false, eval e X.env) :: starEach es X.env := by rfl) (hpl : (backTo pos (starEach es X.env)).any (·.1) = false := by rfl)
   (ht : eval (.Call (.Attribute (.Name x np) "__init__" apos) (e :: es) [] pos) X.env = (do
     let ov ← eval (.Name x np) X.env
     standAt apos.atName
     let (f, first) ← holding [ov] (getMethod ov "__init__" pl)
     callWith pos f first (backTo pos (starEach (e :: es) X.env)) (backToKw pos (keywordEach [] X.env))) := by rfl) :
   PE X (.Call (.Attribute (.Name x np) "__init__" apos) (e :: es) [] pos) (tBInit X.K t) := by
 intro pins s σ H Q I h
 refine PySem.W.methodCall_KW (pl := pl) (ld_glob I hg hmg ?_ hd) ht
 refine PySem.W.method_cls I.kIn c.sp (PySem.W.cls_value (s := s) I.kIn c.rd c.at_ rfl ?_)
 refine PyProof.Rows.callWith_builtin1 (thn (ha pos pins _ σ H _ (I.tok _) h) fun us s2 ⟨vs, H2, I2, r, a, C, m, ev, ea, hc, q⟩ => ?_) hst hpl
 subst ev
 obtain ⟨u1, u2, rfl, r1, r2⟩ := vals2 r
 cases (show u1 = Value.ref a from r1)
 obtain ⟨⟨t0, e0⟩, _⟩ := (show ObjOk X.prog X.w H2 s2.heap a (excN a C none) from I2.hok a _ ea)
 obtain ⟨bm, N, nm, qn, bs, hdct, sn, sub, ab, col, dd, k0, k1, k2, k3, k5, hC, T⟩ := own_objI I2.kIn hc
 have FB := PySem.F.excBase_ValueError
 obtain ⟨hh, g, d, tk, os⟩ := s2
 dsimp only at e0 hC T
 refine wpAny_call (codeAny_call_builtin FB.init.plain FB.initEntry (wpAny_check_init_subT FB T hC e0 rfl ?_))
 have e1 := Heap.get?_push_of_some { cls := .type "tuple", data := .seq [u2].toArray } e0
 unfold Builtin.«BaseException.__init__» Builtin.BaseException.bexcPut
 wp_walk
 have na : a ≠ hh.objs.size := Nat.ne_of_lt (Heap.lt_size e0)
 refine ⟨.non, H2, ?_, rfl, q⟩
 have W := I2.write (x := a) (e := a) (o := excN a C none) (t' := tk) (h' := (hh.push { cls := .type "tuple", data := .seq [u2].toArray }).update a (Obj.mapFields (·.setIfInBounds 0 (Value.ref hh.objs.size)))) (by rw [ea]; exact True.intro) (.inl rfl)
   (fun b u n z => (Heap.get?_update_other _ _ (Ne.symm n)).trans (Heap.get?_push_of_some _ z)) ⟨_, Heap.get?_update_self _ e1 rfl⟩ (excN_ok (t := hh.objs.size) (Heap.get?_update_self _ e1 rfl))
 rw [upd_back ea] at W
 exact W
end
end L2
namespace L2
open PySem PySem.Spec PyProof.Rows PySem.Calls PySem.W PySem.Builtin
section
variable {X : Cx} {pins : List (Addr × Obj)} {σ : St} {H : Hp} {s : Shared} {o value : Expr} {f : Str} {pos pos' : Pos} {ta tv : TE}
def sFldX (K : PySem.W.Frag) (ta tv : TE) (f : Str) : TS := fun D σ H => tv σ H fun y H1 => ta σ H1 fun x H2 => ∃ a C, x = .ref a ∧ H2 a = some (excN a C none) ∧ ExcSet K C f ∧
 ∀ dx, H2 dx = none → dx ≠ a → D.nx σ (upd (upd H2 a (excN a C (some dx))) dx (.xd [(f, y)]))
theorem ps_fldX (ha : PE X o ta) (hv : PE X value tv) (hex : X.ex = []) (hs : swapsWith value (some (.Attribute o f pos')) pos.line X.env = pure false) : PS X (.Assign [.Attribute o f pos'] value pos) (sFldX X.K ta tv f) := by
 intro pins s σ H D I h
 refine plainObj_wpAny_Assign_Attribute (thn (hv pins s σ H _ I h) fun u s1 ⟨y, H1, I1, ry, q⟩ => thn (ha pins s1 σ H1 _ I1 q) fun ov s2 ⟨x, H2, I2, rx, a, C, ex, ea, c, q2⟩ => ?_) hs
 subst ex
 obtain rfl : ov = Value.ref a := rx
 obtain ⟨⟨t0, e0⟩, _⟩ := (show ObjOk X.prog X.w H2 s2.heap a (excN a C none) from I2.hok a _ ea)
 refine excSet_ok c I2.kIn e0 rfl rfl ⟨_, rfl⟩ fun h' dx mA hp ex ns em k => ?_
 have fx : H2 dx = none := I2.hok.fresh hp
 have ne : dx ≠ a := Ne.symm (zN ea fx)
 refine ⟨σ, _, ?_, q2 dx fx ne⟩
 have W := I2.write (x := a) (e := a) (o := excN a C (some dx)) (t' := s2.toks + 2) (h' := h') (by rw [ea]; exact True.intro) (.inl rfl) (fun b u n z => k b u n z) ⟨_, ex⟩ (excN_ok (t := t0) ex)
 have big : ∀ b o, s2.heap.get? b = some o → b ≠ dx := fun b o z => Nat.ne_of_lt (Nat.lt_of_lt_of_le (Heap.lt_size z) hp)
 refine W.trackN (by rw [zJ ne]; exact fx) (fun b ob z => ?_) ?_ (fun y c z => ?_) (fun p hp => ?_) ⟨mA, ns, fun g => ?_⟩
 · obtain ⟨o', e'⟩ := I2.base.there b ob z (by rw [hex]; exact fun z => nomatch z)
   exact big b o' e'
 · obtain ⟨m, ⟨o, _, _, e, _⟩, _⟩ := I2.loc
   exact big _ o e
 · obtain ⟨v, o, e', _⟩ := I2.cell y c z
   exact big c o e'
 · exact big p.1 p.2 (I2.pin p hp).1
 · rw [em]
   show RelO (List.lookup g [(f, y)]) (if g = f then some u else none)
   by_cases z : g = f
   · subst z; rw [if_pos rfl, List.lookup_cons, beq_self_eq_true]; exact ry
   · rw [if_neg z, List.lookup_cons, beq_false_of_ne z]; exact True.intro
def tFldX (K : PySem.W.Frag) (ta : TE) (f : Str) : TE := fun σ H Q => ta σ H fun x H1 => ∃ a D dx fs v, x = .ref a ∧ H1 a = some (excD a D dx) ∧ H1 dx = some (.xd fs) ∧ ExcGet K D f ∧ fs.lookup f = some v ∧ Q v H1
theorem pe_fldX {e : Expr} (he : PE X e ta) (hb : attributeBase e f X.env (eval e X.env) = eval e X.env) : PE X (.Attribute e f pos) (tFldX X.K ta f) := by
 intro pins s σ H Q I h
 refine attr_of hb (thn (he pins s σ H _ I h) fun u s1 ⟨x, H1, I1, rx, a, D, dx, fs, v, ex, ea, ed, c, l, q⟩ => ?_)
 subst ex
 obtain rfl : u = Value.ref a := rx
 obtain ⟨⟨ob, e1, e2, e3, vs, e4⟩, _⟩ := (show ObjOk X.prog X.w H1 s1.heap a (excD a D dx) from I1.hok a _ ea)
 obtain ⟨mA, ns, r⟩ := (show ObjOk X.prog X.w H1 s1.heap dx (.xd fs) from I1.hok dx _ ed)
 obtain ⟨w', hw, rw'⟩ := RelO.some_of (v := v) (o := mA f) (by rw [← l]; exact r f)
 obtain ⟨od, ho, hl⟩ := lookIn_ns ns
 refine excGet_ok c I1.kIn ⟨e1, e2, (by unfold notCls; rw [e4]), (by rw [e3]; exact ho)⟩ (by rw [hl, hw]) (handed_of rw') ?_
 exact ⟨v, H1, I1.tok _, rw', q⟩
end
section
variable {P : Program} {w : World} {K : PySem.W.Frag} {mg : Str → Option Value} {base : Heap} {N : List Str} {qual : Str} {scope : Scope} {f : Addr} {cdv : Value} {A : Around} {outer : List Env} {s : Shared} {H : Hp} {E : XK}
theorem xe_madeI {pins : List (Addr × Obj)} {σ : St} {H1 : Hp} {s1 : Shared} {e C dx : Addr} (I : Inv (cxOf (CXW P w) P w K mg base N qual scope f cdv A outer s H E) pins σ H1 s1)
   (he : H1 e = some (excN e C (some dx))) (new : ∀ b o, s.heap.get? b = some o → b ≠ e) (hE : E (.ref C) (some dx) (hid H1 e)) : (cxOf (CXW P w) P w K mg base N qual scope f cdv A outer s H E).xe (.ref e) s1 := by
 obtain ⟨⟨t0, e0⟩, _⟩ := (show ObjOk P w H1 s1.heap e (excN e C (some dx)) from I.hok e _ he)
 have hst := I.stack
 have hin : ∀ env ∈ (cxOf (CXW P w) P w K mg base N qual scope f cdv A outer s H E).stack, ∀ b, env.frame = some b → b ∈ frs (cxOf (CXW P w) P w K mg base N qual scope f cdv A outer s H E).stack := fun env he b hb => List.mem_filterMap.mpr ⟨env, he, hb⟩
 have ntr : e ∉ frs (cxOf (CXW P w) P w K mg base N qual scope f cdv A outer s H E).stack := fun z => by rw [I.stkFree e z] at he; cases he
 generalize hB : PySem.W.hideAll s1.heap (e :: frs (cxOf (CXW P w) P w K mg base N qual scope f cdv A outer s H E).stack) = B
 have stB : B.StaysIn s1.heap := fun b o q => by rw [← hB] at q; exact PySem.W.of_hideAll _ q
 have getB : ∀ b o, s1.heap.get? b = some o → b ≠ e → b ∉ frs (cxOf (CXW P w) P w K mg base N qual scope f cdv A outer s H E).stack → B.get? b = some o := fun b o q n1 n => by
   rw [← hB]; exact PySem.W.hideAll_get _ q fun z => (List.mem_cons.mp z).elim n1 n
 have frB : s1.heap.FunFrames B (cxOf (CXW P w) P w K mg base N qual scope f cdv A outer s H E).stack := by rw [← hB]; exact PySem.W.funFrames_hide hst fun env he b hb => List.mem_cons_of_mem _ (hin env he b hb)
 have noL : ∀ b o, s.heap.get? b = some o → b ∉ frs outer → b ∉ frs (cxOf (CXW P w) P w K mg base N qual scope f cdv A outer s H E).stack := fun b o q n z => by
   rcases List.mem_cons.mp (I.stkSub b z) with z | z
   · have : b < s.heap.objs.size := Heap.lt_size q
     have a := I.ok.above
     rw [← z] at a
     exact absurd (Nat.lt_of_lt_of_le this a) (Nat.lt_irrefl _)
   · exact n z
 have fe : B.get? e = none := by
   cases q : B.get? e with
   | none => rfl
   | some o => rw [← hB, PySem.W.hideAll_none _ (List.mem_cons_self)] at q; cases q
 show wpAny (model P w) _ (leaving (envOfC qual scope s.heap.objs.size f cdv) (.ref e)) _ _ _
 refine leaveFirstD (base := B) (outer := outer) I.ok.frames frB rfl e0 stB fe rfl rfl fun h2 fl up => ?_
 have nx : ∀ b u, H1 b = some u → b ≠ e → hid H1 e b = some u := fun b u z n => by unfold hid; rw [if_neg n]; exact z
 refine ⟨e, .ref C, some dx, hid H1 e, B, rfl, fl, I.os, I.bare, fun a o q => ?_, ⟨fun b o q n hb => ?_, fun b o q hb => ?_, fun b o q n hb => ?_, fun b o q n => ?_, fun b xs q => ?_, fun b o u q => ?_, fun b ps q => ?_⟩, hE⟩
 · have na : a ≠ e := fun z => by subst z; unfold hid at q; rw [if_pos rfl] at q; cases q
   have q' : H1 a = some o := by unfold hid at q; rw [if_neg na] at q; exact q
   refine (I.hok a o q').stay (fun b u hb z => getB b u z (fun y => ?_) fun m => ?_) (fun b z => nx b _ z fun y => ?_) (fun b xs z => nx b _ z fun y => ?_)
   · rcases hb with r | r
     · exact na (r.symm.trans y)
     · rw [y, he] at r; cases r
   · have z := I.stkFree b m
     rcases hb with r | r
     · rw [r, q'] at z; cases z
     · rw [r] at z; cases z
   · rw [y, he] at z; cases z
   · rw [y, he] at z; cases z
 · exact getB b o (I.base.keep b o q n hb (fun z => nomatch z)) (new b o q) (noL b o q hb)
 · obtain ⟨o', q'⟩ := I.base.there b o q (fun z => nomatch z)
   exact ⟨o', getB b o' q' (new b o q) (noL b o q hb)⟩
 · obtain ⟨sl, q'⟩ := I.base.slot b o q n hb (fun z => nomatch z)
   obtain ⟨_, o2, ho2, hd2⟩ := I.funs.mem hb
   rw [q'] at ho2; cases ho2
   obtain ⟨sl', z⟩ := up b _ q' hd2
   exact ⟨sl', z⟩
 · have z := I.base.free b o q n (fun z => nomatch z)
   unfold hid; split
   · rfl
   · exact z
 · exact nx b _ (I.base.tups b xs q) fun y => by have z := I.base.tups b xs q; rw [y, he] at z; cases z
 · exact nx b _ (I.base.frzs b o u q) fun y => by have z := I.base.frzs b o u q; rw [y, he] at z; cases z
 · obtain ⟨m1, e1⟩ := I.base.tbls b ps q
   exact ⟨m1, nx b _ e1 fun y => by rw [y, he] at e1; cases e1⟩
end
end L2
namespace L2
open PySem PySem.Spec PyProof.Rows PySem.Calls PySem.W PySem.Builtin
theorem passW0' {X : Cx} {o : List Env} {H : Hp} {s s' : Shared} {e : Value} (h : CXW X.prog X.w o H s E0 e s') : False := by
 obtain ⟨_, _, _, _, _, _, _, _, _, _, _, z⟩ := h
 exact z
theorem raiseStmt_X {K : PySem.W.Frag} {M : Model} {A : Around} {E : Value → Shared → Prop} {env : Env} {s : Shared} {x : Sem Value} {Q : Flow → Shared → Prop} {C : Addr} (hh : A.handled = none) (hc : excInI K C = true)
   (h : wpAny M A x (fun v s₁ => ∃ e t dct, v = .ref e ∧ K.In s₁.heap ∧ s₁.heap.get? e = some (exObj C dct t) ∧ E (.ref e) s₁) E s) : wpAny M A (raiseStmt env (some x) none) Q E s := by
 unfold raiseStmt
 refine wpAny_bind (wpAny_mono h (fun v s₁ h₁ => ?_) fun _ _ x => x)
 obtain ⟨e, t, dct, rfl, X, he, hE⟩ := h₁
 obtain ⟨bm, N, nm, qn, bs, hdct, sn, sub, ab, col, dd, k0, k1, k2, k3, k5, hC, T⟩ := own_objI X hc
 have hcB : (Value.ref C :: bm).contains (.type "BaseException") = true := by rw [List.contains_cons, T.hasType PySem.F.excBase_ValueError.hasBase, Bool.or_true]
 obtain ⟨hp, g, d, tk, os⟩ := s₁
 have cl : (exObj C dct t).cls = .ref C := rfl
 unfold exObj at he
 repeat (first | with_reducible refine wpAny_loadPart_at he ?_ | with_reducible refine wpAny_loadPart_at hC ?_ | (with_reducible refine wpAny_isSubtype_exc hC ?_; rw [hcB]) | wp_step)
 exact wpAny_raiseNew_none hh hE
section
variable {P : Program} {w : World} {K : PySem.W.Frag} {mg : Str → Option Value} {base : Heap} {N : List Str} {qual : Str} {scope : Scope} {f : Addr} {cdv : Value} {A : Around} {outer : List Env} {s : Shared} {H : Hp} {E : XK}
structure MkX (K : PySem.W.Frag) (C f : Addr) : Prop where
 ex : excInI K C = true
 init : PySem.W.findIn K (.ref C) "__init__" = some (some (.ref f))
 fn : PySem.W.isFn K (.ref f) = true
 kp : PySem.W.keepIn K (.ref C) = true
def tRaiseI (E : XK) (C : Addr) (sp : Sp) (t : TA) : TS := fun _ σ H => t σ H fun vs H1 => vs.length ≤ sizeLine ∧ ∀ e, H1 e = none →
 sp (.ref e :: vs) (upd H1 e (excN e C none)) (fun v H2 => v = .non ∧ ∃ dx, H2 e = some (excN e C (some dx)) ∧ E (.ref C) (some dx) (hid H2 e)) E0
theorem ps_raiseI {x : Str} {C fI : Addr} {np cpos pos : Pos} {e₀ : Expr} {rest : List Expr} {t : TA} {fd : FuncData} {ps : List Str} {sp : Sp} {k : Nat} (Mx : MkX K C fI) (F : FnOk P w K mg base (CXW P w) k fI fd ps sp) (hr : Room (k + 1) (cxOf (CXW P w) P w K mg base N qual scope f cdv A outer s H E).A)
   (hb : Binds K fd ps []) (hm : mg x = some (.ref C)) (ha : PA (cxOf (CXW P w) P w K mg base N qual scope f cdv A outer s H E) (e₀ :: rest) t) (hg : Gl (cxOf (CXW P w) P w K mg base N qual scope f cdv A outer s H E) x)
   (he : starEach (e₀ :: rest) (envOfC qual scope s.heap.objs.size f cdv) = (false, eval e₀ (envOfC qual scope s.heap.objs.size f cdv)) :: starEach rest (envOfC qual scope s.heap.objs.size f cdv) := by rfl)
   (hpl : (backTo cpos (starEach rest (envOfC qual scope s.heap.objs.size f cdv))).any (·.1) = false := by rfl) (hd : (x == ("__debug__" : Str)) = false := by decide) :
   PS (cxOf (CXW P w) P w K mg base N qual scope f cdv A outer s H E) (.Raise (some (.Call (.Name x np) (e₀ :: rest) [] cpos)) none pos) (tRaiseI E C sp t) := by
 intro pins s1 σ H1 D I h
 have hand : (cxOf (CXW P w) P w K mg base N qual scope f cdv A outer s H E).A.handled = none := I.ok.hd rfl
 rw [arm_exec_Raise]
 refine wpAny_bind (wpAny_standAt ?_)
 simp only [evalOpt, Option.map]
 refine raiseStmt_X (K := K) (C := C) hand Mx.ex (wpAny_bind (wpAny_mono (wpAny_Call_ofName (ld_glob I hg hm ?_ hd)) (fun v s₃ h₃ => wpAny_bind (wpAny_standAt (wpAny_pure h₃))) fun _ _ x => x))
 refine PySem.W.callWith_K (h₀ := base) I.ok.mod.kin Mx.kp (thn (ha cpos pins s1 σ H1 _ I h) fun us s2 ⟨vs, H2, I2, r, hl, q⟩ => ⟨I2.kIn, ?_⟩) he hpl
 refine exc_make I2.kIn Mx.ex Mx.init Mx.fn (by rw [List.nil_append, ← r.length]; exact hl) fun h' e t0 hp ee kp sz => ?_
 have fe : H2 e = none := I2.hok.fresh hp
 have I3 : Inv (cxOf (CXW P w) P w K mg base N qual scope f cdv A outer s H E) pins σ (upd H2 e (excN e C none)) { s2 with heap := h', toks := s2.toks } := I2.laid kp hp (excN_ok ee)
 have q' := q e fe
 have r2 : Vals (V.ref e :: vs) (Value.ref e :: us) := .cons rfl r
 have hl2 : (Value.ref e :: us).length = ps.length := by rw [← r2.length]; exact F.len _ _ _ _ q'
 have hb' := hb { s2 with heap := h' } (Value.ref e :: us) I3.kIn (by rw [List.append_nil]; exact hl2)
 rw [List.append_nil] at hb'
 refine wpAny_call (codeAny_mono (F.run _ _ _ _ ⟨Value.ref e :: us, []⟩ (Value.ref e :: us) _ _ E0 (hr.make C us []) (I3.env0.make C us []) hb' r2 q') fun r' s' hq' => ?_)
 cases r' with
 | error ex => exact (passW0' (X := cxOf (CXW P w) P w K mg base N qual scope f cdv A outer s H E) hq').elim
 | ok fl =>
   cases fl with
   | ret u =>
     obtain ⟨v, H4, I4, rv, ev, dx, e4, q4⟩ := I3.after hq'
     subst ev
     cases (show u = Value.none from rv)
     obtain ⟨⟨t1, e1⟩, _⟩ := (show ObjOk P w H4 s'.heap e (excN e C (some dx)) from I4.hok e _ e4)
     refine ⟨rfl, e, t1, some dx, rfl, I4.kIn, e1, xe_madeI I4 e4 (fun b o z => ?_) q4⟩
     obtain ⟨o', z'⟩ := I2.base.there b o z (fun z => nomatch z)
     exact Nat.ne_of_lt (Nat.lt_of_lt_of_le (Heap.lt_size z') hp)
   | next => exact False.elim hq'
   | brk => exact False.elim hq'
   | cont => exact False.elim hq'
end
end L2
namespace L2
open PySem PySem.Spec PyProof.Rows PySem.Calls
section
variable {X : Cx}
theorem jp_s {n : Nat} {e : Expr} {te : TE} {p : Pos} {es : List Expr} {t : TJ} (he : PE X e te) (h : JP X (n + 100000) es t) (hn : n + 100000 ≤ 16777216 := by symm) :
   JP X n (.FormattedValue e (-1) none p :: es) (fun σ H K => te σ H fun x H1 => ∃ z, x = .str z ∧ z.length ≤ 100000 ∧ t σ H1 K) := by
 intro out pins s σ H Q ho I ht
 refine joinParts_consE (joinParts_cons (FormattedValue_plain (thn (he pins _ σ H _ I ht) fun v s1 ⟨x, H1, I1, r, z, ex, hz, q⟩ => ?_)))
 subst ex
 obtain ⟨t', rfl⟩ := r
 have hl2 : (out ++ z).length ≤ n + 100000 := by rw [strLen_append]; omega
 refine formatField_str (fun t' tk => ⟨?_, h _ pins _ σ H1 Q hl2 (I1.tok _) q⟩) ?_
 · rw [sizeLine_eq]; omega
 · rw [sizeLine_eq]; omega
theorem call_dict_of : CallR X (.type "dict") (fun xs H Q => ∃ p kvs, xs = [.ref p] ∧ Rd H p (.dK kvs) ∧ ∀ d, H d = none → Q (.ref d) (upd H d (.dK kvs))) := by
 intro pins s σ H xs us Q I r h
 obtain ⟨p, kvs, rfl, hp, q⟩ := h
 obtain ⟨u, rfl, ru⟩ := r.one
 cases ru
 obtain ⟨hz, hS, vs, rv, dd⟩ := dk_rd I.hok hp
 refine kt_call_dict hS dd (by rw [← rv.length]; exact hz) fun h' d' sb => ?_
 have hn : H s.heap.objs.size = none := I.hok.fresh (Nat.le_refl _)
 refine ⟨.ref s.heap.objs.size, _, I.laid (t' := s.toks) (o := .dK kvs) (fun b o e => (sb.2 b (Nat.ne_of_lt (Heap.lt_size e))).trans (Heap.get?_push_of_some _ e)) (Nat.le_refl _) ⟨hz, ?_, vs, rv, d'⟩, rfl, q _ hn⟩
 have big := I.big
 exact beq_false_of_ne (Nat.ne_of_gt big)
theorem hits_same {prog : Program} {w : World} {A : Around} {s : Shared} {kb : List (Key × Value)} : ∀ {ka : List (Key × Value)}, (∀ p ∈ ka, valueAt kb p.1 = some p.2) → (∀ p ∈ ka, ∃ a, p.2 = .ref a) → PySem.W.KeqHits A s kb ka true
 | [], _, _ => .nil
 | (k, v) :: r, h, hr => by
   obtain ⟨a, ea⟩ := hr _ (List.mem_cons_self ..)
   dsimp only at ea; subst ea
   exact .hit (e := true) (b := true) (h _ (List.mem_cons_self ..)) (SeqAt.EqAt.same _) (hits_same (prog := prog) (w := w) (fun p hp => h p (List.mem_cons_of_mem _ hp)) fun p hp => hr p (List.mem_cons_of_mem _ hp))
theorem valueAt_mem {kvs : List (Key × Value)} (hn : (kvs.map (·.1)).Nodup) : ∀ p ∈ kvs, valueAt kvs p.1 = some p.2 := by
 induction kvs with
 | nil => intro p hp; cases hp
 | cons q r ih =>
   intro p hp
   rw [List.map_cons, List.nodup_cons] at hn
   unfold valueAt
   rw [List.find?_cons]
   by_cases e : q.1 = p.1
   · rw [decide_eq_true e]
     rcases List.mem_cons.mp hp with z | z
     · rw [z]; rfl
     · exact absurd (List.mem_map.mpr ⟨p, z, e.symm⟩) hn.1
   · rw [decide_eq_false e]
     rcases List.mem_cons.mp hp with z | z
     · exact absurd (by rw [z]) e
     · exact ih hn.2 p z
theorem kv_refs {kvs : List (Key × V)} {vs : List (Key × Value)} (r : KV kvs vs) (h : ∀ p ∈ kvs, ∃ a, p.2 = .ref a) : ∀ p ∈ vs, ∃ a, p.2 = .ref a := by
 induction r with
 | nil => intro p hp; cases hp
 | cons rr _ ih =>
   intro p hp
   rcases List.mem_cons.mp hp with z | z
   · obtain ⟨a, ea⟩ := h _ (List.mem_cons_self ..)
     rw [z]
     have r2 := rr.2
     rw [ea] at r2
     exact ⟨a, r2⟩
   · exact ih (fun p hp => h p (List.mem_cons_of_mem _ hp)) p z
theorem kv_det {kvs : List (Key × V)} {vs us : List (Key × Value)} (h : ∀ p ∈ kvs, ∃ a, p.2 = .ref a) (r : KV kvs vs) (r' : KV kvs us) : vs = us := by
 induction r generalizing us with
 | nil => cases r'; rfl
 | cons rr _ ih =>
   cases r' with
   | cons rr' t' =>
     obtain ⟨a, ea⟩ := h _ (List.mem_cons_self ..)
     obtain ⟨k1, v1⟩ := rr
     obtain ⟨k2, v2⟩ := rr'
     rw [ea] at v1 v2
     rw [ih (fun p hp => h p (List.mem_cons_of_mem _ hp)) t']
     congr 1
     exact Prod.ext (k1.symm.trans k2) ((show _ = Value.ref a from v1).trans (show _ = Value.ref a from v2).symm)
theorem op_eqD (hu : X.A.units + 20 < cLine) : OpR X (compareOp .Eq) (fun x y H Q => ∃ p q kvs, x = .ref p ∧ y = .ref q ∧ Rd H p (.dK kvs) ∧ Rd H q (.dK kvs) ∧ (∀ p ∈ kvs, ∃ a, p.2 = .ref a) ∧ Q (.bl true) H) := by
 intro pins s σ H x y v u Q I rx ry h
 obtain ⟨p, q, kvs, rfl, rfl, hp, hq, hr, k⟩ := h
 cases rx
 cases ry
 obtain ⟨hz, hS, vs, rv, dd⟩ := dk_rd I.hok hp
 obtain ⟨hz', hS', vs', rv', dd'⟩ := dk_rd I.hok hq
 obtain rfl := kv_det hr rv rv'
 have nd : (vs.map (·.1)).Nodup := let ⟨_, _, _, _, _, _, _, _, hn⟩ := dd; hn
 refine PySem.W.keq_eq hS hS' dd dd' (by omega) (fun _ => hits_same (prog := X.prog) (w := X.w) (valueAt_mem nd) (kv_refs rv hr)) ?_
 rw [beq_self_eq_true]
 exact ⟨.bl true, H, I, rfl, k⟩
theorem op_neD (hu : X.A.units + 20 < cLine) : OpR X (compareOp .NotEq) (fun x y H Q => ∃ p q kvs, x = .ref p ∧ y = .ref q ∧ Rd H p (.dK kvs) ∧ Rd H q (.dK kvs) ∧ (∀ p ∈ kvs, ∃ a, p.2 = .ref a) ∧ Q (.bl false) H) := by
 intro pins s σ H x y v u Q I rx ry h
 obtain ⟨p, q, kvs, rfl, rfl, hp, hq, hr, k⟩ := h
 cases rx
 cases ry
 obtain ⟨hz, hS, vs, rv, dd⟩ := dk_rd I.hok hp
 obtain ⟨hz', hS', vs', rv', dd'⟩ := dk_rd I.hok hq
 obtain rfl := kv_det hr rv rv'
 have nd : (vs.map (·.1)).Nodup := let ⟨_, _, _, _, _, _, _, _, hn⟩ := dd; hn
 refine PySem.W.keq_ne hS hS' dd dd' (by omega) (fun _ => hits_same (prog := X.prog) (w := X.w) (valueAt_mem nd) (kv_refs rv hr)) ?_
 rw [beq_self_eq_true]
 exact ⟨.bl false, H, I, rfl, k⟩
def tRev (K : PySem.W.Frag) (te : TE) (ts : TO) : TE := fun σ H Q => te σ H fun x H1 => ts σ H1 fun c H4 => c = some (-1) ∧ ∃ a xs, x = .ref a ∧ SqL K H4 a xs ∧ ∀ p, H4 p = none → Q (.ref p) (upd H4 p (.lst xs.reverse))
theorem vals_rev {xs : List V} {us : List Value} (r : Vals xs us) : Vals xs.reverse us.reverse := by
 induction r with
 | nil => exact .nil
 | cons h _ ih => rw [List.reverse_cons, List.reverse_cons]; exact ih.append (.cons h .nil)
theorem pe_rev {e : Expr} {te : TE} {st : Expr} {ts : TO} {p2 pos : Pos} (he : PE X e te) (hst : PO X (some st) ts) : PE X (.Subscript e (.Slice none none (some st) p2) pos) (tRev X.K te ts) := by
 intro pins s σ H Q I h
 refine Subscript_ (thn (he pins s σ H _ I h) fun v s1 ⟨x, H1, I1, r1, q1⟩ => ?_)
 refine wpAny_Slice (thn (po_none pins s1 σ H1 (fun o H' => o = none ∧ H' = H1) I1 ⟨rfl, rfl⟩) fun vl s2 ⟨l, H2, I2, pl, el, eH2⟩ => thn (po_none pins s2 σ H2 (fun o H' => o = none ∧ H' = H2) I2 ⟨rfl, rfl⟩) fun vu s3 ⟨u, H3, I3, pu, eu, eH3⟩ => ?_)
 subst el eH2 eu eH3
 refine thn (hst pins s3 σ H3 _ I3 q1) fun vs s4 ⟨c, H4, I4', ps, q4⟩ => ?_
 obtain ⟨rfl, a, xs, rfl, hx, q⟩ := q4
 cases r1
 have I4 : Inv X pins σ H4 { s4 with heap := s4.heap.push { cls := .type "slice", data := .fields #[vl, vu, vs] } } := I4'.kept (t' := s4.toks) fun b ob q => Heap.get?_push_of_some _ q
 obtain ⟨its, r, ht, hz⟩ := I4.list hx
 have hlen := r.length
 have hT := slot_list_getitem.lookup
 show wpAny (model X.prog X.w) X.A (subscriptTail e (.Slice none none (some st) p2) (.ref a) (.ref s4.heap.objs.size)) (EP X pins σ Q) X.xe { s4 with heap := s4.heap.push { cls := .type "slice", data := .fields #[vl, vu, vs] } }
 refine tail_any (ops := [.ref a, .ref s4.heap.objs.size]) ht.isList.typeIs hT ?_ (by with_unfolding_all rfl)
 refine wpAny_getItem_list_slice ht.isList (Heap.IsSliceOf.new ..) pl pu ps (by decide) ?_ (by rw [List.size_toArray] <;> omega)
 rw [PySem.W.krv_pick]
 refine ⟨.ref _, _, I4.laid (t' := s4.toks) (o := .lst xs.reverse) (fun b ob q => Heap.get?_push_of_some _ q) (Nat.le_refl _) ?_, rfl, q _ (I4.hok.fresh (Nat.le_refl _))⟩
 exact ⟨by rw [List.length_reverse]; exact hz, its.reverse, 0, vals_rev r, Heap.get?_push_size _ rfl⟩
def Itd (a : Addr) (o : Obj) : It :=
 ⟨fun i H => ∃ kvs, H a = some (.frz o (.dK kvs)) ∧ i < kvs.length,
  fun i H z H' => H' = H ∧ ∀ kvs, H a = some (.frz o (.dK kvs)) → (kvs.map fun p => kV p.1)[i]? = some z,
  fun i H => ∃ kvs, H a = some (.frz o (.dK kvs)) ∧ kvs.length ≤ i⟩
theorem keys_rel {P : Program} {w : World} : ∀ {es : List DictEntry} {vs : List (Key × Value)} {kvs : List (Key × V)}, Pairs (mixKind P w) es vs → KV kvs vs → Vals (kvs.map fun p => kV p.1) (es.map (·.key))
 | _, _, _, .nil, .nil => .nil
 | _, _, _, .cons hk _ t, .cons r t' => by
   refine .cons ?_ (keys_rel t t')
   rw [mixKind_is] at hk
   dsimp only
   rw [r.1]
   rcases yJ hk with ⟨i, u, e, z⟩ | ⟨x, u, e, z⟩
   · rw [e, z]; exact ⟨u, rfl⟩
   · rw [e, z]; exact ⟨u, rfl⟩
theorem frz_raw {P : Program} {w : World} {H : Hp} {h : Heap} {a : Addr} {o : Obj} {kvs : List (Key × V)} {es : Array DictEntry} {ep : Nat} (hd : o.data = .dict es ep) (ok : ObjOk P w H h a (.frz o (.dK kvs))) :
   RawD h a es ep ∧ Vals (kvs.map fun p => kV p.1) (es.toList.map (·.key)) ∧ es.size = kvs.length := by
 obtain ⟨e, _, _, vs, rv, o', es', ep', e', x, d', _, pr, _⟩ := ok
 rw [e] at e'
 cases e'
 rw [hd] at d'
 cases d'
 exact ⟨⟨o, e, x, hd⟩, keys_rel pr rv, by rw [← Array.length_toList, pr.length, ← rv.length]⟩
theorem turn_dict {P : Program} {w : World} {K : PySem.W.Frag} {tg : Expr} {a it : Addr} {o : Obj} {es : Array DictEntry} {ep : Nat} (hd : o.data = .dict es ep) : Turn P w K tg (Itd a o) [it] it (fun i h => h.IsKeyIter it a i es.size ep ∧ i ≤ es.size) where
 mem := by simp
 obj := fun i h st b hb => by
   have e : b = it := by simpa using hb
   subst e
   obtain ⟨⟨ob, q, c, d⟩, _⟩ := st
   exact ⟨ob, q, fun v z => by rw [d] at z; cases z⟩
 keep := fun i h h' st k => ⟨st.1.at fun ob q => k it (by simp) ob q, st.2⟩
 item := by
   intro X hP hw hK hc i pins s σ H E I hf st hg
   subst hP hw hK
   obtain ⟨kvs, hq, hi⟩ := hg
   obtain ⟨raw, rk, sz⟩ := frz_raw hd (I.hok a _ hq)
   obtain ⟨f0, f1, f2, f3, f4, f5⟩ := hf it (by simp)
   have hi' : i < es.size := by omega
   refine raw_item st.1 raw hi' fun h' st' sb => ?_
   have I1 : Inv X pins σ H { s with heap := h' } := I.turned (t' := s.toks) (fun b o hb e => (sb.2 b hb).trans e) f0 f1 f3 f4 f5
   obtain ⟨ob, e, c, d⟩ := id st'
   have hk : (kvs.map fun p => kV p.1)[i]? = some ((kvs.map fun p => kV p.1)[i]'(by rw [List.length_map]; exact hi)) := List.getElem?_eq_getElem _
   obtain ⟨u, hu, ru⟩ := rk.get hk
   have eu : u = es[i].key := by
     rw [List.getElem?_map, Array.getElem?_toList, Array.getElem?_eq_getElem hi'] at hu
     exact (Option.some.inj hu).symm
   subst eu
   exact ⟨_, rfl, go_of (s := { s with heap := h' }) e c d (by decide) ⟨_, H, I1, ru, ⟨rfl, fun kvs' hy => by rw [hq] at hy; cases hy; exact hk⟩, ⟨st', hi'⟩, fun b hb => (hf b hb).1⟩⟩
 done := by
   intro X hP hw hK hc i pins s σ H E I hf st hg
   subst hP hw hK
   obtain ⟨kvs, hq, hi⟩ := hg
   obtain ⟨raw, rk, sz⟩ := frz_raw hd (I.hok a _ hq)
   obtain ⟨f0, f1, f2, f3, f4, f5⟩ := hf it (by simp)
   obtain ⟨st, hle⟩ := st
   have : i = es.size := by omega
   subst this
   exact raw_end (I.ok.hd hc) st raw fun h' eb => ⟨rfl, I.turned (t' := s.toks) (fun b o hb e => eb b o hb e) f0 f1 f3 f4 f5⟩
 self := fun _ _ _ _ _ st h => wpAny_pyIter_keyiter st.1 h
variable {tg : Expr}
def iDict (tl : TE) : TI := fun σ H R => tl σ H fun x H1 => ∃ a kvs, x = .ref a ∧ Rd H1 a (.dK kvs) ∧ ∀ o, R (Itd a o) (upd H1 a (.frz o (.dK kvs)))
theorem pi_dict {l : Expr} {tl : TE} (hl : PE X l tl) : PI X tg l (iDict tl) := by
 intro pins s σ H R I h
 refine thn (hl pins s σ H _ I h) fun v s1 ⟨x, H1, I1, r1, q1⟩ => ?_
 obtain ⟨a, kvs, e, hq, q⟩ := q1
 subst e
 cases r1
 obtain ⟨hz, hS, vs, rv, o, es, ep, ho, hx, hdat, hk, hp, hn⟩ := dk_rd I1.hok hq
 have hm : RawD s1.heap a es ep := ⟨o, ho, hx, hdat⟩
 have I2 : Inv X pins σ (upd H1 a (.frz o (.dK kvs))) s1 := by
   have ok : ObjOk X.prog X.w (upd H1 a (.frz o (.dK kvs))) s1.heap a (.frz o (.dK kvs)) := ⟨ho, hz, hS, vs, rv, o, es, ep, ho, hx, hdat, hk, hp, hn⟩
   rcases hq with hq | ⟨o', hq⟩
   · exact I1.write (x := a) (e := a) (t' := s1.toks) (h' := s1.heap) (by rw [hq]; exact True.intro) (.inl rfl) (fun b u _ z => z) ⟨_, ho⟩ ok
   · obtain ⟨e', _⟩ := (show ObjOk X.prog X.w H1 s1.heap a (.frz o' (.dK kvs)) from I1.hok a _ hq)
     rw [ho] at e'; cases e'
     rw [upd_back hq]; exact I1
 refine raw_iter hS hm ?_
 refine ⟨s1.heap.objs.size, [s1.heap.objs.size], _, _, _, rfl, I2.kept (t' := s1.toks) fun b o e => Heap.get?_push_of_some _ e, turn_dict hdat, ⟨⟨_, Heap.get?_push_size _ rfl, rfl, rfl⟩, Nat.zero_le _⟩, fun b hb => ?_, q o⟩
 have e : b = s1.heap.objs.size := by simpa using hb
 subst e
 exact I2.fpOk (Nat.le_refl _) (I2.hok.fresh (Nat.le_refl _))
theorem for_dictR {a : Addr} {o : Obj} {kvs : List (Key × V)} {g : TG} {tb : TS} {D : Ends} {σ : St} {H : Hp} (Pv : Nat → St → Hp → Prop) (h0 : Pv 0 σ H) (hq : ∀ i σ H, i ≤ kvs.length → Pv i σ H → H a = some (.frz o (.dK kvs)))
   (hs : ∀ i p σ H, kvs[i]? = some p → Pv i σ H → g (kV p.1) σ H fun σ2 H2 => tb { D with nx := Pv (i + 1), ct := Pv (i + 1), bk := D.nx } σ2 H2) (hd : ∀ σ H, Pv kvs.length σ H → D.nx σ H) : ForR (Itd a o) g tb D σ H := by
 refine ⟨fun i m σ H => i ≤ kvs.length ∧ m = kvs.length - i ∧ Pv i σ H, ⟨_, Nat.zero_le _, rfl, h0⟩, fun i m σ H ⟨hi, hm, hp⟩ => ?_⟩
 have q1 := hq i σ H hi hp
 by_cases c : i = kvs.length
 · subst c
   exact .inl ⟨⟨kvs, q1, Nat.le_refl _⟩, hd σ H hp⟩
 · have hlt : i < kvs.length := by omega
   have hx : kvs[i]? = some kvs[i] := List.getElem?_eq_getElem hlt
   refine .inr ⟨⟨kvs, q1, hlt⟩, Pv (i + 1), fun σ' H' hn => ⟨kvs.length - (i + 1), by omega, by omega, rfl, hn⟩, fun z H' hz => ?_⟩
   obtain ⟨rfl, e1⟩ := hz
   have e2 := e1 kvs q1
   rw [List.getElem?_map, hx] at e2
   cases e2
   exact hs i _ σ H' hx hp
end
end L2
namespace L2
open PySem PySem.Spec PyProof.Rows PySem.Calls PySem.W
section
variable {K : PySem.W.Frag} {C A0 fI : Addr} {xo : Value} {xd : Option Addr} {cd cdA : ClassData} {sl : Array (Option Value)}
theorem arr6 {sl : Array (Option Value)} (hn : sl.size = 6) {v : Option Value} (h4 : sl[4]? = some v) : ∃ k0 k1 k2 k3 k5, sl.toList = [k0, k1, k2, k3, v, k5] := by
 obtain ⟨l⟩ := sl
 match l, hn with
 | [a, b, c, d, e, f], _ =>
   have : e = v := by simpa using h4
   subst this
   exact ⟨_, _, _, _, _, rfl⟩
theorem tail_self (h : excIn K A0 mroVE "ValueError.__new__" = true) (hc : clsIn K A0 = some cdA) (hm : cdA.mro = .ref A0 :: mroVE) : tailIn K mroVE (.ref A0 :: mroVE) = true := by
 unfold excIn at h
 split at h
 · rename_i dd cd sl ho
   have e : cd = cdA := by unfold clsIn at hc; rw [ho] at hc; exact Option.some.inj hc
   subst e
   split at h
   · rename_i C' bm k0 k1 k2 k3 n k5 hm' hs
     simp only [Bool.and_eq_true, Bool.not_eq_true', beq_iff_eq] at h
     obtain ⟨⟨⟨⟨⟨e1, e2⟩, e3⟩, e4⟩, e5⟩, e6⟩ := h
     have base : tailIn K mroVE mroVE = true := by unfold tailIn; rfl
     unfold tailIn
     dsimp only
     rw [ho]
     simp only [Bool.or_eq_true, Bool.and_eq_true, beq_iff_eq]
     exact .inr ⟨⟨e5, e6⟩, base⟩
   · cases h
 · cases h
theorem excInI_mk (l : K.lookup C = some ⟨xo, xd, .cls cd, sl⟩) (ht : xo = .type "type") (hm : cd.mro = .ref C :: .ref A0 :: mroVE) (hn : sl.size = 6 ∧ sl[4]? = some (some (.builtin "ValueError.__new__"))) (hd : cd.hasDel = false)
   (x : excIn K A0 mroVE "ValueError.__new__" = true) (hc : clsIn K A0 = some cdA) (hmA : cdA.mro = .ref A0 :: mroVE) : excInI K C = true := by
 subst ht
 obtain ⟨k0, k1, k2, k3, k5, hs⟩ := arr6 hn.1 hn.2
 unfold excInI
 rw [l]
 simp only [hm, hs]
 rw [tail_self x hc hmA, hd]
 simp
theorem excMro_mk (l : K.lookup C = some ⟨xo, xd, .cls cd, sl⟩) (hm : cd.mro = .ref C :: .ref A0 :: mroVE) : (clsIn K C).any (fun cd => excMro cd.mro) = true := by
 unfold clsIn
 rw [l]
 show excMro cd.mro = true
 rw [hm]
 show (mroVE == mroVE) = true
 exact beq_self_eq_true _
end
section
variable {X : Cx} {scope : Scope} {x : Str} {M : List Str} {pins : List (Addr × Obj)} {σ : St} {H₂ : Hp} {s₂ : Shared} {elt iter tg : Expr} {ifs : List Expr} {pos px : Pos} {te : TE} {wi : TI} {g : TG} {tc : TT}
theorem ps_compF0 {i : Nat} {y : Str} {spos py : Pos} (hN : X.N.Nodup) (hy : X.N[i]? = some y) (hl : Loc X.env.scope y) (K : CompOk X scope x M) (hc : X.calm = true) (hi : PI X tg iter wi) (hg : ∀ (C : Addr) (s₂ : Shared) (H₂ : Hp) (fp : List Addr), PG (compCx X scope C x M s₂ H₂ fp) tg g) (ht : ∀ (C : Addr) (s₂ : Shared) (H₂ : Hp) (fp : List Addr), PIfs (compCx X scope C x M s₂ H₂ fp) ifs tc) (he : ∀ (C : Addr) (s₂ : Shared) (H₂ : Hp) (fp : List Addr), PE (compCx X scope C x M s₂ H₂ fp) elt te)
   (hsw : swapsWith (.ListComp elt [⟨tg, iter, ifs, 0⟩] scope pos) (some (.Name y py)) spos.line X.env = pure true)
   (hs : ∀ x, foldedSetIterable iter X.env x = pure x) (hf : X.fn y = true ∨ X.env.scope.names.lookup y = some .local) :
   PS X (.Assign [.Name y py] (.ListComp elt [⟨tg, iter, ifs, 0⟩] scope pos) spos) (tAsg (tCompF0 wi g tc te) (gName i)) := by
 intro pins s σ H Dn I h
 rw [exec_Assign_Name_used _ _ _ _ hsw]
 refine wpAny_bind (wpAny_standAt (wpAny_bind ?_))
 show wpAny _ X.A (do let _ ← comprehension (.ListComp elt [⟨tg, iter, ifs, 0⟩] scope pos) scope X.env _ (newList []) false (eval iter X.env) (some (assign (.Name y py) X.env))) _ _ s
 refine wpAny_bind (thn (wpAny_comprehension_free (use := some (assign (.Name y py) X.env)) (Q := fun _ s' => SP X pins Dn .next s') rfl hs (K.closure I.ok) K.kind K.names (thn (hi pins s σ H _ I h) fun v s1 h1 => thn h1 fun itv s2 h2 => ?_)) fun _ s' hq => wpAny_pure (wpAny_pure hq))
 obtain ⟨it, fp, tn, J, H2, e, I2, T, st2, f2, n, W, hsz, w0, turn⟩ := h2
 subst e
 refine comp_blockF (RR := fun acc C => compPost (model X.prog X.w) X.A X.xe (some (assign (.Name y py) X.env)) (fun _ s' => SP X pins Dn .next s') acc C) K hc I2 hg ht he T st2 f2 hsz (F := fun ys H => ∀ p, H p = none → Dn.nx (σ.set i (some (.ref p))) (upd H p (.lst ys))) w0 turn ?_
 intro D C s' H' ys m I' n' fC ns fin
 refine wpAny_assign_Name (store_ok2 (v := .ref D) I' hN hy hl rfl (fun s'' I'' ch => ?_) hf)
 obtain ⟨f0, f1, f2, f3, f4, f5⟩ := fC
 obtain ⟨a, sb1, ha⟩ := ch
 have hCa : C ≠ a := by
   rcases ha with z | z
   · rw [z]; exact f1
   · exact Ne.symm (f4 y a z)
 refine ⟨m, ns.sameBut sb1 hCa, fun h' sb => ?_⟩
 exact ⟨_, _, I''.turned (t' := s''.toks) (it := C) (fun b o hb e => (sb.2 b hb).trans e) f0 f1 f3 f4 f5, fin D n'⟩
theorem ps_compF {i : Nat} {y : Str} {spos py px : Pos} (hN : X.N.Nodup) (hy : X.N[i]? = some y) (hl : Loc X.env.scope y) (K : CompOk X scope x M) (hc : X.calm = true) (hi : PI X (.Name x px) iter wi) (ht : ∀ (C : Addr) (s₂ : Shared) (H₂ : Hp) (fp : List Addr), PIfs (compCx X scope C x M s₂ H₂ fp) ifs tc) (he : ∀ (C : Addr) (s₂ : Shared) (H₂ : Hp) (fp : List Addr), PE (compCx X scope C x M s₂ H₂ fp) elt te)
   (hsw : swapsWith (.ListComp elt [⟨.Name x px, iter, ifs, 0⟩] scope pos) (some (.Name y py)) spos.line X.env = pure true := by rfl)
   (hs : ∀ x, foldedSetIterable iter X.env x = pure x := by intro _; rfl) (hf : X.fn y = true ∨ X.env.scope.names.lookup y = some .local := by first | exact .inl rfl | exact .inr rfl | assumption) :
   PS X (.Assign [.Name y py] (.ListComp elt [⟨.Name x px, iter, ifs, 0⟩] scope pos) spos) (tAsg (tCompF wi tc te) (gName i)) := by
 intro pins s σ H D I h
 have q := ps_compF0 (pos := pos) (spos := spos) hN hy hl K hc (wi := fun σ0 H0 R0 => ∃ R, wi σ0 H0 R ∧ ∀ J H1, R J H1 → R0 J H1) (pi_conv hi fun σ H R ⟨R1, a, b⟩ => ⟨R1, a, b⟩) (fun C s₂ H₂ fp => pg_oneF (px := px) K) ht he hsw hs hf pins s σ H D I
 refine q ⟨_, h, fun J H1 r => ?_⟩
 obtain ⟨n, W, h1, h2, h3⟩ := r.ex
 refine ⟨n, W, h1, h2, fun i ys H' hi hy hw => ?_⟩
 rcases h3 i ys H' hi hy hw with hq | ⟨g1, g2, g3⟩
 · exact .inl hq
 · exact .inr ⟨g1, g2, fun z H2 hz u => ⟨⟨_, rfl⟩, g3 z H2 hz⟩⟩
end
end L2
namespace K16
open PySem L2
def top (i : Nat) : Stmt := PySem.Challenge.pw_askpaper_k16_settled.main.body.getD i (.Pass ⟨0, 0, 0, 0⟩)
abbrev s_c_WrongKind___init : Stmt := inClass (top 11) 0
abbrev s_c_Kind___init : Stmt := inClass (top 31) 0
abbrev s_c_YesNo___init : Stmt := inClass (top 32) 0
abbrev s_c_YesNo_fits : Stmt := inClass (top 32) 1
abbrev s_c_YesNo_answer_of : Stmt := inClass (top 32) 2
abbrev s_c_YesNo_rank : Stmt := inClass (top 32) 4
abbrev s_c_Pick___init : Stmt := inClass (top 35) 0
abbrev s_c_Pick_fits : Stmt := inClass (top 35) 1
abbrev s_c_Pick_answer_of : Stmt := inClass (top 35) 2
abbrev s_c_Pick_rank : Stmt := inClass (top 35) 4
abbrev s_c_Names___init : Stmt := inClass (top 36) 0
abbrev s_c_Is___init : Stmt := inClass (top 40) 0
abbrev s_c_Is_shown : Stmt := inClass (top 40) 1
abbrev s_c_Is_settled : Stmt := inClass (top 40) 3
abbrev s_c_Compare___init : Stmt := inClass (top 41) 0
abbrev s_c_Compare_shown : Stmt := inClass (top 41) 1
abbrev s_c_Compare_settled : Stmt := inClass (top 41) 3
abbrev s_c_Not___init : Stmt := inClass (top 42) 0
abbrev s_c_Not_shown : Stmt := inClass (top 42) 1
abbrev s_c_Not_settled : Stmt := inClass (top 42) 3
abbrev s_c_Pair___init : Stmt := inClass (top 43) 0
abbrev s_c_Pair_shown_with : Stmt := inClass (top 43) 1
abbrev s_c_Both_shown : Stmt := inClass (top 44) 0
abbrev s_c_Both_settled : Stmt := inClass (top 44) 1
abbrev s_c_Either_shown : Stmt := inClass (top 45) 0
abbrev s_c_Either_settled : Stmt := inClass (top 45) 1
abbrev s_law_cell_at : Stmt := top 47
abbrev s_law_whole : Stmt := top 48
abbrev s_law_names : Stmt := top 49
abbrev s_law_number : Stmt := top 50
abbrev s_law_words : Stmt := top 51
abbrev s_law_kind : Stmt := top 52
abbrev s_law_kinds : Stmt := top 53
abbrev s_law_atom : Stmt := top 54
abbrev s_law_joined : Stmt := top 55
abbrev s_law_tree : Stmt := top 56
abbrev s_law_made : Stmt := top 57
abbrev s_law_atoms : Stmt := top 58
abbrev s_law_word : Stmt := top 59
abbrev s_law_same : Stmt := top 60
abbrev s_law_suits : Stmt := top 61
abbrev s_law_place : Stmt := top 62
abbrev s_law_known : Stmt := top 63
abbrev s_law_wrong : Stmt := top 64
abbrev s_law_otherwise : Stmt := top 65
abbrev s_law : Stmt := top 66
structure Adr where
 f_c_WrongKind___init : Addr
 d_c_WrongKind___init : FuncData
 f_c_Kind___init : Addr
 d_c_Kind___init : FuncData
 f_c_YesNo___init : Addr
 d_c_YesNo___init : FuncData
 f_c_YesNo_fits : Addr
 d_c_YesNo_fits : FuncData
 f_c_YesNo_answer_of : Addr
 d_c_YesNo_answer_of : FuncData
 f_c_YesNo_rank : Addr
 d_c_YesNo_rank : FuncData
 f_c_Pick___init : Addr
 d_c_Pick___init : FuncData
 f_c_Pick_fits : Addr
 d_c_Pick_fits : FuncData
 f_c_Pick_answer_of : Addr
 d_c_Pick_answer_of : FuncData
 f_c_Pick_rank : Addr
 d_c_Pick_rank : FuncData
 f_c_Names___init : Addr
 d_c_Names___init : FuncData
 ds_c_Names___init : List Value
 f_c_Is___init : Addr
 d_c_Is___init : FuncData
 ds_c_Is___init : List Value
 f_c_Is_shown : Addr
 d_c_Is_shown : FuncData
 f_c_Is_settled : Addr
 d_c_Is_settled : FuncData
 f_c_Compare___init : Addr
 d_c_Compare___init : FuncData
 f_c_Compare_shown : Addr
 d_c_Compare_shown : FuncData
 f_c_Compare_settled : Addr
 d_c_Compare_settled : FuncData
 f_c_Not___init : Addr
 d_c_Not___init : FuncData
 f_c_Not_shown : Addr
 d_c_Not_shown : FuncData
 f_c_Not_settled : Addr
 d_c_Not_settled : FuncData
 f_c_Pair___init : Addr
 d_c_Pair___init : FuncData
 f_c_Pair_shown_with : Addr
 d_c_Pair_shown_with : FuncData
 f_c_Both_shown : Addr
 d_c_Both_shown : FuncData
 f_c_Both_settled : Addr
 d_c_Both_settled : FuncData
 f_c_Either_shown : Addr
 d_c_Either_shown : FuncData
 f_c_Either_settled : Addr
 d_c_Either_settled : FuncData
 f_law_cell_at : Addr
 d_law_cell_at : FuncData
 f_law_whole : Addr
 d_law_whole : FuncData
 f_law_names : Addr
 d_law_names : FuncData
 f_law_number : Addr
 d_law_number : FuncData
 f_law_words : Addr
 d_law_words : FuncData
 f_law_kind : Addr
 d_law_kind : FuncData
 f_law_kinds : Addr
 d_law_kinds : FuncData
 f_law_atom : Addr
 d_law_atom : FuncData
 f_law_joined : Addr
 d_law_joined : FuncData
 f_law_tree : Addr
 d_law_tree : FuncData
 f_law_made : Addr
 d_law_made : FuncData
 f_law_atoms : Addr
 d_law_atoms : FuncData
 f_law_word : Addr
 d_law_word : FuncData
 f_law_same : Addr
 d_law_same : FuncData
 f_law_suits : Addr
 d_law_suits : FuncData
 f_law_place : Addr
 d_law_place : FuncData
 f_law_known : Addr
 d_law_known : FuncData
 f_law_wrong : Addr
 d_law_wrong : FuncData
 f_law_otherwise : Addr
 d_law_otherwise : FuncData
 f_law : Addr
 d_law : FuncData
 a_WRITTEN_TRUTHS : Addr
 c_AskError : Addr
 c_Both : Addr
 c_Compare : Addr
 c_Either : Addr
 c_Is : Addr
 c_Kind : Addr
 c_Money : Addr
 c_Names : Addr
 c_NoAnswer : Addr
 c_NoKind : Addr
 c_NoNumber : Addr
 c_NoRow : Addr
 c_NoSaying : Addr
 c_NoSum : Addr
 c_NoWay : Addr
 c_Not : Addr
 c_OutOfReach : Addr
 c_Pair : Addr
 c_Pick : Addr
 c_Saying : Addr
 c_Twice : Addr
 c_Unknown : Addr
 c_Whole : Addr
 c_WrongKind : Addr
 c_YesNo : Addr
structure Txt (K : W.Frag) (mg : Str → Option Value) (A : Adr) : Prop where
 F_c_WrongKind___init : Fun K "__init__" "WrongKind.__init__" s_c_WrongKind___init A.f_c_WrongKind___init A.d_c_WrongKind___init
 b_c_WrongKind___init : Binds K A.d_c_WrongKind___init ["self", "name"] []
 F_c_Kind___init : Fun K "__init__" "Kind.__init__" s_c_Kind___init A.f_c_Kind___init A.d_c_Kind___init
 b_c_Kind___init : Binds K A.d_c_Kind___init ["self", "low", "high"] []
 F_c_YesNo___init : Fun K "__init__" "YesNo.__init__" s_c_YesNo___init A.f_c_YesNo___init A.d_c_YesNo___init
 b_c_YesNo___init : Binds K A.d_c_YesNo___init ["self"] []
 F_c_YesNo_fits : Fun K "fits" "YesNo.fits" s_c_YesNo_fits A.f_c_YesNo_fits A.d_c_YesNo_fits
 b_c_YesNo_fits : Binds K A.d_c_YesNo_fits ["self", "thing"] []
 F_c_YesNo_answer_of : Fun K "answer_of" "YesNo.answer_of" s_c_YesNo_answer_of A.f_c_YesNo_answer_of A.d_c_YesNo_answer_of
 b_c_YesNo_answer_of : Binds K A.d_c_YesNo_answer_of ["self", "text"] []
 F_c_YesNo_rank : Fun K "rank" "YesNo.rank" s_c_YesNo_rank A.f_c_YesNo_rank A.d_c_YesNo_rank
 b_c_YesNo_rank : Binds K A.d_c_YesNo_rank ["self", "answer"] []
 F_c_Pick___init : Fun K "__init__" "Pick.__init__" s_c_Pick___init A.f_c_Pick___init A.d_c_Pick___init
 b_c_Pick___init : Binds K A.d_c_Pick___init ["self", "words"] []
 F_c_Pick_fits : Fun K "fits" "Pick.fits" s_c_Pick_fits A.f_c_Pick_fits A.d_c_Pick_fits
 b_c_Pick_fits : Binds K A.d_c_Pick_fits ["self", "thing"] []
 F_c_Pick_answer_of : Fun K "answer_of" "Pick.answer_of" s_c_Pick_answer_of A.f_c_Pick_answer_of A.d_c_Pick_answer_of
 b_c_Pick_answer_of : Binds K A.d_c_Pick_answer_of ["self", "text"] []
 F_c_Pick_rank : Fun K "rank" "Pick.rank" s_c_Pick_rank A.f_c_Pick_rank A.d_c_Pick_rank
 b_c_Pick_rank : Binds K A.d_c_Pick_rank ["self", "answer"] []
 F_c_Names___init : FunD K "__init__" "Names.__init__" s_c_Names___init A.ds_c_Names___init A.f_c_Names___init A.d_c_Names___init
 b_c_Names___init : Binds K A.d_c_Names___init ["self", "most"] []
 F_c_Is___init : FunD K "__init__" "Is.__init__" s_c_Is___init A.ds_c_Is___init A.f_c_Is___init A.d_c_Is___init
 b_c_Is___init : Binds K A.d_c_Is___init ["self", "name", "word", "place"] []
 bd_c_Is___init : Binds K A.d_c_Is___init ["self", "name", "word", "place"] A.ds_c_Is___init
 dv_c_Is___init : Vals [.non] A.ds_c_Is___init
 F_c_Is_shown : Fun K "shown" "Is.shown" s_c_Is_shown A.f_c_Is_shown A.d_c_Is_shown
 b_c_Is_shown : Binds K A.d_c_Is_shown ["self"] []
 F_c_Is_settled : Fun K "settled" "Is.settled" s_c_Is_settled A.f_c_Is_settled A.d_c_Is_settled
 b_c_Is_settled : Binds K A.d_c_Is_settled ["self", "kinds"] []
 F_c_Compare___init : Fun K "__init__" "Compare.__init__" s_c_Compare___init A.f_c_Compare___init A.d_c_Compare___init
 b_c_Compare___init : Binds K A.d_c_Compare___init ["self", "name", "how", "number"] []
 F_c_Compare_shown : Fun K "shown" "Compare.shown" s_c_Compare_shown A.f_c_Compare_shown A.d_c_Compare_shown
 b_c_Compare_shown : Binds K A.d_c_Compare_shown ["self"] []
 F_c_Compare_settled : Fun K "settled" "Compare.settled" s_c_Compare_settled A.f_c_Compare_settled A.d_c_Compare_settled
 b_c_Compare_settled : Binds K A.d_c_Compare_settled ["self", "kinds"] []
 F_c_Not___init : Fun K "__init__" "Not.__init__" s_c_Not___init A.f_c_Not___init A.d_c_Not___init
 b_c_Not___init : Binds K A.d_c_Not___init ["self", "test"] []
 F_c_Not_shown : Fun K "shown" "Not.shown" s_c_Not_shown A.f_c_Not_shown A.d_c_Not_shown
 b_c_Not_shown : Binds K A.d_c_Not_shown ["self"] []
 F_c_Not_settled : Fun K "settled" "Not.settled" s_c_Not_settled A.f_c_Not_settled A.d_c_Not_settled
 b_c_Not_settled : Binds K A.d_c_Not_settled ["self", "kinds"] []
 F_c_Pair___init : Fun K "__init__" "Pair.__init__" s_c_Pair___init A.f_c_Pair___init A.d_c_Pair___init
 b_c_Pair___init : Binds K A.d_c_Pair___init ["self", "one", "other"] []
 F_c_Pair_shown_with : Fun K "shown_with" "Pair.shown_with" s_c_Pair_shown_with A.f_c_Pair_shown_with A.d_c_Pair_shown_with
 b_c_Pair_shown_with : Binds K A.d_c_Pair_shown_with ["self", "word"] []
 F_c_Both_shown : Fun K "shown" "Both.shown" s_c_Both_shown A.f_c_Both_shown A.d_c_Both_shown
 b_c_Both_shown : Binds K A.d_c_Both_shown ["self"] []
 F_c_Both_settled : Fun K "settled" "Both.settled" s_c_Both_settled A.f_c_Both_settled A.d_c_Both_settled
 b_c_Both_settled : Binds K A.d_c_Both_settled ["self", "kinds"] []
 F_c_Either_shown : Fun K "shown" "Either.shown" s_c_Either_shown A.f_c_Either_shown A.d_c_Either_shown
 b_c_Either_shown : Binds K A.d_c_Either_shown ["self"] []
 F_c_Either_settled : Fun K "settled" "Either.settled" s_c_Either_settled A.f_c_Either_settled A.d_c_Either_settled
 b_c_Either_settled : Binds K A.d_c_Either_settled ["self", "kinds"] []
 F_law_cell_at : Fun K "_law_cell_at" "_law_cell_at" s_law_cell_at A.f_law_cell_at A.d_law_cell_at
 b_law_cell_at : Binds K A.d_law_cell_at ["_law_script", "_law_k"] []
 k_law_cell_at : W.keepIn K (.ref A.f_law_cell_at) = true
 m_law_cell_at : mg "_law_cell_at" = some (.ref A.f_law_cell_at)
 F_law_whole : Fun K "_law_whole" "_law_whole" s_law_whole A.f_law_whole A.d_law_whole
 b_law_whole : Binds K A.d_law_whole ["_law_found"] []
 k_law_whole : W.keepIn K (.ref A.f_law_whole) = true
 m_law_whole : mg "_law_whole" = some (.ref A.f_law_whole)
 F_law_names : Fun K "_law_names" "_law_names" s_law_names A.f_law_names A.d_law_names
 b_law_names : Binds K A.d_law_names ["_law_script"] []
 k_law_names : W.keepIn K (.ref A.f_law_names) = true
 m_law_names : mg "_law_names" = some (.ref A.f_law_names)
 F_law_number : Fun K "_law_number" "_law_number" s_law_number A.f_law_number A.d_law_number
 b_law_number : Binds K A.d_law_number ["_law_cell"] []
 k_law_number : W.keepIn K (.ref A.f_law_number) = true
 m_law_number : mg "_law_number" = some (.ref A.f_law_number)
 F_law_words : Fun K "_law_words" "_law_words" s_law_words A.f_law_words A.d_law_words
 b_law_words : Binds K A.d_law_words ["_law_script", "_law_names_here"] []
 k_law_words : W.keepIn K (.ref A.f_law_words) = true
 m_law_words : mg "_law_words" = some (.ref A.f_law_words)
 F_law_kind : Fun K "_law_kind" "_law_kind" s_law_kind A.f_law_kind A.d_law_kind
 b_law_kind : Binds K A.d_law_kind ["_law_cell", "_law_words_here"] []
 k_law_kind : W.keepIn K (.ref A.f_law_kind) = true
 m_law_kind : mg "_law_kind" = some (.ref A.f_law_kind)
 F_law_kinds : Fun K "_law_kinds" "_law_kinds" s_law_kinds A.f_law_kinds A.d_law_kinds
 b_law_kinds : Binds K A.d_law_kinds ["_law_script", "_law_names_here", "_law_words_here"] []
 k_law_kinds : W.keepIn K (.ref A.f_law_kinds) = true
 m_law_kinds : mg "_law_kinds" = some (.ref A.f_law_kinds)
 F_law_atom : Fun K "_law_atom" "_law_atom" s_law_atom A.f_law_atom A.d_law_atom
 b_law_atom : Binds K A.d_law_atom ["_law_cell", "_law_told"] []
 k_law_atom : W.keepIn K (.ref A.f_law_atom) = true
 m_law_atom : mg "_law_atom" = some (.ref A.f_law_atom)
 F_law_joined : Fun K "_law_joined" "_law_joined" s_law_joined A.f_law_joined A.d_law_joined
 b_law_joined : Binds K A.d_law_joined ["_law_stack", "_law_how"] []
 k_law_joined : W.keepIn K (.ref A.f_law_joined) = true
 m_law_joined : mg "_law_joined" = some (.ref A.f_law_joined)
 F_law_tree : Fun K "_law_tree" "_law_tree" s_law_tree A.f_law_tree A.d_law_tree
 b_law_tree : Binds K A.d_law_tree ["_law_cells", "_law_names_here"] []
 k_law_tree : W.keepIn K (.ref A.f_law_tree) = true
 m_law_tree : mg "_law_tree" = some (.ref A.f_law_tree)
 F_law_made : Fun K "_law_made" "_law_made" s_law_made A.f_law_made A.d_law_made
 b_law_made : Binds K A.d_law_made ["_law_tree_here"] []
 k_law_made : W.keepIn K (.ref A.f_law_made) = true
 m_law_made : mg "_law_made" = some (.ref A.f_law_made)
 F_law_atoms : Fun K "_law_atoms" "_law_atoms" s_law_atoms A.f_law_atoms A.d_law_atoms
 b_law_atoms : Binds K A.d_law_atoms ["_law_tree_here"] []
 k_law_atoms : W.keepIn K (.ref A.f_law_atoms) = true
 m_law_atoms : mg "_law_atoms" = some (.ref A.f_law_atoms)
 F_law_word : Fun K "_law_word" "_law_word" s_law_word A.f_law_word A.d_law_word
 b_law_word : Binds K A.d_law_word ["_law_found", "_law_due"] []
 k_law_word : W.keepIn K (.ref A.f_law_word) = true
 m_law_word : mg "_law_word" = some (.ref A.f_law_word)
 F_law_same : Fun K "_law_same" "_law_same" s_law_same A.f_law_same A.d_law_same
 b_law_same : Binds K A.d_law_same ["_law_found", "_law_tree_here"] []
 k_law_same : W.keepIn K (.ref A.f_law_same) = true
 m_law_same : mg "_law_same" = some (.ref A.f_law_same)
 F_law_suits : Fun K "_law_suits" "_law_suits" s_law_suits A.f_law_suits A.d_law_suits
 b_law_suits : Binds K A.d_law_suits ["_law_atom_here", "_law_kinds_here", "_law_words_here"] []
 k_law_suits : W.keepIn K (.ref A.f_law_suits) = true
 m_law_suits : mg "_law_suits" = some (.ref A.f_law_suits)
 F_law_place : Fun K "_law_place" "_law_place" s_law_place A.f_law_place A.d_law_place
 b_law_place : Binds K A.d_law_place ["_law_atom_here", "_law_kinds_here", "_law_words_here"] []
 k_law_place : W.keepIn K (.ref A.f_law_place) = true
 m_law_place : mg "_law_place" = some (.ref A.f_law_place)
 F_law_known : Fun K "_law_known" "_law_known" s_law_known A.f_law_known A.d_law_known
 b_law_known : Binds K A.d_law_known ["_law_found", "_law_tree_here", "_law_kinds_here", "_law_words_here"] []
 k_law_known : W.keepIn K (.ref A.f_law_known) = true
 m_law_known : mg "_law_known" = some (.ref A.f_law_known)
 F_law_wrong : Fun K "_law_wrong" "_law_wrong" s_law_wrong A.f_law_wrong A.d_law_wrong
 b_law_wrong : Binds K A.d_law_wrong ["_law_saying", "_law_kinds_here", "_law_name"] []
 k_law_wrong : W.keepIn K (.ref A.f_law_wrong) = true
 m_law_wrong : mg "_law_wrong" = some (.ref A.f_law_wrong)
 F_law_otherwise : Fun K "_law_otherwise" "_law_otherwise" s_law_otherwise A.f_law_otherwise A.d_law_otherwise
 b_law_otherwise : Binds K A.d_law_otherwise ["_law_saying", "_law_tree_here", "_law_kinds_here", "_law_words_here"] []
 k_law_otherwise : W.keepIn K (.ref A.f_law_otherwise) = true
 m_law_otherwise : mg "_law_otherwise" = some (.ref A.f_law_otherwise)
 F_law : Fun K "law" "law" s_law A.f_law A.d_law
 m_law : mg "law" = some (.ref A.f_law)
 m_WRITTEN_TRUTHS : mg "WRITTEN_TRUTHS" = some (.ref A.a_WRITTEN_TRUTHS)
 t_WRITTEN_TRUTHS : TabK K A.a_WRITTEN_TRUTHS [("yes", true), ("no", false)]
 n_ValueError : mg "ValueError" = none
 n_bool : mg "bool" = none
 n_dict : mg "dict" = none
 n_int : mg "int" = none
 n_isinstance : mg "isinstance" = none
 n_len : mg "len" = none
 n_list : mg "list" = none
 n_max : mg "max" = none
 n_range : mg "range" = none
 n_str : mg "str" = none
 i_int_int : W.kitOne K (.type "int") (.type "int") = some true
 i_NoneType_bool : W.kitOne K (.type "NoneType") (.type "bool") = some false
 i_bool_bool : W.kitOne K (.type "bool") (.type "bool") = some true
 i_int_bool : W.kitOne K (.type "int") (.type "bool") = some false
 i_str_str : W.kitOne K (.type "str") (.type "str") = some true
 m_AskError : mg "AskError" = some (.ref A.c_AskError)
 m_Both : mg "Both" = some (.ref A.c_Both)
 v_Both : GlobV mg "Both" (.ref A.c_Both)
 m_Compare : mg "Compare" = some (.ref A.c_Compare)
 v_Compare : GlobV mg "Compare" (.ref A.c_Compare)
 m_Either : mg "Either" = some (.ref A.c_Either)
 v_Either : GlobV mg "Either" (.ref A.c_Either)
 m_Is : mg "Is" = some (.ref A.c_Is)
 v_Is : GlobV mg "Is" (.ref A.c_Is)
 m_Kind : mg "Kind" = some (.ref A.c_Kind)
 m_Money : mg "Money" = some (.ref A.c_Money)
 m_Names : mg "Names" = some (.ref A.c_Names)
 v_Names : GlobV mg "Names" (.ref A.c_Names)
 v_NoAnswer : GlobV mg "NoAnswer" (.ref A.c_NoAnswer)
 v_NoKind : GlobV mg "NoKind" (.ref A.c_NoKind)
 v_NoNumber : GlobV mg "NoNumber" (.ref A.c_NoNumber)
 v_NoRow : GlobV mg "NoRow" (.ref A.c_NoRow)
 v_NoSaying : GlobV mg "NoSaying" (.ref A.c_NoSaying)
 v_NoSum : GlobV mg "NoSum" (.ref A.c_NoSum)
 v_NoWay : GlobV mg "NoWay" (.ref A.c_NoWay)
 m_Not : mg "Not" = some (.ref A.c_Not)
 v_Not : GlobV mg "Not" (.ref A.c_Not)
 v_OutOfReach : GlobV mg "OutOfReach" (.ref A.c_OutOfReach)
 m_Pick : mg "Pick" = some (.ref A.c_Pick)
 v_Pick : GlobV mg "Pick" (.ref A.c_Pick)
 v_Twice : GlobV mg "Twice" (.ref A.c_Twice)
 v_Unknown : GlobV mg "Unknown" (.ref A.c_Unknown)
 m_Whole : mg "Whole" = some (.ref A.c_Whole)
 v_Whole : GlobV mg "Whole" (.ref A.c_Whole)
 m_WrongKind : mg "WrongKind" = some (.ref A.c_WrongKind)
 v_WrongKind : GlobV mg "WrongKind" (.ref A.c_WrongKind)
 m_YesNo : mg "YesNo" = some (.ref A.c_YesNo)
 v_YesNo : GlobV mg "YesNo" (.ref A.c_YesNo)
 mx_WrongKind : MkX K A.c_WrongKind A.f_c_WrongKind___init
 ec_WrongKind : ExcCls K A.c_WrongKind
 es_WrongKind_name : ExcSet K A.c_WrongKind "name"
 eg_WrongKind_name : ExcGet K A.c_WrongKind "name"
 bi_AskError : BInit K A.c_AskError
 em_WrongKind_AskError : W.exmOne K (.ref A.c_WrongKind) (.ref A.c_AskError) = some true
 kr_Is_Is : W.kitOne K (.ref A.c_Is) (.ref A.c_Is) = some true
 kr_Compare_Compare : W.kitOne K (.ref A.c_Compare) (.ref A.c_Compare) = some true
 kr_Not_Not : W.kitOne K (.ref A.c_Not) (.ref A.c_Not) = some true
 kr_Both_Both : W.kitOne K (.ref A.c_Both) (.ref A.c_Both) = some true
 kr_Either_Either : W.kitOne K (.ref A.c_Either) (.ref A.c_Either) = some true
 kr_YesNo_YesNo : W.kitOne K (.ref A.c_YesNo) (.ref A.c_YesNo) = some true
 kr_YesNo_Pick : W.kitOne K (.ref A.c_YesNo) (.ref A.c_Pick) = some false
 kr_YesNo_Whole : W.kitOne K (.ref A.c_YesNo) (.ref A.c_Whole) = some false
 kr_YesNo_Names : W.kitOne K (.ref A.c_YesNo) (.ref A.c_Names) = some false
 kr_Whole_YesNo : W.kitOne K (.ref A.c_Whole) (.ref A.c_YesNo) = some false
 kr_Whole_Pick : W.kitOne K (.ref A.c_Whole) (.ref A.c_Pick) = some false
 kr_Whole_Whole : W.kitOne K (.ref A.c_Whole) (.ref A.c_Whole) = some true
 kr_Whole_Names : W.kitOne K (.ref A.c_Whole) (.ref A.c_Names) = some false
 kr_Money_YesNo : W.kitOne K (.ref A.c_Money) (.ref A.c_YesNo) = some false
 kr_Money_Pick : W.kitOne K (.ref A.c_Money) (.ref A.c_Pick) = some false
 kr_Money_Whole : W.kitOne K (.ref A.c_Money) (.ref A.c_Whole) = some true
 kr_Money_Names : W.kitOne K (.ref A.c_Money) (.ref A.c_Names) = some false
 kr_Pick_YesNo : W.kitOne K (.ref A.c_Pick) (.ref A.c_YesNo) = some false
 kr_Pick_Pick : W.kitOne K (.ref A.c_Pick) (.ref A.c_Pick) = some true
 kr_Pick_Whole : W.kitOne K (.ref A.c_Pick) (.ref A.c_Whole) = some false
 kr_Pick_Names : W.kitOne K (.ref A.c_Pick) (.ref A.c_Names) = some false
 kr_Names_YesNo : W.kitOne K (.ref A.c_Names) (.ref A.c_YesNo) = some false
 kr_Names_Pick : W.kitOne K (.ref A.c_Names) (.ref A.c_Pick) = some false
 kr_Names_Whole : W.kitOne K (.ref A.c_Names) (.ref A.c_Whole) = some false
 kr_Names_Names : W.kitOne K (.ref A.c_Names) (.ref A.c_Names) = some true
 kr_WrongKind_WrongKind : W.kitOne K (.ref A.c_WrongKind) (.ref A.c_WrongKind) = some true
 kr_WrongKind_NoKind : W.kitOne K (.ref A.c_WrongKind) (.ref A.c_NoKind) = some false
 kr_WrongKind_NoSaying : W.kitOne K (.ref A.c_WrongKind) (.ref A.c_NoSaying) = some false
 kr_WrongKind_NoWay : W.kitOne K (.ref A.c_WrongKind) (.ref A.c_NoWay) = some false
 kr_WrongKind_OutOfReach : W.kitOne K (.ref A.c_WrongKind) (.ref A.c_OutOfReach) = some false
 kr_WrongKind_Twice : W.kitOne K (.ref A.c_WrongKind) (.ref A.c_Twice) = some false
 kr_WrongKind_Unknown : W.kitOne K (.ref A.c_WrongKind) (.ref A.c_Unknown) = some false
 kr_WrongKind_NoAnswer : W.kitOne K (.ref A.c_WrongKind) (.ref A.c_NoAnswer) = some false
 kr_WrongKind_NoNumber : W.kitOne K (.ref A.c_WrongKind) (.ref A.c_NoNumber) = some false
 kr_WrongKind_NoRow : W.kitOne K (.ref A.c_WrongKind) (.ref A.c_NoRow) = some false
 kr_WrongKind_NoSum : W.kitOne K (.ref A.c_WrongKind) (.ref A.c_NoSum) = some false
 ktr_NoneType_YesNo : W.kitOne K (.type "NoneType") (.ref A.c_YesNo) = some false
 ktr_NoneType_Pick : W.kitOne K (.type "NoneType") (.ref A.c_Pick) = some false
 krt_WrongKind_ValueError : W.kitOne K (.ref A.c_WrongKind) (.type "ValueError") = some true
 cl_Is : Cls K A.c_Is
 ty_Is : ∀ (H : Hp) (a dx : Addr) (fs : List (Str × V)), H a = some (.ins A.c_Is dx fs) → TyOf K H (.ref a) (.ref A.c_Is)
 mk_Is : Mk K A.c_Is A.f_c_Is___init
 me_Is_shown : Meth K A.c_Is "shown" A.f_c_Is_shown
 me_Is_settled : Meth K A.c_Is "settled" A.f_c_Is_settled
 no_Is_name : NoAttr K A.c_Is "name"
 no_Is_word : NoAttr K A.c_Is "word"
 no_Is_place : NoAttr K A.c_Is "place"
 cl_Compare : Cls K A.c_Compare
 ty_Compare : ∀ (H : Hp) (a dx : Addr) (fs : List (Str × V)), H a = some (.ins A.c_Compare dx fs) → TyOf K H (.ref a) (.ref A.c_Compare)
 mk_Compare : Mk K A.c_Compare A.f_c_Compare___init
 me_Compare_shown : Meth K A.c_Compare "shown" A.f_c_Compare_shown
 me_Compare_settled : Meth K A.c_Compare "settled" A.f_c_Compare_settled
 no_Compare_name : NoAttr K A.c_Compare "name"
 no_Compare_how : NoAttr K A.c_Compare "how"
 no_Compare_number : NoAttr K A.c_Compare "number"
 cl_Not : Cls K A.c_Not
 ty_Not : ∀ (H : Hp) (a dx : Addr) (fs : List (Str × V)), H a = some (.ins A.c_Not dx fs) → TyOf K H (.ref a) (.ref A.c_Not)
 mk_Not : Mk K A.c_Not A.f_c_Not___init
 me_Not_shown : Meth K A.c_Not "shown" A.f_c_Not_shown
 me_Not_settled : Meth K A.c_Not "settled" A.f_c_Not_settled
 no_Not_test : NoAttr K A.c_Not "test"
 cl_Both : Cls K A.c_Both
 ty_Both : ∀ (H : Hp) (a dx : Addr) (fs : List (Str × V)), H a = some (.ins A.c_Both dx fs) → TyOf K H (.ref a) (.ref A.c_Both)
 mk_Both : Mk K A.c_Both A.f_c_Pair___init
 me_Both_shown : Meth K A.c_Both "shown" A.f_c_Both_shown
 me_Both_settled : Meth K A.c_Both "settled" A.f_c_Both_settled
 me_Both_shown_with : Meth K A.c_Both "shown_with" A.f_c_Pair_shown_with
 no_Both_one : NoAttr K A.c_Both "one"
 no_Both_other : NoAttr K A.c_Both "other"
 cl_Either : Cls K A.c_Either
 ty_Either : ∀ (H : Hp) (a dx : Addr) (fs : List (Str × V)), H a = some (.ins A.c_Either dx fs) → TyOf K H (.ref a) (.ref A.c_Either)
 mk_Either : Mk K A.c_Either A.f_c_Pair___init
 me_Either_shown : Meth K A.c_Either "shown" A.f_c_Either_shown
 me_Either_settled : Meth K A.c_Either "settled" A.f_c_Either_settled
 me_Either_shown_with : Meth K A.c_Either "shown_with" A.f_c_Pair_shown_with
 no_Either_one : NoAttr K A.c_Either "one"
 no_Either_other : NoAttr K A.c_Either "other"
 cl_YesNo : Cls K A.c_YesNo
 ty_YesNo : ∀ (H : Hp) (a dx : Addr) (fs : List (Str × V)), H a = some (.ins A.c_YesNo dx fs) → TyOf K H (.ref a) (.ref A.c_YesNo)
 mk_YesNo : Mk K A.c_YesNo A.f_c_YesNo___init
 me_YesNo_fits : Meth K A.c_YesNo "fits" A.f_c_YesNo_fits
 me_YesNo_answer_of : Meth K A.c_YesNo "answer_of" A.f_c_YesNo_answer_of
 me_YesNo_rank : Meth K A.c_YesNo "rank" A.f_c_YesNo_rank
 no_YesNo_low : NoAttr K A.c_YesNo "low"
 no_YesNo_high : NoAttr K A.c_YesNo "high"
 cl_Whole : Cls K A.c_Whole
 ty_Whole : ∀ (H : Hp) (a dx : Addr) (fs : List (Str × V)), H a = some (.ins A.c_Whole dx fs) → TyOf K H (.ref a) (.ref A.c_Whole)
 mk_Whole : Mk K A.c_Whole A.f_c_Kind___init
 no_Whole_low : NoAttr K A.c_Whole "low"
 no_Whole_high : NoAttr K A.c_Whole "high"
 cl_Money : Cls K A.c_Money
 ty_Money : ∀ (H : Hp) (a dx : Addr) (fs : List (Str × V)), H a = some (.ins A.c_Money dx fs) → TyOf K H (.ref a) (.ref A.c_Money)
 mk_Money : Mk K A.c_Money A.f_c_Kind___init
 no_Money_low : NoAttr K A.c_Money "low"
 no_Money_high : NoAttr K A.c_Money "high"
 cl_Pick : Cls K A.c_Pick
 ty_Pick : ∀ (H : Hp) (a dx : Addr) (fs : List (Str × V)), H a = some (.ins A.c_Pick dx fs) → TyOf K H (.ref a) (.ref A.c_Pick)
 mk_Pick : Mk K A.c_Pick A.f_c_Pick___init
 me_Pick_fits : Meth K A.c_Pick "fits" A.f_c_Pick_fits
 me_Pick_answer_of : Meth K A.c_Pick "answer_of" A.f_c_Pick_answer_of
 me_Pick_rank : Meth K A.c_Pick "rank" A.f_c_Pick_rank
 no_Pick_low : NoAttr K A.c_Pick "low"
 no_Pick_high : NoAttr K A.c_Pick "high"
 no_Pick_words : NoAttr K A.c_Pick "words"
 cl_Names : Cls K A.c_Names
 ty_Names : ∀ (H : Hp) (a dx : Addr) (fs : List (Str × V)), H a = some (.ins A.c_Names dx fs) → TyOf K H (.ref a) (.ref A.c_Names)
 mk_Names : Mk K A.c_Names A.f_c_Names___init
 no_Names_low : NoAttr K A.c_Names "low"
 no_Names_high : NoAttr K A.c_Names "high"
 cf_Kind_init : ClsFn K A.c_Kind "__init__" A.f_c_Kind___init
theorem sc_c_WrongKind___init : FnScope ["self", "name"] ["self", "name"] (defScope s_c_WrongKind___init) := ⟨rfl, rfl, rfl, by symm, rfl, by symm, by symm⟩
theorem sc_c_Kind___init : FnScope ["self", "low", "high"] ["self", "low", "high"] (defScope s_c_Kind___init) := ⟨rfl, rfl, rfl, by symm, rfl, by symm, by symm⟩
theorem sc_c_YesNo___init : FnScope ["self"] ["self"] (defScope s_c_YesNo___init) := ⟨rfl, rfl, rfl, by symm, rfl, by symm, by symm⟩
theorem sc_c_YesNo_fits : FnScope ["self", "thing"] ["self", "thing"] (defScope s_c_YesNo_fits) := ⟨rfl, rfl, rfl, by symm, rfl, by symm, by symm⟩
theorem sc_c_YesNo_answer_of : FnScope ["self", "text"] ["self", "text"] (defScope s_c_YesNo_answer_of) := ⟨rfl, rfl, rfl, by symm, rfl, by symm, by symm⟩
theorem sc_c_YesNo_rank : FnScope ["self", "answer"] ["self", "answer"] (defScope s_c_YesNo_rank) := ⟨rfl, rfl, rfl, by symm, rfl, by symm, by symm⟩
theorem sc_c_Pick___init : FnScope ["self", "words"] ["self", "words"] (defScope s_c_Pick___init) := ⟨rfl, rfl, rfl, by symm, rfl, by symm, by symm⟩
theorem sc_c_Pick_fits : FnScope ["self", "thing"] ["self", "thing"] (defScope s_c_Pick_fits) := ⟨rfl, rfl, rfl, by symm, rfl, by symm, by symm⟩
theorem sc_c_Pick_answer_of : FnScope ["self", "text"] ["self", "text"] (defScope s_c_Pick_answer_of) := ⟨rfl, rfl, rfl, by symm, rfl, by symm, by symm⟩
theorem sc_c_Pick_rank : FnScope ["self", "answer"] ["self", "answer"] (defScope s_c_Pick_rank) := ⟨rfl, rfl, rfl, by symm, rfl, by symm, by symm⟩
theorem sc_c_Names___init : FnScope ["self", "most"] ["self", "most"] (defScope s_c_Names___init) := ⟨rfl, rfl, rfl, by symm, rfl, by symm, by symm⟩
theorem sc_c_Is___init : FnScope ["self", "name", "word", "place"] ["self", "name", "word", "place"] (defScope s_c_Is___init) := ⟨rfl, rfl, rfl, by symm, rfl, by symm, by symm⟩
theorem sc_c_Is_shown : FnScope ["self"] ["self"] (defScope s_c_Is_shown) := ⟨rfl, rfl, rfl, by symm, rfl, by symm, by symm⟩
theorem sc_c_Is_settled : FnScope ["self", "kinds", "kind", "answer"] ["self", "kinds"] (defScope s_c_Is_settled) := ⟨rfl, rfl, rfl, by symm, rfl, by symm, by symm⟩
theorem sc_c_Compare___init : FnScope ["self", "name", "how", "number"] ["self", "name", "how", "number"] (defScope s_c_Compare___init) := ⟨rfl, rfl, rfl, by symm, rfl, by symm, by symm⟩
theorem sc_c_Compare_shown : FnScope ["self"] ["self"] (defScope s_c_Compare_shown) := ⟨rfl, rfl, rfl, by symm, rfl, by symm, by symm⟩
theorem sc_c_Compare_settled : FnScope ["self", "kinds"] ["self", "kinds"] (defScope s_c_Compare_settled) := ⟨rfl, rfl, rfl, by symm, rfl, by symm, by symm⟩
theorem sc_c_Not___init : FnScope ["self", "test"] ["self", "test"] (defScope s_c_Not___init) := ⟨rfl, rfl, rfl, by symm, rfl, by symm, by symm⟩
theorem sc_c_Not_shown : FnScope ["self"] ["self"] (defScope s_c_Not_shown) := ⟨rfl, rfl, rfl, by symm, rfl, by symm, by symm⟩
theorem sc_c_Not_settled : FnScope ["self", "kinds"] ["self", "kinds"] (defScope s_c_Not_settled) := ⟨rfl, rfl, rfl, by symm, rfl, by symm, by symm⟩
theorem sc_c_Pair___init : FnScope ["self", "one", "other"] ["self", "one", "other"] (defScope s_c_Pair___init) := ⟨rfl, rfl, rfl, by symm, rfl, by symm, by symm⟩
theorem sc_c_Pair_shown_with : FnScope ["self", "word"] ["self", "word"] (defScope s_c_Pair_shown_with) := ⟨rfl, rfl, rfl, by symm, rfl, by symm, by symm⟩
theorem sc_c_Both_shown : FnScope ["self"] ["self"] (defScope s_c_Both_shown) := ⟨rfl, rfl, rfl, by symm, rfl, by symm, by symm⟩
theorem sc_c_Both_settled : FnScope ["self", "kinds"] ["self", "kinds"] (defScope s_c_Both_settled) := ⟨rfl, rfl, rfl, by symm, rfl, by symm, by symm⟩
theorem sc_c_Either_shown : FnScope ["self"] ["self"] (defScope s_c_Either_shown) := ⟨rfl, rfl, rfl, by symm, rfl, by symm, by symm⟩
theorem sc_c_Either_settled : FnScope ["self", "kinds"] ["self", "kinds"] (defScope s_c_Either_settled) := ⟨rfl, rfl, rfl, by symm, rfl, by symm, by symm⟩
theorem sc_law_cell_at : FnScope ["_law_script", "_law_k"] ["_law_script", "_law_k"] (defScope s_law_cell_at) := ⟨rfl, rfl, rfl, by symm, rfl, by symm, by symm⟩
theorem sc_law_whole : FnScope ["_law_found"] ["_law_found"] (defScope s_law_whole) := ⟨rfl, rfl, rfl, by symm, rfl, by symm, by symm⟩
theorem sc_law_names : FnScope ["_law_script", "_law_letters", "_law_cell", "_law_size", "_law_way", "_law_base", "_law_at", "_law_names_here", "_law_k", "_law_name"] ["_law_script"] (defScope s_law_names) := ⟨rfl, rfl, rfl, by symm, rfl, by symm, by symm⟩
theorem sc_law_number : FnScope ["_law_cell"] ["_law_cell"] (defScope s_law_number) := ⟨rfl, rfl, rfl, by symm, rfl, by symm, by symm⟩
theorem sc_law_words : FnScope ["_law_script", "_law_names_here", "_law_words_here", "_law_at", "_law_listed", "_law_word_here"] ["_law_script", "_law_names_here"] (defScope s_law_words) := ⟨rfl, rfl, rfl, by symm, rfl, by symm, by symm⟩
theorem sc_law_kind : FnScope ["_law_cell", "_law_words_here"] ["_law_cell", "_law_words_here"] (defScope s_law_kind) := ⟨rfl, rfl, rfl, by symm, rfl, by symm, by symm⟩
theorem sc_law_kinds : FnScope ["_law_script", "_law_names_here", "_law_words_here", "_law_kinds_here", "_law_k", "_law_found"] ["_law_script", "_law_names_here", "_law_words_here"] (defScope s_law_kinds) := ⟨rfl, rfl, rfl, by symm, rfl, by symm, by symm⟩
theorem sc_law_atom : FnScope ["_law_cell", "_law_told", "_law_names_here", "_law_kinds_here", "_law_words_here", "_law_kind_here", "_law_other"] ["_law_cell", "_law_told"] (defScope s_law_atom) := ⟨rfl, rfl, rfl, by symm, rfl, by symm, by symm⟩
theorem sc_law_joined : FnScope ["_law_stack", "_law_how", "_law_other", "_law_one"] ["_law_stack", "_law_how"] (defScope s_law_joined) := ⟨rfl, rfl, rfl, by symm, rfl, by symm, by symm⟩
theorem sc_law_tree : FnScope ["_law_cells", "_law_names_here", "_law_stack", "_law_many", "_law_cell", "_law_last"] ["_law_cells", "_law_names_here"] (defScope s_law_tree) := ⟨rfl, rfl, rfl, by symm, rfl, by symm, by symm⟩
theorem sc_law_made : FnScope ["_law_tree_here"] ["_law_tree_here"] (defScope s_law_made) := ⟨rfl, rfl, rfl, by symm, rfl, by symm, by symm⟩
theorem sc_law_atoms : FnScope ["_law_tree_here"] ["_law_tree_here"] (defScope s_law_atoms) := ⟨rfl, rfl, rfl, by symm, rfl, by symm, by symm⟩
theorem sc_law_word : FnScope ["_law_found", "_law_due"] ["_law_found", "_law_due"] (defScope s_law_word) := ⟨rfl, rfl, rfl, by symm, rfl, by symm, by symm⟩
theorem sc_law_same : FnScope ["_law_found", "_law_tree_here"] ["_law_found", "_law_tree_here"] (defScope s_law_same) := ⟨rfl, rfl, rfl, by symm, rfl, by symm, by symm⟩
theorem sc_law_suits : FnScope ["_law_atom_here", "_law_kinds_here", "_law_words_here", "_law_kind_here"] ["_law_atom_here", "_law_kinds_here", "_law_words_here"] (defScope s_law_suits) := ⟨rfl, rfl, rfl, by symm, rfl, by symm, by symm⟩
theorem sc_law_place : FnScope ["_law_atom_here", "_law_kinds_here", "_law_words_here"] ["_law_atom_here", "_law_kinds_here", "_law_words_here"] (defScope s_law_place) := ⟨rfl, rfl, rfl, by symm, rfl, by symm, by symm⟩
theorem sc_law_known : FnScope ["_law_found", "_law_tree_here", "_law_kinds_here", "_law_words_here"] ["_law_found", "_law_tree_here", "_law_kinds_here", "_law_words_here"] (defScope s_law_known) := ⟨rfl, rfl, rfl, by symm, rfl, by symm, by symm⟩
theorem sc_law_wrong : FnScope ["_law_saying", "_law_kinds_here", "_law_name", "_law_kept", "e"] ["_law_saying", "_law_kinds_here", "_law_name"] (defScope s_law_wrong) := ⟨rfl, rfl, rfl, by symm, rfl, by symm, by symm⟩
theorem sc_law_otherwise : FnScope ["_law_saying", "_law_tree_here", "_law_kinds_here", "_law_words_here", "_law_backward", "_law_other", "_law_name", "_law_named"] ["_law_saying", "_law_tree_here", "_law_kinds_here", "_law_words_here"] (defScope s_law_otherwise) := ⟨rfl, rfl, rfl, by symm, rfl, by symm, by symm⟩
theorem sc_law : FnScope ["_law_script", "_law_names_here", "_law_words_here", "_law_kinds_here", "_law_tree_here", "_law_saying", "_law_handed", "_law_wrong_here", "_law_found"] ["_law_script"] (defScope s_law) := ⟨rfl, rfl, rfl, by symm, rfl, by symm, by symm⟩
end K16
set_option maxHeartbeats 4000000
namespace K16
open PySem L2
seal PE PT PW PA PS PSs PG PGs PI PO PSet OpR UnR CallR TruR IxR SlR PC PPs
local macro_rules | `(tactic| walk_at "rd1") => `(tactic| first
 | (refine And.intro rfl ?_)
 | (refine And.intro (by assumption) ?_)
 | (refine And.intro (fun _ e => e) ?_)
 | (refine And.intro (TyOf.str _) ?_) | (refine And.intro (TyOf.int _) ?_) | (refine And.intro (TyOf.bl _) ?_) | (refine And.intro TyOf.non ?_)
 | (refine iteT ?_) | (refine iteF ?_)
 | (apply Exists.intro))
local macro_rules | `(tactic| walk_at "rd") => `(tactic| repeat (walk_at "rd1"))
def kws : List V := [.str "and", .str "each", .str "end", .str "is", .str "not", .str "or", .str "unless", .str "when"]
def inL (c : Nat) : Bool := !(Builtin.Str.occurrences "abcdefghijklmnopqrstuvwxyz" (S [c]) 0 ("abcdefghijklmnopqrstuvwxyz" : Str).length 1).isEmpty
def nameB (z : Str) : Bool := !(inV (.str z) kws) && decide ((1 : Int) ≤ z.length) && decide ((z.length : Int) ≤ 12) && (cd z).all inL
abbrev Part := Int × Option Str
def nv : Option Str → V
 | none => .non
 | some z => .str z
def PR (K : W.Frag) (H : Hp) (x : V) (p : Part) : Prop := ∃ a, x = .ref a ∧ SqT K H a [.int p.1, nv p.2]
abbrev PsR (K : W.Frag) (H : Hp) : List V → List Part → Prop := Paired (PR K H)
theorem PR.same {K : W.Frag} {H H' : Hp} {x : V} {p : Part} (e : Same H H') (h : PR K H x p) : PR K H' x p := let ⟨a, h1, h2⟩ := h; ⟨a, h1, e.seqT h2⟩
theorem PsR.same {K : W.Frag} {H H' : Hp} {xs : List V} {ps : List Part} (e : Same H H') (h : PsR K H xs ps) : PsR K H' xs ps := by
 induction h with
 | nil => exact .nil
 | cons a _ ih => exact .cons (a.same e) ih
theorem PsR.at {K : W.Frag} {H : Hp} {xs : List V} {ps : List Part} (h : PsR K H xs ps) : ∀ {i : Nat} {x : V}, xs[i]? = some x → ∃ p, ps[i]? = some p ∧ PR K H x p := by
 induction h with
 | nil => intro i x e; simp at e
 | cons a _ ih =>
   intro i x e
   cases i with
   | zero => cases e; exact ⟨_, rfl, a⟩
   | succ j => exact ih e
theorem PsR.len {K : W.Frag} {H : Hp} {xs : List V} {ps : List Part} (h : PsR K H xs ps) : xs.length = ps.length := by
 induction h with
 | nil => rfl
 | cons _ _ ih => rw [List.length_cons, List.length_cons, ih]
theorem inL_of {c : Nat} (h : 97 ≤ c ∧ c ≤ 122) : inL c = true := by
 have e0 : inL c = decide (c ∈ ("abcdefghijklmnopqrstuvwxyz" : Str).cps.toList) := StrLaws.found_one "abcdefghijklmnopqrstuvwxyz" c
 have e : ("abcdefghijklmnopqrstuvwxyz" : Str).cps.toList = (List.range 26).map (97 + ·) := by symm
 rw [e0, e]
 refine decide_eq_true (List.mem_map.mpr ⟨c - 97, List.mem_range.mpr (by omega), by omega⟩)
theorem paired_app {α β : Type} {R : α → β → Prop} {as as' : List α} {bs bs' : List β} (h : Paired R as bs) (k : Paired R as' bs') : Paired R (as ++ as') (bs ++ bs') := by
 induction h with
 | nil => exact k
 | cons r _ ih => exact .cons r ih
theorem seq_mid {t u : TS} {D : Ends} {σ : St} {H : Hp} (R : St → Hp → Prop) (hk : ∀ σ' H', R σ' H' → u D σ' H') (hm : (∀ σ' H', R σ' H' → u D σ' H') → t { D with nx := u D } σ H) : tSeq t u D σ H := hm hk
end K16
namespace K16
open PySem L2
seal PE PT PW PA PS PSs PG PGs PI PO PSet OpR UnR CallR TruR IxR SlR PC PPs
local macro_rules | `(tactic| walk_at "rd1") => `(tactic| first
 | (refine And.intro rfl ?_)
 | (refine And.intro (by assumption) ?_)
 | (refine And.intro (fun _ e => e) ?_)
 | (refine And.intro (TyOf.str _) ?_) | (refine And.intro (TyOf.int _) ?_) | (refine And.intro (TyOf.bl _) ?_) | (refine And.intro TyOf.non ?_)
 | (refine iteT ?_) | (refine iteF ?_)
 | (apply Exists.intro))
local macro_rules | `(tactic| walk_at "rd") => `(tactic| repeat (walk_at "rd1"))
theorem inL_iff {c : Nat} (h : inL c = true) : 97 ≤ c ∧ c ≤ 122 := by
 have e0 : inL c = decide (c ∈ ("abcdefghijklmnopqrstuvwxyz" : Str).cps.toList) := StrLaws.found_one "abcdefghijklmnopqrstuvwxyz" c
 have e : ("abcdefghijklmnopqrstuvwxyz" : Str).cps.toList = (List.range 26).map (97 + ·) := by symm
 rw [e0, e, decide_eq_true_iff] at h
 obtain ⟨k, hk, rfl⟩ := List.mem_map.mp h
 have := List.mem_range.mp hk
 omega
theorem name_let {z : Str} (h : nameB z = true) : z.length ≤ 12 ∧ 1 ≤ z.length ∧ ∀ c ∈ cd z, 97 ≤ c ∧ c ≤ 122 := by
 unfold nameB at h
 simp only [Bool.and_eq_true, decide_eq_true_iff] at h
 obtain ⟨⟨⟨_, h1⟩, h2⟩, h3⟩ := h
 exact ⟨by omega, by omega, fun c hc => inL_iff (List.all_eq_true.mp h3 c hc)⟩
end K16
set_option maxHeartbeats 4000000
namespace K16
open PySem L2
seal PE PT PW PA PS PSs PG PGs PI PO PSet OpR UnR CallR TruR IxR SlR PC PPs
local macro_rules | `(tactic| walk_at "rd1") => `(tactic| first
 | (refine And.intro rfl ?_)
 | (refine And.intro (by assumption) ?_)
 | (refine And.intro (fun _ e => e) ?_)
 | (refine And.intro (TyOf.str _) ?_) | (refine And.intro (TyOf.int _) ?_) | (refine And.intro (TyOf.bl _) ?_) | (refine And.intro TyOf.non ?_)
 | (refine iteT ?_) | (refine iteF ?_)
 | (apply Exists.intro))
local macro_rules | `(tactic| walk_at "rd") => `(tactic| repeat (walk_at "rd1"))
def spCell (K : W.Frag) : Sp := fun vs H Q _ => ∃ (a : Addr) (ns : List Int) (k : Int), vs = [.ref a, .int k] ∧ SqL K H a (ns.map V.int) ∧ 0 ≤ k ∧ (∀ n ∈ ns, ib n ≤ 1048576) ∧ ∀ n : Int, ib n ≤ 1048576 → Q (.int n) H
def spIsWhole (K : W.Frag) : Sp := fun vs H Q _ => ∃ x t bi bb, vs = [x] ∧ TyE K H x t ∧ W.kitOne K t (.type "int") = some bi ∧ W.kitOne K t (.type "bool") = some bb ∧ Q (.bl (bi && !bb)) H
def spNames (K : W.Frag) : Sp := fun vs H Q _ => ∃ (a : Addr) (ns : List Int), vs = [.ref a] ∧ SqL K H a (ns.map V.int) ∧ (∀ n ∈ ns, ib n ≤ 1048576) ∧ ∀ (pn : Addr) (zs : List Str) (H' : Hp), zs.length = 5 → (∀ z ∈ zs, nameB z = true) → Same H H' → H' pn = some (.lst (zs.map V.str)) → Q (.ref pn) H'
def spNumber : Sp := fun vs H Q _ => ∃ n : Int, vs = [.int n] ∧ ib n ≤ 1048600 ∧ ∀ m : Int, m.natAbs < 10 ^ 60 → Q (.int m) H
def one (b : List Nat) : List Str := b.map fun c => S [c]
theorem one_sum (b : List Nat) : ((one b).map (·.length)).sum = b.length := by
 induction b with
 | nil => rfl
 | cons c r ih =>
   show (S [c]).length + ((one r).map (·.length)).sum = _
   rw [ih, len_S, List.length_cons, List.length_cons, List.length_nil]; omega
theorem one_join (b : List Nat) : joinS "" (one b) = S b := by
 rw [joinS_is, show cd ("" : Str) = [] by symm]
 congr 1
 induction b with
 | nil => rfl
 | cons c r ih =>
   cases r with
   | nil => rfl
   | cons d r =>
     show [c] ++ [] ++ joinL [] ((one (d :: r)).map cd) = _
     rw [ih]; rfl
theorem one_map (b : List Nat) : (one b).map V.str = b.map fun c => V.str (S [c]) := by unfold one; rw [List.map_map]; rfl
abbrev KW : List Str := ["and", "each", "end", "is", "not", "or", "unless", "when"]
theorem inV_strs (z : Str) (ws : List Str) : inV (.str z) (ws.map V.str) = decide (z ∈ ws) := by
 unfold inV
 rw [List.any_map, Bool.eq_iff_iff, List.any_eq_true, decide_eq_true_iff]
 constructor
 · rintro ⟨y, hy, e⟩
   have : y = z := eq_of_beq e
   rw [← this]; exact hy
 · intro h; exact ⟨z, h, by show (z == z) = true; exact beq_self_eq_true z⟩
theorem name_of {l : List Nat} (h : l.length ≤ 12 ∧ 1 ≤ l.length ∧ ∀ c ∈ l, 97 ≤ c ∧ c ≤ 122) (k : S l ∉ KW) : nameB (S l) = true := by
 unfold nameB
 have e1 : inV (.str (S l)) kws = false := by
   show inV (.str (S l)) (KW.map V.str) = false
   rw [inV_strs]; exact decide_eq_false k
 have e2 : l.all inL = true := List.all_eq_true.mpr fun c hc => inL_of (h.2.2 c hc)
 rw [e1, len_S, cd_S, e2, decide_eq_true (by omega), decide_eq_true (by omega)]
 rfl
theorem kw_x : ∀ z ∈ KW, nameB (z ++ Str.ofString "x") = true := by symm
theorem kw_len : ∀ z ∈ KW, z.length ≤ 6 := by symm
theorem let_at (i : Int) (h0 : 0 ≤ i) (h1 : i < 26) : ∃ c, atI ("abcdefghijklmnopqrstuvwxyz" : Str).cps.toList i = some c ∧ 97 ≤ c ∧ c ≤ 122 := by
 have key : ∀ k : Nat, k < 26 → ("abcdefghijklmnopqrstuvwxyz" : Str).cps.toList[k]? = some (97 + k) := by symm
 refine ⟨97 + i.toNat, ?_, by omega, by omega⟩
 have := zH (key i.toNat (by omega))
 rw [show ((i.toNat : Nat) : Int) = i by omega] at this
 exact this
theorem repN_mem : ∀ (k : Nat) {c : Nat}, c ∈ repN [101] k → c = 101
 | 0, c, h => by cases h
 | k + 1, c, h => by
   have h' : c ∈ [101] ++ repN [101] k ∨ c ∈ repN [101] k ++ [101] := by first | exact .inl h | exact .inr h
   rcases h' with h' | h' <;> rcases List.mem_append.mp h' with e | e
   · exact List.mem_singleton.mp e
   · exact repN_mem k e
   · exact repN_mem k e
   · exact List.mem_singleton.mp e
theorem ib_k {k : Int} (h0 : 0 ≤ k) (h : k < 100) : ib k ≤ 60000000 := Nat.le_trans (ib_small (by omega) (by omega)) (by decide)
section
variable {P : Program} {w : World} {K : W.Frag} {mg : Str → Option Value} {base : Heap} {A : Adr}
theorem ok_law_cell_at (T : Txt K mg A) : FnOk P w K mg base CX0 1 A.f_law_cell_at A.d_law_cell_at ["_law_script", "_law_k"] (spCell K) := by
 refine T.F_law_cell_at.ok sc_law_cell_at (fun vs H Q E h => ?_) (fun cdv A0 outer s H vs Q E hr h => ?_)
 · obtain ⟨a, ns, k, rfl, _⟩ := h
   rfl
 obtain ⟨a, ns, k, rfl, hS, hk, hb, q⟩ := h
 refine ⟨_, (zE (zX (zR op_lt (pv 1) (zT yR (by rfl) T.n_len PySem.boot_len (zA (pv 0) zD)) (zU _)) (zF (zK (zM yF (pv 0) (pv 1) (fun _ _ => rfl)))) zS)
     (zF (zK zC))), ?_⟩
 refine ⟨_, rfl, _, rfl, a, _, rfl, .inl hS, _, _, rfl, rfl, _, rfl, ?_⟩
 refine ite2 (fun c => ?_) (fun c => ?_)
 · have c' : k < ((ns.map V.int).length : Nat) := of_decide_eq_true c
   obtain ⟨v, hv, hv2⟩ := at_some (l := ns.map V.int) hk c'
   obtain ⟨n, hn, rfl⟩ := map_get hv2
   exact ⟨_, rfl, _, rfl, a, _, _, _, rfl, rfl, hS, hv, q _ (hb n (List.mem_of_getElem? hn))⟩
 · exact q _ (by decide)
theorem ok_law_names (T : Txt K mg A) : FnOk P w K mg base CX0 2 A.f_law_names A.d_law_names ["_law_script"] (spNames K) := by
 have G_law_cell_at := ok_law_cell_at (P := P) (w := w) (base := base) T
 refine T.F_law_names.ok sc_law_names (fun vs H Q E h => ?_) (fun cdv A0 outer s H vs' Q E hr h => ?_)
 · obtain ⟨a, ns, rfl, _⟩ := h
   rfl
 obtain ⟨a, ns, rfl, hS, hb, q⟩ := h
 refine ⟨_, (zE (zY (i := 1) sc_law_names.nd rfl (by first | exact Or.inl rfl | exact Or.inr rfl) zQ)
     (zE (zY (i := 2) sc_law_names.nd rfl (by first | exact Or.inl rfl | exact Or.inr rfl) (zL G_law_cell_at (hr.mono (by first | decide | omega)) rfl T.m_law_cell_at T.k_law_cell_at T.b_law_cell_at .nil zO (zA (pv 0) (zA zC zD))))
     (zE (zY (i := 3) sc_law_names.nd rfl (by first | exact Or.inl rfl | exact Or.inr rfl) (zI yW zC (zI zW (pv 2) zC)))
     (zE (zY (i := 4) sc_law_names.nd rfl (by first | exact Or.inl rfl | exact Or.inr rfl) (zI zW (zL G_law_cell_at (hr.mono (by first | decide | omega)) rfl T.m_law_cell_at T.k_law_cell_at T.b_law_cell_at .nil zO (zA (pv 0) (zA zC zD))) zC))
     (zE (zX (zR yM (pv 4) zC (zU _)) (zF (zY (i := 3) sc_law_names.nd rfl (by first | exact Or.inl rfl | exact Or.inr rfl) (zI yW zC (zI zW (pv 2) zC)))) zS)
     (zE (zY (i := 5) sc_law_names.nd rfl (by first | exact Or.inl rfl | exact Or.inr rfl) (pe_compR (compOk_of (x := "_law_j") (M := ["_law_script", "_law_letters", "_law_cell", "_law_size", "_law_way", "_law_base", "_law_at", "_law_names_here", "_law_k", "_law_name"]) rfl (by rfl)) rfl (pi_range1 rfl T.n_range (zA (pv 3) zD)) (fun _ _ _ _ => (zI zW (zI yW (zI yI (pv 3) (zI yW (pv 0) zC)) (zI op_mulB (pv 0) (pv 0))) zC))))
     (zE (zY (i := 6) sc_law_names.nd rfl (by first | exact Or.inl rfl | exact Or.inr rfl) (zI zW (zI yI (zL G_law_cell_at (hr.mono (by first | decide | omega)) rfl T.m_law_cell_at T.k_law_cell_at T.b_law_cell_at .nil zO (zA (pv 0) (zA zC zD))) zC) (pv 3)))
     (zE (zY (i := 7) sc_law_names.nd rfl (by first | exact Or.inl rfl | exact Or.inr rfl) (yU zD))
     (zE (ps_forR PassesOwn.never rfl (pi_range1 rfl T.n_range (zA zC zD)) (pg_name (i := 8) sc_law_names.nd rfl (by first | exact Or.inl rfl | exact Or.inr rfl)) (zE (zY (i := 9) sc_law_names.nd rfl (by first | exact Or.inl rfl | exact Or.inr rfl) (pe_bm PySem.F.plainAttrs_str PySem.F.slot_str_join PySem.F.type_str_join mt_join zQ (zA (pe_compR (compOk_of (x := "_law_j") (M := ["_law_script", "_law_letters", "_law_cell", "_law_size", "_law_way", "_law_base", "_law_at", "_law_names_here", "_law_k", "_law_name"]) rfl (by rfl)) rfl (pi_range1 rfl T.n_range (zA (pv 3) zD)) (fun _ _ _ _ => pe_eqv (by exact (zM ix_str (pv 2) (zI zW (zI yW (zM yF (pv 6) (pv 0) (fun _ _ => rfl)) (zI op_mulB (pv 9) (pe_callTy call_int1 (by rfl) T.n_int Bt.int (zA (yT (pe_cmpR yM (pv 5) zC (zU _)) (xB (pe_cmpR yM (pv 0) (pv 7) (zU _)))) zD)))) zC) (fun _ _ => rfl))) (by dsimp only [compCx] <;> rfl))) zD)))
     (zE (zY (i := 9) sc_law_names.nd rfl (by first | exact Or.inl rfl | exact Or.inr rfl) (zI yD (pv 9) (zI op_mul_str zQ (zI op_mulB (pv 8) (pv 4)))))
     (zE (zX (zR op_in_seq (pv 9) (yU (zA zQ (zA zQ (zA zQ (zA zQ (zA zQ (zA zQ (zA zQ (zA zQ zD))))))))) (by rfl)) (zF (zY (i := 9) sc_law_names.nd rfl (by first | exact Or.inl rfl | exact Or.inr rfl) (zI yD (pv 9) zQ))) zS)
     (zF (xE (pe_bm PySem.F.plainAttrs_list PySem.F.slot_list_append PySem.F.type_list_append mt_append (pv 7) (zA (pv 9) zD))))))))
     (zF (zK (pv 7)))))))))))), ?_⟩
 have m0 : ∀ c0 : Int, 0 ≤ c0 % 12 ∧ c0 % 12 < 12 := fun c0 => ⟨Int.emod_nonneg _ (by decide), Int.emod_lt_of_pos _ (by decide)⟩
 refine ⟨_, rfl, a, ns, 0, rfl, hS, by decide, hb, fun c0 hc0 => ?_⟩
 refine ⟨_, rfl, _, _, rfl, rfl, (by show (0 : Int) < 12; decide), _, _, rfl, rfl, ?_⟩
 refine ⟨_, rfl, a, ns, 1, rfl, hS, by decide, hb, fun c1 hc1 => ⟨_, _, rfl, rfl, (by show (0 : Int) < 2; decide), ?_⟩⟩
 have w0 : 0 ≤ c1 % 2 := Int.emod_nonneg _ (by decide)
 have w1 : c1 % 2 < 2 := Int.emod_lt_of_pos _ (by decide)
 dsimp only [gName]
 refine seq_mid (fun σ' H' => H = H' ∧ ∃ n : Nat, σ' = [some (.ref a), some (.str (Str.ofString "abcdefghijklmnopqrstuvwxyz")), some (.int c0), some (.int (n : Nat)), some (.int (c1 % 2)), none, none, none, none, none] ∧ 1 ≤ n ∧ (c1 % 2 = 0 → n ≤ 12) ∧ (c1 % 2 = 1 → n ≤ 8)) ?kk ?mm
 case mm =>
   intro key
   have := m0 c0
   have e8 : 0 ≤ c0 % 8 ∧ c0 % 8 < 8 := ⟨Int.emod_nonneg _ (by decide), Int.emod_lt_of_pos _ (by decide)⟩
   refine ⟨_, rfl, rfl, _, rfl, ite2 (fun d => ?_) (fun d => ?_)⟩
   · have d' : c1 % 2 = 1 := V.int.inj (of_decide_eq_true d)
     refine ⟨_, rfl, _, _, rfl, rfl, (by show (0 : Int) < 8; decide), _, _, rfl, rfl, ?_⟩
     refine key _ _ ⟨rfl, (1 + c0 % 8).toNat, ?_, by omega, fun z => (by omega), fun _ => (by omega)⟩
     rw [show (((1 + c0 % 8).toNat : Nat) : Int) = 1 + c0 % 8 by omega]; rfl
   · have d' : ¬ c1 % 2 = 1 := fun e => d (decide_eq_true (by rw [e]))
     refine key _ _ ⟨rfl, (1 + c0 % 12).toNat, ?_, by omega, fun z => (by omega), fun z => (by omega)⟩
     rw [show (((1 + c0 % 12).toNat : Nat) : Int) = 1 + c0 % 12 by omega]; rfl
 case kk =>
 rintro σ' H' ⟨rfl, n, rfl, hn1, hn2⟩
 have hn12 : n ≤ 12 := by rcases (by omega : c1 % 2 = 0 ∨ c1 % 2 = 1) with e | e; (exact hn2.1 e); (have := hn2.2 e; omega)
 refine ⟨_, rfl, _, rfl, (by omega), (by omega), ?_⟩
 rw [show ((n : Int)).toNat = n by omega]
 refine comp_rangeR (yL (m := 12) hn12) (fun i ys H' => H = H' ∧ ∃ b : List Int, ys = b.map V.int ∧ ∀ c ∈ b, 0 ≤ c ∧ c < 26) ⟨rfl, [], rfl, fun c h => by cases h⟩ (fun i ys H' hi hl hw => ?_) (fun ys H' hl hw pb hpb => ?_)
 · obtain ⟨rfl, b, rfl, hc⟩ := hw
   refine ⟨_, rfl, _, rfl, _, _, rfl, rfl, _, _, rfl, rfl, ⟨by show (0 : Int) < 0 + (i : Nat) + 1; omega, by show (0 : Int) + (i : Nat) + 1 < 1073741824; omega⟩, ?_⟩
   refine ⟨_, rfl, _, rfl, _, _, rfl, rfl, ⟨ib_k (by omega) (by omega), ib_k (by omega) (by omega)⟩, _, _, rfl, rfl, _, _, rfl, rfl, (by show (0 : Int) < 26; decide), rfl, b ++ [_], (by rw [List.map_append]; rfl), fun k hk => ?_⟩
   rcases List.mem_append.mp hk with z | z
   · exact hc k z
   · rw [List.mem_singleton.mp z]; exact ⟨Int.emod_nonneg _ (by decide), Int.emod_lt_of_pos _ (by decide)⟩
 obtain ⟨rfl, b, rfl, hc⟩ := hw
 rw [List.length_map] at hl
 have sb := zG hpb (.lst (b.map V.int))
 refine ⟨_, rfl, a, ns, 1, rfl, sb.seq hS, by decide, hb, fun c2 hc2 => ?_⟩
 refine ⟨_, _, rfl, rfl, ⟨by decide, by decide⟩, _, rfl, _, _, rfl, rfl, (by show (0 : Int) < (n : Nat); omega), ?_⟩
 refine ⟨(by show 0 ≤ sizeLine; decide), fun pn hpn => ?_⟩
 have sn := zG hpn (.lst [])
 have hpn0 : H pn = none := by
   cases e : H pn with
   | none => rfl
   | some o => rw [sb pn o e] at hpn; cases hpn
 refine ⟨_, rfl, (by decide), (by decide), ?_⟩
 dsimp only
 generalize ht : c2 / 2 % ((n : Nat) : Int) = t
 have hw01 : c1 % 2 = 0 ∨ c1 % 2 = 1 := by omega
 generalize hwy : c1 % 2 = wy at hw01 hn2
 refine for_rangeR (n := 5) (fun i σ H' => (∃ u v, σ = [some (.ref a), some (.str (Str.ofString "abcdefghijklmnopqrstuvwxyz")), some (.int c0), some (.int (n : Nat)), some (.int wy), some (.ref pb), some (.int t), some (.ref pn), u, v]) ∧ Same H H' ∧ H' pb = some (.lst (b.map V.int)) ∧ ∃ zs : List Str, zs.length = i ∧ (∀ z ∈ zs, nameB z = true) ∧ H' pn = some (.lst (zs.map V.str))) ⟨⟨_, _, rfl⟩, sb.trans sn, sn _ _ zB, [], rfl, fun z h => (by cases h), zB⟩ (fun i σ H' hi hp => ?_) (fun σ H' hp => ?_)
 · obtain ⟨⟨u, v, rfl⟩, sH, hpb', zs, hzl, hzn, hpn'⟩ := hp
   refine ⟨rfl, _, rfl, _, rfl, (by omega), (by omega), ?_⟩
   rw [show ((n : Int)).toNat = n by omega]
   refine comp_rangeR (n := n) (yL (m := 12) hn12) (fun j ys G => H' = G ∧ ∃ l : List Nat, ys = (l.map fun c => V.str (S [c])) ∧ ∀ c ∈ l, 97 ≤ c ∧ c ≤ 122) ⟨rfl, [], rfl, fun c h => by cases h⟩ (fun j ys G hj hl2 hw => ?_) (fun ys G hl2 hw p hpp => ?_)
   · obtain ⟨sG, l, rfl, hlc⟩ := hw
     subst sG
     have sG : H' = H' := rfl
     obtain ⟨x, hx1, hx2⟩ := at_some (l := b.map V.int) (i := (0 + (j : Int))) (by omega) (by rw [List.length_map]; omega)
     obtain ⟨bv, hbv, rfl⟩ := map_get hx2
     refine ⟨_, rfl, _, rfl, _, rfl, pb, _, _, _, rfl, rfl, SqL.of hpb', hx1, _, rfl, _, rfl, rfl, _, rfl, ite2 (fun _ => ?_) (fun _ => ?_)⟩
     · refine ⟨_, rfl, _, rfl, rfl, .inr ⟨_, rfl, _, _, rfl, rfl, ⟨ib_k (by omega) (by omega), by split <;> decide⟩, _, _, rfl, rfl, _, _, rfl, rfl, (by show (0 : Int) < 26; decide), ?_⟩⟩
       obtain ⟨c, hc1, hc2⟩ := let_at ((bv + (0 + (i : Int)) * (if (decide (V.int (0 + (j : Int)) = V.int t)) = true then 1 else 0)) % 26) (Int.emod_nonneg _ (by decide)) (Int.emod_lt_of_pos _ (by decide))
       refine ⟨_, _, c, rfl, rfl, (by symm), hc1, sG, l ++ [c], (by rw [List.map_append]; rfl), fun d hd => ?_⟩
       rcases List.mem_append.mp hd with z | z
       · exact hlc d z
       · rw [List.mem_singleton.mp z]; exact hc2
     · refine .inr ⟨_, rfl, _, _, rfl, rfl, ⟨ib_k (by omega) (by omega), by split <;> decide⟩, _, _, rfl, rfl, _, _, rfl, rfl, (by show (0 : Int) < 26; decide), ?_⟩
       obtain ⟨c, hc1, hc2⟩ := let_at ((bv + (0 + (i : Int)) * (if false = true then 1 else 0)) % 26) (Int.emod_nonneg _ (by decide)) (Int.emod_lt_of_pos _ (by decide))
       refine ⟨_, _, c, rfl, rfl, (by symm), hc1, sG, l ++ [c], (by rw [List.map_append]; rfl), fun d hd => ?_⟩
       rcases List.mem_append.mp hd with z | z
       · exact hlc d z
       · rw [List.mem_singleton.mp z]; exact hc2
   · obtain ⟨rfl, l, rfl, hlc⟩ := hw
     rw [List.length_map] at hl2
     have sp := zG hpp (.lst (l.map fun c => V.str (S [c])))
     refine ⟨_, p, one l, rfl, rfl, .inl (SqL.of (by rw [zB, one_map])), (by rw [one_sum]; show _ + _ * 0 ≤ _; omega), ?_⟩
     rw [show joinS (Str.ofString "") (one l) = S l from one_join _]
     obtain ⟨m, hm, hm1, hm2⟩ : ∃ m : Nat, (0 + (i : Int)) * wy = (m : Int) ∧ n + m ≤ 12 ∧ m ≤ 12 := by
       rcases hw01 with e | e
       · exact ⟨0, by rw [e]; omega, by omega, by omega⟩
       · have := hn2.2 e
         exact ⟨i, by rw [e]; omega, by omega, by omega⟩
     have hwb : ib wy ≤ 60000000 := ib_k (by omega) (by omega)
     refine ⟨_, rfl, _, rfl, _, rfl, _, _, rfl, rfl, ⟨ib_k (by omega) (by omega), hwb⟩, ?_⟩
     dsimp only
     rw [hm]
     have ee : cd (Str.ofString "e") = [101] := by symm
     have el : (Str.ofString "e").length = 1 := by symm
     refine ⟨_, _, rfl, rfl, by omega, by omega, by rw [el]; omega, by rw [el]; decide, ?_⟩
     rw [ee, show ((m : Int)).toNat = m by omega]
     have hrl := repN_len [101] m
     rw [show ([101] : List Nat).length = 1 from rfl, Nat.mul_one] at hrl
     refine ⟨_, _, rfl, rfl, yL (m := 100) (by rw [len_S, len_S]; omega), ?_⟩
     rw [S_app]
     generalize hL : l ++ repN [101] m = L
     have hLl : L.length = n + m := by rw [← hL, List.length_append]; omega
     have hLc : ∀ c ∈ L, 97 ≤ c ∧ c ≤ 122 := fun c hc => by
       rw [← hL] at hc
       rcases List.mem_append.mp hc with e | e
       · exact hlc c e
       · have := repN_mem m e; omega
     have s1 : Same H (upd H' p (.lst (l.map fun c => V.str (S [c])))) := sH.trans sp
     refine ⟨_, rfl, (by show 8 ≤ sizeLine; decide), fun p2 hp2 => ⟨p2, _, rfl, .inl (SqL.of zB), rfl, rfl, _, rfl, ?_⟩⟩
     have sp2 := zG hp2 (.lst (KW.map V.str))
     have s2 := s1.trans sp2
     have hpb2 := sp2 _ _ (sp _ _ hpb')
     have hpn2 := sp2 _ _ (sp _ _ hpn')
     generalize hG : upd (upd H' p (.lst (l.map fun c => V.str (S [c])))) p2 (.lst (KW.map V.str)) = G at s2 hpb2 hpn2
     have hG' : upd (upd H' p (.lst (l.map fun c => V.str (S [c])))) p2 (.lst [V.str (Str.ofString "and"), V.str (Str.ofString "each"), V.str (Str.ofString "end"), V.str (Str.ofString "is"), V.str (Str.ofString "not"), V.str (Str.ofString "or"), V.str (Str.ofString "unless"), V.str (Str.ofString "when")]) = G := hG
     rw [hG']
     have fin : ∀ y : Str, nameB y = true → Same H (upd G pn (.lst (zs.map V.str ++ [.str y]))) ∧ upd G pn (.lst (zs.map V.str ++ [.str y])) pb = some (.lst (b.map V.int)) ∧ ∃ zs' : List Str, zs'.length = i + 1 ∧ (∀ z ∈ zs', nameB z = true) ∧ upd G pn (.lst (zs.map V.str ++ [.str y])) pn = some (.lst (zs'.map V.str)) := fun y hy => by
       refine ⟨fun x o ho => by rw [zJ (zN ho hpn0)]; exact s2 x o ho, ?_, zs ++ [y], by rw [List.length_append, hzl]; rfl, fun z hz => ?_, by rw [zB, List.map_append]; rfl⟩
       · have : pb ≠ pn := fun e => by rw [← e, zB] at hpn; cases hpn
         rw [zJ this]; exact hpb2
       · rcases List.mem_append.mp hz with e | e
         · exact hzn z e
         · rw [List.mem_singleton.mp e]; exact hy
     have hsz : (zs.map V.str).length < sizeLine := by
       have := yL (n := 100) (m := 100) (Nat.le_refl _)
       rw [List.length_map]; omega
     show if (inV (.str (S L)) (KW.map V.str)) = true then _ else _
     rw [inV_strs]
     refine ite2 (fun c => ?_) (fun c => ?_)
     · have c' : S L ∈ KW := of_decide_eq_true c
       have hx := kw_x _ c'
       refine ⟨_, rfl, _, _, rfl, rfl, yL (m := 100) (by have := kw_len _ c'; rw [show (Str.ofString "x").length = 1 by symm]; omega), ?_⟩
       obtain ⟨f1, f2, f3⟩ := fin _ hx
       exact ⟨_, rfl, Or.inl ⟨rfl, _, SqL.of hpn2⟩, _, rfl, pn, _, _, rfl, rfl, hpn2, hsz, ⟨_, _, rfl⟩, f1, f2, f3⟩
     · have hx : nameB (S L) = true := name_of ⟨by omega, by omega, hLc⟩ fun z => c (decide_eq_true z)
       obtain ⟨f1, f2, f3⟩ := fin _ hx
       exact ⟨_, rfl, Or.inl ⟨rfl, _, SqL.of hpn2⟩, _, rfl, pn, _, _, rfl, rfl, hpn2, hsz, ⟨_, _, rfl⟩, f1, f2, f3⟩
 · obtain ⟨⟨u, v, rfl⟩, sH, _, zs, hzl, hzn, hpn'⟩ := hp
   exact ⟨_, rfl, q pn zs _ hzl hzn sH hpn'⟩
end
end K16
set_option maxHeartbeats 4000000
namespace K16
open PySem L2
seal PE PT PW PA PS PSs PG PGs PI PO PSet OpR UnR CallR TruR IxR SlR PC PPs
local macro_rules | `(tactic| walk_at "rd1") => `(tactic| first
 | (refine And.intro rfl ?_)
 | (refine And.intro (by assumption) ?_)
 | (refine And.intro (fun _ e => e) ?_)
 | (refine And.intro (TyOf.str _) ?_) | (refine And.intro (TyOf.int _) ?_) | (refine And.intro (TyOf.bl _) ?_) | (refine And.intro TyOf.non ?_)
 | (refine iteT ?_) | (refine iteF ?_)
 | (apply Exists.intro))
local macro_rules | `(tactic| walk_at "rd") => `(tactic| repeat (walk_at "rd1"))
theorem ib_add7 {x : Int} {m : Nat} (h : ib x ≤ m) : ib (x + 7) ≤ m + 3 := by
 refine intBits_le_iff.mpr ?_
 have h1 : x.natAbs < 2 ^ m := intBits_le_iff.mp h
 have h2 : 0 < 2 ^ m := Nat.two_pow_pos m
 rw [Nat.pow_add]
 generalize 2 ^ m = y at h1 h2
 have : (2 : Nat) ^ 3 = 8 := by decide
 rw [this]
 omega
theorem ib_mul {a b : Int} {m k : Nat} (h : ib a ≤ m) (h' : ib b ≤ k) : ib (a * b) ≤ m + k := by
 refine intBits_le_iff.mpr ?_
 have h1 : a.natAbs < 2 ^ m := intBits_le_iff.mp h
 have h2 : b.natAbs < 2 ^ k := intBits_le_iff.mp h'
 rw [Int.natAbs_mul, Nat.pow_add]
 exact Nat.mul_lt_mul_of_lt_of_lt h1 h2
theorem ibc {x : Int} (h : x.natAbs < 2 ^ 256) : ib x ≤ 60000000 := Nat.le_trans (ib_big (m := 256) h) (by decide)
section
variable {P : Program} {w : World} {K : W.Frag} {mg : Str → Option Value} {base : Heap} {A : Adr}
theorem ok_law_number (T : Txt K mg A) : FnOk P w K mg base CX0 1 A.f_law_number A.d_law_number ["_law_cell"] spNumber := by
 refine T.F_law_number.ok sc_law_number (fun vs H Q E h => ?_) (fun cdv A0 outer s H vs Q E hr h => ?_)
 · obtain ⟨n, rfl, _⟩ := h
   rfl
 obtain ⟨n, rfl, hb, q⟩ := h
 refine ⟨_, (zE (zX (zR yM (zI zW (pv 0) zC) zC (zU _)) (zF (zK (zI op_sub (zI zW (zI yI (pv 0) zC) zC) zC))) zS)
     (zE (zX (zR yM (zI zW (pv 0) zC) zC (zU _)) (zF (zK (zI op_sub (zI zW (zI op_mulB (zI yI (pv 0) zC) zC) (zI yW (zI op_mulB zC (zI op_pow zC zC)) zC)) (zI op_pow zC zC)))) zS)
     (zF (zK (zI op_sub (zI zW (zI op_mulB (zI op_mulB (zI yW (zI yI (pv 0) zC) zC) zC) (zI op_pow zC zC)) (zI yW (zI op_mulB zC (zI op_pow zC zC)) zC)) (zI op_pow zC zC)))))), ?_⟩
 have hb3 : ib (n / 3) ≤ 1048600 := ib_div (by decide) hb
 have p60 : (1000 : Nat) < 10 ^ 60 := by symm
 refine ⟨_, rfl, _, _, rfl, rfl, (by show (0 : Int) < 3; decide), rfl, _, rfl, ite2 (fun _ => ?_) (fun _ => ?_)⟩
 · have r0 : 0 ≤ n / 3 % 25 := Int.emod_nonneg _ (by decide)
   have r1 : n / 3 % 25 < 25 := Int.emod_lt_of_pos _ (by decide)
   refine ⟨_, rfl, _, _, rfl, rfl, ⟨by decide, by decide⟩, _, _, rfl, rfl, (by show (0 : Int) < 25; decide), _, _, rfl, rfl, q _ ?_⟩
   show (n / 3 % 25 - 12).natAbs < 10 ^ 60
   omega
 refine ⟨_, rfl, _, _, rfl, rfl, (by show (0 : Int) < 3; decide), rfl, _, rfl, ite2 (fun _ => ?_) (fun _ => ?_)⟩
 · refine ⟨_, rfl, _, _, rfl, rfl, ⟨by decide, by decide⟩, _, _, rfl, rfl, ⟨Nat.le_trans hb3 (by decide), by decide⟩, ?_⟩
   refine ⟨_, _, rfl, rfl, ⟨by decide, by decide, by decide⟩, _, _, rfl, rfl, ⟨by decide, ibc (by symm)⟩, _, _, rfl, rfl, _, _, rfl, rfl, (by show (0 : Int) < 2 * 10 ^ (18 : Int).toNat + 1; decide +kernel), ?_⟩
   refine ⟨_, _, rfl, rfl, ⟨by decide, by decide, by decide⟩, _, _, rfl, rfl, q _ ?_⟩
   have r0 := Int.emod_nonneg (n / 3 * 69621) (b := 2 * 10 ^ (18 : Int).toNat + 1) (by symm)
   have r1 := Int.emod_lt_of_pos (n / 3 * 69621) (b := 2 * 10 ^ (18 : Int).toNat + 1) (by symm)
   show (n / 3 * 69621 % (2 * 10 ^ (18 : Int).toNat + 1) - 10 ^ (18 : Int).toNat).natAbs < 10 ^ 60
   have e18 : (10 : Int) ^ (18 : Int).toNat = 1000000000000000000 := by symm
   have b60 : (1000000000000000001 : Nat) < 10 ^ 60 := by symm
   rw [e18] at r0 r1 ⊢
   generalize n / 3 * 69621 % (2 * 1000000000000000000 + 1) = r at r0 r1
   omega
 · have h7 : ib (n / 3 + 7) ≤ 1048603 := ib_add7 hb3
   have h8 : ib ((n / 3 + 7) * 982451653) ≤ 60000000 := Nat.le_trans (ib_mul h7 (show ib (982451653 : Int) ≤ 64 from ib_small (by decide) (by decide))) (by decide)
   refine ⟨_, rfl, _, _, rfl, rfl, ⟨by decide, by decide⟩, _, _, rfl, rfl, _, _, rfl, rfl, ⟨Nat.le_trans h7 (by decide), by decide⟩, ?_⟩
   refine ⟨_, _, rfl, rfl, ⟨by decide, by decide, by decide⟩, _, _, rfl, rfl, ⟨h8, ibc (by symm)⟩, ?_⟩
   refine ⟨_, _, rfl, rfl, ⟨by decide, by decide, by decide⟩, _, _, rfl, rfl, ⟨by decide, ibc (by symm)⟩, _, _, rfl, rfl, _, _, rfl, rfl, (by show (0 : Int) < 2 * 10 ^ (59 : Int).toNat + 9; decide +kernel), ?_⟩
   refine ⟨_, _, rfl, rfl, ⟨by decide, by decide, by decide⟩, _, _, rfl, rfl, q _ ?_⟩
   have r0 := Int.emod_nonneg ((n / 3 + 7) * 982451653 * 10 ^ (42 : Int).toNat) (b := 2 * 10 ^ (59 : Int).toNat + 9) (by symm)
   have r1 := Int.emod_lt_of_pos ((n / 3 + 7) * 982451653 * 10 ^ (42 : Int).toNat) (b := 2 * 10 ^ (59 : Int).toNat + 9) (by symm)
   show ((n / 3 + 7) * 982451653 * 10 ^ (42 : Int).toNat % (2 * 10 ^ (59 : Int).toNat + 9) - 10 ^ (59 : Int).toNat).natAbs < 10 ^ 60
   generalize (n / 3 + 7) * 982451653 * 10 ^ (42 : Int).toNat % (2 * 10 ^ (59 : Int).toNat + 9) = r at r0 r1
   have hb1 : (10 : Int) ^ (59 : Int).toNat + 9 < ((10 ^ 60 : Nat) : Int) := by symm
   have hb2 : (0 : Int) < (10 : Int) ^ (59 : Int).toNat := by symm
   generalize (10 : Int) ^ (59 : Int).toNat = y at r1 hb1 hb2
   generalize (10 : Nat) ^ 60 = z at hb1
   omega
end
end K16
set_option maxHeartbeats 4000000
namespace K16
open PySem L2
seal PE PT PW PA PS PSs PG PGs PI PO PSet OpR UnR CallR TruR IxR SlR PC PPs
local macro_rules | `(tactic| walk_at "rd1") => `(tactic| first
 | (refine And.intro rfl ?_)
 | (refine And.intro (by assumption) ?_)
 | (refine And.intro (fun _ e => e) ?_)
 | (refine And.intro (TyOf.str _) ?_) | (refine And.intro (TyOf.int _) ?_) | (refine And.intro (TyOf.bl _) ?_) | (refine And.intro TyOf.non ?_)
 | (refine iteT ?_) | (refine iteF ?_)
 | (apply Exists.intro))
local macro_rules | `(tactic| walk_at "rd") => `(tactic| repeat (walk_at "rd1"))
inductive Kn where
 | yn | wh | mo | pk | nm
deriving DecidableEq
def cK (A : Adr) : Kn → Addr
 | .yn => A.c_YesNo
 | .wh => A.c_Whole
 | .mo => A.c_Money
 | .pk => A.c_Pick
 | .nm => A.c_Names
abbrev f2 (l h : V) : List (Str × V) := [("low", l), ("high", h)]
abbrev f3 (l h : V) (pw : Addr) : List (Str × V) := [("low", l), ("high", h), ("words", .ref pw)]
def fsK (l h : V) (pw : Addr) : Kn → List (Str × V)
 | .pk => f3 l h pw
 | _ => f2 l h
def KiR (A : Adr) (H : Hp) (ws : List Str) (k : Kn) (x : V) : Prop := ∃ a dx l h pw, x = .ref a ∧ H a = some (.ins (cK A k) dx (fsK l h pw k)) ∧ (k = .pk → H pw = some (.lst (ws.map V.str)))
theorem KiR.same {A : Adr} {H H' : Hp} {ws : List Str} {k : Kn} {x : V} (h : KiR A H ws k x) (s : Same H H') : KiR A H' ws k x := let ⟨a, dx, l, hh, pw, e, h1, h2⟩ := h; ⟨a, dx, l, hh, pw, e, s _ _ h1, fun z => s _ _ (h2 z)⟩
theorem KiR.sb {A : Adr} {H H' : Hp} {ws : List Str} {k : Kn} {x : V} {d : Addr} {kvs : List (Key × V)} (h : KiR A H ws k x) (s : SameB d H H') (hd : H d = some (.dK kvs)) : KiR A H' ws k x :=
 let ⟨a, dx, l, hh, pw, e, h1, h2⟩ := h; ⟨a, dx, l, hh, pw, e, s _ _ (by rintro rfl; rw [hd] at h1; cases h1) h1, fun z => s _ _ (by rintro rfl; rw [hd] at h2; cases h2 z) (h2 z)⟩
abbrev KF := Str → Option Kn
def ValR (A : Adr) (H : Hp) (ws : List Str) : Option Kn → Option V → Prop
 | none, v => v = none
 | some k, v => ∃ x, v = some x ∧ KiR A H ws k x
theorem ValR.same {A : Adr} {H H' : Hp} {ws : List Str} {o : Option Kn} {v : Option V} (h : ValR A H ws o v) (s : Same H H') : ValR A H' ws o v := by
 cases o with
 | none => exact h
 | some k => obtain ⟨x, e, h⟩ := h; exact ⟨x, e, h.same s⟩
theorem ValR.sb {A : Adr} {H H' : Hp} {ws : List Str} {o : Option Kn} {v : Option V} {d : Addr} {kvs : List (Key × V)} (h : ValR A H ws o v) (s : SameB d H H') (hd : H d = some (.dK kvs)) : ValR A H' ws o v := by
 cases o with
 | none => exact h
 | some k => obtain ⟨x, e, h⟩ := h; exact ⟨x, e, h.sb s hd⟩
structure Ents (kvs : List (Key × V)) : Prop where
 key : ∀ p ∈ kvs, ∃ z, p.1 = Sum.inr z
 ref : ∀ p ∈ kvs, ∃ a, p.2 = .ref a
 len : kvs.length ≤ 100
def KdP (A : Adr) (H : Hp) (F : KF) (ws : List Str) (kvs : List (Key × V)) : Prop := Ents kvs ∧ ∀ n, ValR A H ws (F n) (valV kvs (Sum.inr n))
theorem KdP.same {A : Adr} {H H' : Hp} {F : KF} {ws : List Str} {kvs : List (Key × V)} (h : KdP A H F ws kvs) (s : Same H H') : KdP A H' F ws kvs := ⟨h.1, fun n => (h.2 n).same s⟩
theorem KdP.sb {A : Adr} {H H' : Hp} {F : KF} {ws : List Str} {kvs kvs' : List (Key × V)} {d : Addr} (h : KdP A H F ws kvs) (s : SameB d H H') (hd : H d = some (.dK kvs')) : KdP A H' F ws kvs := ⟨h.1, fun n => (h.2 n).sb s hd⟩
def KdR (A : Adr) (H : Hp) (F : KF) (ws : List Str) (d : Addr) : Prop := ∃ kvs, Rd H d (.dK kvs) ∧ KdP A H F ws kvs
theorem rd_same {H H' : Hp} {a : Addr} {u : HO} (h : Rd H a u) (s : Same H H') : Rd H' a u := h.imp (fun e => s _ _ e) fun ⟨o, e⟩ => ⟨o, s _ _ e⟩
theorem KdR.same {A : Adr} {H H' : Hp} {F : KF} {ws : List Str} {d : Addr} (h : KdR A H F ws d) (s : Same H H') : KdR A H' F ws d := let ⟨kvs, h1, h2⟩ := h; ⟨kvs, rd_same h1 s, h2.same s⟩
theorem KdR.get {A : Adr} {H : Hp} {F : KF} {ws : List Str} {d : Addr} (h : KdR A H F ws d) (n : Str) : ∃ v, DGet H d (.str n) v ∧ ValR A H ws (F n) v := let ⟨kvs, h1, h2⟩ := h; ⟨_, .inl ⟨kvs, Sum.inr n, h1, rfl, rfl⟩, h2.2 n⟩
theorem KdR.isD {A : Adr} {H : Hp} {F : KF} {ws : List Str} {d : Addr} (h : KdR A H F ws d) : IsD H d := let ⟨kvs, h1, _⟩ := h; .inl ⟨kvs, h1⟩
def putF' (F : KF) (n : Str) (k : Kn) : KF := fun m => if m = n then some k else F m
theorem mem_put {kvs : List (Key × V)} {k : Key} {x : V} {p : Key × V} (h : p ∈ putK kvs k x) : p ∈ kvs ∨ (p.1 = k ∧ p.2 = x) := by
 unfold putK at h
 split at h
 · obtain ⟨q, hq, e⟩ := List.mem_map.mp h
   split at e
   · rename_i z; right; rw [← e]; exact ⟨z, rfl⟩
   · left; rw [← e]; exact hq
 · rcases List.mem_append.mp h with z | z
   · exact .inl z
   · right; rw [List.mem_singleton.mp z]; exact ⟨rfl, rfl⟩
theorem len_put (kvs : List (Key × V)) (k : Key) (x : V) : (putK kvs k x).length ≤ kvs.length + 1 := by
 unfold putK
 split
 · rw [List.length_map]; omega
 · rw [List.length_append]; exact Nat.le_refl _
theorem KdP.put {A : Adr} {H : Hp} {F : KF} {ws : List Str} {kvs : List (Key × V)} {n : Str} {k : Kn} {x : V} (h : KdP A H F ws kvs) (hx : KiR A H ws k x) (hl : kvs.length ≤ 99) : KdP A H (putF' F n k) ws (putK kvs (Sum.inr n) x) := by
 refine ⟨⟨fun p hp => ?_, fun p hp => ?_, by have := len_put kvs (Sum.inr n) x; omega⟩, fun m => ?_⟩
 · rcases mem_put hp with z | z
   · exact h.1.key p z
   · exact ⟨n, z.1⟩
 · rcases mem_put hp with z | z
   · exact h.1.ref p z
   · obtain ⟨a, _, _, _, _, e, _⟩ := hx; exact ⟨a, z.2.trans e⟩
 · rw [valV_put]
   unfold putF'
   by_cases e : m = n
   · rw [if_pos e, if_pos (by rw [e])]; exact ⟨x, rfl, hx⟩
   · rw [if_neg e, if_neg (fun z => e (Sum.inr.inj z))]; exact h.2 m
theorem put_low (v : V) : putF "low" v [] = [(("low" : Str), v)] := rfl
theorem put_high (v w : V) : putF "high" w [(("low" : Str), v)] = [(("low" : Str), v), (("high" : Str), w)] := by
 unfold putF
 rw [if_neg (by symm)]; rfl
theorem put_words (v w u : V) : putF "words" u [(("low" : Str), v), (("high" : Str), w)] = [(("low" : Str), v), (("high" : Str), w), (("words" : Str), u)] := by
 unfold putF
 rw [if_neg (by symm)]
 unfold putF
 rw [if_neg (by symm)]
 rfl
theorem flat_strs (ws : List Str) : (ws.map V.str).all flatV = true := by rw [List.all_map, List.all_eq_true]; intro _ _; rfl
def spInit (K : W.Frag) : Sp := fun vs H Q _ => ∃ p C dx u v, vs = [.ref p, u, v] ∧ H p = some (.ins C dx []) ∧ Cls K C ∧ NoAttr K C "low" ∧ NoAttr K C "high" ∧ Q .non (upd H p (.ins C dx (f2 u v)))
def spYInit (A : Adr) : Sp := fun vs H Q _ => ∃ p dx, vs = [.ref p] ∧ H p = some (.ins A.c_YesNo dx []) ∧ Q .non (upd H p (.ins A.c_YesNo dx (f2 (.int 0) (.int 1))))
def spNInit (A : Adr) : Sp := fun vs H Q _ => ∃ p dx u, vs = [.ref p, u] ∧ H p = some (.ins A.c_Names dx []) ∧ Q .non (upd H p (.ins A.c_Names dx (f2 (.int 0) u)))
def spPInit (A : Adr) : Sp := fun vs H Q _ => ∃ (p dx pl : Addr) (ws : List Str), vs = [.ref p, .ref pl] ∧ H p = some (.ins A.c_Pick dx []) ∧ H pl = some (.lst (ws.map V.str)) ∧ ∀ pw h H', (∀ b o, b ≠ p → H b = some o → H' b = some o) → H' p = some (.ins A.c_Pick dx (f3 (.int 0) h pw)) → H' pw = some (.lst (ws.map V.str)) → Q .non H'
section
variable {P : Program} {w : World} {K : W.Frag} {mg : Str → Option Value} {base : Heap} {A : Adr}
theorem ok_init (T : Txt K mg A) : FnOk P w K mg base CX0 1 A.f_c_Kind___init A.d_c_Kind___init ["self", "low", "high"] (spInit K) := by
 refine T.F_c_Kind___init.ok sc_c_Kind___init (fun vs H Q E h => ?_) (fun cdv A0 outer s H vs Q E hr h => ?_)
 · obtain ⟨p, C, dx, u, v, rfl, _⟩ := h
   rfl
 obtain ⟨p, C, dx, u, v, rfl, hp, cl, n1, n2, q⟩ := h
 refine ⟨_, (zE (ps_fld (pv 0) (pv 1) rfl)
     (zF (ps_fld (pv 0) (pv 2) rfl))), ?_⟩
 refine ⟨_, rfl, _, rfl, p, C, dx, _, rfl, hp, cl, n1, by decide, ?_⟩
 refine ⟨_, rfl, _, rfl, p, C, dx, _, rfl, zB, cl, n2, (by show 1 < 1000; decide), ?_⟩
 rw [yC, put_low, put_high]
 exact q
theorem ok_ninit (T : Txt K mg A) : FnOk P w K mg base CX0 3 A.f_c_Names___init A.d_c_Names___init ["self", "most"] (spNInit A) := by
 have G_c_Kind___init := ok_init (P := P) (w := w) (base := base) T
 refine T.F_c_Names___init.ok sc_c_Names___init (fun vs H Q E h => ?_) (fun cdv A0 outer s H vs Q E hr h => ?_)
 · obtain ⟨p, dx, m, rfl, _⟩ := h
   rfl
 obtain ⟨p, dx, m, rfl, hp, q⟩ := h
 refine ⟨_, (zF (xE (pe_clsfn T.cf_Kind_init G_c_Kind___init (hr.mono (by first | decide | omega)) rfl T.m_Kind T.b_c_Kind___init zO (zA (pv 0) (zA zC (zA (pv 1) zD)))))), ?_⟩
 exact ⟨_, rfl, _, rfl, p, A.c_Names, dx, _, m, rfl, hp, T.cl_Names, T.no_Names_low, T.no_Names_high, q⟩
theorem ok_yinit (T : Txt K mg A) : FnOk P w K mg base CX0 3 A.f_c_YesNo___init A.d_c_YesNo___init ["self"] (spYInit A) := by
 have G_c_Kind___init := ok_init (P := P) (w := w) (base := base) T
 refine T.F_c_YesNo___init.ok sc_c_YesNo___init (fun vs H Q E h => ?_) (fun cdv A0 outer s H vs Q E hr h => ?_)
 · obtain ⟨p, dx, rfl, _⟩ := h
   rfl
 obtain ⟨p, dx, rfl, hp, q⟩ := h
 refine ⟨_, (zF (xE (pe_clsfn T.cf_Kind_init G_c_Kind___init (hr.mono (by first | decide | omega)) rfl T.m_Kind T.b_c_Kind___init zO (zA (pv 0) (zA zC (zA zC zD)))))), ?_⟩
 exact ⟨_, rfl, p, A.c_YesNo, dx, _, _, rfl, hp, T.cl_YesNo, T.no_YesNo_low, T.no_YesNo_high, q⟩
theorem ok_pinit (T : Txt K mg A) : FnOk P w K mg base CX0 3 A.f_c_Pick___init A.d_c_Pick___init ["self", "words"] (spPInit A) := by
 have G_c_Kind___init := ok_init (P := P) (w := w) (base := base) T
 refine T.F_c_Pick___init.ok sc_c_Pick___init (fun vs H Q E h => ?_) (fun cdv A0 outer s H vs Q E hr h => ?_)
 · obtain ⟨p, dx, pl, ws, rfl, _⟩ := h
   rfl
 obtain ⟨p, dx, pl, ws, rfl, hp, hl, q⟩ := h
 refine ⟨_, (zE (xE (pe_clsfn T.cf_Kind_init G_c_Kind___init (hr.mono (by first | decide | omega)) rfl T.m_Kind T.b_c_Kind___init zO (zA (pv 0) (zA zC (zA (zI op_sub (zT yR (by rfl) T.n_len PySem.boot_len (zA (pv 1) zD)) zC) zD)))))
     (zF (ps_fld (pv 0) (pe_callTy call_list_of (by rfl) T.n_list Bt.list (zA (pv 1) zD)) rfl))), ?_⟩
 have hne : pl ≠ p := ne_of hl hp (by intro z; cases z)
 refine ⟨_, rfl, _, rfl, pl, _, rfl, .inl (SqL.of hl), _, _, rfl, rfl, ?_⟩
 refine ⟨p, A.c_Pick, dx, _, _, rfl, hp, T.cl_Pick, T.no_Pick_low, T.no_Pick_high, ?_⟩
 refine ⟨_, rfl, pl, _, rfl, .inl (SqL.of (by rw [zJ hne]; exact hl)), fun pw hw => ?_⟩
 have hwp : pw ≠ p := fun z => by subst z; rw [zB] at hw; cases hw
 refine ⟨_, rfl, p, A.c_Pick, dx, _, rfl, (by rw [zJ (Ne.symm hwp)]; exact zB), T.cl_Pick, T.no_Pick_words, (by show 2 < 1000; decide), ?_⟩
 rw [put_words]
 rw [zJ hwp] at hw
 refine q pw _ _ (fun b o hb e => ?_) zB ?_
 · rw [zJ hb]
   by_cases z : b = pw
   · subst z; rw [hw] at e; cases e
   · rw [zJ z, zJ hb]; exact e
 · rw [zJ hwp]; exact zB
end
end K16
set_option maxHeartbeats 4000000
namespace K16
open PySem L2
seal PE PT PW PA PS PSs PG PGs PI PO PSet OpR UnR CallR TruR IxR SlR PC PPs
local macro_rules | `(tactic| walk_at "rd1") => `(tactic| first
 | (refine And.intro rfl ?_)
 | (refine And.intro (by assumption) ?_)
 | (refine And.intro (fun _ e => e) ?_)
 | (refine And.intro (TyOf.str _) ?_) | (refine And.intro (TyOf.int _) ?_) | (refine And.intro (TyOf.bl _) ?_) | (refine And.intro TyOf.non ?_)
 | (refine iteT ?_) | (refine iteF ?_)
 | (apply Exists.intro))
local macro_rules | `(tactic| walk_at "rd") => `(tactic| repeat (walk_at "rd1"))
theorem cut_takeV (xs : List V) (k : Nat) (h : k ≤ xs.length) : cutV xs none (some (k : Int)) = xs.take k := by
 unfold cutV
 have e1 : HT.sIx xs.length 0 none = 0 := rfl
 have e2 : HT.sIx xs.length xs.length (some (k : Int)) = k := by rw [HT.sIx_nat]; omega
 rw [e1, e2, List.drop_zero, Nat.sub_zero]
theorem cut_dropV (xs : List V) (k : Nat) (h : k ≤ xs.length) : cutV xs (some (k : Int)) none = xs.drop k := by
 unfold cutV
 have e1 : HT.sIx xs.length 0 (some (k : Int)) = k := by rw [HT.sIx_nat]; omega
 have e2 : HT.sIx xs.length xs.length none = xs.length := rfl
 rw [e1, e2, List.take_of_length_le (by rw [List.length_drop]; omega)]
def Wds (ws : List Str) : Prop := ws ≠ [] ∧ ws.length ≤ 7 ∧ ∀ z ∈ ws, nameB z = true
def spWords (K : W.Frag) : Sp := fun vs H Q _ => ∃ (a pn : Addr) (ns : List Int) (zs : List Str), vs = [.ref a, .ref pn] ∧ SqL K H a (ns.map V.int) ∧ (∀ n ∈ ns, ib n ≤ 1048576) ∧ H pn = some (.lst (zs.map V.str)) ∧ zs.length = 5 ∧ (∀ z ∈ zs, nameB z = true) ∧
 ∀ pw ws H', Wds ws → Same H H' → H' pw = some (.lst (ws.map V.str)) → Q (.ref pw) H'
def spKind (A : Adr) : Sp := fun vs H Q _ => ∃ (c : Int) (pw : Addr) (ws : List Str), vs = [.int c, .ref pw] ∧ ib c ≤ 1048576 ∧ H pw = some (.lst (ws.map V.str)) ∧ (∀ k x H', Same H H' → KiR A H' ws k x → Q x H') ∧ Q .non H
def spKinds (A : Adr) (K : W.Frag) : Sp := fun vs H Q _ => ∃ (a pn pw : Addr) (ns : List Int) (zs ws : List Str), vs = [.ref a, .ref pn, .ref pw] ∧ SqL K H a (ns.map V.int) ∧ (∀ n ∈ ns, ib n ≤ 1048576) ∧ H pn = some (.lst (zs.map V.str)) ∧ zs.length = 5 ∧ (∀ z ∈ zs, nameB z = true) ∧ H pw = some (.lst (ws.map V.str)) ∧
 ∀ pk F kvs H', Same H H' → H' pk = some (.dK kvs) → kvs.length ≤ 5 → KdP A H' F ws kvs → Q (.ref pk) H'
section
variable {P : Program} {w : World} {K : W.Frag} {mg : Str → Option Value} {base : Heap} {A : Adr}
theorem ok_law_words (T : Txt K mg A) : FnOk P w K mg base CX0 2 A.f_law_words A.d_law_words ["_law_script", "_law_names_here"] (spWords K) := by
 have G_law_cell_at := ok_law_cell_at (P := P) (w := w) (base := base) T
 refine T.F_law_words.ok sc_law_words (fun vs H Q E h => ?_) (fun cdv A0 outer s H vs Q E hr h => ?_)
 · obtain ⟨a, pn, ns, zs, rfl, _⟩ := h
   rfl
 obtain ⟨a, pn, ns, zs, rfl, hS, hb, hpn, hl5, hzn, q⟩ := h
 refine ⟨_, (zE (zY (i := 2) sc_law_words.nd rfl (by first | exact Or.inl rfl | exact Or.inr rfl) (zI op_cat (pv 1) (yU (zA zQ (zA zQ zD)))))
     (zE (zY (i := 3) sc_law_words.nd rfl (by first | exact Or.inl rfl | exact Or.inr rfl) (zI zW (zI yI (zL G_law_cell_at (hr.mono (by first | decide | omega)) rfl T.m_law_cell_at T.k_law_cell_at T.b_law_cell_at .nil zO (zA (pv 0) (zA zC zD))) zC) zC))
     (zE (zY (i := 4) sc_law_words.nd rfl (by first | exact Or.inl rfl | exact Or.inr rfl) (yU zD))
     (zE (ps_forR PassesOwn.never rfl (pi_list (pe_slice sl_list (zI op_cat (pe_slice sl_list (pv 2) (po_some (pv 3)) po_none) (pe_slice sl_list (pv 2) po_none (po_some (pv 3)))) po_none (po_some (zI yW zC (zI zW (zL G_law_cell_at (hr.mono (by first | decide | omega)) rfl T.m_law_cell_at T.k_law_cell_at T.b_law_cell_at .nil zO (zA (pv 0) (zA zC zD))) zC))))) (pg_name (i := 5) sc_law_words.nd rfl (by first | exact Or.inl rfl | exact Or.inr rfl)) (zF (zX (zR op_notIn_seq (pv 5) (pv 4) (by rfl)) (zF (xE (pe_bm PySem.F.plainAttrs_list PySem.F.slot_list_append PySem.F.type_list_append mt_append (pv 4) (zA (pv 5) zD)))) zS)))
     (zF (zK (pv 4))))))), ?_⟩
 generalize h0 : L2.start _ [V.ref a, V.ref pn] = σ0
 have h0 : σ0 = [some (.ref a), some (.ref pn), none, none, none, none] := by rw [← h0]; rfl
 subst h0
 refine ⟨_, rfl, (by show 2 ≤ sizeLine; decide), fun py hpy => ?_⟩
 have sy := zG hpy (.lst [.str "yes", .str "no"])
 have hcl : (zs.map V.str).length + ([V.str (Str.ofString "yes"), V.str (Str.ofString "no")] : List V).length ≤ sizeLine := by rw [List.length_map, hl5]; decide
 refine ⟨pn, py, _, _, rfl, rfl, sy _ _ hpn, zB, hcl, fun pc hpc => ?_⟩
 have e7 : zs.map V.str ++ [V.str (Str.ofString "yes"), V.str (Str.ofString "no")] = (zs ++ (["yes", "no"] : List Str)).map V.str := by rw [List.map_append]; rfl
 have n7 : ∀ z ∈ zs ++ (["yes", "no"] : List Str), nameB z = true := fun z hz => by
   rcases List.mem_append.mp hz with e | e
   · exact hzn z e
   · simp only [List.mem_cons, List.not_mem_nil, or_false] at e
     rcases e with rfl | rfl <;> decide +kernel
 have l7 : (zs ++ (["yes", "no"] : List Str)).length = 7 := by rw [List.length_append, hl5]; rfl
 rw [e7]
 generalize zs ++ (["yes", "no"] : List Str) = w7 at n7 l7
 have sc := sy.trans (zG hpc (.lst (w7.map V.str)))
 refine ⟨_, rfl, a, ns, 1, rfl, sc.seq hS, by decide, hb, fun c hc => ⟨_, _, rfl, rfl, ⟨by decide, by decide⟩, _, _, rfl, rfl, (by show (0 : Int) < 7; decide), ?_⟩⟩
 obtain ⟨m, hm⟩ : ∃ m : Nat, c / 2 % 7 = (m : Nat) := ⟨(c / 2 % 7).toNat, by have : 0 ≤ c / 2 % 7 := Int.emod_nonneg _ (by decide); omega⟩
 have hm7 : m < 7 := by have : c / 2 % 7 < 7 := Int.emod_lt_of_pos _ (by decide); omega
 dsimp only [gName, List.set_cons_succ, List.set_cons_zero]
 rw [hm]
 refine ⟨(by show 0 ≤ sizeLine; decide), fun pl hpl => ?_⟩
 dsimp only [gName, List.set_cons_succ, List.set_cons_zero]
 have sl := sc.trans (zG hpl (.lst []))
 have e1 : (upd (upd (upd H py (.lst [.str "yes", .str "no"])) pc (.lst (w7.map V.str))) pl (.lst [])) pc = some (.lst (w7.map V.str)) := by rw [zJ (zN zB hpl)]; exact zB
 refine ⟨_, rfl, _, rfl, _, rfl, pc, _, rfl, SqL.of e1, fun p1 hp1 => ?_⟩
 rw [cut_dropV _ _ (by rw [List.length_map, l7]; omega), ← List.map_drop]
 have s1 := zG hp1 (.lst ((w7.drop m).map V.str))
 refine ⟨_, rfl, _, rfl, _, rfl, pc, _, rfl, SqL.of (s1 _ _ e1), fun p2 hp2 => ?_⟩
 rw [cut_takeV _ _ (by rw [List.length_map, l7]; omega), ← List.map_take]
 have s2 := zG hp2 (.lst ((w7.take m).map V.str))
 refine ⟨p1, p2, _, _, rfl, rfl, s2 _ _ zB, zB, (by rw [List.length_map, List.length_map, List.length_drop, List.length_take]; exact yL (m := 20) (by omega)), fun p3 hp3 => ?_⟩
 rw [← List.map_append]
 have s3 := zG hp3 (.lst ((w7.drop m ++ w7.take m).map V.str))
 have sA := sl.trans (s1.trans (s2.trans s3))
 refine ⟨_, rfl, a, ns, 0, rfl, sA.seq hS, by decide, hb, fun c2 hc2 => ⟨_, _, rfl, rfl, (by show (0 : Int) < 4; decide), _, _, rfl, rfl, _, rfl, ?_⟩⟩
 obtain ⟨r, hr'⟩ : ∃ r : Nat, 3 + c2 % 4 = (r : Nat) := ⟨(3 + c2 % 4).toNat, by have : 0 ≤ c2 % 4 := Int.emod_nonneg _ (by decide); omega⟩
 have hr3 : 3 ≤ r ∧ r ≤ 6 := by have : 0 ≤ c2 % 4 := Int.emod_nonneg _ (by decide); have : c2 % 4 < 4 := Int.emod_lt_of_pos _ (by decide); omega
 have l3 : (w7.drop m ++ w7.take m).length = 7 := by rw [List.length_append, List.length_drop, List.length_take]; omega
 refine ⟨p3, _, rfl, SqL.of zB, fun p4 hp4 => ?_⟩
 rw [hr', cut_takeV _ _ (by rw [List.length_map, l3]; omega), ← List.map_take]
 have n3 : ∀ z ∈ (w7.drop m ++ w7.take m).take r, nameB z = true := fun z hz => by
   rcases List.mem_append.mp (List.mem_of_mem_take hz) with e | e
   · exact n7 z (List.mem_of_mem_drop e)
   · exact n7 z (List.mem_of_mem_take e)
 have l4 : ((w7.drop m ++ w7.take m).take r).length = r := by rw [List.length_take, l3]; omega
 generalize (w7.drop m ++ w7.take m).take r = us at n3 l4
 have s4 := zG hp4 (.lst (us.map V.str))
 have sB := sA.trans s4
 have hplA : _ = some (HO.lst []) := (s3 _ _ (s2 _ _ (s1 _ _ (zB (H := upd (upd H py (.lst [.str "yes", .str "no"])) pc (.lst (w7.map V.str))) (a := pl) (o := .lst [])))))
 have hplB := s4 _ _ hplA
 have np4 : p4 ≠ pl := Ne.symm (zN hplA hp4)
 have nn : H pl = none := by
   cases z : H pl with
   | none => rfl
   | some u => rw [sc _ _ z] at hpl; cases hpl
 refine ⟨p4, rfl, ⟨_, SqL.of zB⟩, ?_⟩
 refine for_listR (xs := us.map V.str) (fun i σ H' => (∀ b o, b ≠ pl → (upd (upd (upd (upd (upd (upd (upd H py (.lst [.str "yes", .str "no"])) pc (.lst (w7.map V.str))) pl (.lst [])) p1 (.lst ((w7.drop m).map V.str))) p2 (.lst ((w7.take m).map V.str))) p3 (.lst ((w7.drop m ++ w7.take m).map V.str))) p4 (.lst (us.map V.str))) b = some o → H' b = some o) ∧ ∃ (ws : List Str) (u : Option V), σ = [some (.ref a), some (.ref pn), some (.ref pc), some (.int (m : Nat)), some (.ref pl), u] ∧ H' pl = some (.lst (ws.map V.str)) ∧ ws.length ≤ i ∧ (0 < i → ws ≠ []) ∧ ∀ z ∈ ws, nameB z = true)
   ⟨fun b o _ e => e, [], _, rfl, hplB, Nat.le_refl _, fun z => absurd z (by omega), fun z hz => by cases hz⟩ (fun i σ H' hi hh => SqL.of (hh.1 _ _ np4 zB)) (fun i y σ H' hy hh => ?_) (fun σ H' hh => ?_)
 · obtain ⟨sH, ws, u, rfl, hpl', hle, hne, hn⟩ := hh
   obtain ⟨z, hz, rfl⟩ := map_get hy
   have hz' := n3 z (List.mem_of_getElem? hz)
   have hi7 : i < 7 := by have := (List.getElem?_eq_some_iff.mp hz).1; omega
   refine ⟨_, rfl, _, rfl, pl, _, rfl, .inl (SqL.of hpl'), rfl, flat_strs ws, _, rfl, ?_⟩
   cases hin : inV (V.str z) (ws.map V.str) with
   | true =>
     refine iteF ⟨sH, ws, _, rfl, hpl', by omega, fun _ e => ?_, hn⟩
     subst e; cases hin
   | false =>
     refine iteT ⟨_, rfl, Or.inl ⟨rfl, _, SqL.of hpl'⟩, _, rfl, pl, _, _, rfl, rfl, hpl', (by rw [List.length_map]; exact yL (m := 7) (by omega)), ?_⟩
     refine ⟨fun b o hb e => by rw [zJ hb]; exact sH b o hb e, ws ++ [z], _, rfl, (by rw [List.map_append]; exact zB), (by rw [List.length_append]; show ws.length + 1 ≤ _; omega), fun _ => (by simp), fun y hy => ?_⟩
     rcases List.mem_append.mp hy with e | e
     · exact hn y e
     · rw [List.mem_singleton.mp e]; exact hz'
 · obtain ⟨sH, ws, u, rfl, hpl', hle, hne, hn⟩ := hh
   rw [List.length_map] at hle hne
   exact ⟨_, rfl, q pl ws H' ⟨hne (by omega), by omega, hn⟩ (fun b o e => sH b o (zN e nn) (sB _ _ e)) hpl'⟩
theorem kiR_make {H : Hp} {ws : List Str} {a dx : Addr} {k : Kn} {l h : V} (nx : H a = none) (nd : H dx = none) (hk : k ≠ .pk) : KiR A (upd (upd H dx (.own a)) a (.ins (cK A k) dx (f2 l h))) ws k (.ref a) := by
 refine ⟨a, dx, l, h, 0, rfl, ?_, fun e => absurd e hk⟩
 rw [zB]
 cases k <;> first | rfl | exact absurd rfl hk
theorem ok_law_kind (T : Txt K mg A) : FnOk P w K mg base CX0 5 A.f_law_kind A.d_law_kind ["_law_cell", "_law_words_here"] (spKind A) := by
 have G_c_Kind___init := ok_init (P := P) (w := w) (base := base) T
 have G_c_YesNo___init := ok_yinit (P := P) (w := w) (base := base) T
 have G_c_Names___init := ok_ninit (P := P) (w := w) (base := base) T
 have G_c_Pick___init := ok_pinit (P := P) (w := w) (base := base) T
 refine T.F_law_kind.ok sc_law_kind (fun vs H Q E h => ?_) (fun cdv A0 outer s H vs Q E hr h => ?_)
 · obtain ⟨c, pw, ws, rfl, _⟩ := h
   rfl
 obtain ⟨c, pw, ws, rfl, hb, hpw, q, q0⟩ := h
 refine ⟨_, (zE (zX (zR yM (zI zW (pv 0) zC) zC (zU _)) (zF (zK (pe_make0 T.mk_YesNo G_c_YesNo___init (hr.mono (by first | decide | omega)) rfl T.m_YesNo T.b_c_YesNo___init .nil zO))) zS)
     (zE (zX (zR yM (zI zW (pv 0) zC) zC (zU _)) (zF (zK (yQ T.mk_Whole G_c_Kind___init (hr.mono (by first | decide | omega)) rfl T.m_Whole T.b_c_Kind___init .nil zO (zA (zI op_sub (zI zW (zI yI (pv 0) zC) zC) zC) (zA (zI yW (zI zW (zI yI (pv 0) zC) zC) (zI zW (zI yI (pv 0) zC) (zI op_pow zC zC))) zD))))) zS)
     (zE (zX (zR yM (zI zW (pv 0) zC) zC (zU _)) (zF (zK (yQ T.mk_Money G_c_Kind___init (hr.mono (by first | decide | omega)) rfl T.m_Money T.b_c_Kind___init .nil zO (zA (zI op_sub (zI zW (zI yI (pv 0) zC) zC) zC) (zA (zI yW (zI zW (zI yI (pv 0) zC) zC) (zI zW (zI yI (pv 0) zC) (zI op_pow zC zC))) zD))))) zS)
     (zE (zX (zR yM (zI zW (pv 0) zC) zC (zU _)) (zF (zK (yQ T.mk_Pick G_c_Pick___init (hr.mono (by first | decide | omega)) rfl T.m_Pick T.b_c_Pick___init .nil zO (zA (pv 1) zD)))) zS)
     (zE (zX (zR yM (zI zW (pv 0) zC) zC (zU _)) (zF (zK (yQ T.mk_Names G_c_Names___init (hr.mono (by first | decide | omega)) rfl T.m_Names T.b_c_Names___init .nil zO (zA (zI yW zC (zI zW (zI yI (pv 0) zC) zC)) zD)))) zS)
     (zF (zK pe_non))))))), ?_⟩
 have p18 : (0 : Int) < 10 ^ 18 := by decide
 have h06 : (0 : Int) < 6 := by decide
 have mk : ∀ (a dx : Addr) (o : HO), H a = none → H dx = none → Same H (upd (upd H dx (.own a)) a o) := fun a dx o nx nd b u e => by
   rw [zJ (zN e nx), zJ (zN e nd)]; exact e
 refine ⟨_, rfl, _, _, rfl, rfl, h06, rfl, _, rfl, ite2 (fun _ => ?_) (fun _ => ?_)⟩
 · intro x dx nx nd ne
   refine ⟨x, dx, rfl, zB, rfl, ?_⟩
   rw [yC]
   exact q .yn _ _ (mk x dx _ nx nd) (kiR_make (k := .yn) nx nd (by decide))
 refine ⟨_, rfl, _, _, rfl, rfl, h06, rfl, _, rfl, ite2 (fun _ => ?_) (fun _ => ?_)⟩
 · refine ⟨_, rfl, _, _, rfl, rfl, ⟨by decide, by decide⟩, _, _, rfl, rfl, (by show (0 : Int) < 20; decide), _, _, rfl, rfl, ?_⟩
   refine ⟨_, rfl, _, _, rfl, rfl, ⟨by decide, by decide⟩, _, _, rfl, rfl, (by show (0 : Int) < 20; decide), _, rfl, _, _, rfl, rfl, ⟨by decide, by decide⟩, ?_⟩
   refine ⟨_, _, rfl, rfl, ⟨by decide, by decide⟩, _, _, rfl, rfl, p18, _, _, rfl, rfl, ?_⟩
   intro x dx nx nd ne
   refine ⟨x, A.c_Whole, dx, _, _, rfl, zB, T.cl_Whole, T.no_Whole_low, T.no_Whole_high, rfl, ?_⟩
   rw [yC]
   exact q .wh _ _ (mk x dx _ nx nd) (kiR_make (k := .wh) nx nd (by decide))
 refine ⟨_, rfl, _, _, rfl, rfl, h06, rfl, _, rfl, ite2 (fun _ => ?_) (fun _ => ?_)⟩
 · refine ⟨_, rfl, _, _, rfl, rfl, ⟨by decide, by decide⟩, _, _, rfl, rfl, (by show (0 : Int) < 20; decide), _, _, rfl, rfl, ?_⟩
   refine ⟨_, rfl, _, _, rfl, rfl, ⟨by decide, by decide⟩, _, _, rfl, rfl, (by show (0 : Int) < 20; decide), _, rfl, _, _, rfl, rfl, ⟨by decide, by decide⟩, ?_⟩
   refine ⟨_, _, rfl, rfl, ⟨by decide, by decide⟩, _, _, rfl, rfl, p18, _, _, rfl, rfl, ?_⟩
   intro x dx nx nd ne
   refine ⟨x, A.c_Money, dx, _, _, rfl, zB, T.cl_Money, T.no_Money_low, T.no_Money_high, rfl, ?_⟩
   rw [yC]
   exact q .mo _ _ (mk x dx _ nx nd) (kiR_make (k := .mo) nx nd (by decide))
 refine ⟨_, rfl, _, _, rfl, rfl, h06, rfl, _, rfl, ite2 (fun _ => ?_) (fun _ => ?_)⟩
 · refine ⟨_, rfl, ?_⟩
   intro x dx nx nd ne
   have s0 := mk x dx (.ins A.c_Pick dx []) nx nd
   refine ⟨x, dx, pw, ws, rfl, zB, s0 _ _ hpw, fun p2 h H' sH hp hp2 => ⟨rfl, ?_⟩⟩
   exact q .pk _ _ (fun b o e => sH b o (zN e nx) (s0 _ _ e)) ⟨x, dx, _, h, p2, rfl, hp, fun _ => hp2⟩
 refine ⟨_, rfl, _, _, rfl, rfl, h06, rfl, _, rfl, ite2 (fun _ => ?_) (fun _ => ?_)⟩
 · refine ⟨_, rfl, _, _, rfl, rfl, ⟨by decide, by decide⟩, _, _, rfl, rfl, h06, _, _, rfl, rfl, ?_⟩
   intro x dx nx nd ne
   refine ⟨x, dx, _, rfl, zB, rfl, ?_⟩
   rw [yC]
   exact q .nm _ _ (mk x dx _ nx nd) (kiR_make (k := .nm) nx nd (by decide))
 exact q0
theorem ok_law_kinds (T : Txt K mg A) : FnOk P w K mg base CX0 6 A.f_law_kinds A.d_law_kinds ["_law_script", "_law_names_here", "_law_words_here"] (spKinds A K) := by
 have G_law_cell_at := ok_law_cell_at (P := P) (w := w) (base := base) T
 have G_law_kind := ok_law_kind (P := P) (w := w) (base := base) T
 refine T.F_law_kinds.ok sc_law_kinds (fun vs H Q E h => ?_) (fun cdv A0 outer s H vs Q E hr h => ?_)
 · obtain ⟨a, pn, pw, ns, zs, ws, rfl, _⟩ := h
   rfl
 obtain ⟨a, pn, pw, ns, zs, ws, rfl, hS, hb, hpn, hl5, hzn, hpw, q⟩ := h
 refine ⟨_, (zE (zY (i := 3) sc_law_kinds.nd rfl (by first | exact Or.inl rfl | exact Or.inr rfl) pe_dnewK)
     (zE (ps_forR PassesOwn.never rfl (pi_range1 rfl T.n_range (zA zC zD)) (pg_name (i := 4) sc_law_kinds.nd rfl (by first | exact Or.inl rfl | exact Or.inr rfl)) (zE (zY (i := 5) sc_law_kinds.nd rfl (by first | exact Or.inl rfl | exact Or.inr rfl) (zL G_law_kind (hr.mono (by first | decide | omega)) rfl T.m_law_kind T.k_law_kind T.b_law_kind .nil zO (zA (zL G_law_cell_at (hr.mono (by first | decide | omega)) rfl T.m_law_cell_at T.k_law_cell_at T.b_law_cell_at .nil zO (zA (pv 0) (zA (zI yW zC (pv 4)) zD))) (zA (pv 2) zD))))
     (zF (zX (zR op_notN (pv 5) pe_non (zU _)) (zF (ps_dput (hu_of hr) (pv 3) (zM yF (pv 1) (pv 4) (fun _ _ => rfl)) (pv 5) rfl)) zS))))
     (zF (zK (pv 3))))), ?_⟩
 intro pk hpk
 have s0 := zG hpk (.dK [])
 refine ⟨_, rfl, (by omega), (by omega), ?_⟩
 rw [show ((5 : Int)).toNat = 5 from rfl]
 refine for_rangeR (fun i σ H' => Same H H' ∧ ∃ (u v : Option V) (F : KF) (kvs : List (Key × V)), σ = [some (.ref a), some (.ref pn), some (.ref pw), some (.ref pk), u, v] ∧ H' pk = some (.dK kvs) ∧ kvs.length ≤ i ∧ KdP A H' F ws kvs)
   ⟨s0, _, _, fun _ => none, [], rfl, zB, Nat.le_refl _, ⟨⟨(fun p hp => by cases hp), (fun p hp => by cases hp), Nat.zero_le _⟩, fun n => rfl⟩⟩ (fun i σ H' hi hh => ?_) (fun σ H' hh => ?_)
 · obtain ⟨sH, u, v, F, kvs, rfl, hk, hle, hd⟩ := hh
   refine ⟨_, rfl, _, rfl, _, _, rfl, rfl, a, ns, _, rfl, sH.seq hS, (by omega), hb, fun c hc => ?_⟩
   refine ⟨_, rfl, c, pw, ws, rfl, hc, sH _ _ hpw, fun k x H2 s2 hx => ?_, ?_⟩
   · obtain ⟨ax, dx, l, h, p2, rfl, hx'⟩ := id hx
     refine ⟨_, rfl, rfl, _, rfl, iteT ?_⟩
     obtain ⟨y, hy1, hy2⟩ := at_some (l := zs.map V.str) (i := (0 : Int) + (i : Nat)) (by omega) (by rw [List.length_map, hl5]; omega)
     obtain ⟨z, hz, rfl⟩ := map_get hy2
     refine ⟨_, rfl, _, rfl, _, rfl, _, rfl, pn, _, _, _, rfl, rfl, SqL.of (s2 _ _ (sH _ _ hpn)), hy1, pk, _, rfl, .inl ⟨kvs, Sum.inr z, s2 _ _ hk, rfl, (Nat.lt_of_lt_of_le (show kvs.length < 6 by omega) (by decide)), rfl⟩, ?_⟩
     have sb : SameB pk H2 (upd H2 pk (.dK (putK kvs (Sum.inr z) (V.ref ax)))) := fun b o hb e => by rw [zJ hb]; exact e
     refine ⟨fun b o e => by rw [zJ (zN e hpk)]; exact s2 _ _ (sH _ _ e), _, _, putF' F z k, _, rfl, zB, (by have := len_put kvs (Sum.inr z) (V.ref ax); omega), KdP.put ((hd.same s2).sb sb (s2 _ _ hk)) (hx.sb sb (s2 _ _ hk)) (by omega)⟩
   · refine ⟨_, rfl, rfl, _, rfl, iteF ?_⟩
     exact ⟨sH, _, _, F, kvs, rfl, hk, by omega, hd⟩
 · obtain ⟨sH, u, v, F, kvs, rfl, hk, hle, hd⟩ := hh
   exact ⟨_, rfl, q pk F kvs H' sH hk hle hd⟩
end
end K16
set_option maxHeartbeats 4000000
namespace K16
open PySem L2
seal PE PT PW PA PS PSs PG PGs PI PO PSet OpR UnR CallR TruR IxR SlR PC PPs
local macro_rules | `(tactic| walk_at "rd1") => `(tactic| first
 | (refine And.intro rfl ?_)
 | (refine And.intro (by assumption) ?_)
 | (refine And.intro (fun _ e => e) ?_)
 | (refine And.intro (TyOf.str _) ?_) | (refine And.intro (TyOf.int _) ?_) | (refine And.intro (TyOf.bl _) ?_) | (refine And.intro TyOf.non ?_)
 | (refine iteT ?_) | (refine iteF ?_)
 | (apply Exists.intro))
local macro_rules | `(tactic| walk_at "rd") => `(tactic| repeat (walk_at "rd1"))
def pIs (zs : List Str) (n : Str) (v : V) : Prop := nameB n = true ∧ ∃ w : Str, v = .str w ∧ nameB w = true
def pCmp (zs : List Str) (n h : Str) (m : Int) : Prop := nameB n = true ∧ (h = "<" ∨ h = "=" ∨ h = ">") ∧ m.natAbs < 10 ^ 60
def ArgR (A : Adr) (K : W.Frag) (H : Hp) (x : V) (zs : List Str) : Prop := ∃ (pt pn pk pw : Addr) (F : KF) (ws : List Str), x = .ref pt ∧ SqT K H pt [.ref pn, .ref pk, .ref pw] ∧ H pn = some (.lst (zs.map V.str)) ∧ zs.length = 5 ∧ (∀ z ∈ zs, nameB z = true) ∧ KdR A H F ws pk ∧ H pw = some (.lst (ws.map V.str)) ∧ Wds ws
theorem ArgR.same {A : Adr} {K : W.Frag} {H H' : Hp} {x : V} {zs : List Str} (h : ArgR A K H x zs) (s : Same H H') : ArgR A K H' x zs := let ⟨pt, pn, pk, pw, F, ws, a, b, c, d, e, f, g, i⟩ := h; ⟨pt, pn, pk, pw, F, ws, a, s.seqT b, s _ _ c, d, e, f.same s, s _ _ g, i⟩
def tyO (A : Adr) : Option Kn → Value
 | none => .type "NoneType"
 | some k => .ref (cK A k)
def isYn (o : Option Kn) : Bool := decide (o = some .yn)
def isPk (o : Option Kn) : Bool := decide (o = some .pk)
section
variable {K : W.Frag} {mg : Str → Option Value} {A : Adr}
theorem val_ty (T : Txt K mg A) {H : Hp} {ws : List Str} {o : Option Kn} {v : Option V} (h : ValR A H ws o v) : TyE K H (v.getD .non) (tyO A o) := by
 cases o with
 | none => rw [show v = none from h]; exact .old .non
 | some k =>
   obtain ⟨x, rfl, a, dx, l, hh, pw, rfl, e, _⟩ := h
   refine .old ?_
   cases k
   · exact T.ty_YesNo _ _ _ _ e
   · exact T.ty_Whole _ _ _ _ e
   · exact T.ty_Money _ _ _ _ e
   · exact T.ty_Pick _ _ _ _ e
   · exact T.ty_Names _ _ _ _ e
theorem kit_yn (T : Txt K mg A) (o : Option Kn) : W.kitOne K (tyO A o) (.ref A.c_YesNo) = some (isYn o) := by
 rcases o with _ | k
 · exact T.ktr_NoneType_YesNo
 · cases k
   · exact T.kr_YesNo_YesNo
   · exact T.kr_Whole_YesNo
   · exact T.kr_Money_YesNo
   · exact T.kr_Pick_YesNo
   · exact T.kr_Names_YesNo
theorem kit_pk (T : Txt K mg A) (o : Option Kn) : W.kitOne K (tyO A o) (.ref A.c_Pick) = some (isPk o) := by
 rcases o with _ | k
 · exact T.ktr_NoneType_Pick
 · cases k
   · exact T.kr_YesNo_Pick
   · exact T.kr_Whole_Pick
   · exact T.kr_Money_Pick
   · exact T.kr_Pick_Pick
   · exact T.kr_Names_Pick
theorem kit_two {t c d : Value} {a b : Bool} (h1 : W.kitOne K t c = some a) (h2 : W.kitOne K t d = some b) : W.kitAny K t [c, d] = some (a || b) := by
 show (match W.kitOne K t c with | some true => some true | some false => (match W.kitOne K t d with | some true => some true | some false => some false | none => none) | none => none) = _
 rw [h1, h2]
 cases a <;> cases b <;> rfl
theorem kit_yp (T : Txt K mg A) (o : Option Kn) : W.kitAny K (tyO A o) [.ref A.c_YesNo, .ref A.c_Pick] = some (isYn o || isPk o) := kit_two (kit_yn T o) (kit_pk T o)
end
end K16
set_option maxHeartbeats 4000000
namespace K16
open PySem L2
seal PE PT PW PA PS PSs PG PGs PI PO PSet OpR UnR CallR TruR IxR SlR PC PPs
local macro_rules | `(tactic| walk_at "rd1") => `(tactic| first
 | (refine And.intro rfl ?_)
 | (refine And.intro (by assumption) ?_)
 | (refine And.intro (fun _ e => e) ?_)
 | (refine And.intro (TyOf.str _) ?_) | (refine And.intro (TyOf.int _) ?_) | (refine And.intro (TyOf.bl _) ?_) | (refine And.intro TyOf.non ?_)
 | (refine iteT ?_) | (refine iteF ?_)
 | (apply Exists.intro))
local macro_rules | `(tactic| walk_at "rd") => `(tactic| repeat (walk_at "rd1"))
inductive Tr where
 | is (n : Str) (v : V)
 | cmp (n h : Str) (m : Int)
 | neg (t : Tr)
 | two (o : Bool) (s t : Tr)
def hw (o : Bool) : Str := if o = true then "or" else "and"
def Tr.depth : Tr → Nat
 | .is _ _ => 1
 | .cmp _ _ _ => 1
 | .neg t => t.depth + 1
 | .two _ s t => 1 + max s.depth t.depth
def Tr.size : Tr → Nat
 | .is _ _ => 1
 | .cmp _ _ _ => 1
 | .neg t => t.size
 | .two _ s t => s.size + t.size
def Tr.Ok (zs : List Str) : Tr → Prop
 | .is n v => pIs zs n v
 | .cmp n h m => pCmp zs n h m
 | .neg t => t.Ok zs
 | .two _ s t => s.Ok zs ∧ t.Ok zs
theorem Tr.size_pos : ∀ t : Tr, 1 ≤ t.size
 | .is _ _ => Nat.le_refl _
 | .cmp _ _ _ => Nat.le_refl _
 | .neg t => Tr.size_pos t
 | .two _ s t => Nat.le_trans (Tr.size_pos s) (Nat.le_add_right _ _)
def TrR (K : W.Frag) (H : Hp) : Tr → V → Prop
 | .is n v, x => ∃ a, x = .ref a ∧ SqT K H a [.str "is", .str n, v]
 | .cmp n h m, x => ∃ a, x = .ref a ∧ SqT K H a [.str "compare", .str n, .str h, .int m]
 | .neg t, x => ∃ a y, x = .ref a ∧ SqT K H a [.str "not", y] ∧ TrR K H t y
 | .two o s t, x => ∃ a y z, x = .ref a ∧ SqT K H a [.str (hw o), y, z] ∧ TrR K H s y ∧ TrR K H t z
def KT (H H' : Hp) : Prop := ∀ b o, H b = some o → (∀ xs, o ≠ .lst xs) → H' b = some o
theorem KT.of {H H' : Hp} (s : Same H H') : KT H H' := fun b o e _ => s b o e
theorem KT.trans {H H1 H2 : Hp} (a : KT H H1) (b : KT H1 H2) : KT H H2 := fun c o e n => b c o (a c o e n) n
theorem KT.upd {H : Hp} {pl : Addr} {xs : List V} {o : HO} (h : H pl = some (.lst xs)) : KT H (upd H pl o) := fun b u e n => by
 rw [zJ (fun z => by rw [z, h] at e; cases e; exact n _ rfl)]; exact e
theorem KT.sqT {K : W.Frag} {H H' : Hp} {a : Addr} {xs : List V} (s : KT H H') (h : SqT K H a xs) : SqT K H' a xs := by
 rcases h with (h | ⟨o, h⟩) | h
 · exact .inl (.inl (s _ _ h (by intro _ z; cases z)))
 · exact .inl (.inr ⟨o, s _ _ h (by intro _ z; cases z)⟩)
 · exact .inr h
theorem KT.tr {K : W.Frag} {H H' : Hp} (s : KT H H') : ∀ {t : Tr} {x : V}, TrR K H t x → TrR K H' t x
 | .is _ _, _, ⟨a, e, h⟩ => ⟨a, e, s.sqT h⟩
 | .cmp _ _ _, _, ⟨a, e, h⟩ => ⟨a, e, s.sqT h⟩
 | .neg _, _, ⟨a, y, e, h, k⟩ => ⟨a, y, e, s.sqT h, s.tr k⟩
 | .two _ _ _, _, ⟨a, y, z, e, h, k, l⟩ => ⟨a, y, z, e, s.sqT h, s.tr k, s.tr l⟩
def SR (K : W.Frag) (H : Hp) (x : V) (t : Tr) : Prop := ∃ a y, x = .ref a ∧ SqT K H a [y, .int (t.depth : Nat)] ∧ TrR K H t y
abbrev StR (K : W.Frag) (H : Hp) : List V → List Tr → Prop := Paired (SR K H)
theorem KT.st {K : W.Frag} {H H' : Hp} {xs : List V} {ts : List Tr} (s : KT H H') (h : StR K H xs ts) : StR K H' xs ts := by
 induction h with
 | nil => exact .nil
 | cons a _ ih => obtain ⟨b, y, e, h1, h2⟩ := a; exact .cons ⟨b, y, e, s.sqT h1, s.tr h2⟩ ih
theorem StR.len {K : W.Frag} {H : Hp} {xs : List V} {ts : List Tr} (h : StR K H xs ts) : xs.length = ts.length := by
 induction h with
 | nil => rfl
 | cons _ _ ih => rw [List.length_cons, List.length_cons, ih]
theorem paired_split {α β : Type} {R : α → β → Prop} : ∀ {us vs : List β} {xs : List α}, Paired R xs (us ++ vs) → ∃ x1 x2, xs = x1 ++ x2 ∧ Paired R x1 us ∧ Paired R x2 vs
 | [], vs, xs, h => ⟨[], xs, rfl, .nil, h⟩
 | u :: us, vs, _, .cons r h => let ⟨x1, x2, e, h1, h2⟩ := paired_split h; ⟨_ :: x1, x2, by rw [e]; rfl, .cons r h1, h2⟩
theorem StR.one {K : W.Frag} {H : Hp} {xs : List V} {ts : List Tr} {t : Tr} (h : StR K H xs (ts ++ [t])) : ∃ x0 x, xs = x0 ++ [x] ∧ StR K H x0 ts ∧ SR K H x t := by
 obtain ⟨x1, x2, e, h1, h2⟩ := paired_split h
 cases h2 with
 | cons r h3 => cases h3; exact ⟨x1, _, e, h1, r⟩
theorem StR.two {K : W.Frag} {H : Hp} {xs : List V} {ts : List Tr} {t1 t2 : Tr} (h : StR K H xs (ts ++ [t1, t2])) : ∃ x0 x1 x2, xs = x0 ++ [x1, x2] ∧ StR K H x0 ts ∧ SR K H x1 t1 ∧ SR K H x2 t2 := by
 obtain ⟨y1, y2, e, h1, h2⟩ := paired_split h
 cases h2 with
 | cons r h3 => cases h3 with | cons r' h4 => cases h4; exact ⟨y1, _, _, e, h1, r, r'⟩
theorem at_m1 {x0 : List V} {x : V} : atI (x0 ++ [x]) (-(1 : Int)) = some x := by
 unfold atI ixN
 rw [if_neg (by decide), if_pos (by rw [List.length_append]; show -(((x0.length + 1 : Nat)) : Int) ≤ -1; omega)]
 show (x0 ++ [x])[(-1 + ((x0 ++ [x]).length : Int)).toNat]? = _
 rw [show (-1 + ((x0 ++ [x]).length : Int)).toNat = x0.length by rw [List.length_append]; show (-1 + (((x0.length + 1 : Nat)) : Int)).toNat = _; omega]
 simp
theorem at_m2 {x0 : List V} {x y : V} : atI (x0 ++ [x, y]) (-(2 : Int)) = some x := by
 unfold atI ixN
 rw [if_neg (by decide), if_pos (by rw [List.length_append]; show -(((x0.length + 2 : Nat)) : Int) ≤ -2; omega)]
 show (x0 ++ [x, y])[(-2 + ((x0 ++ [x, y]).length : Int)).toNat]? = _
 rw [show (-2 + ((x0 ++ [x, y]).length : Int)).toNat = x0.length by rw [List.length_append]; show (-2 + (((x0.length + 2 : Nat)) : Int)).toNat = _; omega]
 simp
theorem at_m1' {x0 : List V} {x y : V} : atI (x0 ++ [x, y]) (-(1 : Int)) = some y := by
 rw [show x0 ++ [x, y] = (x0 ++ [x]) ++ [y] by simp]; exact at_m1
theorem split1 {α : Type} {l : List α} (h : l ≠ []) : ∃ l0 a, l = l0 ++ [a] := ⟨l.dropLast, l.getLast h, (List.dropLast_concat_getLast h).symm⟩
theorem split2 {α : Type} {l : List α} (h : 1 < l.length) : ∃ l0 a b, l = l0 ++ [a, b] := by
 obtain ⟨l1, b, rfl⟩ := split1 (l := l) (fun e => by rw [e] at h; simp at h)
 obtain ⟨l0, a, rfl⟩ := split1 (l := l1) (fun e => by rw [e] at h; simp at h)
 exact ⟨l0, a, b, by simp⟩
def spAtom (A : Adr) (K : W.Frag) : Sp := fun vs H Q _ => ∃ (c : Int) (x : V) (zs : List Str), vs = [.int c, x] ∧ ib c ≤ 1048576 ∧ ArgR A K H x zs ∧ ∀ y t H', Same H H' → TrR K H' t y → t.Ok zs → t.depth = 1 → t.size = 1 → Q y H'
def spJoined (K : W.Frag) : Sp := fun vs H Q _ => ∃ (pl : Addr) (o : Bool) (xs : List V) (ts : List Tr) (t1 t2 : Tr), vs = [.ref pl, .str (hw o)] ∧ H pl = some (.lst xs) ∧ StR K H xs (ts ++ [t1, t2]) ∧ ts.length ≤ 100 ∧
 ∀ H' xs', (∀ b o, b ≠ pl → H b = some o → H' b = some o) → H' pl = some (.lst xs') → StR K H' xs' (ts ++ [.two o t1 t2]) → Q .non H'
def spTree (A : Adr) (K : W.Frag) : Sp := fun vs H Q _ => ∃ (pc : Addr) (ms : List Int) (x : V) (zs : List Str), vs = [.ref pc, x] ∧ SqL K H pc (ms.map V.int) ∧ (∀ n ∈ ms, ib n ≤ 1048576) ∧ ms.length ≤ 1000 ∧ ArgR A K H x zs ∧ ∀ y t H', Same H H' → TrR K H' t y → t.Ok zs → t.depth ≤ 8 → t.size ≤ 16 → Q y H'
section
variable {P : Program} {w : World} {K : W.Frag} {mg : Str → Option Value} {base : Heap} {A : Adr}
theorem ok_law_joined (T : Txt K mg A) : FnOk P w K mg base CX0 1 A.f_law_joined A.d_law_joined ["_law_stack", "_law_how"] (spJoined K) := by
 refine T.F_law_joined.ok sc_law_joined (fun vs H Q E h => ?_) (fun cdv A0 outer s H vs Q E hr h => ?_)
 · obtain ⟨pl, o, xs, ts, t1, t2, rfl, _⟩ := h
   rfl
 obtain ⟨pl, o, xs, ts, t1, t2, rfl, hpl, hst, hl, q⟩ := h
 refine ⟨_, (zE (zY (i := 2) sc_law_joined.nd rfl (by first | exact Or.inl rfl | exact Or.inr rfl) (pe_bm0 PySem.F.plainAttrs_list PySem.F.slot_list_pop PySem.F.type_list_pop mt_pop (pv 0)))
     (zE (zY (i := 3) sc_law_joined.nd rfl (by first | exact Or.inl rfl | exact Or.inr rfl) (pe_bm0 PySem.F.plainAttrs_list PySem.F.slot_list_pop PySem.F.type_list_pop mt_pop (pv 0)))
     (zF (xE (pe_bm PySem.F.plainAttrs_list PySem.F.slot_list_append PySem.F.type_list_append mt_append (pv 0) (zA (yS (zA (yS (zA (pv 1) (zA (zM zP (pv 3) zC (fun _ _ => rfl)) (zA (zM zP (pv 2) zC (fun _ _ => rfl)) zD)))) (zA (zI yW zC (zT (call_max2 rfl) (by rfl) T.n_max PyProof.Rows.boot_max (zA (zM zP (pv 3) zC (fun _ _ => rfl)) (zA (zM zP (pv 2) zC (fun _ _ => rfl)) zD)))) zD))) zD)))))), ?_⟩
 obtain ⟨x0, x1, x2, rfl, h0, ⟨a1, y1, rfl, k1, r1⟩, ⟨a2, y2, rfl, k2, r2⟩⟩ := hst.two
 have g2 : ((x0 ++ [V.ref a1, V.ref a2]))[(x0 ++ [V.ref a1, V.ref a2]).length - 1]? = some (V.ref a2) := by simp
 have d2 : (x0 ++ [V.ref a1, V.ref a2]).dropLast = x0 ++ [V.ref a1] := by
   rw [show x0 ++ [V.ref a1, V.ref a2] = (x0 ++ [V.ref a1]) ++ [V.ref a2] by simp]; exact List.dropLast_concat
 refine ⟨_, rfl, Or.inl ⟨rfl, _, SqL.of hpl⟩, pl, _, _, rfl, rfl, hpl, g2, ?_⟩
 rw [d2]
 have kA : KT H (upd H pl (.lst (x0 ++ [V.ref a1]))) := KT.upd hpl
 have g1 : (x0 ++ [V.ref a1])[(x0 ++ [V.ref a1]).length - 1]? = some (V.ref a1) := by simp
 refine ⟨_, rfl, Or.inl ⟨rfl, _, SqL.of zB⟩, pl, _, _, rfl, rfl, zB, g1, ?_⟩
 rw [List.dropLast_concat, yC]
 have kB : KT H (upd H pl (.lst x0)) := KT.upd hpl
 have b10 : atI [y1, V.int (t1.depth : Nat)] ((0 : Nat) : Int) = some y1 := zH rfl
 have b11 : atI [y1, V.int (t1.depth : Nat)] ((1 : Nat) : Int) = some (.int (t1.depth : Nat)) := zH rfl
 have b20 : atI [y2, V.int (t2.depth : Nat)] ((0 : Nat) : Int) = some y2 := zH rfl
 have b21 : atI [y2, V.int (t2.depth : Nat)] ((1 : Nat) : Int) = some (.int (t2.depth : Nat)) := zH rfl
 refine ⟨_, rfl, Or.inl ⟨rfl, _, SqL.of zB⟩, _, rfl, _, rfl, a1, _, _, _, rfl, rfl, kB.sqT k1, b10, _, rfl, a2, _, _, _, rfl, rfl, kB.sqT k2, b20, (by show 3 ≤ sizeLine; decide), fun pt hpt => ?_⟩
 have s1 := zG hpt (.tup [.str (hw o), y1, y2])
 have kC := kB.trans (KT.of s1)
 refine ⟨_, rfl, a1, _, _, _, rfl, rfl, kC.sqT k1, b11, _, rfl, a2, _, _, _, rfl, rfl, kC.sqT k2, b21, _, _, rfl, _, _, rfl, rfl, (by show 2 ≤ sizeLine; decide), fun pu hpu => ?_⟩
 have em : (1 : Int) + (if ((t2.depth : Nat) : Int) > ((t1.depth : Nat) : Int) then ((t2.depth : Nat) : Int) else ((t1.depth : Nat) : Int)) = (((Tr.two o t1 t2).depth : Nat) : Int) := by
   show _ = ((1 + max t1.depth t2.depth : Nat) : Int)
   rw [Nat.max_def]
   split <;> split <;> omega
 dsimp only at hpu ⊢
 rw [em]
 have s2 := zG hpu (.tup [.ref pt, .int (((Tr.two o t1 t2).depth : Nat) : Int)])
 have e3 := s2 _ _ (s1 _ _ (zB (H := H) (a := pl) (o := .lst x0)))
 have kD := kC.trans (KT.of s2)
 have kE := kD.trans (KT.upd (o := .lst (x0 ++ [V.ref pu])) e3)
 refine ⟨pl, _, _, rfl, rfl, e3, ?_, ?_⟩
 · have := yL (n := 1000) (m := 1000) (Nat.le_refl _)
   rw [h0.len]; omega
 refine q _ _ (fun b u hb e => ?_) zB (paired_app (kE.st h0) (.cons ⟨pu, .ref pt, rfl, ?_, pt, y1, y2, rfl, ?_, kE.tr r1, kE.tr r2⟩ .nil))
 · rw [zJ hb]
   have e' : upd H pl (.lst x0) b = some u := by rw [zJ hb]; exact e
   exact s2 _ _ (s1 _ _ e')
 · exact (KT.upd e3).sqT (SqT.of zB)
 · exact ((KT.of s2).trans (KT.upd e3)).sqT (SqT.of zB)
end
end K16
set_option maxHeartbeats 4000000
namespace K16
open PySem L2
seal PE PT PW PA PS PSs PG PGs PI PO PSet OpR UnR CallR TruR IxR SlR PC PPs
local macro_rules | `(tactic| walk_at "rd1") => `(tactic| first
 | (refine And.intro rfl ?_)
 | (refine And.intro (by assumption) ?_)
 | (refine And.intro (fun _ e => e) ?_)
 | (refine And.intro (TyOf.str _) ?_) | (refine And.intro (TyOf.int _) ?_) | (refine And.intro (TyOf.bl _) ?_) | (refine And.intro TyOf.non ?_)
 | (refine iteT ?_) | (refine iteF ?_)
 | (apply Exists.intro))
local macro_rules | `(tactic| walk_at "rd") => `(tactic| repeat (walk_at "rd1"))
section
variable {P : Program} {w : World} {K : W.Frag} {mg : Str → Option Value} {base : Heap} {A : Adr}
theorem ok_law_atom (T : Txt K mg A) : FnOk P w K mg base CX0 2 A.f_law_atom A.d_law_atom ["_law_cell", "_law_told"] (spAtom A K) := by
 have G_law_number := ok_law_number (P := P) (w := w) (base := base) T
 refine T.F_law_atom.ok sc_law_atom (fun vs H Q E h => ?_) (fun cdv A0 outer s H vs Q E hr h => ?_)
 · obtain ⟨c, x, zs, rfl, _⟩ := h
   rfl
 obtain ⟨c, x, zs, rfl, hb, ⟨pt, pn, pk, pw, F, ws, rfl, hpt, hpn, hl5, hzn, hkd, hpw, hw0, hw7, hwn⟩, q⟩ := h
 refine ⟨_, (zE (ps_asg (pv 1) (pg_tup rfl (pgs_cons (pg_name (i := 2) sc_law_atom.nd rfl (by first | exact Or.inl rfl | exact Or.inr rfl)) (pgs_cons (pg_name (i := 3) sc_law_atom.nd rfl (by first | exact Or.inl rfl | exact Or.inr rfl)) (pgs_cons (pg_name (i := 4) sc_law_atom.nd rfl (by first | exact Or.inl rfl | exact Or.inr rfl)) pgs_nil)))))
     (zE (zY (i := 5) sc_law_atom.nd rfl (by first | exact Or.inl rfl | exact Or.inr rfl) (pe_dget1 (hu_of hr) (pv 3) (zM yF (pv 2) (zI zW (pv 0) zC) (fun _ _ => rfl)) ⟨rfl, rfl, rfl, rfl⟩))
     (zE (zY (i := 6) sc_law_atom.nd rfl (by first | exact Or.inl rfl | exact Or.inr rfl) (pe_cmpR yM (zI zW (zI yI (pv 0) zC) zC) zC (zU _)))
     (zE (zX (PW.pt (xD (yA (zT zZ (by rfl) T.n_isinstance Bt.isinstance (zA (pv 5) (zA (yH rfl T.v_YesNo) zD)))) (xA (yN (yA (pv 6)))))) (zF (zK (yS (zA zQ (zA (zM yF (pv 2) (zI zW (pv 0) zC) (fun _ _ => rfl)) (zA (zM yF (yU (zA zQ (zA zQ zD))) (zI zW (zI yI (pv 0) zC) zC) (fun _ _ => rfl)) zD)))))) zS)
     (zE (zX (PW.pt (xD (yA (zT zZ (by rfl) T.n_isinstance Bt.isinstance (zA (pv 5) (zA (yH rfl T.v_Pick) zD)))) (xA (yN (yA (pv 6)))))) (zF (zK (yS (zA zQ (zA (zM yF (pv 2) (zI zW (pv 0) zC) (fun _ _ => rfl)) (zA (zM yF (pv 4) (zI zW (zI yI (pv 0) zC) (zT yR (by rfl) T.n_len PySem.boot_len (zA (pv 4) zD))) (fun _ _ => rfl)) zD)))))) zS)
     (zE (zX (PW.pt (pw_or (PW.pt (xD (yA (zT call_isiT (by rfl) T.n_isinstance Bt.isinstance (zA (pv 5) (zA (yS (zA (yH rfl T.v_YesNo) (zA (yH rfl T.v_Pick) zD))) zD)))) (xA (zR yM (zI zW (zI yI (pv 0) zC) zC) zC (zU _))))) (pw_or1 (PW.pt (xD (yN (yA (zT call_isiT (by rfl) T.n_isinstance Bt.isinstance (zA (pv 5) (zA (yS (zA (yH rfl T.v_YesNo) (zA (yH rfl T.v_Pick) zD))) zD))))) (xA (yA (pv 6)))))))) (zF (zK (yS (zA zQ (zA (zM yF (pv 2) (zI zW (pv 0) zC) (fun _ _ => rfl)) (zA (zM yF (zI op_cat (zI op_cat (pv 4) (pv 2)) (yU (zA zQ zD))) (zI zW (zI yI (pv 0) zC) (zI yW (zT yR (by rfl) T.n_len PySem.boot_len (zA (pv 4) zD)) zC)) (fun _ _ => rfl)) zD)))))) zS)
     (zF (zK (yS (zA zQ (zA (zM yF (pv 2) (zI zW (pv 0) zC) (fun _ _ => rfl)) (zA (zM yF (yU (zA zQ (zA zQ (zA zQ zD)))) (zI zW (zI yI (pv 0) zC) zC) (fun _ _ => rfl)) (zA (zL G_law_number (hr.mono (by first | decide | omega)) rfl T.m_law_number T.k_law_number T.b_law_number .nil zO (zA (zI yI (pv 0) zC) zD)) zD))))))))))))), ?_⟩
 generalize h0 : L2.start _ [V.int c, V.ref pt] = σ0
 have h0 : σ0 = [some (.int c), some (.ref pt), none, none, none, none, none] := by rw [← h0]; rfl
 subst h0
 have i0 : 0 ≤ c % 5 := Int.emod_nonneg _ (by decide)
 have i1 : c % 5 < 5 := Int.emod_lt_of_pos _ (by decide)
 obtain ⟨y, hy1, hy2⟩ := at_some (l := zs.map V.str) i0 (by rw [List.length_map, hl5]; exact i1)
 obtain ⟨n, hn, rfl⟩ := map_get hy2
 have hnn := hzn n (List.mem_of_getElem? hn)
 have h05 : (0 : Int) < 5 := by decide
 refine ⟨_, rfl, pt, _, rfl, hpt, rfl, _, _, rfl, _, _, rfl, _, _, rfl, rfl, ?_⟩
 obtain ⟨v, hv1, hv2⟩ := hkd.get n
 refine ⟨_, rfl, pk, rfl, hkd.isD, _, rfl, _, rfl, _, _, rfl, rfl, h05, pn, _, _, _, rfl, rfl, SqL.of hpn, hy1, v, hv1, ?_⟩
 refine ⟨_, rfl, _, _, rfl, rfl, ⟨by decide, by decide⟩, _, _, rfl, rfl, (by show (0 : Int) < 9; decide), rfl, ?_⟩
 generalize hoth : decide (V.int (c / 5 % 9) = V.int 4) = oth
 have hwl : 0 < ws.length := by cases ws with | nil => exact absurd rfl hw0 | cons _ _ => exact Nat.succ_pos _
 have j2 : 0 ≤ c / 45 % 2 ∧ c / 45 % 2 < 2 := ⟨Int.emod_nonneg _ (by decide), Int.emod_lt_of_pos _ (by decide)⟩
 have two : ∃ wd : Str, atI [V.str (Str.ofString "yes"), V.str (Str.ofString "no")] (c / 45 % 2) = some (.str wd) ∧ nameB wd = true := by
   rcases (by omega : c / 45 % 2 = 0 ∨ c / 45 % 2 = 1) with e | e
   · rw [e]; exact ⟨_, zH (j := 0) rfl, by symm⟩
   · rw [e]; exact ⟨_, zH (j := 1) rfl, by symm⟩
 have cmpW : ∀ H1, Same H H1 → ∃ h : Str, atI [V.str "<", .str "=", .str ">"] (c / 45 % 3) = some (.str h) ∧ (h = "<" ∨ h = "=" ∨ h = ">") := fun _ _ => by
   have k0 : 0 ≤ c / 45 % 3 ∧ c / 45 % 3 < 3 := ⟨Int.emod_nonneg _ (by decide), Int.emod_lt_of_pos _ (by decide)⟩
   rcases (by omega : c / 45 % 3 = 0 ∨ c / 45 % 3 = 1 ∨ c / 45 % 3 = 2) with e | e | e
   · rw [e]; exact ⟨_, zH (j := 0) rfl, .inl rfl⟩
   · rw [e]; exact ⟨_, zH (j := 1) rfl, .inr (.inl rfl)⟩
   · rw [e]; exact ⟨_, zH (j := 2) rfl, .inr (.inr rfl)⟩
 obtain ⟨hh, hh1, hh2⟩ := cmpW H (Same.refl _)
 dsimp only [gName, List.set_cons_succ, List.set_cons_zero]
 refine seq_mid (fun σ' H' => H' = H ∧ (isYn (F n) && !oth) = false ∧ σ' = [some (.int c), some (.ref pt), some (.ref pn), some (.ref pk), some (.ref pw), some (v.getD .non), some (.bl oth)]) ?kk ?mm
 case mm =>
   intro key
   refine ⟨_, rfl, _, _, _, _, rfl, rfl, val_ty T hv2, kit_yn T _, _, rfl, ?_⟩
   cases h1 : isYn (F n) with
   | false => exact iteF (iteF (key _ _ ⟨rfl, by rw [h1]; rfl, rfl⟩))
   | true =>
     refine iteT ⟨_, rfl, _, rfl, ?_⟩
     cases h2 : oth with
     | true => exact iteF (key _ _ ⟨rfl, by rw [h1, h2]; rfl, by rw [h2]⟩)
     | false =>
       refine iteT ?_
       obtain ⟨wd, hwd1, hwd2⟩ := two
       refine ⟨_, rfl, _, rfl, _, _, rfl, rfl, h05, pn, _, _, _, rfl, rfl, SqL.of hpn, hy1, (by show 2 ≤ sizeLine; decide), fun p1 hp1 => ?_⟩
       refine ⟨_, rfl, _, _, rfl, rfl, ⟨by decide, by decide⟩, _, _, rfl, rfl, (by show (0 : Int) < 2; decide), p1, _, _, _, rfl, rfl, SqL.of zB, hwd1, (by show 3 ≤ sizeLine; decide), fun t ht => ?_⟩
       exact q _ (.is n (.str wd)) _ ((zG hp1 _).trans (zG ht _)) ⟨t, rfl, SqT.of zB⟩ ⟨hnn, wd, rfl, hwd2⟩ rfl rfl
 case kk =>
 rintro σ' H' ⟨rfl, hf1, rfl⟩
 refine seq_mid (fun σ' H'' => H'' = H' ∧ (isPk (F n) && !oth) = false ∧ σ' = [some (.int c), some (.ref pt), some (.ref pn), some (.ref pk), some (.ref pw), some (v.getD .non), some (.bl oth)]) ?kk ?mm
 case mm =>
   intro key
   refine ⟨_, rfl, _, _, _, _, rfl, rfl, val_ty T hv2, kit_pk T _, _, rfl, ?_⟩
   cases h1 : isPk (F n) with
   | false => exact iteF (iteF (key _ _ ⟨rfl, by rw [h1]; rfl, rfl⟩))
   | true =>
     refine iteT ⟨_, rfl, _, rfl, ?_⟩
     cases h2 : oth with
     | true => exact iteF (key _ _ ⟨rfl, by rw [h1, h2]; rfl, by rw [h2]⟩)
     | false =>
       refine iteT ?_
       have hp : (0 : Int) < ((ws.map V.str).length : Nat) := by rw [List.length_map]; omega
       obtain ⟨u, hu1, hu2⟩ := at_some (l := ws.map V.str) (i := c / 45 % ((ws.map V.str).length : Nat)) (Int.emod_nonneg _ (by omega)) (Int.emod_lt_of_pos _ hp)
       obtain ⟨wd, hwd, rfl⟩ := map_get hu2
       refine ⟨_, rfl, _, rfl, _, _, rfl, rfl, h05, pn, _, _, _, rfl, rfl, SqL.of hpn, hy1, _, rfl, _, rfl, _, _, rfl, rfl, ⟨by decide, by decide⟩, _, rfl, pw, _, rfl, .inl (SqL.of hpw), _, _, rfl, rfl, hp, pw, _, _, _, rfl, rfl, SqL.of hpw, hu1, (by show 3 ≤ sizeLine; decide), fun t ht => ?_⟩
       exact q _ (.is n (.str wd)) _ (zG ht _) ⟨t, rfl, SqT.of zB⟩ ⟨hnn, wd, rfl, hwn wd (List.mem_of_getElem? hwd)⟩ rfl rfl
 case kk =>
 rintro σ' H'' ⟨rfl, hf2, rfl⟩
 refine seq_mid (fun σ' H' => Same H'' H' ∧ σ' = [some (.int c), some (.ref pt), some (.ref pn), some (.ref pk), some (.ref pw), some (v.getD .non), some (.bl oth)]) ?kk ?mm
 case mm =>
   intro key
   have fin3 : ∀ H1, Same H'' H1 → _ := fun (H1 : Hp) (s1 : Same H'' H1) => key _ H1 ⟨s1, rfl⟩
   have is3 : ∀ H1, Same H'' H1 → ∃ wd : Str, nameB wd = true ∧ ∃ i : Int, i = c / 90 % ((ws.map V.str).length + 6 : Int) ∧ atI (((ws.map V.str) ++ (zs.map V.str)) ++ [V.str (Str.ofString "maybe")]) i = some (.str wd) := fun _ _ => by
     have e : ((ws.map V.str) ++ (zs.map V.str)) ++ [V.str (Str.ofString "maybe")] = (ws ++ zs ++ (["maybe"] : List Str)).map V.str := by rw [List.map_append, List.map_append]; rfl
     rw [e]
     have hp : (0 : Int) < ((ws.map V.str).length : Nat) + 6 := by omega
     obtain ⟨u, hu1, hu2⟩ := at_some (l := (ws ++ zs ++ (["maybe"] : List Str)).map V.str) (i := c / 90 % (((ws.map V.str).length : Nat) + 6 : Int)) (Int.emod_nonneg _ (by omega)) (by
       have := Int.emod_lt_of_pos (c / 90) hp
       simp only [List.length_map, List.length_append, List.length_cons, List.length_nil, hl5] at this ⊢
       omega)
     obtain ⟨wd, hwd, rfl⟩ := map_get hu2
     refine ⟨wd, ?_, _, rfl, hu1⟩
     rcases List.mem_append.mp (List.mem_of_getElem? hwd) with z | z
     · rcases List.mem_append.mp z with z | z
       · exact hwn wd z
       · exact hzn wd z
     · rw [List.mem_singleton.mp z]; decide +kernel
   obtain ⟨wd, hwd, i3, hi3, hat⟩ := is3 H'' (Same.refl _)
   refine ⟨_, rfl, (by show 2 ≤ sizeLine; decide), fun t1 ht1 => ⟨_, t1, _, _, _, rfl, zB, rfl, (val_ty T (hv2.same (zG ht1 _))), kit_yp T _, _, rfl, ?_⟩⟩
   have sT := zG ht1 (.tup [.ref A.c_YesNo, .ref A.c_Pick])
   cases hyp : (isYn (F n) || isPk (F n)) with
   | true =>
     refine iteT ⟨_, rfl, _, _, rfl, rfl, ⟨by decide, by decide⟩, _, _, rfl, rfl, (by show (0 : Int) < 2; decide), rfl, _, rfl, ite2 (fun d => ?_) (fun d => ?_)⟩
     · have SX := sT
       refine ⟨_, rfl, _, rfl, _, _, rfl, rfl, h05, pn, _, _, _, rfl, rfl, SqL.of (SX _ _ hpn), hy1, ?_⟩
       refine ⟨_, rfl, _, rfl, pw, pn, _, _, rfl, rfl, SX _ _ hpw, SX _ _ hpn, (by rw [List.length_map, List.length_map]; exact yL (m := 20) (by omega)), fun p1 hp1 => ?_⟩
       refine ⟨(by show 1 ≤ sizeLine; decide), fun p2 hp2 => ?_⟩
       have s2 := zG hp2 (.lst [.str (Str.ofString "maybe")])
       refine ⟨p1, p2, _, _, rfl, rfl, s2 _ _ zB, zB, (by rw [List.length_append, List.length_map, List.length_map]; exact yL (m := 20) (by show ws.length + zs.length + 1 ≤ 20; omega)), fun p3 hp3 => ?_⟩
       have sZ := (zG hp1 (.lst ((ws.map V.str) ++ (zs.map V.str)))).trans (s2.trans (zG hp3 (.lst (((ws.map V.str) ++ (zs.map V.str)) ++ [V.str (Str.ofString "maybe")]))))
       refine ⟨_, rfl, _, _, rfl, rfl, ⟨by decide, by decide⟩, _, rfl, pw, _, rfl, .inl (SqL.of (sZ _ _ (SX _ _ hpw))), _, _, rfl, rfl, _, _, rfl, rfl, (by show (0 : Int) < ((ws.map V.str).length : Nat) + 6; omega), p3, _, _, _, rfl, rfl, SqL.of zB, (by rw [← hi3]; exact hat), (by show 3 ≤ sizeLine; decide), fun t ht => ?_⟩
       exact q _ (.is n (.str wd)) _ (SX.trans (sZ.trans (zG ht _))) ⟨t, rfl, SqT.of zB⟩ ⟨hnn, wd, rfl, hwd⟩ rfl rfl
     · refine ⟨_, rfl, (by show 2 ≤ sizeLine; decide), fun t2 ht2 => ⟨_, t2, _, _, _, rfl, zB, rfl, (val_ty T (hv2.same (sT.trans (zG ht2 _)))), kit_yp T _, _, rfl, ?_⟩⟩
       rw [hyp]
       exact iteF (iteF (key _ _ ⟨sT.trans (zG ht2 _), rfl⟩))
   | false =>
     refine iteF (iteF ?_)
     refine ⟨_, rfl, (by show 2 ≤ sizeLine; decide), fun t2 ht2 => ⟨_, t2, _, _, _, rfl, zB, rfl, (val_ty T (hv2.same (sT.trans (zG ht2 _)))), kit_yp T _, _, rfl, ?_⟩⟩
     have SX := sT.trans (zG ht2 (.tup [.ref A.c_YesNo, .ref A.c_Pick]))
     rw [hyp]
     refine iteT ⟨_, rfl, _, rfl, ite2 (fun d => ?_) (fun d => key _ _ ⟨SX, rfl⟩)⟩
     refine ⟨_, rfl, _, rfl, _, _, rfl, rfl, h05, pn, _, _, _, rfl, rfl, SqL.of (SX _ _ hpn), hy1, ?_⟩
     refine ⟨_, rfl, _, rfl, pw, pn, _, _, rfl, rfl, SX _ _ hpw, SX _ _ hpn, (by rw [List.length_map, List.length_map]; exact yL (m := 20) (by omega)), fun p1 hp1 => ?_⟩
     refine ⟨(by show 1 ≤ sizeLine; decide), fun p2 hp2 => ?_⟩
     have s2 := zG hp2 (.lst [.str (Str.ofString "maybe")])
     refine ⟨p1, p2, _, _, rfl, rfl, s2 _ _ zB, zB, (by rw [List.length_append, List.length_map, List.length_map]; exact yL (m := 20) (by show ws.length + zs.length + 1 ≤ 20; omega)), fun p3 hp3 => ?_⟩
     have sZ := (zG hp1 (.lst ((ws.map V.str) ++ (zs.map V.str)))).trans (s2.trans (zG hp3 (.lst (((ws.map V.str) ++ (zs.map V.str)) ++ [V.str (Str.ofString "maybe")]))))
     refine ⟨_, rfl, _, _, rfl, rfl, ⟨by decide, by decide⟩, _, rfl, pw, _, rfl, .inl (SqL.of (sZ _ _ (SX _ _ hpw))), _, _, rfl, rfl, _, _, rfl, rfl, (by show (0 : Int) < ((ws.map V.str).length : Nat) + 6; omega), p3, _, _, _, rfl, rfl, SqL.of zB, (by rw [← hi3]; exact hat), (by show 3 ≤ sizeLine; decide), fun t ht => ?_⟩
     exact q _ (.is n (.str wd)) _ (SX.trans (sZ.trans (zG ht _))) ⟨t, rfl, SqT.of zB⟩ ⟨hnn, wd, rfl, hwd⟩ rfl rfl
 case kk =>
 rintro σ' H1 ⟨s1, rfl⟩
 refine ⟨_, rfl, _, rfl, _, _, rfl, rfl, h05, pn, _, _, _, rfl, rfl, SqL.of (s1 _ _ hpn), hy1, (by show 3 ≤ sizeLine; decide), fun p1 hp1 => ?_⟩
 refine ⟨_, rfl, _, _, rfl, rfl, ⟨by decide, by decide⟩, _, _, rfl, rfl, (by show (0 : Int) < 3; decide), p1, _, _, _, rfl, rfl, SqL.of zB, hh1, ?_⟩
 refine ⟨_, rfl, _, _, rfl, rfl, ⟨by decide, by decide⟩, _, rfl, Nat.le_trans (ib_div (by decide) hb) (by decide), fun m hm => ⟨(by show 4 ≤ sizeLine; decide), fun t ht => ?_⟩⟩
 exact q _ (.cmp n hh m) _ (s1.trans ((zG hp1 _).trans (zG ht _))) ⟨t, rfl, SqT.of zB⟩ ⟨hnn, hh2, hm⟩ rfl rfl
end
end K16
set_option maxHeartbeats 4000000
namespace K16
open PySem L2
seal PE PT PW PA PS PSs PG PGs PI PO PSet OpR UnR CallR TruR IxR SlR PC PPs
local macro_rules | `(tactic| walk_at "rd1") => `(tactic| first
 | (refine And.intro rfl ?_)
 | (refine And.intro (by assumption) ?_)
 | (refine And.intro (fun _ e => e) ?_)
 | (refine And.intro (TyOf.str _) ?_) | (refine And.intro (TyOf.int _) ?_) | (refine And.intro (TyOf.bl _) ?_) | (refine And.intro TyOf.non ?_)
 | (refine iteT ?_) | (refine iteF ?_)
 | (apply Exists.intro))
local macro_rules | `(tactic| walk_at "rd") => `(tactic| repeat (walk_at "rd1"))
def Stk (K : W.Frag) (zs : List Str) (pl : Addr) (m : Nat) (H : Hp) (ts : List Tr) : Prop := ∃ xs, H pl = some (.lst xs) ∧ StR K H xs ts ∧ (∀ t ∈ ts, t.depth ≤ 8 ∧ t.Ok zs) ∧ (ts.map Tr.size).sum ≤ m
theorem Stk.same {K : W.Frag} {zs : List Str} {pl : Addr} {m : Nat} {H H' : Hp} {ts : List Tr} (h : Stk K zs pl m H ts) (s : Same H H') : Stk K zs pl m H' ts := let ⟨xs, a, b, c⟩ := h; ⟨xs, s _ _ a, (KT.of s).st b, c⟩
theorem sum_len (ts : List Tr) : ts.length ≤ (ts.map Tr.size).sum := by
 induction ts with
 | nil => exact Nat.le_refl _
 | cons t r ih => rw [List.map_cons, List.sum_cons, List.length_cons]; have := t.size_pos; omega
section
variable {P : Program} {w : World} {K : W.Frag} {mg : Str → Option Value} {base : Heap} {A : Adr}
theorem ok_law_tree (T : Txt K mg A) : FnOk P w K mg base CX0 3 A.f_law_tree A.d_law_tree ["_law_cells", "_law_names_here"] (spTree A K) := by
 have G_law_atom := ok_law_atom (P := P) (w := w) (base := base) T
 have G_law_joined := ok_law_joined (P := P) (w := w) (base := base) T
 refine T.F_law_tree.ok sc_law_tree (fun vs H Q E h => ?_) (fun cdv A0 outer s H vs Q E hr h => ?_)
 · obtain ⟨pc, ms, x, zs, rfl, _⟩ := h
   rfl
 obtain ⟨pc, ms, x, zs, rfl, hS, hb, hml, hx, q⟩ := h
 refine ⟨_, (zE (zY (i := 2) sc_law_tree.nd rfl (by first | exact Or.inl rfl | exact Or.inr rfl) (yU zD))
     (zE (zY (i := 3) sc_law_tree.nd rfl (by first | exact Or.inl rfl | exact Or.inr rfl) zC)
     (zE (ps_forR PassesOwn.never rfl (pi_list (pv 0)) (pg_name (i := 4) sc_law_tree.nd rfl (by first | exact Or.inl rfl | exact Or.inr rfl)) (zF (zX (PW.pt (xD (zR op_lt (zI zW (pv 4) zC) zC (zU _)) (xA (zR op_lt (pv 3) zC (zU _))))) (zE (xE (pe_bm PySem.F.plainAttrs_list PySem.F.slot_list_append PySem.F.type_list_append mt_append (pv 2) (zA (yS (zA (zL G_law_atom (hr.mono (by first | decide | omega)) rfl T.m_law_atom T.k_law_atom T.b_law_atom .nil zO (zA (zI yI (pv 4) zC) (zA (pv 1) zD))) (zA zC zD))) zD)))
     (zF (zY (i := 3) sc_law_tree.nd rfl (by first | exact Or.inl rfl | exact Or.inr rfl) (zI yW (pv 3) zC)))) (zF (zX (PW.pt (xD (zR yM (zI zW (pv 4) zC) zC (zU _)) (xD (zR (op_neJ (hu20 hr)) (pv 2) (yU zD) (zU _)) (xA (zR op_lt (zM zP (zM yF (pv 2) (pe_un un_neg zC) (fun _ _ => rfl)) zC (fun _ _ => rfl)) zC (zU _)))))) (zE (zY (i := 5) sc_law_tree.nd rfl (by first | exact Or.inl rfl | exact Or.inr rfl) (pe_bm0 PySem.F.plainAttrs_list PySem.F.slot_list_pop PySem.F.type_list_pop mt_pop (pv 2)))
     (zF (xE (pe_bm PySem.F.plainAttrs_list PySem.F.slot_list_append PySem.F.type_list_append mt_append (pv 2) (zA (yS (zA (yS (zA zQ (zA (zM zP (pv 5) zC (fun _ _ => rfl)) zD))) (zA (zI yW (zM zP (pv 5) zC (fun _ _ => rfl)) zC) zD))) zD))))) (zF (zX (PW.pt (xD (zR op_gt (zI zW (pv 4) zC) zC (zU _)) (xD (zR op_gt (zT yR (by rfl) T.n_len PySem.boot_len (zA (pv 2) zD)) zC (zU _)) (xA (zR op_lt (zT (call_max2 rfl) (by rfl) T.n_max PyProof.Rows.boot_max (zA (zM zP (zM yF (pv 2) (pe_un un_neg zC) (fun _ _ => rfl)) zC (fun _ _ => rfl)) (zA (zM zP (zM yF (pv 2) (pe_un un_neg zC) (fun _ _ => rfl)) zC (fun _ _ => rfl)) zD))) zC (zU _)))))) (zF (xE (zL G_law_joined (hr.mono (by first | decide | omega)) rfl T.m_law_joined T.k_law_joined T.b_law_joined .nil zO (zA (pv 2) (zA (zM yF (yU (zA zQ (zA zQ zD))) (zI op_sub (zI zW (pv 4) zC) zC) (fun _ _ => rfl)) zD))))) zS)))))))
     (zE (ps_whileR PassesOwn.never (PW.pt (xD (zR op_gt (zT yR (by rfl) T.n_len PySem.boot_len (zA (pv 2) zD)) zC (zU _)) (xA (zR op_lt (zT (call_max2 rfl) (by rfl) T.n_max PyProof.Rows.boot_max (zA (zM zP (zM yF (pv 2) (pe_un un_neg zC) (fun _ _ => rfl)) zC (fun _ _ => rfl)) (zA (zM zP (zM yF (pv 2) (pe_un un_neg zC) (fun _ _ => rfl)) zC (fun _ _ => rfl)) zD))) zC (zU _))))) (zF (xE (zL G_law_joined (hr.mono (by first | decide | omega)) rfl T.m_law_joined T.k_law_joined T.b_law_joined .nil zO (zA (pv 2) (zA (zM yF (yU (zA zQ (zA zQ zD))) (zI zW (zT yR (by rfl) T.n_len PySem.boot_len (zA (pv 2) zD)) zC) (fun _ _ => rfl)) zD))))))
     (zE (zX (zR (op_eqJ (hu20 hr)) (pv 2) (yU zD) (zU _)) (zF (zK (zL G_law_atom (hr.mono (by first | decide | omega)) rfl T.m_law_atom T.k_law_atom T.b_law_atom .nil zO (zA zC (zA (pv 1) zD))))) zS)
     (zF (zK (zM zP (zM yF (pv 2) (pe_un un_neg zC) (fun _ _ => rfl)) zC (fun _ _ => rfl))))))))), ?_⟩
 refine ⟨(by show 0 ≤ sizeLine; decide), fun pl hpl => ?_⟩
 have sl := zG hpl (.lst [])
 have join : ∀ (H' : Hp) (o : Bool) (ts : List Tr) (t1 t2 : Tr) (m : Nat) (R : Hp → Prop), Same H H' → Stk K zs pl m H' (ts ++ [t1, t2]) → m ≤ 16 → max t1.depth t2.depth < 8 →
     (∀ H'' ts', Same H H'' → Stk K zs pl m H'' ts' → ts'.length + 1 = (ts ++ [t1, t2]).length → ts' ≠ [] → R H'') → spJoined K ([.ref pl, .str (hw o)] ++ []) H' (fun _ H'' => R H'') E0 := fun H' o ts t1 t2 m R sH ⟨xs, e1, hst, hok, hsz⟩ hm hd k => by
   have hlen := sum_len (ts ++ [t1, t2])
   rw [List.length_append] at hlen
   have hlen' : ts.length + 2 ≤ (List.map Tr.size (ts ++ [t1, t2])).sum := hlen
   refine ⟨pl, o, xs, ts, t1, t2, rfl, e1, hst, by omega, fun H2 xs2 s2 e2 hst2 => ?_⟩
   refine k H2 (ts ++ [.two o t1 t2]) (fun b u e => ?_) ⟨xs2, e2, hst2, fun t ht => ?_, ?_⟩ (by simp) (by simp)
   · exact s2 b u (zN e hpl) (sH b u e)
   · rcases List.mem_append.mp ht with e | e
     · exact hok t (List.mem_append_left _ e)
     · rw [List.mem_singleton.mp e]
       refine ⟨by show 1 + max t1.depth t2.depth ≤ 8; omega, (hok t1 (by simp)).2, (hok t2 (by simp)).2⟩
   · rw [List.map_append, List.sum_append] at hsz ⊢
     show _ + ((t1.size + t2.size) + 0) ≤ m
     have : (List.map Tr.size ts).sum + (t1.size + (t2.size + 0)) ≤ m := hsz
     omega
 refine ⟨_, rfl, pc, rfl, ⟨_, sl.seq hS⟩, ?_⟩
 refine for_listR (xs := ms.map V.int) (fun i σ H' => Same H H' ∧ ∃ (m : Nat) (u v : Option V) (ts : List Tr), σ = [some (.ref pc), some x, some (.ref pl), some (.int (m : Nat)), u, v] ∧ m ≤ 16 ∧ Stk K zs pl m H' ts) ⟨sl, 0, _, _, [], rfl, by omega, [], zB, .nil, (fun t ht => by cases ht), Nat.le_refl _⟩ (fun i σ H' _ hh => hh.1.seq hS) (fun i y σ H' hy hh => ?_) (fun σ H' hh => ?_)
 · obtain ⟨sH, m, u, v, ts, rfl, hm, xs, e1, hst, hok, hsz⟩ := hh
   obtain ⟨c, hci, rfl⟩ := map_get hy
   have hcb := hb c (List.mem_of_getElem? hci)
   have hlen := sum_len ts
   have r0 : 0 ≤ c % 6 := Int.emod_nonneg _ (by decide)
   have r1 : c % 6 < 6 := Int.emod_lt_of_pos _ (by decide)
   have h06 : (0 : Int) < 6 := by decide
   have keep : ∀ w' : Option V, Same H H' ∧ ∃ (m' : Nat) (u v : Option V) (ts : List Tr), ([some (.ref pc), some x, some (.ref pl), some (.int (m : Nat)), some (.int c), w'] : St) = [some (.ref pc), some x, some (.ref pl), some (.int (m' : Nat)), u, v] ∧ m' ≤ 16 ∧ Stk K zs pl m' H' ts := fun w' => ⟨sH, m, _, _, ts, rfl, hm, xs, e1, hst, hok, hsz⟩
   have h1000 := yL (n := 1000) (m := 1000) (Nat.le_refl _)
   by_cases hA : c % 6 < 3
   · refine ⟨_, rfl, _, _, rfl, rfl, h06, _, _, rfl, rfl, _, rfl, ite2 (fun _ => ?_) (fun d => absurd (decide_eq_true hA) d)⟩
     refine ⟨_, rfl, _, _, rfl, rfl, _, rfl, ite2 (fun d => ?_) (fun d => ?_)⟩
     · have hm16 : (m : Int) < 16 := of_decide_eq_true d
       refine ⟨_, rfl, Or.inl ⟨rfl, _, SqL.of e1⟩, _, rfl, _, _, rfl, rfl, ⟨by decide, by decide⟩, _, rfl, _, x, zs, rfl, ib_div (by decide) hcb, hx.same sH, fun y t H2 s2 htr hto htd hts => ?_⟩
       refine ⟨(by show 2 ≤ sizeLine; decide), fun pt hpt => ?_⟩
       have s3 := zG hpt (.tup [y, .int 1])
       have e3 := s3 _ _ (s2 _ _ e1)
       have k3 : KT H2 _ := (KT.of s3).trans (KT.upd (o := .lst (xs ++ [.ref pt])) e3)
       refine ⟨pl, _, _, rfl, rfl, e3, (by rw [hst.len]; omega), ?_⟩
       refine ⟨_, rfl, _, _, rfl, rfl, ?_⟩
       refine ⟨fun b o hb' => ?_, m + 1, _, _, ts ++ [t], rfl, by omega, _, zB, paired_app (k3.st ((KT.of s2).st hst)) (.cons ⟨pt, y, rfl, ?_, k3.tr htr⟩ .nil), fun t' ht' => ?_, ?_⟩
       · rw [zJ (zN hb' hpl)]; exact s3 _ _ (s2 _ _ (sH _ _ hb'))
       · rw [htd]; exact (KT.upd e3).sqT (SqT.of zB)
       · rcases List.mem_append.mp ht' with e | e
         · exact hok t' e
         · rw [List.mem_singleton.mp e, htd]; exact ⟨by decide, hto⟩
       · rw [List.map_append, List.sum_append]
         show _ + (t.size + 0) ≤ m + 1
         omega
     · refine ⟨_, rfl, _, _, rfl, rfl, h06, rfl, _, rfl, ite2 (fun d => ?_) (fun _ => iteF ?_)⟩
       · have : c % 6 = 3 := V.int.inj (of_decide_eq_true d)
         omega
       · refine ⟨_, rfl, _, _, rfl, rfl, h06, _, _, rfl, rfl, _, rfl, ite2 (fun d => ?_) (fun _ => iteF (keep _))⟩
         have : 3 < c % 6 := of_decide_eq_true d
         omega
   refine ⟨_, rfl, _, _, rfl, rfl, h06, _, _, rfl, rfl, _, rfl, ite2 (fun d => absurd (of_decide_eq_true d) hA) (fun _ => iteF ?_)⟩
   by_cases hB : c % 6 = 3
   · refine ⟨_, rfl, _, _, rfl, rfl, h06, rfl, _, rfl, ite2 (fun _ => ?_) (fun d => absurd (decide_eq_true (show V.int (c % 6) = V.int 3 by rw [hB])) d)⟩
     refine ⟨_, rfl, (by show 0 ≤ sizeLine; decide), fun p0 hp0 => ?_⟩
     have s8 := zG hp0 (.lst [])
     have third : ∀ (H2 : Hp) (w' : Option V), Same H H2 ∧ (∃ (m' : Nat) (u v : Option V) (ts : List Tr), ([some (.ref pc), some x, some (.ref pl), some (.int (m : Nat)), some (.int c), w'] : St) = [some (.ref pc), some x, some (.ref pl), some (.int (m' : Nat)), u, v] ∧ m' ≤ 16 ∧ Stk K zs pl m' H2 ts) → True := fun _ _ _ => trivial
     by_cases hts : ts = []
     · subst hts
       have hx0 : xs = [] := List.length_eq_zero_iff.mp hst.len
       subst hx0
       refine ⟨_, eqj_lists (n := 19) (e := fun _ => true) (SqL.of (s8 _ _ e1)) (SqL.of zB) rfl (fun j x y hx => by simp at hx), _, rfl, iteF (iteF ?_)⟩
       refine ⟨_, rfl, _, _, rfl, rfl, h06, _, _, rfl, rfl, _, rfl, ite2 (fun d => ?_) (fun _ => iteF ?_)⟩
       · have : 3 < c % 6 := of_decide_eq_true d
         omega
       · exact ⟨sH.trans s8, m, _, _, [], rfl, hm, [], s8 _ _ e1, .nil, hok, hsz⟩
     · obtain ⟨ts0, t, rfl⟩ := split1 hts
       obtain ⟨x0, xt, rfl, h0, a1, y1, rfl, k1, r1⟩ := hst.one
       have hxl : (x0 ++ [V.ref a1]).length ≠ ([] : List V).length := by simp
       refine ⟨_, eqj_lists_len (n := 19) (SqL.of (s8 _ _ e1)) (SqL.of zB) hxl, _, rfl, iteT ?_⟩
       have b11 : atI [y1, V.int (t.depth : Nat)] ((1 : Nat) : Int) = some (.int (t.depth : Nat)) := zH rfl
       have b10 : atI [y1, V.int (t.depth : Nat)] ((0 : Nat) : Int) = some y1 := zH rfl
       have k8 := KT.of s8
       refine ⟨_, rfl, _, rfl, pl, _, _, _, rfl, rfl, SqL.of (s8 _ _ e1), at_m1, a1, _, _, _, rfl, rfl, k8.sqT k1, b11, _, _, rfl, rfl, _, rfl, ite2 (fun d => ?_) (fun _ => ?_)⟩
       · have hd : (t.depth : Int) < 8 := of_decide_eq_true d
         have g1 : (x0 ++ [V.ref a1])[(x0 ++ [V.ref a1]).length - 1]? = some (V.ref a1) := by simp
         refine ⟨_, rfl, Or.inl ⟨rfl, _, SqL.of (s8 _ _ e1)⟩, pl, _, _, rfl, rfl, s8 _ _ e1, g1, ?_⟩
         rw [List.dropLast_concat]
         have kB : KT H' (upd (upd H' p0 (.lst [])) pl (.lst x0)) := k8.trans (KT.upd (s8 _ _ e1))
         refine ⟨_, rfl, Or.inl ⟨rfl, _, SqL.of zB⟩, _, rfl, a1, _, _, _, rfl, rfl, kB.sqT k1, b10, (by show 2 ≤ sizeLine; decide), fun pt hpt => ?_⟩
         have s1 := zG hpt (.tup [.str (Str.ofString "not"), y1])
         have kC := kB.trans (KT.of s1)
         refine ⟨_, rfl, a1, _, _, _, rfl, rfl, kC.sqT k1, b11, _, _, rfl, rfl, (by show 2 ≤ sizeLine; decide), fun pu hpu => ?_⟩
         have em : ((t.depth : Nat) : Int) + 1 = (((Tr.neg t).depth : Nat) : Int) := by show _ = ((t.depth + 1 : Nat) : Int); omega
         dsimp only at hpu ⊢
         rw [em]
         have s2 := zG hpu (.tup [.ref pt, .int (((Tr.neg t).depth : Nat) : Int)])
         have e3 := s2 _ _ (s1 _ _ (zB (H := upd H' p0 (.lst [])) (a := pl) (o := .lst x0)))
         have kE := (kC.trans (KT.of s2)).trans (KT.upd (o := .lst (x0 ++ [V.ref pu])) e3)
         refine ⟨pl, _, _, rfl, rfl, e3, ?_, ?_⟩
         · rw [List.length_append] at hlen
           have hlen' : ts0.length + 1 ≤ (List.map Tr.size (ts0 ++ [t])).sum := hlen
           rw [h0.len]; omega
         refine ⟨fun b o hb' => ?_, m, _, _, ts0 ++ [.neg t], rfl, hm, _, zB, paired_app (kE.st h0) (.cons (show SR K _ (.ref pu) (.neg t) from ⟨pu, .ref pt, rfl, ?_, pt, y1, rfl, ?_, kE.tr r1⟩) .nil), fun t' ht' => ?_, ?_⟩
         · rw [zJ (zN hb' hpl)]
           refine s2 _ _ (s1 _ _ ?_)
           rw [zJ (zN hb' hpl)]
           exact s8 _ _ (sH _ _ hb')
         · exact (KT.upd e3).sqT (SqT.of zB)
         · exact ((KT.of s2).trans (KT.upd e3)).sqT (SqT.of zB)
         · rcases List.mem_append.mp ht' with e | e
           · exact hok t' (List.mem_append_left _ e)
           · rw [List.mem_singleton.mp e]
             exact ⟨by show t.depth + 1 ≤ 8; omega, (hok t (by simp)).2⟩
         · rw [List.map_append, List.sum_append] at hsz ⊢
           exact hsz
       · refine ⟨_, rfl, _, _, rfl, rfl, h06, _, _, rfl, rfl, _, rfl, ite2 (fun d => ?_) (fun _ => iteF ?_)⟩
         · have : 3 < c % 6 := of_decide_eq_true d
           omega
         · exact ⟨sH.trans s8, m, _, _, _, rfl, hm, Stk.same ⟨_, e1, hst, hok, hsz⟩ s8⟩
   refine ⟨_, rfl, _, _, rfl, rfl, h06, rfl, _, rfl, ite2 (fun d => absurd (V.int.inj (of_decide_eq_true d)) hB) (fun _ => iteF ?_)⟩
   refine ⟨_, rfl, _, _, rfl, rfl, h06, _, _, rfl, rfl, _, rfl, ite2 (fun _ => ?_) (fun _ => iteF (keep _))⟩
   refine ⟨_, rfl, pl, _, rfl, .inl (SqL.of e1), _, _, rfl, rfl, _, rfl, ite2 (fun d => ?_) (fun _ => iteF (keep _))⟩
   have hl2 : 1 < xs.length := by have : (1 : Int) < (xs.length : Nat) := of_decide_eq_true d; omega
   obtain ⟨ts0, t1, t2, rfl⟩ := split2 (l := ts) (by rw [← hst.len]; exact hl2)
   obtain ⟨x0, x1, x2, rfl, h0, ⟨a1, y1, rfl, k1, r1'⟩, ⟨a2, y2, rfl, k2, r2'⟩⟩ := hst.two
   have b11 : atI [y1, V.int (t1.depth : Nat)] ((1 : Nat) : Int) = some (.int (t1.depth : Nat)) := zH rfl
   have b21 : atI [y2, V.int (t2.depth : Nat)] ((1 : Nat) : Int) = some (.int (t2.depth : Nat)) := zH rfl
   refine ⟨_, rfl, _, rfl, pl, _, _, _, rfl, rfl, SqL.of e1, at_m1', a2, _, _, _, rfl, rfl, k2, b21, _, rfl, _, rfl, pl, _, _, _, rfl, rfl, SqL.of e1, at_m2, a1, _, _, _, rfl, rfl, k1, b11, _, _, rfl, _, _, rfl, rfl, _, rfl, ite2 (fun d => ?_) (fun _ => keep _)⟩
   have hd : max t1.depth t2.depth < 8 := by
     have d' := of_decide_eq_true d
     rw [Nat.max_def]
     split at d' <;> split <;> omega
   refine ⟨_, rfl, (by show 2 ≤ sizeLine; decide), fun pq hpq => ?_⟩
   have sq := zG hpq (.lst [.str (hw false), .str (hw true)])
   have hat : ∃ o : Bool, atI [V.str (hw false), V.str (hw true)] (c % 6 - 4) = some (.str (hw o)) := by
     rcases (by omega : c % 6 = 4 ∨ c % 6 = 5) with e | e
     · rw [e]; exact ⟨false, zH (j := 0) rfl⟩
     · rw [e]; exact ⟨true, zH (j := 1) rfl⟩
   obtain ⟨o, ho⟩ := hat
   refine ⟨_, rfl, _, _, rfl, rfl, h06, _, _, rfl, rfl, pq, _, _, _, rfl, rfl, SqL.of zB, ho, ?_⟩
   exact join _ o ts0 t1 t2 m _ (sH.trans sq) (Stk.same ⟨_, e1, hst, hok, hsz⟩ sq) hm hd fun H'' ts' s'' stk' _ _ => ⟨s'', m, _, _, ts', rfl, hm, stk'⟩
 obtain ⟨sH, m, u, v, ts, rfl, hm, stk⟩ := hh
 dsimp only
 refine seq_mid (fun σ' G => Same H G ∧ ∃ (ts : List Tr), σ' = [some (.ref pc), some x, some (.ref pl), some (.int (m : Nat)), u, v] ∧ Stk K zs pl m G ts) ?kk ?mm
 case mm =>
   intro key
   refine ⟨⟨fun n σ' G => Same H G ∧ ∃ (ts : List Tr), σ' = [some (.ref pc), some x, some (.ref pl), some (.int (m : Nat)), u, v] ∧ Stk K zs pl m G ts ∧ n = ts.length, ⟨_, sH, ts, rfl, stk, rfl⟩, ?_⟩⟩
   rintro n σ' G ⟨sG, ts, rfl, ⟨xs, e1, hst, hok, hsz⟩, rfl⟩
   refine ⟨_, rfl, pl, _, rfl, .inl (SqL.of e1), _, _, rfl, rfl, _, rfl, ite2 (fun d => ?_) (fun _ => iteF (key _ _ ⟨sG, ts, rfl, xs, e1, hst, hok, hsz⟩))⟩
   have hl2 : 1 < xs.length := by have : (1 : Int) < (xs.length : Nat) := of_decide_eq_true d; omega
   obtain ⟨ts0, t1, t2, rfl⟩ := split2 (l := ts) (by rw [← hst.len]; exact hl2)
   obtain ⟨x0, x1, x2, rfl, h0, ⟨a1, y1, rfl, k1, r1'⟩, ⟨a2, y2, rfl, k2, r2'⟩⟩ := hst.two
   have b11 : atI [y1, V.int (t1.depth : Nat)] ((1 : Nat) : Int) = some (.int (t1.depth : Nat)) := zH rfl
   have b21 : atI [y2, V.int (t2.depth : Nat)] ((1 : Nat) : Int) = some (.int (t2.depth : Nat)) := zH rfl
   refine ⟨_, rfl, _, rfl, pl, _, _, _, rfl, rfl, SqL.of e1, at_m1', a2, _, _, _, rfl, rfl, k2, b21, _, rfl, _, rfl, pl, _, _, _, rfl, rfl, SqL.of e1, at_m2, a1, _, _, _, rfl, rfl, k1, b11, _, _, rfl, _, _, rfl, rfl, _, rfl, ite2 (fun d => ?_) (fun _ => key _ _ ⟨sG, _, rfl, _, e1, hst, hok, hsz⟩)⟩
   have hd : max t1.depth t2.depth < 8 := by
     have d' := of_decide_eq_true d
     rw [Nat.max_def]
     split at d' <;> split <;> omega
   refine ⟨fun σ' G' => ∃ m', m' < (ts0 ++ [t1, t2]).length ∧ Same H G' ∧ ∃ (ts : List Tr), σ' = [some (.ref pc), some x, some (.ref pl), some (.int (m : Nat)), u, v] ∧ Stk K zs pl m G' ts ∧ m' = ts.length, fun _ _ h => h, ?_⟩
   refine ⟨_, rfl, (by show 2 ≤ sizeLine; decide), fun pq hpq => ?_⟩
   have sq := zG hpq (.lst [.str (hw false), .str (hw true)])
   have hat : ∃ o : Bool, atI [V.str (hw false), V.str (hw true)] (((x0 ++ [V.ref a1, V.ref a2]).length : Int) % 2) = some (.str (hw o)) := by
     rcases (by omega : ((x0 ++ [V.ref a1, V.ref a2]).length : Int) % 2 = 0 ∨ ((x0 ++ [V.ref a1, V.ref a2]).length : Int) % 2 = 1) with e | e
     · rw [e]; exact ⟨false, zH (j := 0) rfl⟩
     · rw [e]; exact ⟨true, zH (j := 1) rfl⟩
   obtain ⟨o, ho⟩ := hat
   refine ⟨_, rfl, pl, _, rfl, .inl (SqL.of (sq _ _ e1)), _, _, rfl, rfl, (by show (0 : Int) < 2; decide), pq, _, _, _, rfl, rfl, SqL.of zB, ho, ?_⟩
   exact join _ o ts0 t1 t2 m _ (sG.trans sq) (Stk.same ⟨_, e1, hst, hok, hsz⟩ sq) hm hd fun H'' ts' s'' stk' hl' _ => ⟨ts'.length, by omega, s'', ts', rfl, stk', rfl⟩
 case kk =>
 rintro σ' G ⟨sG, ts, rfl, xs, e1, hst, hok, hsz⟩
 refine ⟨_, rfl, (by show 0 ≤ sizeLine; decide), fun p0 hp0 => ?_⟩
 have s8 := zG hp0 (.lst [])
 by_cases hts : ts = []
 · subst hts
   have hx0 : xs = [] := List.length_eq_zero_iff.mp hst.len
   subst hx0
   refine ⟨_, eqj_lists (n := 19) (e := fun _ => true) (SqL.of (s8 _ _ e1)) (SqL.of zB) rfl (fun j x y hx => by simp at hx), _, rfl, iteT ?_⟩
   exact ⟨_, rfl, 0, x, zs, rfl, by decide, hx.same (sG.trans s8), fun y t H2 s2 htr hto htd hts => q y t H2 (sG.trans (s8.trans s2)) htr hto (by rw [htd]; decide) (by rw [hts]; decide)⟩
 · obtain ⟨ts0, t, rfl⟩ := split1 hts
   obtain ⟨x0, xt, rfl, h0, a1, y1, rfl, k1, r1⟩ := hst.one
   have hxl : (x0 ++ [V.ref a1]).length ≠ ([] : List V).length := by simp
   refine ⟨_, eqj_lists_len (n := 19) (SqL.of (s8 _ _ e1)) (SqL.of zB) hxl, _, rfl, iteF ?_⟩
   have b10 : atI [y1, V.int (t.depth : Nat)] ((0 : Nat) : Int) = some y1 := zH rfl
   have k8 := KT.of s8
   obtain ⟨ht1, ht2⟩ := hok t (by simp)
   refine ⟨_, rfl, _, rfl, pl, _, _, _, rfl, rfl, SqL.of (s8 _ _ e1), at_m1, a1, _, _, _, rfl, rfl, k8.sqT k1, b10, q y1 t _ (sG.trans s8) (k8.tr r1) ht2 ht1 ?_⟩
   rw [List.map_append, List.sum_append] at hsz
   have : (List.map Tr.size ts0).sum + (t.size + 0) ≤ m := hsz
   omega
end
end K16
set_option maxHeartbeats 4000000
namespace K16
open PySem L2
seal PE PT PW PA PS PSs PG PGs PI PO PSet OpR UnR CallR TruR IxR SlR PC PPs
local macro_rules | `(tactic| walk_at "rd1") => `(tactic| first
 | (refine And.intro rfl ?_)
 | (refine And.intro (by assumption) ?_)
 | (refine And.intro (fun _ e => e) ?_)
 | (refine And.intro (TyOf.str _) ?_) | (refine And.intro (TyOf.int _) ?_) | (refine And.intro (TyOf.bl _) ?_) | (refine And.intro TyOf.non ?_)
 | (refine iteT ?_) | (refine iteF ?_)
 | (apply Exists.intro))
local macro_rules | `(tactic| walk_at "rd") => `(tactic| repeat (walk_at "rd1"))
theorem eqS {a b : Str} {A B : Prop} (h : a = b) (k : A) : if decide (V.str a = V.str b) = true then A else B := by rw [if_pos (decide_eq_true (by rw [h]))]; exact k
theorem neS {a b : Str} {A B : Prop} (h : a ≠ b) (k : B) : if decide (V.str a = V.str b) = true then A else B := by
 rw [if_neg (fun e => h (V.str.inj (of_decide_eq_true e)))]; exact k
def cT (A : Adr) (o : Bool) : Addr := if o = true then A.c_Either else A.c_Both
def SyF (A : Adr) (pl : Str → V → V → Prop) (H : Hp) : Tr → V → Prop
 | .is n v, x => ∃ a dx p, x = .ref a ∧ H a = some (.ins A.c_Is dx [("name", .str n), ("word", v), ("place", p)]) ∧ pl n v p
 | .cmp n h m, x => ∃ a dx, x = .ref a ∧ H a = some (.ins A.c_Compare dx [("name", .str n), ("how", .str h), ("number", .int m)])
 | .neg t, x => ∃ a dx y, x = .ref a ∧ H a = some (.ins A.c_Not dx [("test", y)]) ∧ SyF A pl H t y
 | .two o s t, x => ∃ a dx y z, x = .ref a ∧ H a = some (.ins (cT A o) dx [("one", y), ("other", z)]) ∧ SyF A pl H s y ∧ SyF A pl H t z
theorem SyF.same {A : Adr} {pl : Str → V → V → Prop} {H H' : Hp} (s : Same H H') : ∀ {t : Tr} {x : V}, SyF A pl H t x → SyF A pl H' t x
 | .is _ _, _, ⟨a, dx, p, e, h, k⟩ => ⟨a, dx, p, e, s _ _ h, k⟩
 | .cmp _ _ _, _, ⟨a, dx, e, h⟩ => ⟨a, dx, e, s _ _ h⟩
 | .neg _, _, ⟨a, dx, y, e, h, k⟩ => ⟨a, dx, y, e, s _ _ h, SyF.same s k⟩
 | .two o _ _, _, ⟨a, dx, y, z, e, h, k, l⟩ => ⟨a, dx, y, z, e, s _ _ h, SyF.same s k, SyF.same s l⟩
theorem SyF.imp {A : Adr} {pl pl' : Str → V → V → Prop} {H : Hp} (m : ∀ n v p, pl n v p → pl' n v p) : ∀ {t : Tr} {x : V}, SyF A pl H t x → SyF A pl' H t x
 | .is _ _, _, ⟨a, dx, p, e, h, k⟩ => ⟨a, dx, p, e, h, m _ _ _ k⟩
 | .cmp _ _ _, _, ⟨a, dx, e, h⟩ => ⟨a, dx, e, h⟩
 | .neg _, _, ⟨a, dx, y, e, h, k⟩ => ⟨a, dx, y, e, h, SyF.imp m k⟩
 | .two o _ _, _, ⟨a, dx, y, z, e, h, k, l⟩ => ⟨a, dx, y, z, e, h, SyF.imp m k, SyF.imp m l⟩
theorem SyF.sb {A : Adr} {pl : Str → V → V → Prop} {H H' : Hp} {d : Addr} {u : HO} (s : SameB d H H') (hd : H d = some u) (hu : ∀ C dx fs, u ≠ .ins C dx fs) : ∀ {t : Tr} {x : V}, SyF A pl H t x → SyF A pl H' t x := by
 have k : ∀ {b C dx fs}, H b = some (.ins C dx fs) → H' b = some (.ins C dx fs) := fun {b C dx fs} e => s _ _ (by rintro rfl; rw [hd] at e; cases e; exact hu _ _ _ rfl) e
 intro t
 induction t with
 | is n v => rintro x ⟨a, dx, p, e, h, z⟩; exact ⟨a, dx, p, e, k h, z⟩
 | cmp n h m => rintro x ⟨a, dx, e, h⟩; exact ⟨a, dx, e, k h⟩
 | neg t ih => rintro x ⟨a, dx, y, e, h, j⟩; exact ⟨a, dx, y, e, k h, ih j⟩
 | two o s t ih1 ih2 => rintro x ⟨a, dx, y, z, e, h, j, l⟩; exact ⟨a, dx, y, z, e, k h, ih1 j, ih2 l⟩
abbrev SyR (A : Adr) (H : Hp) : Tr → V → Prop := SyF A (fun _ _ p => p = .non) H
abbrev SyP (A : Adr) (H : Hp) : Tr → V → Prop := SyF A (fun _ _ _ => True) H
def spIsI (A : Adr) : Sp := fun vs H Q _ => ∃ p dx u1 u2 u3, vs = [.ref p, u1, u2, u3] ∧ H p = some (.ins A.c_Is dx []) ∧ Q .non (upd H p (.ins A.c_Is dx [("name", u1), ("word", u2), ("place", u3)]))
def spCoI (A : Adr) : Sp := fun vs H Q _ => ∃ p dx u1 u2 u3, vs = [.ref p, u1, u2, u3] ∧ H p = some (.ins A.c_Compare dx []) ∧ Q .non (upd H p (.ins A.c_Compare dx [("name", u1), ("how", u2), ("number", u3)]))
def spNoI (A : Adr) : Sp := fun vs H Q _ => ∃ p dx u1, vs = [.ref p, u1] ∧ H p = some (.ins A.c_Not dx []) ∧ Q .non (upd H p (.ins A.c_Not dx [("test", u1)]))
def spPaI (A : Adr) : Sp := fun vs H Q _ => ∃ p dx u1 u2 o, vs = [.ref p, u1, u2] ∧ H p = some (.ins (cT A o) dx []) ∧ Q .non (upd H p (.ins (cT A o) dx [("one", u1), ("other", u2)]))
def spMade (A : Adr) (K : W.Frag) (n : Nat) : Sp := fun vs H Q _ => ∃ x t, vs = [x] ∧ TrR K H t x ∧ t.depth < n ∧ ∀ y H', Same H H' → SyR A H' t y → Q y H'
section
variable {P : Program} {w : World} {K : W.Frag} {mg : Str → Option Value} {base : Heap} {A : Adr}
theorem ok_is_init (T : Txt K mg A) : FnOk P w K mg base CX0 1 A.f_c_Is___init A.d_c_Is___init ["self", "name", "word", "place"] (spIsI A) := by
 refine T.F_c_Is___init.ok sc_c_Is___init (fun vs H Q E h => ?_) (fun cdv A0 outer s H vs Q E hr h => ?_)
 · obtain ⟨p, dx, u1, u2, u3, rfl, _⟩ := h
   rfl
 obtain ⟨p, dx, u1, u2, u3, rfl, hp, q⟩ := h
 refine ⟨_, (zE (ps_fld (pv 0) (pv 1) rfl)
     (zE (ps_fld (pv 0) (pv 2) rfl)
     (zF (ps_fld (pv 0) (pv 3) rfl)))), ?_⟩
 refine ⟨_, rfl, _, rfl, p, _, dx, _, rfl, hp, T.cl_Is, T.no_Is_name, by decide, ?_⟩
 refine ⟨_, rfl, _, rfl, p, _, dx, _, rfl, zB, T.cl_Is, T.no_Is_word, (by show 1 < 1000; decide), ?_⟩
 refine ⟨_, rfl, _, rfl, p, _, dx, _, rfl, zB, T.cl_Is, T.no_Is_place, (by show 2 < 1000; decide), ?_⟩
 rw [yC, yC]
 exact q
theorem ok_co_init (T : Txt K mg A) : FnOk P w K mg base CX0 1 A.f_c_Compare___init A.d_c_Compare___init ["self", "name", "how", "number"] (spCoI A) := by
 refine T.F_c_Compare___init.ok sc_c_Compare___init (fun vs H Q E h => ?_) (fun cdv A0 outer s H vs Q E hr h => ?_)
 · obtain ⟨p, dx, u1, u2, u3, rfl, _⟩ := h
   rfl
 obtain ⟨p, dx, u1, u2, u3, rfl, hp, q⟩ := h
 refine ⟨_, (zE (ps_fld (pv 0) (pv 1) rfl)
     (zE (ps_fld (pv 0) (pv 2) rfl)
     (zF (ps_fld (pv 0) (pv 3) rfl)))), ?_⟩
 refine ⟨_, rfl, _, rfl, p, _, dx, _, rfl, hp, T.cl_Compare, T.no_Compare_name, by decide, ?_⟩
 refine ⟨_, rfl, _, rfl, p, _, dx, _, rfl, zB, T.cl_Compare, T.no_Compare_how, (by show 1 < 1000; decide), ?_⟩
 refine ⟨_, rfl, _, rfl, p, _, dx, _, rfl, zB, T.cl_Compare, T.no_Compare_number, (by show 2 < 1000; decide), ?_⟩
 rw [yC, yC]
 exact q
theorem ok_no_init (T : Txt K mg A) : FnOk P w K mg base CX0 1 A.f_c_Not___init A.d_c_Not___init ["self", "test"] (spNoI A) := by
 refine T.F_c_Not___init.ok sc_c_Not___init (fun vs H Q E h => ?_) (fun cdv A0 outer s H vs Q E hr h => ?_)
 · obtain ⟨p, dx, u1, rfl, _⟩ := h
   rfl
 obtain ⟨p, dx, u1, rfl, hp, q⟩ := h
 refine ⟨_, (zF (ps_fld (pv 0) (pv 1) rfl)), ?_⟩
 exact ⟨_, rfl, _, rfl, p, _, dx, _, rfl, hp, T.cl_Not, T.no_Not_test, by decide, q⟩
theorem ok_pa_init (T : Txt K mg A) : FnOk P w K mg base CX0 1 A.f_c_Pair___init A.d_c_Pair___init ["self", "one", "other"] (spPaI A) := by
 refine T.F_c_Pair___init.ok sc_c_Pair___init (fun vs H Q E h => ?_) (fun cdv A0 outer s H vs Q E hr h => ?_)
 · obtain ⟨p, dx, u1, u2, o, rfl, _⟩ := h
   rfl
 obtain ⟨p, dx, u1, u2, o, rfl, hp, q⟩ := h
 refine ⟨_, (zE (ps_fld (pv 0) (pv 1) rfl)
     (zF (ps_fld (pv 0) (pv 2) rfl))), ?_⟩
 have cl : Cls K (cT A o) ∧ NoAttr K (cT A o) "one" ∧ NoAttr K (cT A o) "other" := by
   cases o
   · exact ⟨T.cl_Both, T.no_Both_one, T.no_Both_other⟩
   · exact ⟨T.cl_Either, T.no_Either_one, T.no_Either_other⟩
 refine ⟨_, rfl, _, rfl, p, _, dx, _, rfl, hp, cl.1, cl.2.1, by decide, ?_⟩
 refine ⟨_, rfl, _, rfl, p, _, dx, _, rfl, zB, cl.1, cl.2.2, (by show 1 < 1000; decide), ?_⟩
 rw [yC]
 exact q
theorem yK {H : Hp} {x dx : Addr} (nx : H x = none) (nd : H dx = none) (o : HO) : Same H (upd (upd H dx (.own x)) x o) := fun b u e => by
 rw [zJ (zN e nx), zJ (zN e nd)]; exact e
theorem ok_law_made (T : Txt K mg A) : ∀ n : Nat, FnOk P w K mg base CX0 (n + 3) A.f_law_made A.d_law_made ["_law_tree_here"] (spMade A K n)
 | 0 => by
   refine T.F_law_made.ok sc_law_made (fun vs H Q E h => ?_) (fun cdv A0 outer s H vs Q E hr h => ?_)
   · obtain ⟨x, t, rfl, _⟩ := h
     rfl
   · obtain ⟨x, t, rfl, _, hd, _⟩ := h
     exact absurd hd (by omega)
 | n + 1 => by
   have G_law_made := ok_law_made T n
   have G_c_Is___init := ok_is_init (P := P) (w := w) (base := base) T
   have G_c_Compare___init := ok_co_init (P := P) (w := w) (base := base) T
   have G_c_Not___init := ok_no_init (P := P) (w := w) (base := base) T
   have G_c_Pair___init := ok_pa_init (P := P) (w := w) (base := base) T
   refine T.F_law_made.ok sc_law_made (fun vs H Q E h => ?_) (fun cdv A0 outer s H vs Q E hr h => ?_)
   · obtain ⟨x, t, rfl, _⟩ := h
     rfl
   obtain ⟨x, t, rfl, htr, hd, q⟩ := h
   refine ⟨_, (zE (zX (zR yM (zM zP (pv 0) zC (fun _ _ => rfl)) zQ (zU _)) (zF (zK (yQ T.mk_Is G_c_Is___init (hr.mono (by first | decide | omega)) rfl T.m_Is T.bd_c_Is___init T.dv_c_Is___init zO (zA (zM zP (pv 0) zC (fun _ _ => rfl)) (zA (zM zP (pv 0) zC (fun _ _ => rfl)) zD))))) zS)
     (zE (zX (zR yM (zM zP (pv 0) zC (fun _ _ => rfl)) zQ (zU _)) (zF (zK (yQ T.mk_Compare G_c_Compare___init (hr.mono (by first | decide | omega)) rfl T.m_Compare T.b_c_Compare___init .nil zO (zA (zM zP (pv 0) zC (fun _ _ => rfl)) (zA (zM zP (pv 0) zC (fun _ _ => rfl)) (zA (zM zP (pv 0) zC (fun _ _ => rfl)) zD)))))) zS)
     (zE (zX (zR yM (zM zP (pv 0) zC (fun _ _ => rfl)) zQ (zU _)) (zF (zK (yQ T.mk_Not G_c_Not___init (hr.mono (by first | decide | omega)) rfl T.m_Not T.b_c_Not___init .nil zO (zA (zL G_law_made (hr.mono (by first | decide | omega)) rfl T.m_law_made T.k_law_made T.b_law_made .nil zO (zA (zM zP (pv 0) zC (fun _ _ => rfl)) zD)) zD)))) zS)
     (zE (zX (zR yM (zM zP (pv 0) zC (fun _ _ => rfl)) zQ (zU _)) (zF (zK (yQ T.mk_Both G_c_Pair___init (hr.mono (by first | decide | omega)) rfl T.m_Both T.b_c_Pair___init .nil zO (zA (zL G_law_made (hr.mono (by first | decide | omega)) rfl T.m_law_made T.k_law_made T.b_law_made .nil zO (zA (zM zP (pv 0) zC (fun _ _ => rfl)) zD)) (zA (zL G_law_made (hr.mono (by first | decide | omega)) rfl T.m_law_made T.k_law_made T.b_law_made .nil zO (zA (zM zP (pv 0) zC (fun _ _ => rfl)) zD)) zD))))) zS)
     (zF (zK (yQ T.mk_Either G_c_Pair___init (hr.mono (by first | decide | omega)) rfl T.m_Either T.b_c_Pair___init .nil zO (zA (zL G_law_made (hr.mono (by first | decide | omega)) rfl T.m_law_made T.k_law_made T.b_law_made .nil zO (zA (zM zP (pv 0) zC (fun _ _ => rfl)) zD)) (zA (zL G_law_made (hr.mono (by first | decide | omega)) rfl T.m_law_made T.k_law_made T.b_law_made .nil zO (zA (zM zP (pv 0) zC (fun _ _ => rfl)) zD)) zD))))))))), ?_⟩
   cases t with
   | is nm v =>
     obtain ⟨a, rfl, ha⟩ := htr
     have b0 : atI [V.str "is", V.str nm, v] ((0 : Nat) : Int) = some (.str "is") := zH rfl
     have b1 : atI [V.str "is", V.str nm, v] ((1 : Nat) : Int) = some (.str nm) := zH rfl
     have b2 : atI [V.str "is", V.str nm, v] ((2 : Nat) : Int) = some v := zH rfl
     refine ⟨_, rfl, a, _, _, _, rfl, rfl, ha, b0, rfl, _, rfl, eqS rfl ?_⟩
     refine ⟨_, rfl, a, _, _, _, rfl, rfl, ha, b1, _, rfl, a, _, _, _, rfl, rfl, ha, b2, fun x dx nx nd ne => ⟨x, dx, _, _, _, rfl, zB, rfl, ?_⟩⟩
     rw [yC]
     exact q _ _ (yK nx nd _) ⟨x, dx, _, rfl, zB, rfl⟩
   | cmp nm h m =>
     obtain ⟨a, rfl, ha⟩ := htr
     have b0 : atI [V.str "compare", V.str nm, .str h, .int m] ((0 : Nat) : Int) = some (.str "compare") := zH rfl
     have b1 : atI [V.str "compare", V.str nm, .str h, .int m] ((1 : Nat) : Int) = some (.str nm) := zH rfl
     have b2 : atI [V.str "compare", V.str nm, .str h, .int m] ((2 : Nat) : Int) = some (.str h) := zH rfl
     have b3 : atI [V.str "compare", V.str nm, .str h, .int m] ((3 : Nat) : Int) = some (.int m) := zH rfl
     refine ⟨_, rfl, a, _, _, _, rfl, rfl, ha, b0, rfl, _, rfl, neS (by decide) ?_⟩
     refine ⟨_, rfl, a, _, _, _, rfl, rfl, ha, b0, rfl, _, rfl, eqS rfl ?_⟩
     refine ⟨_, rfl, a, _, _, _, rfl, rfl, ha, b1, _, rfl, a, _, _, _, rfl, rfl, ha, b2, _, rfl, a, _, _, _, rfl, rfl, ha, b3, fun x dx nx nd ne => ⟨x, dx, _, _, _, rfl, zB, rfl, ?_⟩⟩
     rw [yC]
     exact q _ _ (yK nx nd _) ⟨x, dx, rfl, zB⟩
   | neg t =>
     obtain ⟨a, y, rfl, ha, ht⟩ := htr
     have b0 : atI [V.str "not", y] ((0 : Nat) : Int) = some (.str "not") := zH rfl
     have b1 : atI [V.str "not", y] ((1 : Nat) : Int) = some y := zH rfl
     refine ⟨_, rfl, a, _, _, _, rfl, rfl, ha, b0, rfl, _, rfl, neS (by decide) ?_⟩
     refine ⟨_, rfl, a, _, _, _, rfl, rfl, ha, b0, rfl, _, rfl, neS (by decide) ?_⟩
     refine ⟨_, rfl, a, _, _, _, rfl, rfl, ha, b0, rfl, _, rfl, eqS rfl ?_⟩
     have hd' : t.depth + 1 < n + 1 := hd
     refine ⟨_, rfl, a, _, _, _, rfl, rfl, ha, b1, y, t, rfl, ht, by omega, fun z H1 s1 h1 => ?_⟩
     intro x dx nx nd ne
     refine ⟨x, dx, _, rfl, zB, rfl, ?_⟩
     rw [yC]
     have s2 := yK nx nd (.ins A.c_Not dx [("test", z)])
     exact q _ _ (s1.trans s2) ⟨x, dx, z, rfl, zB, SyF.same s2 h1⟩
   | two o t1 t2 =>
     obtain ⟨a, y, z, rfl, ha, ht1, ht2⟩ := htr
     have hd' : 1 + max t1.depth t2.depth < n + 1 := hd
     have b1 : atI [V.str (hw o), y, z] ((1 : Nat) : Int) = some y := zH rfl
     have b2 : atI [V.str (hw o), y, z] ((2 : Nat) : Int) = some z := zH rfl
     have b0 : atI [V.str (hw o), y, z] ((0 : Nat) : Int) = some (.str (hw o)) := zH rfl
     cases o with
     | false =>
       refine ⟨_, rfl, a, _, _, _, rfl, rfl, ha, b0, rfl, _, rfl, neS (by decide) ?_⟩
       refine ⟨_, rfl, a, _, _, _, rfl, rfl, ha, b0, rfl, _, rfl, neS (by decide) ?_⟩
       refine ⟨_, rfl, a, _, _, _, rfl, rfl, ha, b0, rfl, _, rfl, neS (by decide) ?_⟩
       refine ⟨_, rfl, a, _, _, _, rfl, rfl, ha, b0, rfl, _, rfl, eqS rfl ?_⟩
       refine ⟨_, rfl, a, _, _, _, rfl, rfl, ha, b1, y, t1, rfl, ht1, by omega, fun y' H1 s1 h1 => ?_⟩
       have k1 := KT.of s1
       refine ⟨_, rfl, a, _, _, _, rfl, rfl, k1.sqT ha, b2, z, t2, rfl, k1.tr ht2, by omega, fun z' H2 s2 h2 => ?_⟩
       intro x dx nx nd ne
       refine ⟨x, dx, _, _, false, rfl, zB, rfl, ?_⟩
       rw [yC]
       have s3 := yK nx nd (.ins (cT A false) dx [("one", y'), ("other", z')])
       exact q _ _ (s1.trans (s2.trans s3)) ⟨x, dx, y', z', rfl, zB, SyF.same (s2.trans s3) h1, SyF.same s3 h2⟩
     | true =>
       refine ⟨_, rfl, a, _, _, _, rfl, rfl, ha, b0, rfl, _, rfl, neS (by decide) ?_⟩
       refine ⟨_, rfl, a, _, _, _, rfl, rfl, ha, b0, rfl, _, rfl, neS (by decide) ?_⟩
       refine ⟨_, rfl, a, _, _, _, rfl, rfl, ha, b0, rfl, _, rfl, neS (by decide) ?_⟩
       refine ⟨_, rfl, a, _, _, _, rfl, rfl, ha, b0, rfl, _, rfl, neS (by decide) ?_⟩
       refine ⟨_, rfl, a, _, _, _, rfl, rfl, ha, b1, y, t1, rfl, ht1, by omega, fun y' H1 s1 h1 => ?_⟩
       have k1 := KT.of s1
       refine ⟨_, rfl, a, _, _, _, rfl, rfl, k1.sqT ha, b2, z, t2, rfl, k1.tr ht2, by omega, fun z' H2 s2 h2 => ?_⟩
       intro x dx nx nd ne
       refine ⟨x, dx, _, _, true, rfl, zB, rfl, ?_⟩
       rw [yC]
       have s3 := yK nx nd (.ins (cT A true) dx [("one", y'), ("other", z')])
       exact q _ _ (s1.trans (s2.trans s3)) ⟨x, dx, y', z', rfl, zB, SyF.same (s2.trans s3) h1, SyF.same s3 h2⟩
end
end K16
set_option maxHeartbeats 4000000
namespace K16
open PySem L2
seal PE PT PW PA PS PSs PG PGs PI PO PSet OpR UnR CallR TruR IxR SlR PC PPs
local macro_rules | `(tactic| walk_at "rd1") => `(tactic| first
 | (refine And.intro rfl ?_)
 | (refine And.intro (by assumption) ?_)
 | (refine And.intro (fun _ e => e) ?_)
 | (refine And.intro (TyOf.str _) ?_) | (refine And.intro (TyOf.int _) ?_) | (refine And.intro (TyOf.bl _) ?_) | (refine And.intro TyOf.non ?_)
 | (refine iteT ?_) | (refine iteF ?_)
 | (apply Exists.intro))
local macro_rules | `(tactic| walk_at "rd") => `(tactic| repeat (walk_at "rd1"))
def sv : V → Str
 | .str z => z
 | _ => ""
def wL : Tr → List (List Nat)
 | .is n v => [cd n, cd (Str.ofString "is"), cd (sv v)]
 | .cmp n h m => [cd n, cd h, numL m]
 | .neg t => cd (Str.ofString "not") :: wL t
 | .two o s t => cd (Str.ofString "(") :: (wL s ++ (cd (hw o) :: (wL t ++ [cd (Str.ofString ")")])))
def txL (t : Tr) : List Nat := joinL [32] (wL t)
theorem wL_ne : ∀ t : Tr, wL t ≠ []
 | .is _ _ => by intro e; cases e
 | .cmp _ _ _ => by intro e; cases e
 | .neg _ => by intro e; cases e
 | .two _ _ _ => by intro e; cases e
theorem joinL_cons {s a : List Nat} {r : List (List Nat)} (h : r ≠ []) : joinL s (a :: r) = a ++ s ++ joinL s r := by
 cases r with
 | nil => exact absurd rfl h
 | cons b r => rfl
theorem joinL_app {s : List Nat} : ∀ {a b : List (List Nat)}, a ≠ [] → b ≠ [] → joinL s (a ++ b) = joinL s a ++ s ++ joinL s b
 | [], _, h, _ => absurd rfl h
 | [x], b, _, hb => by rw [List.singleton_append, joinL_cons hb]; rfl
 | x :: y :: r, b, _, hb => by
   rw [List.cons_append, joinL_cons (by simp), joinL_app (a := y :: r) (by simp) hb, joinL_cons (a := x) (by simp)]
   simp [List.append_assoc]
theorem txL_neg (t : Tr) : txL (.neg t) = cd (Str.ofString "not ") ++ txL t := by
 unfold txL
 rw [show wL (.neg t) = cd (Str.ofString "not") :: wL t from rfl, joinL_cons (wL_ne t)]
 rfl
theorem txL_two (o : Bool) (s t : Tr) : txL (.two o s t) = ((((cd (Str.ofString "( ") ++ txL s) ++ cd (Str.ofString " ")) ++ cd (hw o)) ++ cd (Str.ofString " ")) ++ txL t ++ cd (Str.ofString " )") := by
 unfold txL
 rw [show wL (.two o s t) = cd (Str.ofString "(") :: (wL s ++ (cd (hw o) :: (wL t ++ [cd (Str.ofString ")")]))) from rfl, joinL_cons (by simp), joinL_app (wL_ne s) (by simp), joinL_cons (by simp), joinL_app (wL_ne t) (by simp)]
 have e1 : cd (Str.ofString "( ") = cd (Str.ofString "(") ++ [32] := by symm
 have e2 : cd (Str.ofString " ") = [32] := by symm
 have e3 : cd (Str.ofString " )") = [32] ++ cd (Str.ofString ")") := by symm
 rw [e1, e2, e3]
 show _ ++ [32] ++ (_ ++ [32] ++ (_ ++ [32] ++ (_ ++ [32] ++ cd (Str.ofString ")")))) = _
 simp [List.append_assoc]
theorem txL_is (n : Str) (v : V) : txL (.is n v) = cd n ++ cd (Str.ofString " is ") ++ cd (sv v) := by
 show cd n ++ [32] ++ (cd (Str.ofString "is") ++ [32] ++ cd (sv v)) = _
 rw [show cd (Str.ofString " is ") = [32] ++ cd (Str.ofString "is") ++ [32] by symm]
 simp [List.append_assoc]
theorem txL_cmp (n h : Str) (m : Int) : txL (.cmp n h m) = cd n ++ cd (Str.ofString " ") ++ cd h ++ cd (Str.ofString " ") ++ numL m := by
 show cd n ++ [32] ++ (cd h ++ [32] ++ numL m) = _
 rw [show cd (Str.ofString " ") = [32] by symm]
 simp [List.append_assoc]
theorem how_cd {h : Str} (hh : h = "<" ∨ h = "=" ∨ h = ">") : (cd h).length = 1 ∧ 32 ∉ cd h := by
 rcases hh with rfl | rfl | rfl <;> exact ⟨by symm, by symm⟩
theorem hw_cd (o : Bool) : (cd (hw o)).length ≤ 3 ∧ 32 ∉ cd (hw o) := by cases o <;> exact ⟨by symm, by symm⟩
theorem numL_len {m : Int} (h : m.natAbs < 10 ^ 60) : (numL m).length ≤ 61 := by
 have := dig_len (k := 60) (by decide) h
 unfold numL
 split
 · rw [List.length_cons]; omega
 · omega
theorem txL_len {zs : List Str} : ∀ {t : Tr}, t.Ok zs → (txL t).length ≤ 100 * (t.size * t.depth)
 | .is n v, h => by
   obtain ⟨h1, w, rfl, h2⟩ := h
   have a := (name_let h1).1
   have b := (name_let h2).1
   rw [len_cd] at a b
   rw [txL_is, List.length_append, List.length_append]
   show (cd n).length + 4 + (cd w).length ≤ 100
   omega
 | .cmp n x m, h => by
   obtain ⟨h1, h2, h3⟩ := h
   have a := (name_let h1).1
   rw [len_cd] at a
   have b := (how_cd h2).1
   have c := numL_len h3
   rw [txL_cmp, List.length_append, List.length_append, List.length_append, List.length_append]
   show (cd n).length + 1 + (cd x).length + 1 + (numL m).length ≤ 100
   omega
 | .neg t, h => by
   have ih := txL_len (t := t) h
   rw [txL_neg, List.length_append]
   show 4 + (txL t).length ≤ 100 * (t.size * (t.depth + 1))
   have := t.size_pos
   rw [Nat.mul_add]; omega
 | .two o s t, h => by
   have i1 := txL_len h.1
   have i2 := txL_len h.2
   rw [txL_two, List.length_append, List.length_append, List.length_append, List.length_append, List.length_append, List.length_append]
   have e := (hw_cd o).1
   show 2 + (txL s).length + 1 + (cd (hw o)).length + 1 + (txL t).length + 2 ≤ 100 * ((s.size + t.size) * (1 + max s.depth t.depth))
   have p1 := s.size_pos
   have p2 : s.size * s.depth ≤ s.size * max s.depth t.depth := Nat.mul_le_mul_left _ (Nat.le_max_left _ _)
   have p3 : t.size * t.depth ≤ t.size * max s.depth t.depth := Nat.mul_le_mul_left _ (Nat.le_max_right _ _)
   rw [Nat.mul_add, Nat.mul_one, Nat.add_mul]
   omega
theorem two_bound {o : Bool} {s t : Tr} (h : (Tr.two o s t).size * (Tr.two o s t).depth ≤ 1000) : s.size * s.depth ≤ 1000 ∧ t.size * t.depth ≤ 1000 := by
 have h' : (s.size + t.size) * (1 + max s.depth t.depth) ≤ 1000 := h
 have a : s.size * s.depth ≤ (s.size + t.size) * (1 + max s.depth t.depth) := Nat.mul_le_mul (Nat.le_add_right _ _) (by omega)
 have b : t.size * t.depth ≤ (s.size + t.size) * (1 + max s.depth t.depth) := Nat.mul_le_mul (Nat.le_add_left _ _) (by omega)
 omega
theorem neg_bound {t : Tr} (h : (Tr.neg t).size * (Tr.neg t).depth ≤ 1000) : t.size * t.depth ≤ 1000 := by
 have h' : t.size * (t.depth + 1) ≤ 1000 := h
 have : t.size * t.depth ≤ t.size * (t.depth + 1) := Nat.mul_le_mul_left _ (by omega)
 omega
end K16
set_option maxHeartbeats 4000000
namespace K16
open PySem L2
seal PE PT PW PA PS PSs PG PGs PI PO PSet OpR UnR CallR TruR IxR SlR PC PPs
local macro_rules | `(tactic| walk_at "rd1") => `(tactic| first
 | (refine And.intro rfl ?_)
 | (refine And.intro (by assumption) ?_)
 | (refine And.intro (fun _ e => e) ?_)
 | (refine And.intro (TyOf.str _) ?_) | (refine And.intro (TyOf.int _) ?_) | (refine And.intro (TyOf.bl _) ?_) | (refine And.intro TyOf.non ?_)
 | (refine iteT ?_) | (refine iteF ?_)
 | (apply Exists.intro))
local macro_rules | `(tactic| walk_at "rd") => `(tactic| repeat (walk_at "rd1"))
theorem yG (x y : Str) : (x ++ y).length = x.length + y.length := by rw [len_cd, xF, List.length_append, ← len_cd, ← len_cd]
theorem yZ {n : Nat} (h : n ≤ 200000) : n ≤ sizeLine := Nat.le_trans h (by decide)
theorem log_ok {m : Int} (h : m.natAbs < 10 ^ 60) : m.natAbs.log2 < 1920 := by
 by_cases z : m.natAbs = 0
 · rw [z]; decide
 · exact (Nat.log2_lt z).mpr (Nat.lt_of_lt_of_le h (by symm))
def kd : Tr → Nat
 | .is _ _ => 0
 | .cmp _ _ _ => 1
 | .neg _ => 2
 | .two false _ _ => 3
 | .two true _ _ => 4
section
variable {P : Program} {w : World} {K : W.Frag} {mg : Str → Option Value} {base : Heap} {A : Adr}
theorem is_txt (n w : Str) : (n ++ Str.ofString " is ") ++ w = S (txL (.is n (.str w))) := cd_inj (by rw [xF, xF, cd_S, txL_is]; rfl)
theorem cmp_txt (n h : Str) (m : Int) : (((n ++ Str.ofString " ") ++ h) ++ Str.ofString " ") ++ ((toString m : String) : Str) = S (txL (.cmp n h m)) := cd_inj (by rw [xF, xF, xF, xF, cd_S, txL_cmp, str_is, cd_S])
theorem neg_txt (t : Tr) : Str.ofString "not " ++ S (txL t) = S (txL (.neg t)) := cd_inj (by rw [xF, cd_S, cd_S, txL_neg])
theorem two_txt (o : Bool) (s t : Tr) : (((((Str.ofString "( " ++ S (txL s)) ++ Str.ofString " ") ++ hw o) ++ Str.ofString " ") ++ S (txL t)) ++ Str.ofString " )" = S (txL (.two o s t)) := cd_inj (by rw [xF, xF, xF, xF, xF, xF, cd_S, cd_S, cd_S, txL_two])
end
def spSh (A : Adr) (j n : Nat) : Sp := fun vs H Q _ => ∃ (x : V) (t : Tr) (zs : List Str), vs = [x] ∧ SyP A H t x ∧ t.depth < n ∧ kd t = j ∧ t.Ok zs ∧ t.size * t.depth ≤ 1000 ∧ Q (.str (S (txL t))) H
def spSW (A : Adr) (n : Nat) : Sp := fun vs H Q _ => ∃ (x : V) (o : Bool) (s t : Tr) (zs : List Str), vs = [x, .str (hw o)] ∧ SyP A H (.two o s t) x ∧ s.depth < n ∧ t.depth < n ∧ (Tr.two o s t).Ok zs ∧ (Tr.two o s t).size * (Tr.two o s t).depth ≤ 1000 ∧ Q (.str (S (txL (.two o s t)))) H
structure ShOk (P : Program) (w : World) (K : W.Frag) (mg : Str → Option Value) (base : Heap) (A : Adr) (n k : Nat) : Prop where
 a : FnOk P w K mg base CX0 k A.f_c_Is_shown A.d_c_Is_shown ["self"] (spSh A 0 n)
 b : FnOk P w K mg base CX0 k A.f_c_Compare_shown A.d_c_Compare_shown ["self"] (spSh A 1 n)
 c : FnOk P w K mg base CX0 k A.f_c_Not_shown A.d_c_Not_shown ["self"] (spSh A 2 n)
 d : FnOk P w K mg base CX0 k A.f_c_Both_shown A.d_c_Both_shown ["self"] (spSh A 3 n)
 e : FnOk P w K mg base CX0 k A.f_c_Either_shown A.d_c_Either_shown ["self"] (spSh A 4 n)
section
variable {P : Program} {w : World} {K : W.Frag} {mg : Str → Option Value} {base : Heap} {A : Adr}
theorem shown_of (T : Txt K mg A) {n k : Nat} (ih : ShOk P w K mg base A n k) {t : Tr} {x : V} {H : Hp} (hs : SyP A H t x) :
   ∃ (a C dx : Addr) (fs : List (Str × V)) (M : MethJ P w K mg base CX0 k C "shown"), x = .ref a ∧ H a = some (.ins C dx fs) ∧ fs.lookup (Str.ofString "shown") = none ∧ M.dvs = [] ∧ M.sp = spSh A (kd t) n := by
 cases t with
 | is nm v =>
   obtain ⟨a, dx, p, rfl, h, _⟩ := hs
   exact ⟨a, _, dx, _, ⟨A.f_c_Is_shown, A.d_c_Is_shown, ["self"], spSh A 0 n, [], [], T.cl_Is, T.me_Is_shown, ih.a, T.b_c_Is_shown, .nil⟩, rfl, h, rfl, rfl, rfl⟩
 | cmp nm h m =>
   obtain ⟨a, dx, rfl, h⟩ := hs
   exact ⟨a, _, dx, _, ⟨A.f_c_Compare_shown, A.d_c_Compare_shown, ["self"], spSh A 1 n, [], [], T.cl_Compare, T.me_Compare_shown, ih.b, T.b_c_Compare_shown, .nil⟩, rfl, h, rfl, rfl, rfl⟩
 | neg t =>
   obtain ⟨a, dx, y, rfl, h, _⟩ := hs
   exact ⟨a, _, dx, _, ⟨A.f_c_Not_shown, A.d_c_Not_shown, ["self"], spSh A 2 n, [], [], T.cl_Not, T.me_Not_shown, ih.c, T.b_c_Not_shown, .nil⟩, rfl, h, rfl, rfl, rfl⟩
 | two o s t =>
   obtain ⟨a, dx, y, z, rfl, h, _⟩ := hs
   cases o with
   | false => exact ⟨a, _, dx, _, ⟨A.f_c_Both_shown, A.d_c_Both_shown, ["self"], spSh A 3 n, [], [], T.cl_Both, T.me_Both_shown, ih.d, T.b_c_Both_shown, .nil⟩, rfl, h, rfl, rfl, rfl⟩
   | true => exact ⟨a, _, dx, _, ⟨A.f_c_Either_shown, A.d_c_Either_shown, ["self"], spSh A 4 n, [], [], T.cl_Either, T.me_Either_shown, ih.e, T.b_c_Either_shown, .nil⟩, rfl, h, rfl, rfl, rfl⟩
theorem swith_of (T : Txt K mg A) {n k : Nat} (ih : FnOk P w K mg base CX0 k A.f_c_Pair_shown_with A.d_c_Pair_shown_with ["self", "word"] (spSW A n)) {o : Bool} {s t : Tr} {x : V} {H : Hp} (hs : SyP A H (.two o s t) x) :
   ∃ (a C dx : Addr) (fs : List (Str × V)) (M : MethJ P w K mg base CX0 k C "shown_with"), x = .ref a ∧ H a = some (.ins C dx fs) ∧ fs.lookup (Str.ofString "shown_with") = none ∧ M.dvs = [] ∧ M.sp = spSW A n := by
 obtain ⟨a, dx, y, z, rfl, h, _⟩ := hs
 cases o with
 | false => exact ⟨a, _, dx, _, ⟨A.f_c_Pair_shown_with, A.d_c_Pair_shown_with, ["self", "word"], spSW A n, [], [], T.cl_Both, T.me_Both_shown_with, ih, T.b_c_Pair_shown_with, .nil⟩, rfl, h, rfl, rfl, rfl⟩
 | true => exact ⟨a, _, dx, _, ⟨A.f_c_Pair_shown_with, A.d_c_Pair_shown_with, ["self", "word"], spSW A n, [], [], T.cl_Either, T.me_Either_shown_with, ih, T.b_c_Pair_shown_with, .nil⟩, rfl, h, rfl, rfl, rfl⟩
theorem ok_is_shown (T : Txt K mg A) {n k : Nat} : FnOk P w K mg base CX0 (k + 1) A.f_c_Is_shown A.d_c_Is_shown ["self"] (spSh A 0 n) := by
 refine T.F_c_Is_shown.ok sc_c_Is_shown (fun vs H Q E h => ?_) (fun cdv A0 outer s H vs Q E hr h => ?_)
 · obtain ⟨x, t, zs, rfl, _⟩ := h
   rfl
 obtain ⟨x, t, zs, rfl, hs, hd, hk, hok, hb, q⟩ := h
 refine ⟨_, (zF (zK (zI yD (zI yD (zV (pv 0) rfl) zQ) (zV (pv 0) rfl)))), ?_⟩
 cases t with
 | is nm v =>
   obtain ⟨a, dx, p, rfl, h, _⟩ := hs
   obtain ⟨hn, wd, rfl, hwn⟩ := hok
   have l1 := (name_let hn).1
   have l2 := (name_let hwn).1
   refine ⟨_, rfl, a, _, dx, _, _, rfl, h, T.cl_Is, T.no_Is_name, rfl, _, _, rfl, rfl, yZ (by show nm.length + 4 ≤ _; omega), ?_⟩
   refine ⟨_, rfl, a, _, dx, _, _, rfl, h, T.cl_Is, T.no_Is_word, rfl, _, _, rfl, rfl, yZ (by rw [yG]; show nm.length + 4 + _ ≤ _; omega), ?_⟩
   rw [is_txt]; exact q
 | cmp _ _ _ => cases hk
 | neg _ => cases hk
 | two o _ _ => cases o <;> cases hk
theorem ok_co_shown (T : Txt K mg A) {n k : Nat} : FnOk P w K mg base CX0 (k + 1) A.f_c_Compare_shown A.d_c_Compare_shown ["self"] (spSh A 1 n) := by
 refine T.F_c_Compare_shown.ok sc_c_Compare_shown (fun vs H Q E h => ?_) (fun cdv A0 outer s H vs Q E hr h => ?_)
 · obtain ⟨x, t, zs, rfl, _⟩ := h
   rfl
 obtain ⟨x, t, zs, rfl, hs, hd, hk, hok, hb, q⟩ := h
 refine ⟨_, (zF (zK (zI yD (zI yD (zI yD (zI yD (zV (pv 0) rfl) zQ) (zV (pv 0) rfl)) zQ) (pe_callTy call_str_int (by rfl) T.n_str Bt.str (zA (zV (pv 0) rfl) zD))))), ?_⟩
 cases t with
 | cmp nm h m =>
   obtain ⟨a, dx, rfl, ho⟩ := hs
   obtain ⟨hn, hh, hm⟩ := hok
   have l1 := (name_let hn).1
   have l2 := (how_cd hh).1
   rw [← len_cd] at l2
   have l3 := numL_len hm
   refine ⟨_, rfl, a, _, dx, _, _, rfl, ho, T.cl_Compare, T.no_Compare_name, rfl, _, _, rfl, rfl, yZ (by show nm.length + 1 ≤ _; omega), ?_⟩
   refine ⟨_, rfl, a, _, dx, _, _, rfl, ho, T.cl_Compare, T.no_Compare_how, rfl, _, _, rfl, rfl, yZ (by rw [yG]; show nm.length + 1 + _ ≤ _; omega), ?_⟩
   refine ⟨_, _, rfl, rfl, yZ (by rw [yG, yG]; show nm.length + 1 + h.length + 1 ≤ _; omega), ?_⟩
   refine ⟨_, rfl, a, _, dx, _, _, rfl, ho, T.cl_Compare, T.no_Compare_number, rfl, _, rfl, log_ok hm, _, _, rfl, rfl, yZ (by rw [yG, yG, yG, str_is, len_S]; show nm.length + 1 + h.length + 1 + _ ≤ _; omega), ?_⟩
   rw [cmp_txt]; exact q
 | is _ _ => cases hk
 | neg _ => cases hk
 | two o _ _ => cases o <;> cases hk
theorem ok_no_shown (T : Txt K mg A) {n kr k : Nat} (hle : kr ≤ k) (ih : ShOk P w K mg base A n kr) : FnOk P w K mg base CX0 (k + 1) A.f_c_Not_shown A.d_c_Not_shown ["self"] (spSh A 2 (n + 1)) := by
 refine T.F_c_Not_shown.ok sc_c_Not_shown (fun vs H Q E h => ?_) (fun cdv A0 outer s H vs Q E hr h => ?_)
 · obtain ⟨x, t, zs, rfl, _⟩ := h
   rfl
 obtain ⟨x, t, zs, rfl, hs, hd, hk, hok, hb, q⟩ := h
 refine ⟨_, (zF (zK (zI yD zQ (pe_methG0 (CX := CX0) (k := kr) (hr.mono (by first | decide | omega)) zO (zV (pv 0) rfl))))), ?_⟩
 cases t with
 | neg t =>
   obtain ⟨a, dx, y, rfl, h, hs1⟩ := hs
   have hd' : t.depth + 1 < n + 1 := hd
   have l1 := txL_len (t := t) hok
   have l2 := neg_bound hb
   obtain ⟨a1, C1, dx1, fs1, M, ey, h1, hl, hdv, hsp⟩ := shown_of T ih hs1
   refine ⟨_, rfl, a, _, dx, _, _, rfl, h, T.cl_Not, T.no_Not_test, rfl, a1, C1, dx1, fs1, M, ey, h1, hl, ?_⟩
   dsimp only [tNil]
   rw [hdv, hsp]
   refine ⟨y, t, zs, rfl, hs1, by omega, rfl, hok, l2, _, _, rfl, rfl, yZ (by rw [len_S]; show 4 + _ ≤ _; omega), ?_⟩
   rw [neg_txt]; exact q
 | is _ _ => cases hk
 | cmp _ _ _ => cases hk
 | two o _ _ => cases o <;> cases hk
theorem ok_pa_swith (T : Txt K mg A) {n kr : Nat} (ih : ShOk P w K mg base A n kr) : FnOk P w K mg base CX0 (kr + 1) A.f_c_Pair_shown_with A.d_c_Pair_shown_with ["self", "word"] (spSW A n) := by
 refine T.F_c_Pair_shown_with.ok sc_c_Pair_shown_with (fun vs H Q E h => ?_) (fun cdv A0 outer s H vs Q E hr h => ?_)
 · obtain ⟨x, o, s, t, zs, rfl, _⟩ := h
   rfl
 obtain ⟨x, o, t1, t2, zs, rfl, hs, hd1, hd2, hok, hb, q⟩ := h
 refine ⟨_, (zF (zK (zI yD (zI yD (zI yD (zI yD (zI yD (zI yD zQ (pe_methG0 (CX := CX0) (k := kr) (hr.mono (by first | decide | omega)) zO (zV (pv 0) rfl))) zQ) (pv 1)) zQ) (pe_methG0 (CX := CX0) (k := kr) (hr.mono (by first | decide | omega)) zO (zV (pv 0) rfl))) zQ))), ?_⟩
 have hlen := txL_len hok
 obtain ⟨p1, p2⟩ := two_bound hb
 rw [txL_two, List.length_append, List.length_append, List.length_append, List.length_append, List.length_append, List.length_append] at hlen
 have hlen : 2 + (txL t1).length + 1 + (cd (hw o)).length + 1 + (txL t2).length + 2 ≤ 100000 := Nat.le_trans hlen (by omega)
 obtain ⟨a, dx, y, z, rfl, h, hs1, hs2⟩ := hs
 have cl : Cls K (cT A o) ∧ NoAttr K (cT A o) "one" ∧ NoAttr K (cT A o) "other" := by
   cases o
   · exact ⟨T.cl_Both, T.no_Both_one, T.no_Both_other⟩
   · exact ⟨T.cl_Either, T.no_Either_one, T.no_Either_other⟩
 obtain ⟨a1, C1, dx1, fs1, M, ey, h1, hl, hdv, hsp⟩ := shown_of T ih hs1
 refine ⟨_, rfl, a, _, dx, _, _, rfl, h, cl.1, cl.2.1, rfl, a1, C1, dx1, fs1, M, ey, h1, hl, ?_⟩
 dsimp only [tNil]
 rw [hdv, hsp]
 refine ⟨y, t1, zs, rfl, hs1, hd1, rfl, hok.1, p1, _, _, rfl, rfl, yZ (by rw [len_S]; show 2 + _ ≤ _; omega), ?_⟩
 refine ⟨_, _, rfl, rfl, yZ (by rw [yG, len_S]; show 2 + _ + 1 ≤ _; omega), ?_⟩
 refine ⟨_, rfl, _, _, rfl, rfl, yZ (by rw [yG, yG, len_S, len_cd (hw o)]; show 2 + _ + 1 + _ ≤ _; omega), ?_⟩
 refine ⟨_, _, rfl, rfl, yZ (by rw [yG, yG, yG, len_S, len_cd (hw o)]; show 2 + _ + 1 + _ + 1 ≤ _; omega), ?_⟩
 obtain ⟨a2, C2, dx2, fs2, M2, ez, h2, hl2, hdv2, hsp2⟩ := shown_of T ih hs2
 refine ⟨_, rfl, a, _, dx, _, _, rfl, h, cl.1, cl.2.2, rfl, a2, C2, dx2, fs2, M2, ez, h2, hl2, ?_⟩
 dsimp only [tNil]
 rw [hdv2, hsp2]
 refine ⟨z, t2, zs, rfl, hs2, hd2, rfl, hok.2, p2, _, _, rfl, rfl, yZ (by rw [yG, yG, yG, yG, len_S, len_S, len_cd (hw o)]; show 2 + _ + 1 + _ + 1 + _ ≤ _; omega), ?_⟩
 refine ⟨_, _, rfl, rfl, yZ (by rw [yG, yG, yG, yG, yG, len_S, len_S, len_cd (hw o)]; show 2 + _ + 1 + _ + 1 + _ + 2 ≤ _; omega), ?_⟩
 rw [two_txt]; exact q
theorem ok_bo_shown (T : Txt K mg A) {n kb : Nat} (ih : FnOk P w K mg base CX0 kb A.f_c_Pair_shown_with A.d_c_Pair_shown_with ["self", "word"] (spSW A n)) : FnOk P w K mg base CX0 (kb + 1) A.f_c_Both_shown A.d_c_Both_shown ["self"] (spSh A 3 (n + 1)) := by
 refine T.F_c_Both_shown.ok sc_c_Both_shown (fun vs H Q E h => ?_) (fun cdv A0 outer s H vs Q E hr h => ?_)
 · obtain ⟨x, t, zs, rfl, _⟩ := h
   rfl
 obtain ⟨x, t, zs, rfl, hs, hd, hk, hok, hb, q⟩ := h
 refine ⟨_, (zF (zK (yO (CX := CX0) (k := kb) (hr.mono (by first | decide | omega)) zO (pv 0) (zA zQ zD)))), ?_⟩
 cases t with
 | two o t1 t2 =>
   cases o with
   | true => cases hk
   | false =>
     have hd' : 1 + max t1.depth t2.depth < n + 1 := hd
     obtain ⟨a1, C1, dx1, fs1, M, ey, h1, hl, hdv, hsp⟩ := swith_of T ih hs
     refine ⟨_, rfl, a1, C1, dx1, fs1, M, ey, h1, hl, ?_⟩
     rw [hdv, hsp]
     exact ⟨x, false, t1, t2, zs, rfl, hs, by omega, by omega, hok, hb, q⟩
 | is _ _ => cases hk
 | cmp _ _ _ => cases hk
 | neg _ => cases hk
theorem ok_ei_shown (T : Txt K mg A) {n kb : Nat} (ih : FnOk P w K mg base CX0 kb A.f_c_Pair_shown_with A.d_c_Pair_shown_with ["self", "word"] (spSW A n)) : FnOk P w K mg base CX0 (kb + 1) A.f_c_Either_shown A.d_c_Either_shown ["self"] (spSh A 4 (n + 1)) := by
 refine T.F_c_Either_shown.ok sc_c_Either_shown (fun vs H Q E h => ?_) (fun cdv A0 outer s H vs Q E hr h => ?_)
 · obtain ⟨x, t, zs, rfl, _⟩ := h
   rfl
 obtain ⟨x, t, zs, rfl, hs, hd, hk, hok, hb, q⟩ := h
 refine ⟨_, (zF (zK (yO (CX := CX0) (k := kb) (hr.mono (by first | decide | omega)) zO (pv 0) (zA zQ zD)))), ?_⟩
 cases t with
 | two o t1 t2 =>
   cases o with
   | false => cases hk
   | true =>
     have hd' : 1 + max t1.depth t2.depth < n + 1 := hd
     obtain ⟨a1, C1, dx1, fs1, M, ey, h1, hl, hdv, hsp⟩ := swith_of T ih hs
     refine ⟨_, rfl, a1, C1, dx1, fs1, M, ey, h1, hl, ?_⟩
     rw [hdv, hsp]
     exact ⟨x, true, t1, t2, zs, rfl, hs, by omega, by omega, hok, hb, q⟩
 | is _ _ => cases hk
 | cmp _ _ _ => cases hk
 | neg _ => cases hk
theorem ok_shown (T : Txt K mg A) : ∀ n : Nat, ShOk P w K mg base A n (2 * n + 1)
 | 0 => by
   have len : ∀ (j : Nat) (vs : List V) (H : Hp) (Q : VK) (E : XK), spSh A j 0 vs H Q E → False := fun j vs H Q E h => by
     obtain ⟨x, t, zs, rfl, _, hd, _⟩ := h
     exact absurd hd (by omega)
   exact ⟨⟨fun vs H Q E h => (len _ _ _ _ _ h).elim, fun _ _ _ _ _ _ _ _ _ _ _ _ _ h => (len _ _ _ _ _ h).elim⟩, ⟨fun vs H Q E h => (len _ _ _ _ _ h).elim, fun _ _ _ _ _ _ _ _ _ _ _ _ _ h => (len _ _ _ _ _ h).elim⟩, ⟨fun vs H Q E h => (len _ _ _ _ _ h).elim, fun _ _ _ _ _ _ _ _ _ _ _ _ _ h => (len _ _ _ _ _ h).elim⟩, ⟨fun vs H Q E h => (len _ _ _ _ _ h).elim, fun _ _ _ _ _ _ _ _ _ _ _ _ _ h => (len _ _ _ _ _ h).elim⟩, ⟨fun vs H Q E h => (len _ _ _ _ _ h).elim, fun _ _ _ _ _ _ _ _ _ _ _ _ _ h => (len _ _ _ _ _ h).elim⟩⟩
 | n + 1 =>
   have ih := ok_shown T n
   have bs := ok_pa_swith T ih
   ⟨ok_is_shown T, ok_co_shown T, ok_no_shown (k := 2 * n + 2) T (by omega) ih, ok_bo_shown T bs, ok_ei_shown T bs⟩
end
end K16
set_option maxHeartbeats 4000000
namespace K16
open PySem L2
seal PE PT PW PA PS PSs PG PGs PI PO PSet OpR UnR CallR TruR IxR SlR PC PPs
local macro_rules | `(tactic| walk_at "rd1") => `(tactic| first
 | (refine And.intro rfl ?_)
 | (refine And.intro (by assumption) ?_)
 | (refine And.intro (fun _ e => e) ?_)
 | (refine And.intro (TyOf.str _) ?_) | (refine And.intro (TyOf.int _) ?_) | (refine And.intro (TyOf.bl _) ?_) | (refine And.intro TyOf.non ?_)
 | (refine iteT ?_) | (refine iteF ?_)
 | (apply Exists.intro))
local macro_rules | `(tactic| walk_at "rd") => `(tactic| repeat (walk_at "rd1"))
abbrev YN : List (Str × Bool) := [("yes", true), ("no", false)]
def ixOf (ws : List Str) (z : Str) : Nat := ws.findIdx fun y => y == z
theorem idx_of {ws : List Str} {z : Str} (h : z ∈ ws) : IdxOf (.str z) (ws.map V.str) (ixOf ws z) := by
 have hx : ∃ y ∈ ws, (y == z) = true := ⟨z, h, beq_self_eq_true z⟩
 have hl : ixOf ws z < ws.length := List.findIdx_lt_length_of_exists hx
 refine ⟨.str (ws[ixOf ws z]'hl), ?_, ?_, fun m y hm hy => ?_⟩
 · rw [List.getElem?_map, List.getElem?_eq_getElem hl]; rfl
 · show (ws[ixOf ws z]'hl == z) = true
   exact List.findIdx_getElem (w := hl)
 · obtain ⟨y', hy', rfl⟩ := map_get hy
   show (y' == z) = false
   obtain ⟨hm', e⟩ := List.getElem?_eq_some_iff.mp hy'
   have := List.not_of_lt_findIdx (p := fun y => y == z) hm
   rw [← e]
   simpa using this
def okI (F : KF) (ws : List Str) (n : Str) : V → Bool
 | .str z => (isYn (F n) && decide (z = "yes" ∨ z = "no")) || (isPk (F n) && decide (z ∈ ws))
 | _ => false
def okC (F : KF) (n : Str) : Bool := !(isYn (F n) || isPk (F n))
def wrong (F : KF) (ws : List Str) : Tr → Option Str
 | .is n v => if okI F ws n v = true then none else some n
 | .cmp n _ _ => if okC F n = true then none else some n
 | .neg t => wrong F ws t
 | .two _ s t => (wrong F ws s).or (wrong F ws t)
def plI (F : KF) (ws : List Str) (n : Str) : V → Int
 | .str z => if isYn (F n) = true then (if z = "yes" then 1 else 0) else (ixOf ws z : Nat)
 | _ => 0
def plF (F : KF) (ws : List Str) : Str → V → V → Prop := fun n v p => p = .int (plI F ws n v)
def spWk (A : Adr) : Sp := fun vs H Q _ => ∃ (e : Addr) (z : Str), vs = [.ref e, .str z] ∧ z.length ≤ 100000 ∧ H e = some (excN e A.c_WrongKind none) ∧ ∀ dx, H dx = none → dx ≠ e → Q .non (upd (upd H e (excN e A.c_WrongKind (some dx))) dx (.xd [("name", .str z)]))
def spFitY (K : W.Frag) : Sp := fun vs H Q _ => ∃ (p : V) (x : V) (t : Value) (b : Bool), vs = [p, x] ∧ TyE K H x t ∧ W.kitOne K t (.type "bool") = some b ∧ Q (.bl b) H
def spAnsY : Sp := fun vs H Q _ => ∃ (p : V) (z : Str), vs = [p, .str z] ∧ Q (lookB YN z) H
def spRankY : Sp := fun vs H Q _ => ∃ (p : V) (b : Bool), vs = [p, .bl b] ∧ Q (.int (if b = true then 1 else 0)) H
def spFitP (A : Adr) : Sp := fun vs H Q _ => ∃ (a dx pw : Addr) (l h : V) (ws : List Str) (z : Str), vs = [.ref a, .str z] ∧ H a = some (.ins A.c_Pick dx (f3 l h pw)) ∧ H pw = some (.lst (ws.map V.str)) ∧ Q (.bl (decide (z ∈ ws))) H
def spAnsP : Sp := fun vs H Q _ => ∃ (p x : V), vs = [p, x] ∧ Q x H
def spRankP (A : Adr) : Sp := fun vs H Q _ => ∃ (a dx pw : Addr) (l h : V) (ws : List Str) (z : Str), vs = [.ref a, .str z] ∧ H a = some (.ins A.c_Pick dx (f3 l h pw)) ∧ H pw = some (.lst (ws.map V.str)) ∧ z ∈ ws ∧ Q (.int (ixOf ws z : Nat)) H
theorem lkW {l h : V} {pw : Addr} : (f3 l h pw).lookup ("words" : Str) = some (V.ref pw) := by
 rw [List.lookup_cons, show (("words" : Str) == "low") = false by symm, List.lookup_cons, show (("words" : Str) == "high") = false by symm, List.lookup_cons, beq_self_eq_true]
theorem hidX {H : Hp} {e dx : Addr} {a b c : HO} (h : H e = none) (n : dx ≠ e) : hid (upd (upd (upd H e a) e b) dx c) e = upd H dx c := by
 funext x; unfold hid upd
 by_cases z : x = e
 · rw [if_pos z, z, if_neg (Ne.symm n), h]
 · rw [if_neg z, if_neg z, if_neg z]
section
variable {P : Program} {w : World} {K : W.Frag} {mg : Str → Option Value} {base : Heap} {A : Adr}
theorem ok_wk (T : Txt K mg A) : FnOk P w K mg base (CXW P w) 1 A.f_c_WrongKind___init A.d_c_WrongKind___init ["self", "name"] (spWk A) := by
 refine T.F_c_WrongKind___init.okX sc_c_WrongKind___init (fun vs H Q E h => ?_) (fun cdv A0 outer s H vs Q E hr h => ?_)
 · obtain ⟨e, z, rfl, _⟩ := h
   rfl
 obtain ⟨e, z, rfl, hz, he, q⟩ := h
 refine ⟨_, (zE (xE (pe_binit T.bi_AskError rfl T.m_AskError (zA (pv 0) (zA (pe_fstrJ (jp_s (pv 1) (jp_c jp_nil))) zD))))
     (zF (ps_fldX (pv 0) (pv 1) rfl rfl))), ?_⟩
 refine ⟨_, rfl, _, rfl, z, rfl, hz, fun y => ⟨e, A.c_WrongKind, _, rfl, he, T.mx_WrongKind.ex, ?_⟩⟩
 exact ⟨_, rfl, _, rfl, e, A.c_WrongKind, rfl, he, T.es_WrongKind_name, fun dx hdx ne => q dx hdx ne⟩
theorem ok_yfits (T : Txt K mg A) : FnOk P w K mg base CX0 1 A.f_c_YesNo_fits A.d_c_YesNo_fits ["self", "thing"] (spFitY K) := by
 refine T.F_c_YesNo_fits.ok sc_c_YesNo_fits (fun vs H Q E h => ?_) (fun cdv A0 outer s H vs Q E hr h => ?_)
 · obtain ⟨p, x, t, b, rfl, _⟩ := h
   rfl
 obtain ⟨p, x, t, b, rfl, ty, kb, q⟩ := h
 exact ⟨_, (zF (zK (zT zZ (by rfl) T.n_isinstance Bt.isinstance (zA (pv 1) (zA (pe_bltn (v := .ty "bool") rfl T.n_bool Bt.bool rfl) zD))))), _, rfl, _, _, _, _, rfl, rfl, ty, kb, q⟩
theorem ok_yans (T : Txt K mg A) : FnOk P w K mg base CX0 1 A.f_c_YesNo_answer_of A.d_c_YesNo_answer_of ["self", "text"] spAnsY := by
 refine T.F_c_YesNo_answer_of.ok sc_c_YesNo_answer_of (fun vs H Q E h => ?_) (fun cdv A0 outer s H vs Q E hr h => ?_)
 · obtain ⟨p, z, rfl, _⟩ := h
   rfl
 obtain ⟨p, z, rfl, q⟩ := h
 exact ⟨_, (zF (zK (pe_gget rfl T.m_WRITTEN_TRUTHS T.t_WRITTEN_TRUTHS (pv 1) ⟨rfl, rfl, rfl, rfl⟩))), _, rfl, z, rfl, q⟩
theorem ok_yrank (T : Txt K mg A) : FnOk P w K mg base CX0 1 A.f_c_YesNo_rank A.d_c_YesNo_rank ["self", "answer"] spRankY := by
 refine T.F_c_YesNo_rank.ok sc_c_YesNo_rank (fun vs H Q E h => ?_) (fun cdv A0 outer s H vs Q E hr h => ?_)
 · obtain ⟨p, b, rfl, _⟩ := h
   rfl
 obtain ⟨p, b, rfl, q⟩ := h
 refine ⟨_, (zF (zK (pe_ifExp (yA (pv 1)) zC zC))), ?_⟩
 cases b with
 | true => exact ⟨_, rfl, _, rfl, iteT q⟩
 | false => exact ⟨_, rfl, _, rfl, iteF q⟩
theorem ok_pfits (T : Txt K mg A) : FnOk P w K mg base CX0 1 A.f_c_Pick_fits A.d_c_Pick_fits ["self", "thing"] (spFitP A) := by
 refine T.F_c_Pick_fits.ok sc_c_Pick_fits (fun vs H Q E h => ?_) (fun cdv A0 outer s H vs Q E hr h => ?_)
 · obtain ⟨a, dx, pw, l, h, ws, z, rfl, _⟩ := h
   rfl
 obtain ⟨a, dx, pw, l, h, ws, z, rfl, ha, hp, q⟩ := h
 refine ⟨_, (zF (zK (yT (zT zZ (by rfl) T.n_isinstance Bt.isinstance (zA (pv 1) (zA (pe_bltn (v := .ty "str") rfl T.n_str Bt.str rfl) zD))) (xB (pe_cmpR op_in_seq (pv 1) (zV (pv 0) rfl) (by rfl)))))), ?_⟩
 refine ⟨_, rfl, _, _, _, _, rfl, rfl, .old (.str z), T.i_str_str, _, rfl, iteT ⟨_, rfl, _, rfl, a, A.c_Pick, dx, _, _, rfl, ha, T.cl_Pick, T.no_Pick_words, lkW, pw, _, rfl, .inl (SqL.of hp), rfl, flat_strs ws, ?_⟩⟩
 rw [inV_strs]; exact q
theorem ok_pans (T : Txt K mg A) : FnOk P w K mg base CX0 1 A.f_c_Pick_answer_of A.d_c_Pick_answer_of ["self", "text"] spAnsP := by
 refine T.F_c_Pick_answer_of.ok sc_c_Pick_answer_of (fun vs H Q E h => ?_) (fun cdv A0 outer s H vs Q E hr h => ?_)
 · obtain ⟨p, z, rfl, _⟩ := h
   rfl
 obtain ⟨p, z, rfl, q⟩ := h
 exact ⟨_, (zF (zK (pv 1))), _, rfl, q⟩
theorem ok_prank (T : Txt K mg A) : FnOk P w K mg base CX0 1 A.f_c_Pick_rank A.d_c_Pick_rank ["self", "answer"] (spRankP A) := by
 refine T.F_c_Pick_rank.ok sc_c_Pick_rank (fun vs H Q E h => ?_) (fun cdv A0 outer s H vs Q E hr h => ?_)
 · obtain ⟨a, dx, pw, l, h, ws, z, rfl, _⟩ := h
   rfl
 obtain ⟨a, dx, pw, l, h, ws, z, rfl, ha, hp, hz, q⟩ := h
 refine ⟨_, (zF (zK (pe_bm PySem.F.plainAttrs_list PySem.F.slot_list_index PySem.F.type_list_index mt_lindex (zV (pv 0) rfl) (zA (pv 1) zD)))), ?_⟩
 exact ⟨_, rfl, a, A.c_Pick, dx, _, _, rfl, ha, T.cl_Pick, T.no_Pick_words, lkW, Or.inl ⟨rfl, _, SqL.of hp⟩, _, rfl, pw, _, _, _, rfl, rfl, SqL.of hp, flat_strs ws, rfl, idx_of hz, q⟩
end
end K16
set_option maxHeartbeats 4000000
namespace K16
open PySem L2
seal PE PT PW PA PS PSs PG PGs PI PO PSet OpR UnR CallR TruR IxR SlR PC PPs
local macro_rules | `(tactic| walk_at "rd1") => `(tactic| first
 | (refine And.intro rfl ?_)
 | (refine And.intro (by assumption) ?_)
 | (refine And.intro (fun _ e => e) ?_)
 | (refine And.intro (TyOf.str _) ?_) | (refine And.intro (TyOf.int _) ?_) | (refine And.intro (TyOf.bl _) ?_) | (refine And.intro TyOf.non ?_)
 | (refine iteT ?_) | (refine iteF ?_)
 | (apply Exists.intro))
local macro_rules | `(tactic| walk_at "rd") => `(tactic| repeat (walk_at "rd1"))
def spSt (A : Adr) (j n : Nat) : Sp := fun vs H Q E => ∃ (x : V) (t : Tr) (zs : List Str) (d : Addr) (F : KF) (ws : List Str), vs = [x, .ref d] ∧ SyP A H t x ∧ t.depth < n ∧ kd t = j ∧ t.Ok zs ∧ KdR A H F ws d ∧
 (wrong F ws t = none → ∀ y H', Same H H' → SyF A (plF F ws) H' t y → Q y H') ∧ ∀ z, wrong F ws t = some z → ∀ dx H', Same H H' → H' dx = some (.xd [("name", .str z)]) → E (.ref A.c_WrongKind) (some dx) H'
structure StOk (P : Program) (w : World) (K : W.Frag) (mg : Str → Option Value) (base : Heap) (A : Adr) (n k : Nat) : Prop where
 a : FnOk P w K mg base (CXW P w) k A.f_c_Is_settled A.d_c_Is_settled ["self", "kinds"] (spSt A 0 n)
 b : FnOk P w K mg base (CXW P w) k A.f_c_Compare_settled A.d_c_Compare_settled ["self", "kinds"] (spSt A 1 n)
 c : FnOk P w K mg base (CXW P w) k A.f_c_Not_settled A.d_c_Not_settled ["self", "kinds"] (spSt A 2 n)
 d : FnOk P w K mg base (CXW P w) k A.f_c_Both_settled A.d_c_Both_settled ["self", "kinds"] (spSt A 3 n)
 e : FnOk P w K mg base (CXW P w) k A.f_c_Either_settled A.d_c_Either_settled ["self", "kinds"] (spSt A 4 n)
section
variable {P : Program} {w : World} {K : W.Frag} {mg : Str → Option Value} {base : Heap} {A : Adr}
theorem yP (T : Txt K mg A) {n k : Nat} (ih : StOk P w K mg base A n k) {t : Tr} {x : V} {H : Hp} (hs : SyP A H t x) :
   ∃ (a C dx : Addr) (fs : List (Str × V)) (M : MethJ P w K mg base (CXW P w) k C "settled"), x = .ref a ∧ H a = some (.ins C dx fs) ∧ fs.lookup (Str.ofString "settled") = none ∧ M.dvs = [] ∧ M.sp = spSt A (kd t) n := by
 cases t with
 | is nm v =>
   obtain ⟨a, dx, p, rfl, h, _⟩ := hs
   exact ⟨a, _, dx, _, ⟨A.f_c_Is_settled, A.d_c_Is_settled, ["self", "kinds"], spSt A 0 n, [], [], T.cl_Is, T.me_Is_settled, ih.a, T.b_c_Is_settled, .nil⟩, rfl, h, rfl, rfl, rfl⟩
 | cmp nm h m =>
   obtain ⟨a, dx, rfl, h⟩ := hs
   exact ⟨a, _, dx, _, ⟨A.f_c_Compare_settled, A.d_c_Compare_settled, ["self", "kinds"], spSt A 1 n, [], [], T.cl_Compare, T.me_Compare_settled, ih.b, T.b_c_Compare_settled, .nil⟩, rfl, h, rfl, rfl, rfl⟩
 | neg t =>
   obtain ⟨a, dx, y, rfl, h, _⟩ := hs
   exact ⟨a, _, dx, _, ⟨A.f_c_Not_settled, A.d_c_Not_settled, ["self", "kinds"], spSt A 2 n, [], [], T.cl_Not, T.me_Not_settled, ih.c, T.b_c_Not_settled, .nil⟩, rfl, h, rfl, rfl, rfl⟩
 | two o s t =>
   obtain ⟨a, dx, y, z, rfl, h, _⟩ := hs
   cases o with
   | false => exact ⟨a, _, dx, _, ⟨A.f_c_Both_settled, A.d_c_Both_settled, ["self", "kinds"], spSt A 3 n, [], [], T.cl_Both, T.me_Both_settled, ih.d, T.b_c_Both_settled, .nil⟩, rfl, h, rfl, rfl, rfl⟩
   | true => exact ⟨a, _, dx, _, ⟨A.f_c_Either_settled, A.d_c_Either_settled, ["self", "kinds"], spSt A 4 n, [], [], T.cl_Either, T.me_Either_settled, ih.e, T.b_c_Either_settled, .nil⟩, rfl, h, rfl, rfl, rfl⟩
theorem raised {H : Hp} {z : Str} {E : XK} {e : Addr} (he : H e = none) (hz : z.length ≤ 100000) (k : ∀ dx H', Same H H' → H' dx = some (.xd [("name", .str z)]) → E (.ref A.c_WrongKind) (some dx) H') :
   spWk A [.ref e, .str z] (upd H e (excN e A.c_WrongKind none)) (fun v H2 => v = .non ∧ ∃ dx, H2 e = some (excN e A.c_WrongKind (some dx)) ∧ E (.ref A.c_WrongKind) (some dx) (hid H2 e)) E0 := by
 refine ⟨e, z, rfl, hz, zB, fun dx hdx ne => ⟨rfl, dx, (by rw [zJ (Ne.symm ne)]; exact zB), ?_⟩⟩
 rw [hidX he ne]
 rw [zJ ne] at hdx
 exact k dx _ (zG hdx _) zB
theorem kit_wn (T : Txt K mg A) (k : Kn) : W.kitAny K (.ref (cK A k)) [.ref A.c_Whole, .ref A.c_Names] = some (!(isYn (some k) || isPk (some k))) := by
 cases k
 · exact kit_two T.kr_YesNo_Whole T.kr_YesNo_Names
 · exact kit_two T.kr_Whole_Whole T.kr_Whole_Names
 · exact kit_two T.kr_Money_Whole T.kr_Money_Names
 · exact kit_two T.kr_Pick_Whole T.kr_Pick_Names
 · exact kit_two T.kr_Names_Whole T.kr_Names_Names
theorem ok_co_settled (T : Txt K mg A) {n k : Nat} (hk : 2 ≤ k) : FnOk P w K mg base (CXW P w) (k + 1) A.f_c_Compare_settled A.d_c_Compare_settled ["self", "kinds"] (spSt A 1 n) := by
 have G_c_WrongKind___init := ok_wk (P := P) (w := w) (base := base) T
 have G_c_Compare___init := ok_co_init (P := P) (w := w) (base := base) T
 refine T.F_c_Compare_settled.okX sc_c_Compare_settled (fun vs H Q E h => ?_) (fun cdv A0 outer s H vs Q E hr h => ?_)
 · obtain ⟨x, t, zs, d, F, ws, rfl, _⟩ := h
   rfl
 obtain ⟨x, t, zs, d, F, ws, rfl, hs, hd, hkd, hok, hD, q1, q2⟩ := h
 refine ⟨_, (zE (zX (PW.pt (xD (zR (op_in_d (hu_of hr)) (zV (pv 0) rfl) (pv 1) (by rfl)) (xA (yN (yA (zT call_isiT (by rfl) T.n_isinstance Bt.isinstance (zA (pe_dget (hu_of hr) (pv 1) (zV (pv 0) rfl) (fun _ _ => rfl)) (zA (yS (zA (yH rfl T.v_Whole) (zA (yH rfl T.v_Names) zD))) zD)))))))) (zF (ps_raiseI T.mx_WrongKind G_c_WrongKind___init (hr.mono (by first | decide | omega)) T.b_c_WrongKind___init T.m_WrongKind (zA (zV (pv 0) rfl) zD) rfl)) zS)
     (zF (zK (yQ T.mk_Compare G_c_Compare___init (hr.mono (by first | decide | omega)) rfl T.m_Compare T.b_c_Compare___init .nil zO (zA (zV (pv 0) rfl) (zA (zV (pv 0) rfl) (zA (zV (pv 0) rfl) zD))))))), ?_⟩
 cases t with
 | cmp nm h m =>
   obtain ⟨a, dx, rfl, ho⟩ := hs
   obtain ⟨hn, hh, hm⟩ := hok
   have l1 := (name_let hn).1
   obtain ⟨v, hv1, hv2⟩ := hD.get nm
   refine ⟨_, rfl, a, _, dx, _, _, rfl, ho, T.cl_Compare, T.no_Compare_name, rfl, _, rfl, d, v, rfl, hv1, _, rfl, ?_⟩
   cases hF : F nm with
   | none =>
     rw [hF] at hv2
     cases (show v = none from hv2)
     refine iteF (iteF ?_)
     have hc : okC F nm = true := by unfold okC; rw [hF]; rfl
     refine ⟨_, rfl, a, _, dx, _, _, rfl, ho, T.cl_Compare, T.no_Compare_name, rfl, _, rfl, a, _, dx, _, _, rfl, ho, T.cl_Compare, T.no_Compare_how, rfl, _, rfl, a, _, dx, _, _, rfl, ho, T.cl_Compare, T.no_Compare_number, rfl, ?_⟩
     intro x dx' nx nd ne
     refine ⟨x, dx', _, _, _, rfl, zB, rfl, ?_⟩
     rw [yC]
     exact q1 (by unfold wrong; rw [if_pos hc]) _ _ (yK nx nd _) ⟨x, dx', rfl, zB⟩
   | some kn =>
     rw [hF] at hv2
     obtain ⟨x0, rfl, hki⟩ := id hv2
     refine iteT ⟨_, rfl, _, rfl, a, _, dx, _, _, rfl, ho, T.cl_Compare, T.no_Compare_name, rfl, d, x0, rfl, hv1, (by show 2 ≤ sizeLine; decide), fun t1 ht1 => ?_⟩
     have s1 := zG ht1 (.tup [.ref A.c_Whole, .ref A.c_Names])
     refine ⟨_, t1, _, _, _, rfl, zB, rfl, val_ty T (o := some kn) (v := some x0) (hv2.same s1), kit_wn T kn, _, rfl, ?_⟩
     cases hyp : (isYn (some kn) || isPk (some kn)) with
     | true =>
       refine iteT ?_
       have hc : okC F nm = false := by unfold okC; rw [hF, hyp]; rfl
       refine ⟨_, rfl, a, _, dx, _, _, rfl, s1 _ _ ho, T.cl_Compare, T.no_Compare_name, rfl, (by show 1 ≤ sizeLine; decide), fun e he => ?_⟩
       exact raised he (by omega) fun dx2 H2 s2 e2 => q2 nm (by unfold wrong; rw [hc]; rfl) dx2 H2 (s1.trans s2) e2
     | false =>
       refine iteF ?_
       have hc : okC F nm = true := by unfold okC; rw [hF, hyp]; rfl
       refine ⟨_, rfl, a, _, dx, _, _, rfl, s1 _ _ ho, T.cl_Compare, T.no_Compare_name, rfl, _, rfl, a, _, dx, _, _, rfl, s1 _ _ ho, T.cl_Compare, T.no_Compare_how, rfl, _, rfl, a, _, dx, _, _, rfl, s1 _ _ ho, T.cl_Compare, T.no_Compare_number, rfl, ?_⟩
       intro x dx' nx nd ne
       refine ⟨x, dx', _, _, _, rfl, zB, rfl, ?_⟩
       rw [yC]
       exact q1 (by unfold wrong; rw [if_pos hc]) _ _ (s1.trans (yK nx nd _)) ⟨x, dx', rfl, zB⟩
 | is _ _ => cases hkd
 | neg _ => cases hkd
 | two o _ _ => cases o <;> cases hkd
theorem lookYN (z : Str) : (z = "yes" ∧ lookB YN z = .bl true) ∨ (z = "no" ∧ z ≠ "yes" ∧ lookB YN z = .bl false) ∨ (z ≠ "yes" ∧ z ≠ "no" ∧ lookB YN z = .non) := by
 by_cases e1 : z = "yes"
 · subst e1; exact .inl ⟨rfl, by symm⟩
 · by_cases e2 : z = "no"
   · subst e2; exact .inr (.inl ⟨rfl, by symm, by symm⟩)
   · refine .inr (.inr ⟨e1, e2, ?_⟩)
     unfold lookB
     rw [List.lookup_cons, beq_false_of_ne e1, List.lookup_cons, beq_false_of_ne e2]; rfl
theorem lk2 {f : Str} {l h : V} (h1 : (f == ("low" : Str)) = false) (h2 : (f == ("high" : Str)) = false) : (f2 l h).lookup f = none := by
 rw [List.lookup_cons, h1, List.lookup_cons, h2]; rfl
theorem lk3 {f : Str} {l h : V} {pw : Addr} (h1 : (f == ("low" : Str)) = false) (h2 : (f == ("high" : Str)) = false) (h3 : (f == ("words" : Str)) = false) : (f3 l h pw).lookup f = none := by
 rw [List.lookup_cons, h1, List.lookup_cons, h2, List.lookup_cons, h3]; rfl
theorem ok_is_settled (T : Txt K mg A) {n k : Nat} (hk : 2 ≤ k) : FnOk P w K mg base (CXW P w) (k + 1) A.f_c_Is_settled A.d_c_Is_settled ["self", "kinds"] (spSt A 0 n) := by
 have G_c_WrongKind___init := ok_wk (P := P) (w := w) (base := base) T
 have G_c_Is___init := ok_is_init (P := P) (w := w) (base := base) T
 refine T.F_c_Is_settled.okX sc_c_Is_settled (fun vs H Q E h => ?_) (fun cdv A0 outer s H vs Q E hr h => ?_)
 · obtain ⟨x, t, zs, d, F, ws, rfl, _⟩ := h
   rfl
 obtain ⟨x, t, zs, d, F, ws, rfl, hs, hd, hkd, hok, hD, q1, q2⟩ := h
 refine ⟨_, (zE (zY (i := 2) sc_c_Is_settled.nd rfl (by first | exact Or.inl rfl | exact Or.inr rfl) (pe_dget1 (hu_of hr) (pv 1) (zV (pv 0) rfl) ⟨rfl, rfl, rfl, rfl⟩))
     (zE (zX (yN (yA (zT call_isiT (by rfl) T.n_isinstance Bt.isinstance (zA (pv 2) (zA (yS (zA (yH rfl T.v_YesNo) (zA (yH rfl T.v_Pick) zD))) zD))))) (zF (ps_raiseI T.mx_WrongKind G_c_WrongKind___init (hr.mono (by first | decide | omega)) T.b_c_WrongKind___init T.m_WrongKind (zA (zV (pv 0) rfl) zD) rfl)) zS)
     (zE (zY (i := 3) sc_c_Is_settled.nd rfl (by first | exact Or.inl rfl | exact Or.inr rfl) (yO (CX := CX0) (k := 1) (hr.mono (by first | decide | omega)) zO (pv 2) (zA (zV (pv 0) rfl) zD)))
     (zE (zX (yN (yA (yO (CX := CX0) (k := 1) (hr.mono (by first | decide | omega)) zO (pv 2) (zA (pv 3) zD)))) (zF (ps_raiseI T.mx_WrongKind G_c_WrongKind___init (hr.mono (by first | decide | omega)) T.b_c_WrongKind___init T.m_WrongKind (zA (zV (pv 0) rfl) zD) rfl)) zS)
     (zF (zK (yQ T.mk_Is G_c_Is___init (hr.mono (by first | decide | omega)) rfl T.m_Is T.b_c_Is___init .nil zO (zA (zV (pv 0) rfl) (zA (zV (pv 0) rfl) (zA (yO (CX := CX0) (k := 1) (hr.mono (by first | decide | omega)) zO (pv 2) (zA (pv 3) zD)) zD)))))))))), ?_⟩
 cases t with
 | is nm v =>
   obtain ⟨a, dx, p, rfl, ho, _⟩ := hs
   obtain ⟨hn, wd, rfl, hwn⟩ := hok
   have l1 := (name_let hn).1
   obtain ⟨v, hv1, hv2⟩ := hD.get nm
   have bad : okI F ws nm (.str wd) = false → ∀ (H1 : Hp) (e : Addr), Same H H1 → H1 e = none → spWk A [.ref e, .str nm] (upd H1 e (excN e A.c_WrongKind none)) (fun v H2 => v = .non ∧ ∃ dx, H2 e = some (excN e A.c_WrongKind (some dx)) ∧ E (.ref A.c_WrongKind) (some dx) (hid H2 e)) E0 := fun hb H1 e s1 he =>
     raised he (by omega) fun dx2 H2 s2 e2 => q2 nm (by unfold wrong; rw [hb]; rfl) dx2 H2 (s1.trans s2) e2
   refine ⟨_, rfl, d, rfl, hD.isD, _, rfl, a, _, dx, _, _, rfl, ho, T.cl_Is, T.no_Is_name, rfl, v, hv1, ?_⟩
   refine ⟨_, rfl, (by show 2 ≤ sizeLine; decide), fun t1 ht1 => ?_⟩
   have s1 := zG ht1 (.tup [.ref A.c_YesNo, .ref A.c_Pick])
   refine ⟨_, t1, _, _, _, rfl, zB, rfl, val_ty T (hv2.same s1), kit_yp T _, _, rfl, ?_⟩
   have ho1 := s1 _ _ ho
   cases hyp : (isYn (F nm) || isPk (F nm)) with
   | false =>
     refine iteT ⟨_, rfl, a, _, dx, _, _, rfl, ho1, T.cl_Is, T.no_Is_name, rfl, (by show 1 ≤ sizeLine; decide), fun e he => bad ?_ _ e s1 he⟩
     rw [Bool.or_eq_false_iff] at hyp
     show ((isYn (F nm) && _) || (isPk (F nm) && _)) = false
     rw [hyp.1, hyp.2]; rfl
   | true =>
     refine iteF ?_
     have fin : ∀ (r : Int) (x : Addr) (dx' : Addr), plI F ws nm (.str wd) = r → okI F ws nm (.str wd) = true → (upd H t1 (.tup [.ref A.c_YesNo, .ref A.c_Pick])) x = none → (upd H t1 (.tup [.ref A.c_YesNo, .ref A.c_Pick])) dx' = none → Q (.ref x) (upd (upd (upd H t1 (.tup [.ref A.c_YesNo, .ref A.c_Pick])) dx' (.own x)) x (.ins A.c_Is dx' [("name", .str nm), ("word", .str wd), ("place", .int r)])) := fun r x dx' hr' hc nx nd =>
       q1 (by unfold wrong; rw [if_pos hc]) _ _ (s1.trans (yK nx nd _)) ⟨x, dx', _, rfl, zB, by unfold plF; rw [hr']⟩
     have hFk : ∃ kn, F nm = some kn := by
       cases hF : F nm with
       | none => rw [hF] at hyp; cases hyp
       | some kn => exact ⟨kn, rfl⟩
     obtain ⟨kn, hF⟩ := hFk
     rw [hF] at hv2
     obtain ⟨x0, rfl, a2, dx2, l, h, pw, rfl, hx2, hpw⟩ := hv2
     have hx2' := s1 _ _ hx2
     cases kn with
     | yn =>
       have ey : isYn (F nm) = true := by rw [hF]; rfl
       have ep : isPk (F nm) = false := by rw [hF]; rfl
       have okE : okI F ws nm (.str wd) = decide (wd = "yes" ∨ wd = "no") := by
         show ((isYn (F nm) && _) || (isPk (F nm) && _)) = _
         rw [ey, ep, Bool.true_and, Bool.false_and, Bool.or_false]
       refine ⟨_, rfl, a2, A.c_YesNo, dx2, _, ⟨A.f_c_YesNo_answer_of, A.d_c_YesNo_answer_of, ["self", "text"], spAnsY, [], [], T.cl_YesNo, T.me_YesNo_answer_of, ok_yans T, T.b_c_YesNo_answer_of, .nil⟩, rfl, hx2', lk2 (by symm) (by symm), _, rfl, a, _, dx, _, _, rfl, ho1, T.cl_Is, T.no_Is_word, rfl, _, wd, rfl, ?_⟩
       rcases lookYN wd with ⟨e, el⟩ | ⟨e, e', el⟩ | ⟨e, e', el⟩
       · rw [el]
         refine ⟨_, rfl, a2, A.c_YesNo, dx2, _, ⟨A.f_c_YesNo_fits, A.d_c_YesNo_fits, ["self", "thing"], spFitY K, [], [], T.cl_YesNo, T.me_YesNo_fits, ok_yfits T, T.b_c_YesNo_fits, .nil⟩, rfl, hx2', lk2 (by symm) (by symm), _, rfl, _, _, _, _, rfl, .old (.bl true), T.i_bool_bool, _, rfl, iteF ?_⟩
         refine ⟨_, rfl, a, _, dx, _, _, rfl, ho1, T.cl_Is, T.no_Is_name, rfl, _, rfl, a, _, dx, _, _, rfl, ho1, T.cl_Is, T.no_Is_word, rfl, ?_⟩
         refine ⟨_, rfl, a2, A.c_YesNo, dx2, _, ⟨A.f_c_YesNo_rank, A.d_c_YesNo_rank, ["self", "answer"], spRankY, [], [], T.cl_YesNo, T.me_YesNo_rank, ok_yrank T, T.b_c_YesNo_rank, .nil⟩, rfl, hx2', lk2 (by symm) (by symm), _, rfl, _, true, rfl, ?_⟩
         intro x dx' nx nd ne
         refine ⟨x, dx', _, _, _, rfl, zB, rfl, ?_⟩
         rw [yC]
         exact fin 1 x dx' (by unfold plI; dsimp only; rw [if_pos ey, if_pos e]) (by rw [okE]; exact decide_eq_true (.inl e)) nx nd
       · rw [el]
         refine ⟨_, rfl, a2, A.c_YesNo, dx2, _, ⟨A.f_c_YesNo_fits, A.d_c_YesNo_fits, ["self", "thing"], spFitY K, [], [], T.cl_YesNo, T.me_YesNo_fits, ok_yfits T, T.b_c_YesNo_fits, .nil⟩, rfl, hx2', lk2 (by symm) (by symm), _, rfl, _, _, _, _, rfl, .old (.bl false), T.i_bool_bool, _, rfl, iteF ?_⟩
         refine ⟨_, rfl, a, _, dx, _, _, rfl, ho1, T.cl_Is, T.no_Is_name, rfl, _, rfl, a, _, dx, _, _, rfl, ho1, T.cl_Is, T.no_Is_word, rfl, ?_⟩
         refine ⟨_, rfl, a2, A.c_YesNo, dx2, _, ⟨A.f_c_YesNo_rank, A.d_c_YesNo_rank, ["self", "answer"], spRankY, [], [], T.cl_YesNo, T.me_YesNo_rank, ok_yrank T, T.b_c_YesNo_rank, .nil⟩, rfl, hx2', lk2 (by symm) (by symm), _, rfl, _, false, rfl, ?_⟩
         intro x dx' nx nd ne
         refine ⟨x, dx', _, _, _, rfl, zB, rfl, ?_⟩
         rw [yC]
         exact fin 0 x dx' (by unfold plI; dsimp only; rw [if_pos ey, if_neg e']) (by rw [okE]; exact decide_eq_true (.inr e)) nx nd
       · rw [el]
         refine ⟨_, rfl, a2, A.c_YesNo, dx2, _, ⟨A.f_c_YesNo_fits, A.d_c_YesNo_fits, ["self", "thing"], spFitY K, [], [], T.cl_YesNo, T.me_YesNo_fits, ok_yfits T, T.b_c_YesNo_fits, .nil⟩, rfl, hx2', lk2 (by symm) (by symm), _, rfl, _, _, _, _, rfl, .old .non, T.i_NoneType_bool, _, rfl, iteT ?_⟩
         refine ⟨_, rfl, a, _, dx, _, _, rfl, ho1, T.cl_Is, T.no_Is_name, rfl, (by show 1 ≤ sizeLine; decide), fun ea he => bad ?_ _ ea s1 he⟩
         rw [okE]; exact decide_eq_false fun z => z.elim e e'
     | pk =>
       have ey : isYn (F nm) = false := by rw [hF]; rfl
       have ep : isPk (F nm) = true := by rw [hF]; rfl
       have hpw1 := s1 _ _ (hpw rfl)
       have okE : okI F ws nm (.str wd) = decide (wd ∈ ws) := by
         show ((isYn (F nm) && _) || (isPk (F nm) && _)) = _
         rw [ey, ep, Bool.true_and, Bool.false_and, Bool.false_or]
       refine ⟨_, rfl, a2, A.c_Pick, dx2, _, ⟨A.f_c_Pick_answer_of, A.d_c_Pick_answer_of, ["self", "text"], spAnsP, [], [], T.cl_Pick, T.me_Pick_answer_of, ok_pans T, T.b_c_Pick_answer_of, .nil⟩, rfl, hx2', lk3 (by symm) (by symm) (by symm), _, rfl, a, _, dx, _, _, rfl, ho1, T.cl_Is, T.no_Is_word, rfl, _, _, rfl, ?_⟩
       refine ⟨_, rfl, a2, A.c_Pick, dx2, _, ⟨A.f_c_Pick_fits, A.d_c_Pick_fits, ["self", "thing"], spFitP A, [], [], T.cl_Pick, T.me_Pick_fits, ok_pfits T, T.b_c_Pick_fits, .nil⟩, rfl, hx2', lk3 (by symm) (by symm) (by symm), _, rfl, a2, dx2, pw, l, h, ws, wd, rfl, hx2', hpw1, _, rfl, ?_⟩
       by_cases hin : wd ∈ ws
       · rw [show decide (wd ∈ ws) = true from decide_eq_true hin]
         refine iteF ?_
         refine ⟨_, rfl, a, _, dx, _, _, rfl, ho1, T.cl_Is, T.no_Is_name, rfl, _, rfl, a, _, dx, _, _, rfl, ho1, T.cl_Is, T.no_Is_word, rfl, ?_⟩
         refine ⟨_, rfl, a2, A.c_Pick, dx2, _, ⟨A.f_c_Pick_rank, A.d_c_Pick_rank, ["self", "answer"], spRankP A, [], [], T.cl_Pick, T.me_Pick_rank, ok_prank T, T.b_c_Pick_rank, .nil⟩, rfl, hx2', lk3 (by symm) (by symm) (by symm), _, rfl, a2, dx2, pw, l, h, ws, wd, rfl, hx2', hpw1, hin, ?_⟩
         intro x dx' nx nd ne
         refine ⟨x, dx', _, _, _, rfl, zB, rfl, ?_⟩
         rw [yC]
         exact fin (ixOf ws wd : Nat) x dx' (by unfold plI; rw [ey]; rfl) (by rw [okE]; exact decide_eq_true hin) nx nd
       · rw [show decide (wd ∈ ws) = false from decide_eq_false hin]
         refine iteT ?_
         refine ⟨_, rfl, a, _, dx, _, _, rfl, ho1, T.cl_Is, T.no_Is_name, rfl, (by show 1 ≤ sizeLine; decide), fun ea he => bad ?_ _ ea s1 he⟩
         rw [okE]; exact decide_eq_false hin
     | wh => rw [hF] at hyp; cases hyp
     | mo => rw [hF] at hyp; cases hyp
     | nm => rw [hF] at hyp; cases hyp
 | cmp _ _ _ => cases hkd
 | neg _ => cases hkd
 | two o _ _ => cases o <;> cases hkd
theorem ok_no_settled (T : Txt K mg A) {n ks k : Nat} (hle : ks ≤ k) (hk : 2 ≤ k) (ih : StOk P w K mg base A n ks) : FnOk P w K mg base (CXW P w) (k + 1) A.f_c_Not_settled A.d_c_Not_settled ["self", "kinds"] (spSt A 2 (n + 1)) := by
 have G_c_Not___init := ok_no_init (P := P) (w := w) (base := base) T
 refine T.F_c_Not_settled.okX sc_c_Not_settled (fun vs H Q E h => ?_) (fun cdv A0 outer s H vs Q E hr h => ?_)
 · obtain ⟨x, t, zs, d, F, ws, rfl, _⟩ := h
   rfl
 obtain ⟨x, t, zs, d, F, ws, rfl, hs, hd, hkd, hok, hD, q1, q2⟩ := h
 refine ⟨_, (zF (zK (yQ T.mk_Not G_c_Not___init (hr.mono (by first | decide | omega)) rfl T.m_Not T.b_c_Not___init .nil zO (zA (yO (CX := CXW P w) (k := ks) (hr.mono (by first | decide | omega)) passX (zV (pv 0) rfl) (zA (pv 1) zD)) zD)))), ?_⟩
 cases t with
 | neg t =>
   obtain ⟨a, dx, y, rfl, ho, hs1⟩ := hs
   have hd' : t.depth + 1 < n + 1 := hd
   obtain ⟨a1, C1, dx1, fs1, M, ey, h1, hl, hdv, hsp⟩ := yP T ih hs1
   refine ⟨_, rfl, a, _, dx, _, _, rfl, ho, T.cl_Not, T.no_Not_test, rfl, a1, C1, dx1, fs1, M, ey, h1, hl, _, rfl, ?_⟩
   rw [hdv, hsp]
   refine ⟨y, t, zs, d, F, ws, rfl, hs1, by omega, rfl, hok, hD, fun w1 y1 H1 s1 r1 => ?_, q2⟩
   intro x dx' nx nd ne
   refine ⟨x, dx', _, rfl, zB, rfl, ?_⟩
   rw [yC]
   have s2 := yK nx nd (.ins A.c_Not dx' [("test", y1)])
   exact q1 w1 _ _ (s1.trans s2) ⟨x, dx', y1, rfl, zB, SyF.same s2 r1⟩
 | is _ _ => cases hkd
 | cmp _ _ _ => cases hkd
 | two o _ _ => cases o <;> cases hkd
theorem ok_bo_settled (T : Txt K mg A) {n ks k : Nat} (hle : ks ≤ k) (hk : 2 ≤ k) (ih : StOk P w K mg base A n ks) : FnOk P w K mg base (CXW P w) (k + 1) A.f_c_Both_settled A.d_c_Both_settled ["self", "kinds"] (spSt A 3 (n + 1)) := by
 have G_c_Pair___init := ok_pa_init (P := P) (w := w) (base := base) T
 refine T.F_c_Both_settled.okX sc_c_Both_settled (fun vs H Q E h => ?_) (fun cdv A0 outer s H vs Q E hr h => ?_)
 · obtain ⟨x, t, zs, d, F, ws, rfl, _⟩ := h
   rfl
 obtain ⟨x, t, zs, d, F, ws, rfl, hs, hd, hkd, hok, hD, q1, q2⟩ := h
 refine ⟨_, (zF (zK (yQ T.mk_Both G_c_Pair___init (hr.mono (by first | decide | omega)) rfl T.m_Both T.b_c_Pair___init .nil zO (zA (yO (CX := CXW P w) (k := ks) (hr.mono (by first | decide | omega)) passX (zV (pv 0) rfl) (zA (pv 1) zD)) (zA (yO (CX := CXW P w) (k := ks) (hr.mono (by first | decide | omega)) passX (zV (pv 0) rfl) (zA (pv 1) zD)) zD))))), ?_⟩
 cases t with
 | two o t1 t2 =>
   cases o with
   | true => cases hkd
   | false =>
     obtain ⟨a, dx, y, z, rfl, ho, hs1, hs2⟩ := hs
     have hd' : 1 + max t1.depth t2.depth < n + 1 := hd
     obtain ⟨a1, C1, dx1, fs1, M, ey, h1, hl, hdv, hsp⟩ := yP T ih hs1
     refine ⟨_, rfl, a, _, dx, _, _, rfl, ho, T.cl_Both, T.no_Both_one, rfl, a1, C1, dx1, fs1, M, ey, h1, hl, _, rfl, ?_⟩
     rw [hdv, hsp]
     refine ⟨y, t1, zs, d, F, ws, rfl, hs1, by omega, rfl, hok.1, hD, fun w1 y1 H1 s1 r1 => ?_, fun z0 w1 => q2 z0 (by show (wrong F ws t1).or (wrong F ws t2) = _; rw [w1]; rfl)⟩
     have hs2' := SyF.same s1 hs2
     obtain ⟨a2, C2, dx2, fs2, M2, ey2, h2, hl2, hdv2, hsp2⟩ := yP T ih hs2'
     refine ⟨_, rfl, a, _, dx, _, _, rfl, s1 _ _ ho, T.cl_Both, T.no_Both_other, rfl, a2, C2, dx2, fs2, M2, ey2, h2, hl2, _, rfl, ?_⟩
     rw [hdv2, hsp2]
     refine ⟨z, t2, zs, d, F, ws, rfl, hs2', by omega, rfl, hok.2, hD.same s1, fun w2 y2 H2 s2 r2 => ?_, fun z0 w2 dx0 H0 s0 => q2 z0 (by show (wrong F ws t1).or (wrong F ws t2) = _; rw [w1, w2]; rfl) dx0 H0 (s1.trans s0)⟩
     intro x dx' nx nd ne
     refine ⟨x, dx', _, _, false, rfl, zB, rfl, ?_⟩
     rw [yC]
     have s3 := yK nx nd (.ins (cT A false) dx' [("one", y1), ("other", y2)])
     exact q1 (by show (wrong F ws t1).or (wrong F ws t2) = _; rw [w1, w2]; rfl) _ _ (s1.trans (s2.trans s3)) ⟨x, dx', y1, y2, rfl, zB, SyF.same (s2.trans s3) r1, SyF.same s3 r2⟩
 | is _ _ => cases hkd
 | cmp _ _ _ => cases hkd
 | neg _ => cases hkd
theorem ok_ei_settled (T : Txt K mg A) {n ks k : Nat} (hle : ks ≤ k) (hk : 2 ≤ k) (ih : StOk P w K mg base A n ks) : FnOk P w K mg base (CXW P w) (k + 1) A.f_c_Either_settled A.d_c_Either_settled ["self", "kinds"] (spSt A 4 (n + 1)) := by
 have G_c_Pair___init := ok_pa_init (P := P) (w := w) (base := base) T
 refine T.F_c_Either_settled.okX sc_c_Either_settled (fun vs H Q E h => ?_) (fun cdv A0 outer s H vs Q E hr h => ?_)
 · obtain ⟨x, t, zs, d, F, ws, rfl, _⟩ := h
   rfl
 obtain ⟨x, t, zs, d, F, ws, rfl, hs, hd, hkd, hok, hD, q1, q2⟩ := h
 refine ⟨_, (zF (zK (yQ T.mk_Either G_c_Pair___init (hr.mono (by first | decide | omega)) rfl T.m_Either T.b_c_Pair___init .nil zO (zA (yO (CX := CXW P w) (k := ks) (hr.mono (by first | decide | omega)) passX (zV (pv 0) rfl) (zA (pv 1) zD)) (zA (yO (CX := CXW P w) (k := ks) (hr.mono (by first | decide | omega)) passX (zV (pv 0) rfl) (zA (pv 1) zD)) zD))))), ?_⟩
 cases t with
 | two o t1 t2 =>
   cases o with
   | false => cases hkd
   | true =>
     obtain ⟨a, dx, y, z, rfl, ho, hs1, hs2⟩ := hs
     have hd' : 1 + max t1.depth t2.depth < n + 1 := hd
     obtain ⟨a1, C1, dx1, fs1, M, ey, h1, hl, hdv, hsp⟩ := yP T ih hs1
     refine ⟨_, rfl, a, _, dx, _, _, rfl, ho, T.cl_Either, T.no_Either_one, rfl, a1, C1, dx1, fs1, M, ey, h1, hl, _, rfl, ?_⟩
     rw [hdv, hsp]
     refine ⟨y, t1, zs, d, F, ws, rfl, hs1, by omega, rfl, hok.1, hD, fun w1 y1 H1 s1 r1 => ?_, fun z0 w1 => q2 z0 (by show (wrong F ws t1).or (wrong F ws t2) = _; rw [w1]; rfl)⟩
     have hs2' := SyF.same s1 hs2
     obtain ⟨a2, C2, dx2, fs2, M2, ey2, h2, hl2, hdv2, hsp2⟩ := yP T ih hs2'
     refine ⟨_, rfl, a, _, dx, _, _, rfl, s1 _ _ ho, T.cl_Either, T.no_Either_other, rfl, a2, C2, dx2, fs2, M2, ey2, h2, hl2, _, rfl, ?_⟩
     rw [hdv2, hsp2]
     refine ⟨z, t2, zs, d, F, ws, rfl, hs2', by omega, rfl, hok.2, hD.same s1, fun w2 y2 H2 s2 r2 => ?_, fun z0 w2 dx0 H0 s0 => q2 z0 (by show (wrong F ws t1).or (wrong F ws t2) = _; rw [w1, w2]; rfl) dx0 H0 (s1.trans s0)⟩
     intro x dx' nx nd ne
     refine ⟨x, dx', _, _, true, rfl, zB, rfl, ?_⟩
     rw [yC]
     have s3 := yK nx nd (.ins (cT A true) dx' [("one", y1), ("other", y2)])
     exact q1 (by show (wrong F ws t1).or (wrong F ws t2) = _; rw [w1, w2]; rfl) _ _ (s1.trans (s2.trans s3)) ⟨x, dx', y1, y2, rfl, zB, SyF.same (s2.trans s3) r1, SyF.same s3 r2⟩
 | is _ _ => cases hkd
 | cmp _ _ _ => cases hkd
 | neg _ => cases hkd
theorem ok_settled (T : Txt K mg A) : ∀ n : Nat, StOk P w K mg base A n (n + 3)
 | 0 => by
   have len : ∀ (j : Nat) (vs : List V) (H : Hp) (Q : VK) (E : XK), spSt A j 0 vs H Q E → False := fun j vs H Q E h => by
     obtain ⟨x, t, zs, d, F, ws, rfl, _, hd, _⟩ := h
     exact absurd hd (by omega)
   exact ⟨⟨fun vs H Q E h => (len _ _ _ _ _ h).elim, fun _ _ _ _ _ _ _ _ _ _ _ _ _ h => (len _ _ _ _ _ h).elim⟩, ⟨fun vs H Q E h => (len _ _ _ _ _ h).elim, fun _ _ _ _ _ _ _ _ _ _ _ _ _ h => (len _ _ _ _ _ h).elim⟩, ⟨fun vs H Q E h => (len _ _ _ _ _ h).elim, fun _ _ _ _ _ _ _ _ _ _ _ _ _ h => (len _ _ _ _ _ h).elim⟩, ⟨fun vs H Q E h => (len _ _ _ _ _ h).elim, fun _ _ _ _ _ _ _ _ _ _ _ _ _ h => (len _ _ _ _ _ h).elim⟩, ⟨fun vs H Q E h => (len _ _ _ _ _ h).elim, fun _ _ _ _ _ _ _ _ _ _ _ _ _ h => (len _ _ _ _ _ h).elim⟩⟩
 | n + 1 =>
   have ih := ok_settled T n
   ⟨ok_is_settled T (by omega), ok_co_settled T (by omega), ok_no_settled T (Nat.le_refl _) (by omega) ih, ok_bo_settled T (Nat.le_refl _) (by omega) ih, ok_ei_settled T (Nat.le_refl _) (by omega) ih⟩
end
end K16
set_option maxHeartbeats 4000000
namespace K16
open PySem L2
seal PE PT PW PA PS PSs PG PGs PI PO PSet OpR UnR CallR TruR IxR SlR PC PPs
local macro_rules | `(tactic| walk_at "rd1") => `(tactic| first
 | (refine And.intro rfl ?_)
 | (refine And.intro (by assumption) ?_)
 | (refine And.intro (fun _ e => e) ?_)
 | (refine And.intro (TyOf.str _) ?_) | (refine And.intro (TyOf.int _) ?_) | (refine And.intro (TyOf.bl _) ?_) | (refine And.intro TyOf.non ?_)
 | (refine iteT ?_) | (refine iteF ?_)
 | (apply Exists.intro))
local macro_rules | `(tactic| walk_at "rd") => `(tactic| repeat (walk_at "rd1"))
def atT : Tr → List Tr
 | .is n v => [.is n v]
 | .cmp n h m => [.cmp n h m]
 | .neg t => atT t
 | .two _ s t => atT s ++ atT t
def IsAt : Tr → Prop
 | .is _ _ => True
 | .cmp _ _ _ => True
 | _ => False
theorem atT_len : ∀ t : Tr, (atT t).length = t.size
 | .is _ _ => rfl
 | .cmp _ _ _ => rfl
 | .neg t => atT_len t
 | .two _ s t => by show (atT s ++ atT t).length = s.size + t.size; rw [List.length_append, atT_len s, atT_len t]
theorem atT_mem {zs : List Str} : ∀ {t : Tr}, t.Ok zs → ∀ a ∈ atT t, IsAt a ∧ a.Ok zs ∧ a.depth = 1
 | .is n v, h, a, ha => by rw [List.mem_singleton.mp ha]; exact ⟨trivial, h, rfl⟩
 | .cmp n x m, h, a, ha => by rw [List.mem_singleton.mp ha]; exact ⟨trivial, h, rfl⟩
 | .neg t, h, a, ha => atT_mem (t := t) h a ha
 | .two _ s t, h, a, ha => by
   rcases List.mem_append.mp ha with e | e
   · exact atT_mem h.1 a e
   · exact atT_mem h.2 a e
theorem paired_mono {α β : Type} {R R' : α → β → Prop} (h : ∀ a b, R a b → R' a b) {as : List α} {bs : List β} (k : Paired R as bs) : Paired R' as bs := by
 induction k with
 | nil => exact .nil
 | cons r _ ih => exact .cons (h _ _ r) ih
theorem paired_at {α β : Type} {R : α → β → Prop} {as : List α} {bs : List β} (h : Paired R as bs) : ∀ {i : Nat} {x : α}, as[i]? = some x → ∃ b, bs[i]? = some b ∧ R x b := by
 induction h with
 | nil => intro i x e; simp at e
 | cons a _ ih =>
   intro i x e
   cases i with
   | zero => cases e; exact ⟨_, rfl, a⟩
   | succ j => exact ih e
theorem paired_len {α β : Type} {R : α → β → Prop} {as : List α} {bs : List β} (h : Paired R as bs) : as.length = bs.length := by
 induction h with
 | nil => rfl
 | cons _ _ ih => rw [List.length_cons, List.length_cons, ih]
def spLA (K : W.Frag) (n : Nat) : Sp := fun vs H Q _ => ∃ (x : V) (t : Tr), vs = [x] ∧ TrR K H t x ∧ t.depth < n ∧ t.size ≤ 1000 ∧ ∀ a ys H', Same H H' → H' a = some (.lst ys) → Paired (fun y u => TrR K H' u y) ys (atT t) → Q (.ref a) H'
def spW : Sp := fun vs H Q _ => ∃ a : Str, vs = [.str a, .str a] ∧ Q (.bl true) H
def spSm (A : Adr) (K : W.Frag) (n : Nat) : Sp := fun vs H Q _ => ∃ (y x : V) (t : Tr) (zs : List Str), vs = [y, x] ∧ SyR A H t y ∧ TrR K H t x ∧ t.depth < n ∧ t.Ok zs ∧ Q (.bl true) H
def spSu (A : Adr) (K : W.Frag) : Sp := fun vs H Q _ => ∃ (x : V) (u : Tr) (zs : List Str) (d pw : Addr) (F : KF) (ws : List Str), vs = [x, .ref d, .ref pw] ∧ TrR K H u x ∧ IsAt u ∧ u.Ok zs ∧ KdR A H F ws d ∧ H pw = some (.lst (ws.map V.str)) ∧ ∀ H', Same H H' → Q (.bl (wrong F ws u).isNone) H'
def spPl (A : Adr) (K : W.Frag) : Sp := fun vs H Q _ => ∃ (x : V) (n z : Str) (d pw : Addr) (F : KF) (ws : List Str), vs = [x, .ref d, .ref pw] ∧ TrR K H (.is n (.str z)) x ∧ okI F ws n (.str z) = true ∧ KdR A H F ws d ∧ H pw = some (.lst (ws.map V.str)) ∧ ∀ H', Same H H' → Q (.int (plI F ws n (.str z))) H'
def spKn (A : Adr) (K : W.Frag) (n : Nat) : Sp := fun vs H Q _ => ∃ (y x : V) (t : Tr) (zs : List Str) (d pw : Addr) (F : KF) (ws : List Str), vs = [y, x, .ref d, .ref pw] ∧ SyF A (plF F ws) H t y ∧ TrR K H t x ∧ t.depth < n ∧ t.Ok zs ∧ wrong F ws t = none ∧ KdR A H F ws d ∧ H pw = some (.lst (ws.map V.str)) ∧ ∀ H', Same H H' → Q (.bl true) H'
section
variable {P : Program} {w : World} {K : W.Frag} {mg : Str → Option Value} {base : Heap} {A : Adr}
theorem ok_law_atoms (T : Txt K mg A) : ∀ n : Nat, FnOk P w K mg base CX0 n A.f_law_atoms A.d_law_atoms ["_law_tree_here"] (spLA K n)
 | 0 => by
   have len : ∀ (vs : List V) (H : Hp) (Q : VK) (E : XK), spLA K 0 vs H Q E → False := fun vs H Q E h => by
     obtain ⟨x, t, rfl, _, hd, _⟩ := h
     exact absurd hd (by omega)
   exact ⟨fun vs H Q E h => (len _ _ _ _ h).elim, fun _ _ _ _ _ _ _ _ _ _ _ _ _ h => (len _ _ _ _ h).elim⟩
 | n + 1 => by
   have G_law_atoms := ok_law_atoms T n
   refine T.F_law_atoms.ok sc_law_atoms (fun vs H Q E h => ?_) (fun cdv A0 outer s H vs Q E hr h => ?_)
   · obtain ⟨x, t, rfl, _⟩ := h
     rfl
   obtain ⟨x, t, rfl, htr, hd, hz, q⟩ := h
   refine ⟨_, (zE (zX (zR op_in_seq (zM zP (pv 0) zC (fun _ _ => rfl)) (yS (zA zQ (zA zQ zD))) (by rfl)) (zF (zK (yU (zA (pv 0) zD)))) zS)
     (zE (zX (zR yM (zM zP (pv 0) zC (fun _ _ => rfl)) zQ (zU _)) (zF (zK (zL G_law_atoms (hr.mono (by first | decide | omega)) rfl T.m_law_atoms T.k_law_atoms T.b_law_atoms .nil zO (zA (zM zP (pv 0) zC (fun _ _ => rfl)) zD)))) zS)
     (zF (zK (zI op_cat (zL G_law_atoms (hr.mono (by first | decide | omega)) rfl T.m_law_atoms T.k_law_atoms T.b_law_atoms .nil zO (zA (zM zP (pv 0) zC (fun _ _ => rfl)) zD)) (zL G_law_atoms (hr.mono (by first | decide | omega)) rfl T.m_law_atoms T.k_law_atoms T.b_law_atoms .nil zO (zA (zM zP (pv 0) zC (fun _ _ => rfl)) zD))))))), ?_⟩
   have flat2 : ∀ {z : Str}, ([V.str (Str.ofString "is"), V.str (Str.ofString "compare")] : List V).all flatV = true := rfl
   cases t with
   | is nm v =>
     obtain ⟨a, rfl, ha⟩ := htr
     have b0 : atI [V.str "is", V.str nm, v] ((0 : Nat) : Int) = some (.str "is") := zH rfl
     refine ⟨_, rfl, a, _, _, _, rfl, rfl, ha, b0, (by show 2 ≤ sizeLine; decide), fun pt hpt => ⟨pt, _, rfl, .inr (SqT.of zB), rfl, rfl, _, rfl, iteT ?_⟩⟩
     have s1 := zG hpt (.tup [.str "is", .str "compare"])
     refine ⟨_, rfl, (by show 1 ≤ sizeLine; decide), fun pl hpl => ?_⟩
     have s2 := zG hpl (.lst [.ref a])
     exact q pl _ _ (s1.trans s2) zB (.cons ⟨a, rfl, (s1.trans s2).seqT ha⟩ .nil)
   | cmp nm h m =>
     obtain ⟨a, rfl, ha⟩ := htr
     have b0 : atI [V.str "compare", V.str nm, .str h, .int m] ((0 : Nat) : Int) = some (.str "compare") := zH rfl
     refine ⟨_, rfl, a, _, _, _, rfl, rfl, ha, b0, (by show 2 ≤ sizeLine; decide), fun pt hpt => ⟨pt, _, rfl, .inr (SqT.of zB), rfl, rfl, _, rfl, iteT ?_⟩⟩
     have s1 := zG hpt (.tup [.str "is", .str "compare"])
     refine ⟨_, rfl, (by show 1 ≤ sizeLine; decide), fun pl hpl => ?_⟩
     have s2 := zG hpl (.lst [.ref a])
     exact q pl _ _ (s1.trans s2) zB (.cons ⟨a, rfl, (s1.trans s2).seqT ha⟩ .nil)
   | neg t =>
     obtain ⟨a, y, rfl, ha, ht⟩ := htr
     have b0 : atI [V.str "not", y] ((0 : Nat) : Int) = some (.str "not") := zH rfl
     have b1 : atI [V.str "not", y] ((1 : Nat) : Int) = some y := zH rfl
     have hd' : t.depth + 1 < n + 1 := hd
     refine ⟨_, rfl, a, _, _, _, rfl, rfl, ha, b0, (by show 2 ≤ sizeLine; decide), fun pt hpt => ⟨pt, _, rfl, .inr (SqT.of zB), rfl, rfl, _, rfl, iteF ?_⟩⟩
     have s1 := zG hpt (.tup [.str "is", .str "compare"])
     have k1 := KT.of s1
     refine ⟨_, rfl, a, _, _, _, rfl, rfl, k1.sqT ha, b0, rfl, _, rfl, eqS rfl ?_⟩
     exact ⟨_, rfl, a, _, _, _, rfl, rfl, k1.sqT ha, b1, y, t, rfl, k1.tr ht, by omega, hz, fun l ys H' s2 e p => q l ys H' (s1.trans s2) e p⟩
   | two o t1 t2 =>
     obtain ⟨a, y, z, rfl, ha, ht1, ht2⟩ := htr
     have hd' : 1 + max t1.depth t2.depth < n + 1 := hd
     have hz' : t1.size + t2.size ≤ 1000 := hz
     have b1 : atI [V.str (hw o), y, z] ((1 : Nat) : Int) = some y := zH rfl
     have b2 : atI [V.str (hw o), y, z] ((2 : Nat) : Int) = some z := zH rfl
     have b0 : atI [V.str (hw o), y, z] ((0 : Nat) : Int) = some (.str (hw o)) := zH rfl
     have ein : inV (.str (hw o)) [.str (Str.ofString "is"), .str (Str.ofString "compare")] = false := by cases o <;> decide +kernel
     have enot : hw o ≠ "not" := by cases o <;> decide
     refine ⟨_, rfl, a, _, _, _, rfl, rfl, ha, b0, (by show 2 ≤ sizeLine; decide), fun pt hpt => ⟨pt, _, rfl, .inr (SqT.of zB), rfl, rfl, _, rfl, ?_⟩⟩
     rw [show (if false = true then !inV (.str (hw o)) [.str (Str.ofString "is"), .str (Str.ofString "compare")] else inV (.str (hw o)) [.str (Str.ofString "is"), .str (Str.ofString "compare")]) = false from ein]
     refine iteF ?_
     have s1 := zG hpt (.tup [.str (Str.ofString "is"), .str (Str.ofString "compare")])
     have k1 := KT.of s1
     refine ⟨_, rfl, a, _, _, _, rfl, rfl, k1.sqT ha, b0, rfl, _, rfl, neS enot ?_⟩
     refine ⟨_, rfl, a, _, _, _, rfl, rfl, k1.sqT ha, b1, y, t1, rfl, k1.tr ht1, by omega, by omega, fun l1 ys1 H1 s2 e1 p1 => ?_⟩
     have k2 := KT.of (s1.trans s2)
     refine ⟨_, rfl, a, _, _, _, rfl, rfl, k2.sqT ha, b2, z, t2, rfl, k2.tr ht2, by omega, by omega, fun l2 ys2 H2 s3 e2 p2 => ?_⟩
     refine ⟨l1, l2, ys1, ys2, rfl, rfl, s3 _ _ e1, e2, ?_, fun p hp => ?_⟩
     · rw [paired_len p1, paired_len p2, atT_len, atT_len]; exact Nat.le_trans hz' (by decide)
     have s4 := zG hp (.lst (ys1 ++ ys2))
     exact q p _ _ (s1.trans (s2.trans (s3.trans s4))) zB (paired_app (paired_mono (fun y u r => (KT.of (s3.trans s4)).tr r) p1) (paired_mono (fun y u r => (KT.of s4).tr r) p2))
theorem ok_law_whole (T : Txt K mg A) : FnOk P w K mg base CX0 1 A.f_law_whole A.d_law_whole ["_law_found"] (spIsWhole K) := by
 refine T.F_law_whole.ok sc_law_whole (fun vs H Q E h => ?_) (fun cdv A0 outer s H vs Q E hr h => ?_)
 · obtain ⟨x, _, _, _, rfl, _⟩ := h
   rfl
 obtain ⟨x, t, bi, bb, rfl, ty, k1, k2, q⟩ := h
 refine ⟨_, (zF (zK (yT (zT zZ (by rfl) T.n_isinstance Bt.isinstance (zA (pv 0) (zA (pe_bltn (v := .ty "int") rfl T.n_int Bt.int rfl) zD))) (xB (pe_not (zT zZ (by rfl) T.n_isinstance Bt.isinstance (zA (pv 0) (zA (pe_bltn (v := .ty "bool") rfl T.n_bool Bt.bool rfl) zD)))))))), ?_⟩
 refine ⟨_, rfl, _, _, _, _, rfl, rfl, ty, k1, _, rfl, ?_⟩
 cases bi with
 | false => exact iteF q
 | true => exact iteT ⟨_, rfl, _, _, _, _, rfl, rfl, ty, k2, _, rfl, q⟩
theorem ok_law_word (T : Txt K mg A) : FnOk P w K mg base CX0 1 A.f_law_word A.d_law_word ["_law_found", "_law_due"] spW := by
 refine T.F_law_word.ok sc_law_word (fun vs H Q E h => ?_) (fun cdv A0 outer s H vs Q E hr h => ?_)
 · obtain ⟨a, rfl, _⟩ := h
   rfl
 obtain ⟨a, rfl, q⟩ := h
 refine ⟨_, (zF (zK (yT (zT zZ (by rfl) T.n_isinstance Bt.isinstance (zA (pv 0) (zA (pe_bltn (v := .ty "str") rfl T.n_str Bt.str rfl) zD))) (xB (pe_cmpR yM (pv 0) (pv 1) (zU _)))))), ?_⟩
 refine ⟨_, rfl, _, _, _, _, rfl, rfl, .old (.str a), T.i_str_str, _, rfl, iteT ⟨_, rfl, _, rfl, rfl, ?_⟩⟩
 rw [decide_eq_true rfl]
 exact q
theorem ok_law_same (T : Txt K mg A) : ∀ n : Nat, FnOk P w K mg base CX0 (n + 1) A.f_law_same A.d_law_same ["_law_found", "_law_tree_here"] (spSm A K n)
 | 0 => by
   have len : ∀ (vs : List V) (H : Hp) (Q : VK) (E : XK), spSm A K 0 vs H Q E → False := fun vs H Q E h => by
     obtain ⟨y, x, t, zs, rfl, _, _, hd, _⟩ := h
     exact absurd hd (by omega)
   exact ⟨fun vs H Q E h => (len _ _ _ _ h).elim, fun _ _ _ _ _ _ _ _ _ _ _ _ _ h => (len _ _ _ _ h).elim⟩
 | n + 1 => by
   have G_law_same := ok_law_same T n
   have G_law_whole := ok_law_whole (P := P) (w := w) (base := base) T
   have G_law_word := ok_law_word (P := P) (w := w) (base := base) T
   refine T.F_law_same.ok sc_law_same (fun vs H Q E h => ?_) (fun cdv A0 outer s H vs Q E hr h => ?_)
   · obtain ⟨y, x, t, zs, rfl, _⟩ := h
     rfl
   obtain ⟨y, x, t, zs, rfl, hsy, htr, hd, hok, q⟩ := h
   refine ⟨_, (zE (zX (zR yM (zM zP (pv 1) zC (fun _ _ => rfl)) zQ (zU _)) (zE (zX (PW.pt (pw_or (yN (yA (zT zZ (by rfl) T.n_isinstance Bt.isinstance (zA (pv 0) (zA (yH rfl T.v_Is) zD))))) (pw_or1 (zR op_notN (zV (pv 0) rfl) pe_non (zU _))))) (zF (zK pe_bl)) zS)
     (zF (zK (yT (zL G_law_word (hr.mono (by first | decide | omega)) rfl T.m_law_word T.k_law_word T.b_law_word .nil zO (zA (zV (pv 0) rfl) (zA (zM zP (pv 1) zC (fun _ _ => rfl)) zD))) (xB (zL G_law_word (hr.mono (by first | decide | omega)) rfl T.m_law_word T.k_law_word T.b_law_word .nil zO (zA (zV (pv 0) rfl) (zA (zM zP (pv 1) zC (fun _ _ => rfl)) zD)))))))) zS)
     (zE (zX (zR yM (zM zP (pv 1) zC (fun _ _ => rfl)) zQ (zU _)) (zE (zX (PW.pt (pw_or (yN (yA (zT zZ (by rfl) T.n_isinstance Bt.isinstance (zA (pv 0) (zA (yH rfl T.v_Compare) zD))))) (pw_or (yN (yA (zL G_law_whole (hr.mono (by first | decide | omega)) rfl T.m_law_whole T.k_law_whole T.b_law_whole .nil zO (zA (zV (pv 0) rfl) zD)))) (pw_or1 (zR op_ne (zV (pv 0) rfl) (zM zP (pv 1) zC (fun _ _ => rfl)) (zU _)))))) (zF (zK pe_bl)) zS)
     (zF (zK (yT (zL G_law_word (hr.mono (by first | decide | omega)) rfl T.m_law_word T.k_law_word T.b_law_word .nil zO (zA (zV (pv 0) rfl) (zA (zM zP (pv 1) zC (fun _ _ => rfl)) zD))) (xB (zL G_law_word (hr.mono (by first | decide | omega)) rfl T.m_law_word T.k_law_word T.b_law_word .nil zO (zA (zV (pv 0) rfl) (zA (zM zP (pv 1) zC (fun _ _ => rfl)) zD)))))))) zS)
     (zE (zX (zR yM (zM zP (pv 1) zC (fun _ _ => rfl)) zQ (zU _)) (zF (zK (yT (zT zZ (by rfl) T.n_isinstance Bt.isinstance (zA (pv 0) (zA (yH rfl T.v_Not) zD))) (xB (zL G_law_same (hr.mono (by first | decide | omega)) rfl T.m_law_same T.k_law_same T.b_law_same .nil zO (zA (zV (pv 0) rfl) (zA (zM zP (pv 1) zC (fun _ _ => rfl)) zD))))))) zS)
     (zE (zX (PW.pt (pw_or (PW.pt (xD (zR yM (zM zP (pv 1) zC (fun _ _ => rfl)) zQ (zU _)) (xA (yN (yA (zT zZ (by rfl) T.n_isinstance Bt.isinstance (zA (pv 0) (zA (yH rfl T.v_Both) zD)))))))) (pw_or1 (PW.pt (xD (zR yM (zM zP (pv 1) zC (fun _ _ => rfl)) zQ (zU _)) (xA (yN (yA (zT zZ (by rfl) T.n_isinstance Bt.isinstance (zA (pv 0) (zA (yH rfl T.v_Either) zD))))))))))) (zF (zK pe_bl)) zS)
     (zF (zK (yT (zL G_law_same (hr.mono (by first | decide | omega)) rfl T.m_law_same T.k_law_same T.b_law_same .nil zO (zA (zV (pv 0) rfl) (zA (zM zP (pv 1) zC (fun _ _ => rfl)) zD))) (xB (zL G_law_same (hr.mono (by first | decide | omega)) rfl T.m_law_same T.k_law_same T.b_law_same .nil zO (zA (zV (pv 0) rfl) (zA (zM zP (pv 1) zC (fun _ _ => rfl)) zD))))))))))), ?_⟩
   cases t with
   | is nm v =>
     obtain ⟨a, rfl, ha⟩ := htr
     obtain ⟨o, dx, p, rfl, ho, rfl⟩ := hsy
     obtain ⟨hn, wd, rfl, hwn⟩ := hok
     have b0 : atI [V.str "is", V.str nm, V.str wd] ((0 : Nat) : Int) = some (.str "is") := zH rfl
     have b1 : atI [V.str "is", V.str nm, V.str wd] ((1 : Nat) : Int) = some (.str nm) := zH rfl
     have b2 : atI [V.str "is", V.str nm, V.str wd] ((2 : Nat) : Int) = some (.str wd) := zH rfl
     refine ⟨_, rfl, a, _, _, _, rfl, rfl, ha, b0, rfl, _, rfl, eqS rfl ?_⟩
     refine ⟨_, rfl, _, _, _, _, rfl, rfl, .old (T.ty_Is _ _ _ _ ho), T.kr_Is_Is, _, rfl, iteF ?_⟩
     refine ⟨_, rfl, o, _, dx, _, _, rfl, ho, T.cl_Is, T.no_Is_place, rfl, rfl, _, rfl, iteF ?_⟩
     refine ⟨_, rfl, o, _, dx, _, _, rfl, ho, T.cl_Is, T.no_Is_name, rfl, _, rfl, a, _, _, _, rfl, rfl, ha, b1, nm, rfl, _, rfl, iteT ?_⟩
     exact ⟨_, rfl, o, _, dx, _, _, rfl, ho, T.cl_Is, T.no_Is_word, rfl, _, rfl, a, _, _, _, rfl, rfl, ha, b2, wd, rfl, q⟩
   | cmp nm h m =>
     obtain ⟨a, rfl, ha⟩ := htr
     obtain ⟨o, dx, rfl, ho⟩ := hsy
     have b0 : atI [V.str "compare", V.str nm, .str h, .int m] ((0 : Nat) : Int) = some (.str "compare") := zH rfl
     have b1 : atI [V.str "compare", V.str nm, .str h, .int m] ((1 : Nat) : Int) = some (.str nm) := zH rfl
     have b2 : atI [V.str "compare", V.str nm, .str h, .int m] ((2 : Nat) : Int) = some (.str h) := zH rfl
     have b3 : atI [V.str "compare", V.str nm, .str h, .int m] ((3 : Nat) : Int) = some (.int m) := zH rfl
     refine ⟨_, rfl, a, _, _, _, rfl, rfl, ha, b0, rfl, _, rfl, neS (by decide) ?_⟩
     refine ⟨_, rfl, a, _, _, _, rfl, rfl, ha, b0, rfl, _, rfl, eqS rfl ?_⟩
     refine ⟨_, rfl, _, _, _, _, rfl, rfl, .old (T.ty_Compare _ _ _ _ ho), T.kr_Compare_Compare, _, rfl, iteF ?_⟩
     refine ⟨_, rfl, o, _, dx, _, _, rfl, ho, T.cl_Compare, T.no_Compare_number, rfl, _, _, _, _, rfl, .old (.int m), T.i_int_int, T.i_int_bool, _, rfl, iteF ?_⟩
     refine ⟨_, rfl, o, _, dx, _, _, rfl, ho, T.cl_Compare, T.no_Compare_number, rfl, _, rfl, a, _, _, _, rfl, rfl, ha, b3, rfl, _, rfl, ?_⟩
     rw [decide_eq_true rfl]
     refine iteF ?_
     refine ⟨_, rfl, o, _, dx, _, _, rfl, ho, T.cl_Compare, T.no_Compare_name, rfl, _, rfl, a, _, _, _, rfl, rfl, ha, b1, nm, rfl, _, rfl, iteT ?_⟩
     exact ⟨_, rfl, o, _, dx, _, _, rfl, ho, T.cl_Compare, T.no_Compare_how, rfl, _, rfl, a, _, _, _, rfl, rfl, ha, b2, h, rfl, q⟩
   | neg t =>
     obtain ⟨a, y, rfl, ha, ht⟩ := htr
     obtain ⟨o, dx, y', rfl, ho, hs1⟩ := hsy
     have b0 : atI [V.str "not", y] ((0 : Nat) : Int) = some (.str "not") := zH rfl
     have b1 : atI [V.str "not", y] ((1 : Nat) : Int) = some y := zH rfl
     have hd' : t.depth + 1 < n + 1 := hd
     refine ⟨_, rfl, a, _, _, _, rfl, rfl, ha, b0, rfl, _, rfl, neS (by decide) ?_⟩
     refine ⟨_, rfl, a, _, _, _, rfl, rfl, ha, b0, rfl, _, rfl, neS (by decide) ?_⟩
     refine ⟨_, rfl, a, _, _, _, rfl, rfl, ha, b0, rfl, _, rfl, eqS rfl ?_⟩
     refine ⟨_, rfl, _, _, _, _, rfl, rfl, .old (T.ty_Not _ _ _ _ ho), T.kr_Not_Not, _, rfl, iteT ?_⟩
     exact ⟨_, rfl, o, _, dx, _, _, rfl, ho, T.cl_Not, T.no_Not_test, rfl, _, rfl, a, _, _, _, rfl, rfl, ha, b1, y', y, t, zs, rfl, hs1, ht, by omega, hok, q⟩
   | two ob t1 t2 =>
     obtain ⟨a, y, z, rfl, ha, ht1, ht2⟩ := htr
     obtain ⟨o, dx, y', z', rfl, ho, hs1, hs2⟩ := hsy
     have hd' : 1 + max t1.depth t2.depth < n + 1 := hd
     have b1 : atI [V.str (hw ob), y, z] ((1 : Nat) : Int) = some y := zH rfl
     have b2 : atI [V.str (hw ob), y, z] ((2 : Nat) : Int) = some z := zH rfl
     have b0 : atI [V.str (hw ob), y, z] ((0 : Nat) : Int) = some (.str (hw ob)) := zH rfl
     refine ⟨_, rfl, a, _, _, _, rfl, rfl, ha, b0, rfl, _, rfl, neS (by cases ob <;> decide) ?_⟩
     refine ⟨_, rfl, a, _, _, _, rfl, rfl, ha, b0, rfl, _, rfl, neS (by cases ob <;> decide) ?_⟩
     refine ⟨_, rfl, a, _, _, _, rfl, rfl, ha, b0, rfl, _, rfl, neS (by cases ob <;> decide) ?_⟩
     have cl : Cls K (cT A ob) ∧ NoAttr K (cT A ob) "one" ∧ NoAttr K (cT A ob) "other" := by
       cases ob
       · exact ⟨T.cl_Both, T.no_Both_one, T.no_Both_other⟩
       · exact ⟨T.cl_Either, T.no_Either_one, T.no_Either_other⟩
     cases ob with
     | false =>
       refine ⟨_, rfl, a, _, _, _, rfl, rfl, ha, b0, rfl, _, rfl, eqS rfl ⟨_, rfl, _, _, _, _, rfl, rfl, .old (T.ty_Both _ _ _ _ ho), T.kr_Both_Both, _, rfl, iteF ?_⟩⟩
       refine ⟨_, rfl, a, _, _, _, rfl, rfl, ha, b0, rfl, _, rfl, neS (by decide) (iteF ?_)⟩
       refine ⟨_, rfl, o, _, dx, _, _, rfl, ho, cl.1, cl.2.1, rfl, _, rfl, a, _, _, _, rfl, rfl, ha, b1, y', y, t1, zs, rfl, hs1, ht1, by omega, hok.1, _, rfl, iteT ?_⟩
       exact ⟨_, rfl, o, _, dx, _, _, rfl, ho, cl.1, cl.2.2, rfl, _, rfl, a, _, _, _, rfl, rfl, ha, b2, z', z, t2, zs, rfl, hs2, ht2, by omega, hok.2, q⟩
     | true =>
       refine ⟨_, rfl, a, _, _, _, rfl, rfl, ha, b0, rfl, _, rfl, neS (by decide) (iteF ?_)⟩
       refine ⟨_, rfl, a, _, _, _, rfl, rfl, ha, b0, rfl, _, rfl, eqS rfl ⟨_, rfl, _, _, _, _, rfl, rfl, .old (T.ty_Either _ _ _ _ ho), T.kr_Either_Either, _, rfl, iteF ?_⟩⟩
       refine ⟨_, rfl, o, _, dx, _, _, rfl, ho, cl.1, cl.2.1, rfl, _, rfl, a, _, _, _, rfl, rfl, ha, b1, y', y, t1, zs, rfl, hs1, ht1, by omega, hok.1, _, rfl, iteT ?_⟩
       exact ⟨_, rfl, o, _, dx, _, _, rfl, ho, cl.1, cl.2.2, rfl, _, rfl, a, _, _, _, rfl, rfl, ha, b2, z', z, t2, zs, rfl, hs2, ht2, by omega, hok.2, q⟩
theorem in_yn (z : Str) : inV (.str z) [.str (Str.ofString "yes"), .str (Str.ofString "no")] = decide (z = "yes" ∨ z = "no") := by
 show inV (.str z) ((["yes", "no"] : List Str).map V.str) = _
 rw [inV_strs]
 exact decide_eq_decide.mpr (by simp)
theorem ok_law_suits (T : Txt K mg A) : FnOk P w K mg base CX0 1 A.f_law_suits A.d_law_suits ["_law_atom_here", "_law_kinds_here", "_law_words_here"] (spSu A K) := by
 refine T.F_law_suits.ok sc_law_suits (fun vs H Q E h => ?_) (fun cdv A0 outer s H vs Q E hr h => ?_)
 · obtain ⟨x, u, zs, d, pw, F, ws, rfl, _⟩ := h
   rfl
 obtain ⟨x, u, zs, d, pw, F, ws, rfl, htr, hat, hok, hD, hpw, q⟩ := h
 refine ⟨_, (zE (zY (i := 3) sc_law_suits.nd rfl (by first | exact Or.inl rfl | exact Or.inr rfl) (pe_dget1 (hu_of hr) (pv 1) (zM zP (pv 0) zC (fun _ _ => rfl)) ⟨rfl, rfl, rfl, rfl⟩))
     (zE (zX (zR yM (zM zP (pv 0) zC (fun _ _ => rfl)) zQ (zU _)) (zF (zK (pe_not (zT call_isiT (by rfl) T.n_isinstance Bt.isinstance (zA (pv 3) (zA (yS (zA (yH rfl T.v_YesNo) (zA (yH rfl T.v_Pick) zD))) zD)))))) zS)
     (zE (zX (yA (zT zZ (by rfl) T.n_isinstance Bt.isinstance (zA (pv 3) (zA (yH rfl T.v_YesNo) zD)))) (zF (zK (pe_cmpR op_in_seq (zM zP (pv 0) zC (fun _ _ => rfl)) (yU (zA zQ (zA zQ zD))) (by rfl)))) zS)
     (zF (zK (yT (zT zZ (by rfl) T.n_isinstance Bt.isinstance (zA (pv 3) (zA (yH rfl T.v_Pick) zD))) (xB (pe_cmpR op_in_seq (zM zP (pv 0) zC (fun _ _ => rfl)) (pv 2) (by rfl))))))))), ?_⟩
 cases u with
 | is nm v =>
   obtain ⟨hn, wd, rfl, hwn⟩ := hok
   obtain ⟨a, rfl, ha⟩ := htr
   have b0 : atI [V.str "is", V.str nm, V.str wd] ((0 : Nat) : Int) = some (.str "is") := zH rfl
   have b1 : atI [V.str "is", V.str nm, V.str wd] ((1 : Nat) : Int) = some (.str nm) := zH rfl
   have b2 : atI [V.str "is", V.str nm, V.str wd] ((2 : Nat) : Int) = some (.str wd) := zH rfl
   obtain ⟨v, hv1, hv2⟩ := hD.get nm
   refine ⟨_, rfl, d, rfl, hD.isD, _, rfl, a, _, _, _, rfl, rfl, ha, b1, v, hv1, ?_⟩
   refine ⟨_, rfl, a, _, _, _, rfl, rfl, ha, b0, rfl, _, rfl, neS (by decide) ?_⟩
   have eo : (wrong F ws (.is nm (.str wd))).isNone = ((isYn (F nm) && decide (wd = "yes" ∨ wd = "no")) || (isPk (F nm) && decide (wd ∈ ws))) := by
     unfold wrong
     show (if ((isYn (F nm) && decide (wd = "yes" ∨ wd = "no")) || (isPk (F nm) && decide (wd ∈ ws))) = true then (none : Option Str) else some nm).isNone = _
     cases ((isYn (F nm) && decide (wd = "yes" ∨ wd = "no")) || (isPk (F nm) && decide (wd ∈ ws))) <;> rfl
   rw [eo] at q
   refine ⟨_, rfl, _, _, _, _, rfl, rfl, val_ty T hv2, kit_yn T _, _, rfl, ?_⟩
   cases h1 : isYn (F nm) with
   | true =>
     have h2 : isPk (F nm) = false := by
       unfold isYn isPk at *
       rw [of_decide_eq_true h1]; decide
     rw [h1, h2, Bool.true_and, Bool.false_and, Bool.or_false] at q
     refine iteT ⟨_, rfl, a, _, _, _, rfl, rfl, ha, b2, (by show 2 ≤ sizeLine; decide), fun p1 hp1 => ⟨p1, _, rfl, .inl (SqL.of zB), rfl, rfl, ?_⟩⟩
     rw [in_yn]
     exact q _ (zG hp1 _)
   | false =>
     rw [h1, Bool.false_and, Bool.false_or] at q
     refine iteF ⟨_, rfl, _, _, _, _, rfl, rfl, val_ty T hv2, kit_pk T _, _, rfl, ?_⟩
     cases h2 : isPk (F nm) with
     | false => rw [h2] at q; exact iteF (q H (Same.refl _))
     | true =>
       rw [h2, Bool.true_and] at q
       refine iteT ⟨_, rfl, a, _, _, _, rfl, rfl, ha, b2, _, rfl, pw, _, rfl, .inl (SqL.of hpw), rfl, flat_strs ws, ?_⟩
       rw [inV_strs]; exact q H (Same.refl _)
 | cmp nm h m =>
   obtain ⟨a, rfl, ha⟩ := htr
   have b0 : atI [V.str "compare", V.str nm, .str h, .int m] ((0 : Nat) : Int) = some (.str "compare") := zH rfl
   have b1 : atI [V.str "compare", V.str nm, .str h, .int m] ((1 : Nat) : Int) = some (.str nm) := zH rfl
   obtain ⟨v, hv1, hv2⟩ := hD.get nm
   refine ⟨_, rfl, d, rfl, hD.isD, _, rfl, a, _, _, _, rfl, rfl, ha, b1, v, hv1, ?_⟩
   refine ⟨_, rfl, a, _, _, _, rfl, rfl, ha, b0, rfl, _, rfl, eqS rfl ?_⟩
   refine ⟨_, rfl, (by show 2 ≤ sizeLine; decide), fun t1 ht1 => ?_⟩
   have s1 := zG ht1 (.tup [.ref A.c_YesNo, .ref A.c_Pick])
   have eo : (wrong F ws (.cmp nm h m)).isNone = !(isYn (F nm) || isPk (F nm)) := by
     unfold wrong okC
     cases (isYn (F nm) || isPk (F nm)) <;> rfl
   rw [eo] at q
   exact ⟨_, t1, _, _, _, rfl, zB, rfl, val_ty T (hv2.same s1), kit_yp T _, _, rfl, q _ s1⟩
 | neg _ => exact hat.elim
 | two _ _ _ => exact hat.elim
theorem ix1 : ∀ (m : Nat) (z : V), m < 1 → ([V.str (Str.ofString "no"), V.str (Str.ofString "yes")] : List V)[m]? = some z → eqV z (.str "yes") = false := fun m z hm hz => by
 obtain rfl : m = 0 := by omega
 cases hz; decide +kernel
theorem ok_law_place (T : Txt K mg A) : FnOk P w K mg base CX0 1 A.f_law_place A.d_law_place ["_law_atom_here", "_law_kinds_here", "_law_words_here"] (spPl A K) := by
 refine T.F_law_place.ok sc_law_place (fun vs H Q E h => ?_) (fun cdv A0 outer s H vs Q E hr h => ?_)
 · obtain ⟨x, n, z, d, pw, F, ws, rfl, _⟩ := h
   rfl
 obtain ⟨x, nm, wd, d, pw, F, ws, rfl, htr, hok, hD, hpw, q⟩ := h
 refine ⟨_, (zE (zX (yA (zT zZ (by rfl) T.n_isinstance Bt.isinstance (zA (pe_dget (hu_of hr) (pv 1) (zM zP (pv 0) zC (fun _ _ => rfl)) (fun _ _ => rfl)) (zA (yH rfl T.v_YesNo) zD)))) (zF (zK (pe_bm PySem.F.plainAttrs_list PySem.F.slot_list_index PySem.F.type_list_index mt_lindex (yU (zA zQ (zA zQ zD))) (zA (zM zP (pv 0) zC (fun _ _ => rfl)) zD)))) zS)
     (zF (zK (pe_bm PySem.F.plainAttrs_list PySem.F.slot_list_index PySem.F.type_list_index mt_lindex (pv 2) (zA (zM zP (pv 0) zC (fun _ _ => rfl)) zD))))), ?_⟩
 obtain ⟨a, rfl, ha⟩ := htr
 have b1 : atI [V.str "is", V.str nm, V.str wd] ((1 : Nat) : Int) = some (.str nm) := zH rfl
 have b2 : atI [V.str "is", V.str nm, V.str wd] ((2 : Nat) : Int) = some (.str wd) := zH rfl
 obtain ⟨v, hv1, hv2⟩ := hD.get nm
 have hok' : ((isYn (F nm) && decide (wd = "yes" ∨ wd = "no")) || (isPk (F nm) && decide (wd ∈ ws))) = true := hok
 obtain ⟨x0, rfl⟩ : ∃ x0, v = some x0 := by
   cases hF : F nm with
   | none => rw [hF] at hok'; cases hok'
   | some kn => rw [hF] at hv2; obtain ⟨x0, e, _⟩ := hv2; exact ⟨x0, e⟩
 refine ⟨_, rfl, _, rfl, a, _, _, _, rfl, rfl, ha, b1, d, x0, rfl, hv1, _, _, _, _, rfl, rfl, val_ty T hv2, kit_yn T _, _, rfl, ?_⟩
 cases h1 : isYn (F nm) with
 | true =>
   have h2 : isPk (F nm) = false := by
     unfold isYn isPk at *
     rw [of_decide_eq_true h1]; decide
   rw [h1, h2, Bool.true_and, Bool.false_and, Bool.or_false] at hok'
   have hz := of_decide_eq_true hok'
   have e : plI F ws nm (.str wd) = if wd = "yes" then 1 else 0 := by unfold plI; dsimp only; rw [if_pos h1]
   rw [e] at q
   refine iteT ⟨(by show 2 ≤ sizeLine; decide), fun p1 hp1 => ⟨Or.inl ⟨rfl, _, SqL.of zB⟩, _, rfl, a, _, _, _, rfl, rfl, (zG hp1 _).seqT ha, b2, ?_⟩⟩
   rcases hz with hz | hz
   · subst hz
     exact ⟨p1, _, _, 1, rfl, rfl, SqL.of zB, rfl, rfl, ⟨_, rfl, (by symm), ix1⟩, q _ (zG hp1 _)⟩
   · subst hz
     exact ⟨p1, _, _, 0, rfl, rfl, SqL.of zB, rfl, rfl, ⟨_, rfl, (by symm), fun m z hm hz' => absurd hm (by omega)⟩, q _ (zG hp1 _)⟩
 | false =>
   rw [h1, Bool.false_and, Bool.false_or, Bool.and_eq_true] at hok'
   have hz := of_decide_eq_true hok'.2
   have e : plI F ws nm (.str wd) = (ixOf ws wd : Nat) := by unfold plI; dsimp only; rw [h1]; rfl
   rw [e] at q
   exact iteF ⟨_, rfl, Or.inl ⟨rfl, _, SqL.of hpw⟩, _, rfl, a, _, _, _, rfl, rfl, ha, b2, pw, _, _, _, rfl, rfl, SqL.of hpw, flat_strs ws, rfl, idx_of hz, q H (Same.refl _)⟩
end
end K16
set_option maxHeartbeats 4000000
namespace K16
open PySem L2
seal PE PT PW PA PS PSs PG PGs PI PO PSet OpR UnR CallR TruR IxR SlR PC PPs
local macro_rules | `(tactic| walk_at "rd1") => `(tactic| first
 | (refine And.intro rfl ?_)
 | (refine And.intro (by assumption) ?_)
 | (refine And.intro (fun _ e => e) ?_)
 | (refine And.intro (TyOf.str _) ?_) | (refine And.intro (TyOf.int _) ?_) | (refine And.intro (TyOf.bl _) ?_) | (refine And.intro TyOf.non ?_)
 | (refine iteT ?_) | (refine iteF ?_)
 | (apply Exists.intro))
local macro_rules | `(tactic| walk_at "rd") => `(tactic| repeat (walk_at "rd1"))
section
variable {P : Program} {w : World} {K : W.Frag} {mg : Str → Option Value} {base : Heap} {A : Adr}
theorem wrong_two {F : KF} {ws : List Str} {o : Bool} {s t : Tr} (h : wrong F ws (.two o s t) = none) : wrong F ws s = none ∧ wrong F ws t = none := by
 have h' : (wrong F ws s).or (wrong F ws t) = none := h
 cases e : wrong F ws s with
 | none => rw [e] at h'; exact ⟨rfl, h'⟩
 | some z => rw [e] at h'; cases h'
theorem wrong_is {F : KF} {ws : List Str} {n : Str} {v : V} (h : wrong F ws (.is n v) = none) : okI F ws n v = true := by
 unfold wrong at h
 split at h
 · assumption
 · cases h
theorem ok_law_known (T : Txt K mg A) : ∀ n : Nat, FnOk P w K mg base CX0 (n + 3) A.f_law_known A.d_law_known ["_law_found", "_law_tree_here", "_law_kinds_here", "_law_words_here"] (spKn A K n)
 | 0 => by
   have len : ∀ (vs : List V) (H : Hp) (Q : VK) (E : XK), spKn A K 0 vs H Q E → False := fun vs H Q E h => by
     obtain ⟨y, x, t, zs, d, pw, F, ws, rfl, _, _, hd, _⟩ := h
     exact absurd hd (by omega)
   exact ⟨fun vs H Q E h => (len _ _ _ _ h).elim, fun _ _ _ _ _ _ _ _ _ _ _ _ _ h => (len _ _ _ _ h).elim⟩
 | n + 1 => by
   have G_law_known := ok_law_known T n
   have G_law_whole := ok_law_whole (P := P) (w := w) (base := base) T
   have G_law_word := ok_law_word (P := P) (w := w) (base := base) T
   have G_law_place := ok_law_place (P := P) (w := w) (base := base) T
   have G_law_same := ok_law_same (P := P) (w := w) (base := base) T 2
   refine T.F_law_known.ok sc_law_known (fun vs H Q E h => ?_) (fun cdv A0 outer s H vs Q E hr h => ?_)
   · obtain ⟨y, x, t, zs, d, pw, F, ws, rfl, _⟩ := h
     rfl
   obtain ⟨y, x, t, zs, d, pw, F, ws, rfl, hsy, htr, hd, hok, hwr, hD, hpw, q⟩ := h
   refine ⟨_, (zE (zX (zR yM (zM zP (pv 1) zC (fun _ _ => rfl)) zQ (zU _)) (zE (zX (PW.pt (pw_or (yN (yA (zT zZ (by rfl) T.n_isinstance Bt.isinstance (zA (pv 0) (zA (yH rfl T.v_Is) zD))))) (pw_or (yN (yA (zL G_law_whole (hr.mono (by first | decide | omega)) rfl T.m_law_whole T.k_law_whole T.b_law_whole .nil zO (zA (zV (pv 0) rfl) zD)))) (pw_or1 (zR op_ne (zV (pv 0) rfl) (zL G_law_place (hr.mono (by first | decide | omega)) rfl T.m_law_place T.k_law_place T.b_law_place .nil zO (zA (pv 1) (zA (pv 2) (zA (pv 3) zD)))) (zU _)))))) (zF (zK pe_bl)) zS)
     (zF (zK (yT (zL G_law_word (hr.mono (by first | decide | omega)) rfl T.m_law_word T.k_law_word T.b_law_word .nil zO (zA (zV (pv 0) rfl) (zA (zM zP (pv 1) zC (fun _ _ => rfl)) zD))) (xB (zL G_law_word (hr.mono (by first | decide | omega)) rfl T.m_law_word T.k_law_word T.b_law_word .nil zO (zA (zV (pv 0) rfl) (zA (zM zP (pv 1) zC (fun _ _ => rfl)) zD)))))))) zS)
     (zE (zX (zR yM (zM zP (pv 1) zC (fun _ _ => rfl)) zQ (zU _)) (zF (zK (zL G_law_same (hr.mono (by first | decide | omega)) rfl T.m_law_same T.k_law_same T.b_law_same .nil zO (zA (pv 0) (zA (pv 1) zD))))) zS)
     (zE (zX (zR yM (zM zP (pv 1) zC (fun _ _ => rfl)) zQ (zU _)) (zF (zK (yT (zT zZ (by rfl) T.n_isinstance Bt.isinstance (zA (pv 0) (zA (yH rfl T.v_Not) zD))) (xB (zL G_law_known (hr.mono (by first | decide | omega)) rfl T.m_law_known T.k_law_known T.b_law_known .nil zO (zA (zV (pv 0) rfl) (zA (zM zP (pv 1) zC (fun _ _ => rfl)) (zA (pv 2) (zA (pv 3) zD))))))))) zS)
     (zE (zX (PW.pt (pw_or (PW.pt (xD (zR yM (zM zP (pv 1) zC (fun _ _ => rfl)) zQ (zU _)) (xA (yN (yA (zT zZ (by rfl) T.n_isinstance Bt.isinstance (zA (pv 0) (zA (yH rfl T.v_Both) zD)))))))) (pw_or1 (PW.pt (xD (zR yM (zM zP (pv 1) zC (fun _ _ => rfl)) zQ (zU _)) (xA (yN (yA (zT zZ (by rfl) T.n_isinstance Bt.isinstance (zA (pv 0) (zA (yH rfl T.v_Either) zD))))))))))) (zF (zK pe_bl)) zS)
     (zF (zK (yT (zL G_law_known (hr.mono (by first | decide | omega)) rfl T.m_law_known T.k_law_known T.b_law_known .nil zO (zA (zV (pv 0) rfl) (zA (zM zP (pv 1) zC (fun _ _ => rfl)) (zA (pv 2) (zA (pv 3) zD))))) (xB (zL G_law_known (hr.mono (by first | decide | omega)) rfl T.m_law_known T.k_law_known T.b_law_known .nil zO (zA (zV (pv 0) rfl) (zA (zM zP (pv 1) zC (fun _ _ => rfl)) (zA (pv 2) (zA (pv 3) zD))))))))))))), ?_⟩
   cases t with
   | is nm v =>
     obtain ⟨a, rfl, ha⟩ := htr
     obtain ⟨o, dx, p, rfl, ho, hp⟩ := hsy
     obtain ⟨hn, wd, rfl, hwn⟩ := hok
     have hp' : p = .int (plI F ws nm (.str wd)) := hp
     subst hp'
     have b0 : atI [V.str "is", V.str nm, V.str wd] ((0 : Nat) : Int) = some (.str "is") := zH rfl
     have b1 : atI [V.str "is", V.str nm, V.str wd] ((1 : Nat) : Int) = some (.str nm) := zH rfl
     have b2 : atI [V.str "is", V.str nm, V.str wd] ((2 : Nat) : Int) = some (.str wd) := zH rfl
     refine ⟨_, rfl, a, _, _, _, rfl, rfl, ha, b0, rfl, _, rfl, eqS rfl ?_⟩
     refine ⟨_, rfl, _, _, _, _, rfl, rfl, .old (T.ty_Is _ _ _ _ ho), T.kr_Is_Is, _, rfl, iteF ?_⟩
     refine ⟨_, rfl, o, _, dx, _, _, rfl, ho, T.cl_Is, T.no_Is_place, rfl, _, _, _, _, rfl, .old (.int _), T.i_int_int, T.i_int_bool, _, rfl, iteF ?_⟩
     refine ⟨_, rfl, o, _, dx, _, _, rfl, ho, T.cl_Is, T.no_Is_place, rfl, _, rfl, _, rfl, _, rfl, .ref a, nm, wd, d, pw, F, ws, rfl, ⟨a, rfl, ha⟩, wrong_is hwr, hD, hpw, fun H1 s1 => ?_⟩
     refine ⟨rfl, _, rfl, ?_⟩
     rw [decide_eq_true rfl]
     refine iteF ?_
     have ho1 := s1 _ _ ho
     have ha1 := s1.seqT ha
     refine ⟨_, rfl, o, _, dx, _, _, rfl, ho1, T.cl_Is, T.no_Is_name, rfl, _, rfl, a, _, _, _, rfl, rfl, ha1, b1, nm, rfl, _, rfl, iteT ?_⟩
     exact ⟨_, rfl, o, _, dx, _, _, rfl, ho1, T.cl_Is, T.no_Is_word, rfl, _, rfl, a, _, _, _, rfl, rfl, ha1, b2, wd, rfl, q H1 s1⟩
   | cmp nm h m =>
     obtain ⟨a, rfl, ha⟩ := id htr
     have b0 : atI [V.str "compare", V.str nm, .str h, .int m] ((0 : Nat) : Int) = some (.str "compare") := zH rfl
     refine ⟨_, rfl, a, _, _, _, rfl, rfl, ha, b0, rfl, _, rfl, neS (by decide) ?_⟩
     refine ⟨_, rfl, a, _, _, _, rfl, rfl, ha, b0, rfl, _, rfl, eqS rfl ?_⟩
     exact ⟨_, rfl, _, rfl, y, .ref a, .cmp nm h m, zs, rfl, hsy, htr, by show 1 < 2; decide, hok, q H (Same.refl _)⟩
   | neg t =>
     obtain ⟨a, y1, rfl, ha, ht⟩ := htr
     obtain ⟨o, dx, y', rfl, ho, hs1⟩ := hsy
     have b0 : atI [V.str "not", y1] ((0 : Nat) : Int) = some (.str "not") := zH rfl
     have b1 : atI [V.str "not", y1] ((1 : Nat) : Int) = some y1 := zH rfl
     have hd' : t.depth + 1 < n + 1 := hd
     refine ⟨_, rfl, a, _, _, _, rfl, rfl, ha, b0, rfl, _, rfl, neS (by decide) ?_⟩
     refine ⟨_, rfl, a, _, _, _, rfl, rfl, ha, b0, rfl, _, rfl, neS (by decide) ?_⟩
     refine ⟨_, rfl, a, _, _, _, rfl, rfl, ha, b0, rfl, _, rfl, eqS rfl ?_⟩
     refine ⟨_, rfl, _, _, _, _, rfl, rfl, .old (T.ty_Not _ _ _ _ ho), T.kr_Not_Not, _, rfl, iteT ?_⟩
     exact ⟨_, rfl, o, _, dx, _, _, rfl, ho, T.cl_Not, T.no_Not_test, rfl, _, rfl, a, _, _, _, rfl, rfl, ha, b1, _, rfl, _, rfl, y', y1, t, zs, d, pw, F, ws, rfl, hs1, ht, by omega, hok, hwr, hD, hpw, q⟩
   | two ob t1 t2 =>
     obtain ⟨a, y1, z1, rfl, ha, ht1, ht2⟩ := htr
     obtain ⟨o, dx, y', z', rfl, ho, hs1, hs2⟩ := hsy
     have hd' : 1 + max t1.depth t2.depth < n + 1 := hd
     have b1 : atI [V.str (hw ob), y1, z1] ((1 : Nat) : Int) = some y1 := zH rfl
     have b2 : atI [V.str (hw ob), y1, z1] ((2 : Nat) : Int) = some z1 := zH rfl
     have b0 : atI [V.str (hw ob), y1, z1] ((0 : Nat) : Int) = some (.str (hw ob)) := zH rfl
     obtain ⟨w1, w2⟩ := wrong_two hwr
     refine ⟨_, rfl, a, _, _, _, rfl, rfl, ha, b0, rfl, _, rfl, neS (by cases ob <;> decide) ?_⟩
     refine ⟨_, rfl, a, _, _, _, rfl, rfl, ha, b0, rfl, _, rfl, neS (by cases ob <;> decide) ?_⟩
     refine ⟨_, rfl, a, _, _, _, rfl, rfl, ha, b0, rfl, _, rfl, neS (by cases ob <;> decide) ?_⟩
     have cl : Cls K (cT A ob) ∧ NoAttr K (cT A ob) "one" ∧ NoAttr K (cT A ob) "other" := by
       cases ob
       · exact ⟨T.cl_Both, T.no_Both_one, T.no_Both_other⟩
       · exact ⟨T.cl_Either, T.no_Either_one, T.no_Either_other⟩
     cases ob with
     | false =>
       refine ⟨_, rfl, a, _, _, _, rfl, rfl, ha, b0, rfl, _, rfl, eqS rfl ⟨_, rfl, _, _, _, _, rfl, rfl, .old (T.ty_Both _ _ _ _ ho), T.kr_Both_Both, _, rfl, iteF ?_⟩⟩
       refine ⟨_, rfl, a, _, _, _, rfl, rfl, ha, b0, rfl, _, rfl, neS (by decide) (iteF ?_)⟩
       refine ⟨_, rfl, o, _, dx, _, _, rfl, ho, cl.1, cl.2.1, rfl, _, rfl, a, _, _, _, rfl, rfl, ha, b1, _, rfl, _, rfl, y', y1, t1, zs, d, pw, F, ws, rfl, hs1, ht1, by omega, hok.1, w1, hD, hpw, fun H1 s1 => ⟨_, rfl, iteT ?_⟩⟩
       exact ⟨_, rfl, o, _, dx, _, _, rfl, s1 _ _ ho, cl.1, cl.2.2, rfl, _, rfl, a, _, _, _, rfl, rfl, s1.seqT ha, b2, _, rfl, _, rfl, z', z1, t2, zs, d, pw, F, ws, rfl, SyF.same s1 hs2, (KT.of s1).tr ht2, by omega, hok.2, w2, hD.same s1, s1 _ _ hpw, fun H2 s2 => q H2 (s1.trans s2)⟩
     | true =>
       refine ⟨_, rfl, a, _, _, _, rfl, rfl, ha, b0, rfl, _, rfl, neS (by decide) (iteF ?_)⟩
       refine ⟨_, rfl, a, _, _, _, rfl, rfl, ha, b0, rfl, _, rfl, eqS rfl ⟨_, rfl, _, _, _, _, rfl, rfl, .old (T.ty_Either _ _ _ _ ho), T.kr_Either_Either, _, rfl, iteF ?_⟩⟩
       refine ⟨_, rfl, o, _, dx, _, _, rfl, ho, cl.1, cl.2.1, rfl, _, rfl, a, _, _, _, rfl, rfl, ha, b1, _, rfl, _, rfl, y', y1, t1, zs, d, pw, F, ws, rfl, hs1, ht1, by omega, hok.1, w1, hD, hpw, fun H1 s1 => ⟨_, rfl, iteT ?_⟩⟩
       exact ⟨_, rfl, o, _, dx, _, _, rfl, s1 _ _ ho, cl.1, cl.2.2, rfl, _, rfl, a, _, _, _, rfl, rfl, s1.seqT ha, b2, _, rfl, _, rfl, z', z1, t2, zs, d, pw, F, ws, rfl, SyF.same s1 hs2, (KT.of s1).tr ht2, by omega, hok.2, w2, hD.same s1, s1 _ _ hpw, fun H2 s2 => q H2 (s1.trans s2)⟩
end
end K16
set_option maxHeartbeats 4000000
namespace K16
open PySem L2
seal PE PT PW PA PS PSs PG PGs PI PO PSet OpR UnR CallR TruR IxR SlR PC PPs
local macro_rules | `(tactic| walk_at "rd1") => `(tactic| first
 | (refine And.intro rfl ?_)
 | (refine And.intro (by assumption) ?_)
 | (refine And.intro (fun _ e => e) ?_)
 | (refine And.intro (TyOf.str _) ?_) | (refine And.intro (TyOf.int _) ?_) | (refine And.intro (TyOf.bl _) ?_) | (refine And.intro TyOf.non ?_)
 | (refine iteT ?_) | (refine iteF ?_)
 | (apply Exists.intro))
local macro_rules | `(tactic| walk_at "rd") => `(tactic| repeat (walk_at "rd1"))
def spWr (A : Adr) : Sp := fun vs H Q _ => ∃ (x : V) (t : Tr) (zs : List Str) (d : Addr) (z : Str) (F : KF) (ws : List Str), vs = [x, .ref d, .str z] ∧ SyP A H t x ∧ t.depth < 9 ∧ t.Ok zs ∧ KdR A H F ws d ∧ wrong F ws t = some z ∧ ∀ H', Same H H' → Q (.bl true) H'
theorem kit_none {K : W.Frag} {t : Value} : ∀ {cs : List Value}, (∀ c ∈ cs, W.kitOne K t c = some false) → W.kitAny K t cs = some false
 | [], _ => rfl
 | c :: r, h => by
   show (match W.kitOne K t c with | some true => some true | some false => W.kitAny K t r | none => none) = _
   rw [h c (List.mem_cons_self ..)]
   exact kit_none fun c hc => h c (List.mem_cons_of_mem _ hc)
section
variable {P : Program} {w : World} {K : W.Frag} {mg : Str → Option Value} {base : Heap} {A : Adr}
theorem ok_law_wrong (T : Txt K mg A) : FnOk P w K mg base CX0 14 A.f_law_wrong A.d_law_wrong ["_law_saying", "_law_kinds_here", "_law_name"] (spWr A) := by
 have G_law_word := ok_law_word (P := P) (w := w) (base := base) T
 refine T.F_law_wrong.ok sc_law_wrong (fun vs H Q E h => ?_) (fun cdv A0 outer s H vs Q E hr h => ?_)
 · obtain ⟨x, t, zs, d, z, F, ws, rfl, _⟩ := h
   rfl
 obtain ⟨x, t, zs, d, z, F, ws, rfl, hs, hd, hok, hD, hw, q⟩ := h
 obtain ⟨ks, hks⟩ : ∃ ks : Nat, ks = 12 := ⟨_, rfl⟩
 have hle : ks ≤ 13 := by omega
 refine ⟨_, (zE (zY (i := 3) sc_law_wrong.nd rfl (by first | exact Or.inl rfl | exact Or.inr rfl) pe_non)
     (zE (ps_tryAs (j := 4) sc_law_wrong.nd rfl rfl rfl rfl rfl (psx_one (psx_expr (pex_methG (k := ks) (hr.mono (by first | decide | omega)) (pv 0) (zA (pv 1) zD)))) rfl T.m_AskError (fun _ => (zF (zY (i := 3) sc_law_wrong.nd rfl (by first | exact Or.inl rfl | exact Or.inr rfl) (pv 4)))))
     (zE (zX (PW.pt (pw_or (yN (yA (zT zZ (by rfl) T.n_isinstance Bt.isinstance (zA (pv 3) (zA (yH rfl T.v_WrongKind) zD))))) (pw_or1 (yA (zT call_isiT (by rfl) T.n_isinstance Bt.isinstance (zA (pv 3) (zA (yS (zA (yH rfl T.v_NoKind) (zA (yH rfl T.v_NoSaying) (zA (yH rfl T.v_NoWay) (zA (yH rfl T.v_OutOfReach) (zA (yH rfl T.v_Twice) (zA (yH rfl T.v_Unknown) zD))))))) zD))))))) (zF (zK pe_bl)) zS)
     (zE (zX (yA (zT call_isiT (by rfl) T.n_isinstance Bt.isinstance (zA (pv 3) (zA (yS (zA (yH rfl T.v_NoAnswer) (zA (yH rfl T.v_NoNumber) (zA (yH rfl T.v_NoRow) (zA (yH rfl T.v_NoSum) zD))))) zD)))) (zF (zK pe_bl)) zS)
     (zF (zK (yT (zT zZ (by rfl) T.n_isinstance Bt.isinstance (zA (pv 3) (zA (pe_bltn (v := .ty "ValueError") rfl T.n_ValueError Bt.ValueError rfl) zD))) (xB (zL G_law_word (hr.mono (by first | decide | omega)) rfl T.m_law_word T.k_law_word T.b_law_word .nil zO (zA (pe_fldX (pv 3) rfl) (zA (pv 2) zD))))))))))), ?_⟩
 subst hks
 obtain ⟨a1, C1, dx1, fs1, M, ey, h1, hl, hdv, hsp⟩ := yP T (ok_settled (P := P) (w := w) (base := base) T 9) hs
 refine ⟨_, rfl, a1, C1, dx1, fs1, M, ey, h1, hl, _, rfl, ?_⟩
 rw [hdv, hsp]
 refine ⟨x, t, zs, d, F, ws, rfl, hs, hd, rfl, hok, hD, fun w0 => (by rw [hw] at w0; cases w0), fun z0 w0 dx H1 s1 e1 => ⟨A.c_WrongKind, rfl, T.em_WrongKind_AskError, fun ea hea => ?_⟩⟩
 rw [hw] at w0
 cases w0
 refine ⟨_, rfl, ?_⟩
 have se := zG hea (excA ea A.c_WrongKind (some dx))
 have he : (upd H1 ea (excA ea A.c_WrongKind (some dx))) ea = some (excD ea A.c_WrongKind dx) := zB
 have hx := se _ _ e1
 generalize upd H1 ea (excA ea A.c_WrongKind (some dx)) = H2 at se he hx
 have s2 : Same H H2 := s1.trans se
 refine ⟨_, rfl, _, _, _, _, rfl, rfl, .excd he T.ec_WrongKind, T.kr_WrongKind_WrongKind, _, rfl, iteF ?_⟩
 refine ⟨_, rfl, (by show 6 ≤ sizeLine; decide), fun t1 ht1 => ?_⟩
 have s3 := zG ht1 (.tup [.ref A.c_NoKind, .ref A.c_NoSaying, .ref A.c_NoWay, .ref A.c_OutOfReach, .ref A.c_Twice, .ref A.c_Unknown])
 refine ⟨_, t1, _, _, _, rfl, zB, rfl, .excd (s3 _ _ he) T.ec_WrongKind, kit_none (fun c hc => ?_), _, rfl, iteF ?_⟩
 · have hc' : c ∈ [Value.ref A.c_NoKind, .ref A.c_NoSaying, .ref A.c_NoWay, .ref A.c_OutOfReach, .ref A.c_Twice, .ref A.c_Unknown] := hc
   simp only [List.mem_cons, List.not_mem_nil, or_false] at hc'
   rcases hc' with rfl | rfl | rfl | rfl | rfl | rfl
   · exact T.kr_WrongKind_NoKind
   · exact T.kr_WrongKind_NoSaying
   · exact T.kr_WrongKind_NoWay
   · exact T.kr_WrongKind_OutOfReach
   · exact T.kr_WrongKind_Twice
   · exact T.kr_WrongKind_Unknown
 refine ⟨_, rfl, (by show 4 ≤ sizeLine; decide), fun t2 ht2 => ?_⟩
 have s4 := s3.trans (zG ht2 (.tup [.ref A.c_NoAnswer, .ref A.c_NoNumber, .ref A.c_NoRow, .ref A.c_NoSum]))
 refine ⟨_, t2, _, _, _, rfl, zB, rfl, .excd (s4 _ _ he) T.ec_WrongKind, kit_none (fun c hc => ?_), _, rfl, iteF ?_⟩
 · have hc' : c ∈ [Value.ref A.c_NoAnswer, .ref A.c_NoNumber, .ref A.c_NoRow, .ref A.c_NoSum] := hc
   simp only [List.mem_cons, List.not_mem_nil, or_false] at hc'
   rcases hc' with rfl | rfl | rfl | rfl
   · exact T.kr_WrongKind_NoAnswer
   · exact T.kr_WrongKind_NoNumber
   · exact T.kr_WrongKind_NoRow
   · exact T.kr_WrongKind_NoSum
 refine ⟨_, rfl, _, _, _, _, rfl, rfl, .excd (s4 _ _ he) T.ec_WrongKind, T.krt_WrongKind_ValueError, _, rfl, iteT ?_⟩
 exact ⟨_, rfl, ea, A.c_WrongKind, dx, _, _, rfl, s4 _ _ he, s4 _ _ hx, T.eg_WrongKind_name, (by rw [List.lookup_cons, beq_self_eq_true]), _, rfl, z, rfl, q _ (s2.trans s4)⟩
theorem okI_rev (F : KF) (ws : List Str) (n : Str) (v : V) : okI F ws.reverse n v = okI F ws n v := by
 cases v <;> first | rfl | (unfold okI; dsimp only; simp only [List.mem_reverse])
theorem wrong_rev (F : KF) (ws : List Str) : ∀ t : Tr, wrong F ws.reverse t = wrong F ws t
 | .is n v => by unfold wrong; rw [okI_rev]
 | .cmp _ _ _ => rfl
 | .neg t => wrong_rev F ws t
 | .two _ s t => by show (wrong F ws.reverse s).or (wrong F ws.reverse t) = _; rw [wrong_rev F ws s, wrong_rev F ws t]; rfl
def isN : Tr → List Str
 | .is n _ => [n]
 | .cmp _ _ _ => []
 | .neg t => isN t
 | .two _ s t => isN s ++ isN t
theorem wrong_first {F : KF} {ws us : List Str} {n0 : Str} : ∀ {t : Tr}, wrong F ws t = none → (∀ z, (isN t).head? = some z → z = n0 → wrong (putF' F n0 .wh) us t = some n0) ∧ ((isN t).head? = none → wrong (putF' F n0 .wh) us t = none)
 | .is n v, h => by
   refine ⟨fun z hz e => ?_, fun hz => by cases hz⟩
   have hz' : n = z := Option.some.inj hz
   subst e; subst hz'
   unfold wrong
   rw [if_neg]
   intro k
   cases v <;> first | (cases k) | (unfold okI isYn isPk putF' at k; simp at k)
 | .cmp n x m, h => by
   refine ⟨fun z hz => by (cases hz), fun _ => ?_⟩
   unfold wrong at h ⊢
   have hc : okC F n = true := by
     by_cases e : okC F n = true
     · exact e
     · rw [if_neg e] at h; cases h
   rw [if_pos]
   unfold okC isYn isPk putF' at *
   by_cases e : n = n0
   · rw [if_pos e]; decide
   · rw [if_neg e]; exact hc
 | .neg t, h => wrong_first (t := t) h
 | .two _ s t, h => by
   obtain ⟨h1, h2⟩ := wrong_two h
   have i1 := wrong_first (n0 := n0) (us := us) h1
   have i2 := wrong_first (n0 := n0) (us := us) h2
   refine ⟨fun z hz e => ?_, fun hz => ?_⟩
   · show (wrong (putF' F n0 .wh) us s).or (wrong (putF' F n0 .wh) us t) = _
     have hz' : (isN s ++ isN t).head? = some z := hz
     cases hs : isN s with
     | nil =>
       rw [hs, List.nil_append] at hz'
       rw [i1.2 (by rw [hs]; rfl), i2.1 z hz' e]; rfl
     | cons y r =>
       rw [hs] at hz'
       rw [i1.1 z (by rw [hs]; exact hz') e]; rfl
   · show (wrong (putF' F n0 .wh) us s).or (wrong (putF' F n0 .wh) us t) = _
     have hz' : (isN s ++ isN t).head? = none := hz
     cases hs : isN s with
     | nil =>
       rw [hs, List.nil_append] at hz'
       rw [i1.2 (by rw [hs]; rfl), i2.2 hz']; rfl
     | cons y r => rw [hs] at hz'; cases hz'
def nmT : Tr → Str
 | .is n _ => n
 | .cmp n _ _ => n
 | _ => ""
theorem isN_at : ∀ t : Tr, isN t = ((atT t).flatMap isN)
 | .is n _ => rfl
 | .cmp _ _ _ => rfl
 | .neg t => isN_at t
 | .two _ s t => by show isN s ++ isN t = (atT s ++ atT t).flatMap isN; rw [List.flatMap_append, ← isN_at s, ← isN_at t]
def wrs (F : KF) (ws : List Str) (as : List Tr) : List Str := as.filterMap (wrong F ws)
theorem wrs_head (F : KF) (ws : List Str) : ∀ t : Tr, (wrs F ws (atT t)).head? = wrong F ws t
 | .is n v => by show ([Tr.is n v].filterMap (wrong F ws)).head? = _; rw [List.filterMap_cons]; cases h : wrong F ws (.is n v) <;> rfl
 | .cmp n x m => by show ([Tr.cmp n x m].filterMap (wrong F ws)).head? = _; rw [List.filterMap_cons]; cases h : wrong F ws (.cmp n x m) <;> rfl
 | .neg t => wrs_head F ws t
 | .two _ s t => by
   show ((atT s ++ atT t).filterMap (wrong F ws)).head? = (wrong F ws s).or (wrong F ws t)
   rw [List.filterMap_append, List.head?_append, ← wrs_head F ws s, ← wrs_head F ws t]; rfl
end
end K16
set_option maxHeartbeats 4000000
namespace K16
open PySem L2
seal PE PT PW PA PS PSs PG PGs PI PO PSet OpR UnR CallR TruR IxR SlR PC PPs
local macro_rules | `(tactic| walk_at "rd1") => `(tactic| first
 | (refine And.intro rfl ?_)
 | (refine And.intro (by assumption) ?_)
 | (refine And.intro (fun _ e => e) ?_)
 | (refine And.intro (TyOf.str _) ?_) | (refine And.intro (TyOf.int _) ?_) | (refine And.intro (TyOf.bl _) ?_) | (refine And.intro TyOf.non ?_)
 | (refine iteT ?_) | (refine iteF ?_)
 | (apply Exists.intro))
local macro_rules | `(tactic| walk_at "rd") => `(tactic| repeat (walk_at "rd1"))
def spOt (A : Adr) (K : W.Frag) : Sp := fun vs H Q _ => ∃ (x tx : V) (t : Tr) (zs : List Str) (d pw : Addr) (F : KF) (ws : List Str) (kvs : List (Key × V)), vs = [x, tx, .ref d, .ref pw] ∧ SyP A H t x ∧ TrR K H t tx ∧ t.depth < 9 ∧ t.size ≤ 16 ∧ t.Ok zs ∧
 H d = some (.dK kvs) ∧ kvs.length ≤ 5 ∧ KdP A H F ws kvs ∧ H pw = some (.lst (ws.map V.str)) ∧ wrong F ws t = none ∧ ∀ H' ob, SameB d H H' → H' d = some (.frz ob (.dK kvs)) → Q (.bl true) H'
theorem KiR.other {A : Adr} {H : Hp} {ws us : List Str} {k : Kn} {x : V} (h : KiR A H ws k x) (n : k ≠ .pk) : KiR A H us k x := let ⟨a, dx, l, hh, pw, e, h1, _⟩ := h; ⟨a, dx, l, hh, pw, e, h1, fun z => absurd z n⟩
theorem KiR.off {A : Adr} {H H' : Hp} {ws : List Str} {k : Kn} {x : V} {d : Addr} {u : HO} (h : KiR A H ws k x) (s : SameB d H H') (hd : H d = some u) (hu : (∀ C dx fs, u ≠ .ins C dx fs) ∧ ∀ xs, u ≠ .lst xs) : KiR A H' ws k x :=
 let ⟨a, dx, l, hh, pw, e, h1, h2⟩ := h; ⟨a, dx, l, hh, pw, e, s _ _ (by rintro rfl; rw [hd] at h1; cases h1; exact hu.1 _ _ _ rfl) h1, fun z => s _ _ (by rintro rfl; have := h2 z; rw [hd] at this; cases this; exact hu.2 _ rfl) (h2 z)⟩
def Mid (A : Adr) (H : Hp) (F : KF) (ws us : List Str) (ks : List Key) (kvo : List (Key × V)) : Prop := Ents kvo ∧ ∀ n, ValR A H (if ks.any (fun k => decide (k = Sum.inr n)) = true then us else ws) (F n) (valV kvo (Sum.inr n))
theorem any_snoc {ks : List Key} {n z : Str} (e : ¬ n = z) : (ks ++ [(Sum.inr z : Key)]).any (fun k => decide (k = Sum.inr n)) = ks.any (fun k => decide (k = Sum.inr n)) := by
 rw [List.any_append, List.any_cons, decide_eq_false (fun h => e (Sum.inr.inj h).symm)]; simp
theorem any_last {ks : List Key} {n : Str} : (ks ++ [(Sum.inr n : Key)]).any (fun k => decide (k = Sum.inr n)) = true := by
 rw [List.any_append, List.any_cons, decide_eq_true rfl]; simp
theorem ents_put {kvs : List (Key × V)} {n : Str} {a : Addr} (h : Ents kvs) (hl : kvs.length ≤ 99) : Ents (putK kvs (Sum.inr n) (.ref a)) := by
 refine ⟨fun p hp => ?_, fun p hp => ?_, by have := len_put kvs (Sum.inr n) (.ref a); omega⟩
 · rcases mem_put hp with z | z
   · exact h.key p z
   · exact ⟨n, z.1⟩
 · rcases mem_put hp with z | z
   · exact h.ref p z
   · exact ⟨a, z.2⟩
theorem any_val {kvs : List (Key × V)} {k : Key} {x : V} (h : valV kvs k = some x) : (kvs.any fun kv => decide (kv.1 = k)) = true := by rw [valV_any, h]; rfl
theorem len_put' {kvs : List (Key × V)} {k : Key} {x y : V} (h : valV kvs k = some x) : (putK kvs k y).length = kvs.length := by unfold putK; rw [if_pos (any_val h), List.length_map]
theorem mem_val {kvs : List (Key × V)} {i : Nat} {p : Key × V} (h : kvs[i]? = some p) : ∃ x, valV kvs p.1 = some x := by
 cases e : valV kvs p.1 with
 | some x => exact ⟨x, rfl⟩
 | none => exact absurd (List.mem_map.mpr ⟨p, List.mem_of_getElem? h, rfl⟩) (valV_not e)
theorem sqT_b {K : W.Frag} {H H' : Hp} {d a : Addr} {kvs : List (Key × V)} {xs : List V} (s : SameB d H H') (hd : H d = some (.dK kvs)) (h : SqT K H a xs) : SqT K H' a xs := by
 rcases h with (h | ⟨o, h⟩) | h
 · exact .inl (.inl (s _ _ (by rintro rfl; rw [hd] at h; cases h) h))
 · exact .inl (.inr ⟨o, s _ _ (by rintro rfl; rw [hd] at h; cases h) h⟩)
 · exact .inr h
theorem tr_b {K : W.Frag} {H H' : Hp} {d : Addr} {kvs : List (Key × V)} (s : SameB d H H') (hd : H d = some (.dK kvs)) : ∀ {t : Tr} {x : V}, TrR K H t x → TrR K H' t x
 | .is _ _, _, ⟨a, e, h⟩ => ⟨a, e, sqT_b s hd h⟩
 | .cmp _ _ _, _, ⟨a, e, h⟩ => ⟨a, e, sqT_b s hd h⟩
 | .neg _, _, ⟨a, y, e, h, k⟩ => ⟨a, y, e, sqT_b s hd h, tr_b s hd k⟩
 | .two _ _ _, _, ⟨a, y, z, e, h, k, l⟩ => ⟨a, y, z, e, sqT_b s hd h, tr_b s hd k, tr_b s hd l⟩
section
variable {P : Program} {w : World} {K : W.Frag} {mg : Str → Option Value} {base : Heap} {A : Adr}
theorem ok_law_otherwise (T : Txt K mg A) : FnOk P w K mg base CX0 20 A.f_law_otherwise A.d_law_otherwise ["_law_saying", "_law_tree_here", "_law_kinds_here", "_law_words_here"] (spOt A K) := by
 have G_law_known := ok_law_known (P := P) (w := w) (base := base) T 9
 have G_law_wrong := ok_law_wrong (P := P) (w := w) (base := base) T
 have G_law_atoms := ok_law_atoms (P := P) (w := w) (base := base) T 9
 have G_c_Pick___init := ok_pinit (P := P) (w := w) (base := base) T
 have G_c_Kind___init := ok_init (P := P) (w := w) (base := base) T
 refine T.F_law_otherwise.ok sc_law_otherwise (fun vs H Q E h => ?_) (fun cdv A0 outer s H vs Q E hr h => ?_)
 · obtain ⟨x, tx, t, zs, d, pw, F, ws, kvs, rfl, _⟩ := h
   rfl
 obtain ⟨x, tx, t, zs, d, pw, F, ws, kvs, rfl, hs, htr, hd, hz, hok, hH, h5, hK, hpw, hw, q⟩ := h
 obtain ⟨ks, hks⟩ : ∃ ks : Nat, ks = 12 := ⟨_, rfl⟩
 have hle : ks ≤ 19 := by omega
 refine ⟨_, (zE (zY (i := 4) sc_law_otherwise.nd rfl (by first | exact Or.inl rfl | exact Or.inr rfl) (pe_rev (pv 3) (po_some (pe_un un_neg zC))))
     (zE (zY (i := 5) sc_law_otherwise.nd rfl (by first | exact Or.inl rfl | exact Or.inr rfl) (pe_callTy call_dict_of (by rfl) T.n_dict Bt.dict (zA (pv 2) zD)))
     (zE (ps_forR PassesOwn.never rfl (pi_dict (pv 2)) (pg_name (i := 6) sc_law_otherwise.nd rfl (by first | exact Or.inl rfl | exact Or.inr rfl)) (zF (zX (yA (zT zZ (by rfl) T.n_isinstance Bt.isinstance (zA (pe_dget (hu_of hr) (pv 2) (pv 6) (fun _ _ => rfl)) (zA (yH rfl T.v_Pick) zD)))) (zF (ps_dput (hu_of hr) (pv 5) (pv 6) (yQ T.mk_Pick G_c_Pick___init (hr.mono (by first | decide | omega)) rfl T.m_Pick T.b_c_Pick___init .nil zO (zA (pe_callTy call_list_of (by rfl) T.n_list Bt.list (zA (pv 4) zD)) zD)) rfl)) zS)))
     (zE (zX (yN (yA (zL G_law_known (hr.mono (by first | decide | omega)) rfl T.m_law_known T.k_law_known T.b_law_known .nil zO (zA (yO (CX := CXW P w) (k := ks) (hr.mono (by first | decide | omega)) passW0 (pv 0) (zA (pv 5) zD)) (zA (pv 1) (zA (pv 5) (zA (pv 4) zD))))))) (zF (zK pe_bl)) zS)
     (zE (ps_compF (i := 7) sc_law_otherwise.nd rfl (by first | exact Or.inl rfl | exact Or.inr rfl) (compOk_of (x := "_law_atom_here") (M := ["_law_saying", "_law_tree_here", "_law_kinds_here", "_law_words_here", "_law_backward", "_law_other", "_law_name", "_law_named"]) rfl (by rfl)) rfl (pi_list (zL G_law_atoms (hr.mono (by first | decide | omega)) rfl T.m_law_atoms T.k_law_atoms T.b_law_atoms .nil zO (zA (pv 1) zD))) (fun _ _ _ _ => pifs_eqv (by exact (pifs_one (zR yM (zM zP (pv 0) zC (fun _ _ => rfl)) zQ (zU _)))) (by dsimp only [compCx] <;> rfl)) (fun _ _ _ _ => pe_eqv (by exact (zM zP (pv 0) zC (fun _ _ => rfl))) (by dsimp only [compCx] <;> rfl)))
     (zE (zX (zR (op_eqJ (hu20 hr)) (pv 7) (yU zD) (zU _)) (zF (zK pe_bl)) zS)
     (zE (ps_dput (hu_of hr) (pv 5) (zM yF (pv 7) zC (fun _ _ => rfl)) (yQ T.mk_Whole G_c_Kind___init (hr.mono (by first | decide | omega)) rfl T.m_Whole T.b_c_Kind___init .nil zO (zA zC (zA zC zD))) rfl)
     (zF (zK (yT (zL G_law_wrong (hr.mono (by first | decide | omega)) rfl T.m_law_wrong T.k_law_wrong T.b_law_wrong .nil zO (zA (pv 0) (zA (pv 5) (zA (zM yF (pv 7) zC (fun _ _ => rfl)) zD)))) (xB (zL G_law_known (hr.mono (by first | decide | omega)) rfl T.m_law_known T.k_law_known T.b_law_known .nil zO (zA (yO (CX := CXW P w) (k := ks) (hr.mono (by first | decide | omega)) passW0 (pv 0) (zA (pv 2) zD)) (zA (pv 1) (zA (pv 2) (zA (pv 3) zD)))))))))))))))), ?_⟩
 subst hks
 generalize h0 : L2.start _ [x, tx, V.ref d, V.ref pw] = σ0
 have h0 : σ0 = [some x, some tx, some (.ref d), some (.ref pw), none, none, none, none] := by rw [← h0]; rfl
 subst h0
 refine ⟨_, rfl, _, rfl, _, rfl, rfl, pw, _, rfl, SqL.of hpw, fun pb hpb => ?_⟩
 rw [← List.map_reverse]
 have sb := zG hpb (.lst (ws.reverse.map V.str))
 refine ⟨_, rfl, d, kvs, rfl, .inl (sb _ _ hH), fun po hpo => ?_⟩
 have so := zG hpo (.dK kvs)
 have s1 := sb.trans so
 dsimp only [gName, List.set_cons_succ, List.set_cons_zero]
 have hpb2 := so _ _ (zB (H := H) (a := pb) (o := .lst (ws.reverse.map V.str)))
 have hpo2 : (upd (upd H pb (.lst (ws.reverse.map V.str))) po (.dK kvs)) po = some (.dK kvs) := zB
 have hK2 := hK.same s1
 have hd2 := s1 _ _ hH
 have npo : H po = none := by
   cases e : H po with
   | none => rfl
   | some u => have := sb _ _ e; rw [hpo] at this; cases this
 have ndo : d ≠ po := fun e => by rw [e] at hH; have := sb _ _ hH; rw [hpo] at this; cases this
 generalize upd (upd H pb (.lst (ws.reverse.map V.str))) po (.dK kvs) = H2 at s1 hpb2 hpo2 hK2 hd2
 refine ⟨_, rfl, d, kvs, rfl, .inl hd2, fun ob => ?_⟩
 have sf : SameB d H2 (upd H2 d (.frz ob (.dK kvs))) := fun b u hb e => by rw [zJ hb]; exact e
 have hoff : (∀ C dx fs, HO.dK kvs ≠ .ins C dx fs) ∧ ∀ xs, HO.dK kvs ≠ .lst xs := ⟨(fun _ _ _ e => nomatch e), (fun _ e => nomatch e)⟩
 have vOff : ∀ {o : Option Kn} {v : Option V} {us : List Str}, ValR A H2 us o v → ValR A (upd H2 d (.frz ob (.dK kvs))) us o v := fun {o v us} hv => by
   cases o with
   | none => exact hv
   | some k => obtain ⟨x, e, hx⟩ := hv; exact ⟨x, e, hx.off sf hd2 hoff⟩
 have dB : ∀ {H3 : Hp}, SameB d H2 H3 → SameB d H H3 := fun {H3} s b u hb e => s b u hb (s1 _ _ e)
 refine for_dictR (kvs := kvs) (fun i σ H' => SameB d H H' ∧ H' d = some (.frz ob (.dK kvs)) ∧ H' pb = some (.lst (ws.reverse.map V.str)) ∧ (∀ n, ValR A H' ws (F n) (valV kvs (Sum.inr n))) ∧ ∃ (u : Option V) (kvo : List (Key × V)), σ = [some x, some tx, some (.ref d), some (.ref pw), some (.ref pb), some (.ref po), u, none] ∧ H' po = some (.dK kvo) ∧ kvo.length ≤ 5 ∧ Mid A H' F ws ws.reverse ((kvs.take i).map (·.1)) kvo)
   ⟨dB sf, zB, (by rw [zJ (fun e => by rw [e, hd2] at hpb2; cases hpb2)]; exact hpb2), fun n => vOff (hK2.2 n), _, kvs, rfl, (by rw [zJ (Ne.symm ndo)]; exact hpo2), h5, hK2.1, fun n => by rw [if_neg (by simp)]; exact vOff (hK2.2 n)⟩
   (fun i σ H' hi hh => hh.2.1) (fun i p σ H' hp hh => ?_) (fun σ H' hh => ?_)
 · obtain ⟨sH, hfr, hpb', hKd, u, kvo, rfl, hpo', hl5, hM⟩ := hh
   obtain ⟨z, ez⟩ := hK.1.key p (List.mem_of_getElem? hp)
   obtain ⟨x0, hx0⟩ := mem_val hp
   rw [ez] at hx0
   have hv0 := hKd z
   rw [hx0] at hv0
   have hsrc : ((kvs.take (i + 1)).map (·.1)) = ((kvs.take i).map (·.1)) ++ [Sum.inr z] := by
     rw [List.take_add_one, hp, List.map_append]; show _ ++ [p.1] = _; rw [ez]
   rw [ez]
   refine ⟨_, rfl, _, rfl, d, x0, rfl, .inl ⟨kvs, Sum.inr z, .inr ⟨ob, hfr⟩, rfl, hx0.symm⟩, _, _, _, _, rfl, rfl, val_ty T hv0, kit_pk T _, _, rfl, ?_⟩
   cases hpk : isPk (F z) with
   | false =>
     refine iteF ⟨sH, hfr, hpb', hKd, _, kvo, rfl, hpo', hl5, hM.1, fun n => ?_⟩
     rw [hsrc]
     have hn := hM.2 n
     by_cases e : n = z
     · subst e
       rw [if_pos any_last]
       cases hF : F n with
       | none => rw [hF] at hn; exact hn
       | some k =>
         rw [hF] at hn hpk
         obtain ⟨y, ey, hy⟩ := hn
         exact ⟨y, ey, hy.other (fun e => by subst e; cases hpk)⟩
     · rw [any_snoc e]; exact hn
   | true =>
     refine iteT ?_
     refine ⟨_, rfl, pb, _, rfl, .inl (SqL.of hpb'), fun pl hpl => ?_⟩
     have s3 := zG hpl (.lst (ws.reverse.map V.str))
     intro y dx ny nd ne
     have s4 := yK ny nd (.ins A.c_Pick dx [])
     refine ⟨y, dx, pl, ws.reverse, rfl, zB, s4 _ _ zB, fun p2 h H3 sH3 hy3 hp3 => ⟨rfl, ?_⟩⟩
     have s5 : Same H' H3 := fun b o e => sH3 b o (zN (s3 _ _ e) ny) (s4 _ _ (s3 _ _ e))
     obtain ⟨x1, hx1⟩ : ∃ x1, valV kvo (Sum.inr z) = some x1 := by
       have hn := hM.2 z
       cases hF : F z with
       | none => rw [hF] at hpk; cases hpk
       | some k => rw [hF] at hn; obtain ⟨y, ey, _⟩ := hn; exact ⟨y, ey⟩
     refine ⟨_, rfl, _, rfl, po, _, rfl, .inl ⟨kvo, Sum.inr z, s5 _ _ hpo', rfl, Nat.lt_of_le_of_lt hl5 (by decide), rfl⟩, ?_⟩
     have sp : SameB po H3 (upd H3 po (.dK (putK kvo (Sum.inr z) (.ref y)))) := fun b u hb e => by rw [zJ hb]; exact e
     have hpoff : ∀ {k : Kn} {v : V} {us : List Str}, KiR A H3 us k v → KiR A (upd H3 po (.dK (putK kvo (Sum.inr z) (.ref y)))) us k v := fun {k v us} hk => hk.sb sp (s5 _ _ hpo')
     refine ⟨fun b u hb e => ?_, (by rw [zJ ndo]; exact s5 _ _ hfr), (by rw [zJ (fun e => by rw [e, hpo'] at hpb'; cases hpb')]; exact s5 _ _ hpb'), fun n => ?_, _, _, rfl, zB, (by rw [len_put' hx1]; exact hl5), ents_put hM.1 (by omega), fun n => ?_⟩
     · have e2 := sH b u hb e
       rw [zJ (fun z => by rw [z, npo] at e; cases e)]
       exact s5 _ _ e2
     · exact ((hKd n).same s5).sb sp (s5 _ _ hpo')
     · rw [hsrc, valV_put]
       by_cases e : n = z
       · subst e
         rw [if_pos rfl, if_pos any_last]
         cases hF : F n with
         | none => rw [hF] at hpk; cases hpk
         | some k =>
           rw [hF] at hpk
           have : k = .pk := Option.some.inj (of_decide_eq_true hpk)
           subst this
           exact ⟨_, rfl, hpoff ⟨y, dx, _, h, p2, rfl, hy3, fun _ => hp3⟩⟩
       · rw [if_neg (fun z => e (Sum.inr.inj z))]
         rw [any_snoc e]
         exact ((hM.2 n).same s5).sb sp (s5 _ _ hpo')
 · obtain ⟨sH, hfr, hpb', hKd, u, kvo, rfl, hpo', hl5, hM⟩ := hh
   have hKo : KdP A H' F ws.reverse kvo := ⟨hM.1, fun n => by
     have hn := hM.2 n
     cases hF : F n with
     | none => rw [hF] at hn; exact hn
     | some k =>
       rw [hF] at hn
       have hk := hKd n
       rw [hF] at hk
       obtain ⟨y, ey, _⟩ := hk
       rw [if_pos ?_] at hn
       · exact hn
       · rw [List.take_length, List.any_map]
         exact any_val ey⟩
   have hKk : KdP A H' F ws kvs := ⟨hK.1, hKd⟩
   have hs' : SyP A H' t x := SyF.sb sH hH (fun _ _ _ e => nomatch e) hs
   have htr' := tr_b sH hH htr
   have hpw' : H' pw = some (.lst (ws.map V.str)) := sH _ _ (fun e => by rw [e, hH] at hpw; cases hpw) hpw
   have hwr : wrong F ws.reverse t = none := by rw [wrong_rev]; exact hw
   dsimp only [tNext]
   obtain ⟨a1, C1, dx1, fs1, M, ey, h1, hl, hdv, hsp⟩ := yP T (ok_settled (P := P) (w := w) (base := base) T 9) hs'
   refine ⟨_, rfl, a1, C1, dx1, fs1, M, ey, h1, hl, _, rfl, ?_⟩
   rw [hdv, hsp]
   refine ⟨x, t, zs, po, F, ws.reverse, rfl, hs', hd, rfl, hok, ⟨kvo, .inl hpo', hKo⟩, fun w0 y1 H3 s3 r3 => ?_, fun z0 w0 => (by rw [hwr] at w0; cases w0)⟩
   refine ⟨_, rfl, _, rfl, _, rfl, y1, tx, t, zs, po, pb, F, ws.reverse, rfl, r3, (KT.of s3).tr htr', hd, hok, hwr, ⟨kvo, .inl (s3 _ _ hpo'), hKo.same s3⟩, s3 _ _ hpb', fun H4 s4 => ⟨_, rfl, iteF ?_⟩⟩
   have sA := s3.trans s4
   refine ⟨_, rfl, tx, t, rfl, (KT.of sA).tr htr', hd, by omega, fun la ys H5 s5 hla hys => ⟨la, rfl, ⟨_, SqL.of hla⟩, ?_⟩⟩
   have sB := sA.trans s5
   have hyl : ys.length = (atT t).length := paired_len hys
   have hsz := atT_len t
   refine comp_listF (xs := ys) (yL (m := 100) (by omega)) (fun i us H6 => Same H5 H6 ∧ us = (((atT t).take i).flatMap isN).map V.str) ⟨Same.refl _, rfl⟩ (fun i us H6 hw => SqL.of (hw.1 _ _ hla)) (fun i y us H6 hy hul hw6 => ?_) (fun us H6 hw6 pl hpl => ?_)
   · obtain ⟨s6, rfl⟩ := hw6
     obtain ⟨at_, hat, hty⟩ := paired_at hys hy
     have hmem := atT_mem hok at_ (List.mem_of_getElem? hat)
     have htk : ((atT t).take (i + 1)).flatMap isN = ((atT t).take i).flatMap isN ++ isN at_ := by rw [List.take_add_one, hat, List.flatMap_append]; simp
     rw [htk, List.map_append]
     cases at_ with
     | is nm v =>
       obtain ⟨a, rfl, ha⟩ := (KT.of s6).tr hty
       have b0 : atI [V.str "is", V.str nm, v] ((0 : Nat) : Int) = some (.str "is") := zH rfl
       have b1 : atI [V.str "is", V.str nm, v] ((1 : Nat) : Int) = some (.str nm) := zH rfl
       refine ⟨_, rfl, a, _, _, _, rfl, rfl, ha, b0, rfl, _, rfl, eqS rfl ?_⟩
       exact ⟨_, rfl, a, _, _, _, rfl, rfl, ha, b1, s6, rfl⟩
     | cmp nm h m =>
       obtain ⟨a, rfl, ha⟩ := (KT.of s6).tr hty
       have b0 : atI [V.str "compare", V.str nm, .str h, .int m] ((0 : Nat) : Int) = some (.str "compare") := zH rfl
       refine ⟨_, rfl, a, _, _, _, rfl, rfl, ha, b0, rfl, _, rfl, neS (by decide) ?_⟩
       exact ⟨s6, by simp [isN]⟩
     | neg _ => exact hmem.1.elim
     | two _ _ _ => exact hmem.1.elim
   · obtain ⟨s6, rfl⟩ := hw6
     rw [hyl, List.take_length, ← isN_at]
     have s7 := zG hpl (.lst ((isN t).map V.str))
     have sC := sB.trans (s6.trans s7)
     have hplx : (upd H6 pl (.lst ((isN t).map V.str))) pl = some (.lst ((isN t).map V.str)) := zB
     generalize upd H6 pl (.lst ((isN t).map V.str)) = H7 at s7 sC hplx
     refine ⟨_, rfl, (by show 0 ≤ sizeLine; decide), fun p0 hp0 => ?_⟩
     have s8 := zG hp0 (.lst [])
     have done : ∀ H8, Same H' H8 → Q (.bl true) H8 := fun H8 s9 => q H8 ob (fun b o hb e => s9 _ _ (sH b o hb e)) (s9 _ _ hfr)
     cases hN : isN t with
     | nil =>
       rw [hN] at hplx
       refine ⟨_, eqj_lists (n := 19) (e := fun _ => true) (SqL.of (s8 _ _ hplx)) (SqL.of zB) rfl (fun j x y hx => by simp at hx), _, rfl, iteT ?_⟩
       exact done _ (sC.trans s8)
     | cons n0 rest =>
       rw [hN] at hplx
       have hxl : ((n0 :: rest).map V.str).length ≠ ([] : List V).length := by simp
       refine ⟨_, eqj_lists_len (n := 19) (SqL.of (s8 _ _ hplx)) (SqL.of zB) hxl, _, rfl, iteF ?_⟩
       have sD := sC.trans s8
       have hpl8 := s8 _ _ hplx
       generalize upd H7 p0 (.lst []) = H8 at sD hpl8
       intro y dx ny nd ne
       refine ⟨y, A.c_Whole, dx, _, _, rfl, zB, T.cl_Whole, T.no_Whole_low, T.no_Whole_high, rfl, ?_⟩
       rw [yC]
       have s9 := yK ny nd (.ins A.c_Whole dx (f2 (.int 0) (.int 9)))
       have hki : KiR A (upd (upd H8 dx (.own y)) y (.ins A.c_Whole dx (f2 (.int 0) (.int 9)))) ws.reverse .wh (.ref y) := kiR_make (k := .wh) ny nd (by decide)
       generalize upd (upd H8 dx (.own y)) y (.ins A.c_Whole dx (f2 (.int 0) (.int 9))) = H9 at s9 hki
       have sE := sD.trans s9
       have at0 : atI ((n0 :: rest).map V.str) ((0 : Nat) : Int) = some (.str n0) := zH rfl
       refine ⟨_, rfl, _, rfl, pl, _, _, _, rfl, rfl, SqL.of (s9 _ _ hpl8), at0, po, _, rfl, .inl ⟨kvo, Sum.inr n0, sE _ _ hpo', rfl, Nat.lt_of_le_of_lt hl5 (by decide), rfl⟩, ?_⟩
       have hpoE := sE _ _ hpo'
       have sp : SameB po H9 (upd H9 po (.dK (putK kvo (Sum.inr n0) (.ref y)))) := fun b u hb e => by rw [zJ hb]; exact e
       have hKn : KdP A (upd H9 po (.dK (putK kvo (Sum.inr n0) (.ref y)))) (putF' F n0 .wh) ws.reverse (putK kvo (Sum.inr n0) (.ref y)) := KdP.put ((hKo.same sE).sb sp hpoE) (hki.sb sp hpoE) (by omega)
       have hs10 : SyP A (upd H9 po (.dK (putK kvo (Sum.inr n0) (.ref y)))) t x := SyF.sb sp hpoE (fun _ _ _ e => nomatch e) (SyF.same sE hs')
       have htr10 := tr_b sp hpoE ((KT.of sE).tr htr')
       have hpl10 : (upd H9 po (.dK (putK kvo (Sum.inr n0) (.ref y)))) pl = some (.lst ((n0 :: rest).map V.str)) := by rw [zJ (fun e => by have := s9 _ _ hpl8; rw [e, hpoE] at this; cases this)]; exact s9 _ _ hpl8
       have hpw10 : (upd H9 po (.dK (putK kvo (Sum.inr n0) (.ref y)))) pw = some (.lst (ws.map V.str)) := by rw [zJ (fun e => by have := sE _ _ hpw'; rw [e, hpoE] at this; cases this)]; exact sE _ _ hpw'
       have hfr10 : (upd H9 po (.dK (putK kvo (Sum.inr n0) (.ref y)))) d = some (.frz ob (.dK kvs)) := by rw [zJ ndo]; exact sE _ _ hfr
       have hKk10 : KdP A (upd H9 po (.dK (putK kvo (Sum.inr n0) (.ref y)))) F ws kvs := (hKk.same sE).sb sp hpoE
       have hpo10 : (upd H9 po (.dK (putK kvo (Sum.inr n0) (.ref y)))) po = some (.dK (putK kvo (Sum.inr n0) (.ref y))) := zB
       have sF : SameB d H (upd H9 po (.dK (putK kvo (Sum.inr n0) (.ref y)))) := fun b o hb e => by
         rw [zJ (fun z => by rw [z, npo] at e; cases e)]
         exact sE _ _ (sH b o hb e)
       generalize upd H9 po (.dK (putK kvo (Sum.inr n0) (.ref y))) = H10 at hKn hs10 htr10 hpl10 hpw10 hfr10 hKk10 hpo10 sF
       have hwn0 : wrong (putF' F n0 .wh) ws.reverse t = some n0 := (wrong_first (us := ws.reverse) hw).1 n0 (by rw [hN]; rfl) rfl
       refine ⟨_, rfl, _, rfl, _, rfl, pl, _, _, _, rfl, rfl, SqL.of hpl10, at0, x, t, zs, po, n0, putF' F n0 .wh, ws.reverse, rfl, hs10, hd, hok, ⟨_, .inl hpo10, hKn⟩, hwn0, fun H11 s11 => ⟨_, rfl, iteT ?_⟩⟩
       have hs11 := SyF.same s11 hs10
       obtain ⟨a2, C2, dx2, fs2, M2, ey2, h2, hl2, hdv2, hsp2⟩ := yP T (ok_settled (P := P) (w := w) (base := base) T 9) hs11
       refine ⟨_, rfl, a2, C2, dx2, fs2, M2, ey2, h2, hl2, _, rfl, ?_⟩
       rw [hdv2, hsp2]
       refine ⟨x, t, zs, d, F, ws, rfl, hs11, hd, rfl, hok, ⟨kvs, .inr ⟨ob, s11 _ _ hfr10⟩, hKk10.same s11⟩, fun w0 y1 H12 s12 r12 => ?_, fun z0 w0 => (by rw [hw] at w0; cases w0)⟩
       have sG := s11.trans s12
       refine ⟨_, rfl, _, rfl, _, rfl, y1, tx, t, zs, d, pw, F, ws, rfl, r12, (KT.of sG).tr htr10, hd, hok, hw, ⟨kvs, .inr ⟨ob, sG _ _ hfr10⟩, hKk10.same sG⟩, sG _ _ hpw10, fun H13 s13 => ?_⟩
       exact q H13 ob (fun b o hb e => s13 _ _ (sG _ _ (sF b o hb e))) (s13 _ _ (sG _ _ hfr10))
end
end K16
set_option maxHeartbeats 4000000
namespace K16
open PySem L2
seal PE PT PW PA PS PSs PG PGs PI PO PSet OpR UnR CallR TruR IxR SlR PC PPs
local macro_rules | `(tactic| walk_at "rd1") => `(tactic| first
 | (refine And.intro rfl ?_)
 | (refine And.intro (by assumption) ?_)
 | (refine And.intro (fun _ e => e) ?_)
 | (refine And.intro (TyOf.str _) ?_) | (refine And.intro (TyOf.int _) ?_) | (refine And.intro (TyOf.bl _) ?_) | (refine And.intro TyOf.non ?_)
 | (refine iteT ?_) | (refine iteF ?_)
 | (apply Exists.intro))
local macro_rules | `(tactic| walk_at "rd") => `(tactic| repeat (walk_at "rd1"))
def sp_law (K : W.Frag) : Sp := fun vs H Q _ => ∃ (a : Addr) (ns : List Int), vs = [.ref a] ∧ SqL K H a (ns.map V.int) ∧ ns.length ≤ 63 ∧ (∀ n ∈ ns, ib n ≤ 1048576) ∧ ∀ H', Q (.bl true) H'
theorem bnd {t : Tr} (h1 : t.depth ≤ 8) (h2 : t.size ≤ 16) : t.size * t.depth ≤ 1000 := Nat.le_trans (Nat.mul_le_mul h2 h1) (by decide)
theorem wrong_nm {F : KF} {ws : List Str} {u : Tr} {z : Str} (ha : IsAt u) (h : wrong F ws u = some z) : z = nmT u := by
 cases u with
 | is n v =>
   unfold wrong at h
   split at h
   · cases h
   · exact (Option.some.inj h).symm
 | cmp n x m =>
   unfold wrong at h
   split at h
   · cases h
   · exact (Option.some.inj h).symm
 | neg _ => exact ha.elim
 | two _ _ _ => exact ha.elim
section
variable {P : Program} {w : World} {K : W.Frag} {mg : Str → Option Value} {base : Heap} {A : Adr}
theorem ok_law (T : Txt K mg A) : FnOk P w K mg base CX0 60 A.f_law A.d_law ["_law_script"] (sp_law K) := by
 have G_law_names := ok_law_names (P := P) (w := w) (base := base) T
 have G_law_words := ok_law_words (P := P) (w := w) (base := base) T
 have G_law_kinds := ok_law_kinds (P := P) (w := w) (base := base) T
 have G_law_tree := ok_law_tree (P := P) (w := w) (base := base) T
 have G_law_made := ok_law_made (P := P) (w := w) (base := base) T 9
 have G_law_same := ok_law_same (P := P) (w := w) (base := base) T 9
 have G_law_word := ok_law_word (P := P) (w := w) (base := base) T
 have G_law_atoms := ok_law_atoms (P := P) (w := w) (base := base) T 9
 have G_law_suits := ok_law_suits (P := P) (w := w) (base := base) T
 have G_law_known := ok_law_known (P := P) (w := w) (base := base) T 9
 have G_law_wrong := ok_law_wrong (P := P) (w := w) (base := base) T
 have G_law_otherwise := ok_law_otherwise (P := P) (w := w) (base := base) T
 have G_S := ok_shown (P := P) (w := w) (base := base) T 9
 have G_T := ok_settled (P := P) (w := w) (base := base) T 9
 refine T.F_law.ok sc_law (fun vs H Q E h => ?_) (fun cdv A0 outer s H vs Q E hr h => ?_)
 · obtain ⟨a, ns, rfl, _⟩ := h
   rfl
 obtain ⟨a, ns, rfl, hS, hlen, hbits, q⟩ := h
 obtain ⟨kr, hkr⟩ : ∃ kr : Nat, kr = 19 := ⟨19, rfl⟩
 obtain ⟨ks, hks⟩ : ∃ ks : Nat, ks = 12 := ⟨12, rfl⟩
 refine ⟨_, (zE (zY (i := 1) sc_law.nd rfl (by first | exact Or.inl rfl | exact Or.inr rfl) (zL G_law_names (hr.mono (by first | decide | omega)) rfl T.m_law_names T.k_law_names T.b_law_names .nil zO (zA (pv 0) zD)))
     (zE (zY (i := 2) sc_law.nd rfl (by first | exact Or.inl rfl | exact Or.inr rfl) (zL G_law_words (hr.mono (by first | decide | omega)) rfl T.m_law_words T.k_law_words T.b_law_words .nil zO (zA (pv 0) (zA (pv 1) zD))))
     (zE (zY (i := 3) sc_law.nd rfl (by first | exact Or.inl rfl | exact Or.inr rfl) (zL G_law_kinds (hr.mono (by first | decide | omega)) rfl T.m_law_kinds T.k_law_kinds T.b_law_kinds .nil zO (zA (pv 0) (zA (pv 1) (zA (pv 2) zD)))))
     (zE (zY (i := 4) sc_law.nd rfl (by first | exact Or.inl rfl | exact Or.inr rfl) (zL G_law_tree (hr.mono (by first | decide | omega)) rfl T.m_law_tree T.k_law_tree T.b_law_tree .nil zO (zA (pe_slice sl_list (pv 0) (po_some zC) (po_some zC)) (zA (yS (zA (pv 1) (zA (pv 3) (zA (pv 2) zD)))) zD))))
     (zE (zY (i := 5) sc_law.nd rfl (by first | exact Or.inl rfl | exact Or.inr rfl) (zL G_law_made (hr.mono (by first | decide | omega)) rfl T.m_law_made T.k_law_made T.b_law_made .nil zO (zA (pv 4) zD)))
     (zE (zY (i := 6) sc_law.nd rfl (by first | exact Or.inl rfl | exact Or.inr rfl) (pe_callTy call_dict_of (by rfl) T.n_dict Bt.dict (zA (pv 3) zD)))
     (zE (ps_compF (i := 7) sc_law.nd rfl (by first | exact Or.inl rfl | exact Or.inr rfl) (compOk_of (x := "_law_atom_here") (M := ["_law_script", "_law_names_here", "_law_words_here", "_law_kinds_here", "_law_tree_here", "_law_saying", "_law_handed", "_law_wrong_here", "_law_found"]) rfl (by rfl)) rfl (pi_list (zL G_law_atoms (hr.mono (by first | decide | omega)) rfl T.m_law_atoms T.k_law_atoms T.b_law_atoms .nil zO (zA (pv 4) zD))) (fun _ _ _ _ => pifs_eqv (by exact (pifs_one (yN (yA (zL G_law_suits (hr.mono (by first | decide | omega)) rfl T.m_law_suits T.k_law_suits T.b_law_suits .nil zO (zA (pv 0) (zA (pv 4) (zA (pv 3) zD)))))))) (by dsimp only [compCx] <;> rfl)) (fun _ _ _ _ => pe_eqv (by exact (zM zP (pv 0) zC (fun _ _ => rfl))) (by dsimp only [compCx] <;> rfl)))
     (zE (zX (zR (op_neJ (hu20 hr)) (pv 7) (yU zD) (zU _)) (zF (zK (yT (zL G_law_wrong (hr.mono (by first | decide | omega)) rfl T.m_law_wrong T.k_law_wrong T.b_law_wrong .nil zO (zA (pv 5) (zA (pv 6) (zA (zM yF (pv 7) zC (fun _ _ => rfl)) zD)))) (yT (zL G_law_same (hr.mono (by first | decide | omega)) rfl T.m_law_same T.k_law_same T.b_law_same .nil zO (zA (pv 5) (zA (pv 4) zD))) (xB (pe_cmpR (op_eqD (hu20 hr)) (pv 6) (pv 3) (zU _))))))) zS)
     (zE (zY (i := 8) sc_law.nd rfl (by first | exact Or.inl rfl | exact Or.inr rfl) (yO (CX := CXW P w) (k := ks) (hr.mono (by first | decide | omega)) passW0 (pv 5) (zA (pv 6) zD)))
     (zE (zX (yN (yA (zL G_law_word (hr.mono (by first | decide | omega)) rfl T.m_law_word T.k_law_word T.b_law_word .nil zO (zA (pe_methG0 (CX := CX0) (k := kr) (hr.mono (by first | decide | omega)) zO (pv 8)) (zA (pe_methG0 (CX := CX0) (k := kr) (hr.mono (by first | decide | omega)) zO (pv 5)) zD))))) (zF (zK pe_bl)) zS)
     (zE (zX (PW.pt (pw_or (yN (yA (zL G_law_known (hr.mono (by first | decide | omega)) rfl T.m_law_known T.k_law_known T.b_law_known .nil zO (zA (pv 8) (zA (pv 4) (zA (pv 3) (zA (pv 2) zD))))))) (pw_or (yN (yA (zL G_law_same (hr.mono (by first | decide | omega)) rfl T.m_law_same T.k_law_same T.b_law_same .nil zO (zA (pv 5) (zA (pv 4) zD))))) (pw_or1 (zR (op_neD (hu20 hr)) (pv 6) (pv 3) (zU _)))))) (zF (zK pe_bl)) zS)
     (zE (zX (PW.pt (pw_or (yN (yA (zL G_law_otherwise (hr.mono (by first | decide | omega)) rfl T.m_law_otherwise T.k_law_otherwise T.b_law_otherwise .nil zO (zA (pv 5) (zA (pv 4) (zA (pv 3) (zA (pv 2) zD))))))) (pw_or1 (yN (yA (zL G_law_same (hr.mono (by first | decide | omega)) rfl T.m_law_same T.k_law_same T.b_law_same .nil zO (zA (pv 5) (zA (pv 4) zD)))))))) (zF (zK pe_bl)) zS)
     (zF (zK (yT (zL G_law_known (hr.mono (by first | decide | omega)) rfl T.m_law_known T.k_law_known T.b_law_known .nil zO (zA (yO (CX := CXW P w) (k := ks) (hr.mono (by first | decide | omega)) passW0 (pv 8) (zA (pv 6) zD)) (zA (pv 4) (zA (pv 3) (zA (pv 2) zD))))) (xB (zL G_law_known (hr.mono (by first | decide | omega)) rfl T.m_law_known T.k_law_known T.b_law_known .nil zO (zA (pv 8) (zA (pv 4) (zA (pv 3) (zA (pv 2) zD))))))))))))))))))))), ?_⟩
 subst hkr
 subst hks
 generalize h0 : L2.start _ [V.ref a] = σ0
 have h0 : σ0 = [some (.ref a), none, none, none, none, none, none, none, none] := by rw [← h0]; rfl
 subst h0
 refine ⟨_, rfl, a, ns, rfl, hS, hbits, fun pn zs H1 hzl hzn s1 hpn => ?_⟩
 dsimp only [gName, List.set_cons_succ, List.set_cons_zero]
 refine ⟨_, rfl, _, rfl, a, pn, ns, zs, rfl, s1.seq hS, hbits, hpn, hzl, hzn, fun pw ws H2 hW s2 hpw => ?_⟩
 dsimp only [gName, List.set_cons_succ, List.set_cons_zero]
 have s12 := s1.trans s2
 refine ⟨_, rfl, _, rfl, _, rfl, a, pn, pw, ns, zs, ws, rfl, s12.seq hS, hbits, s2 _ _ hpn, hzl, hzn, hpw, fun pk F kvs H3 s3 hpk h5 hK => ?_⟩
 dsimp only [gName, List.set_cons_succ, List.set_cons_zero]
 have s13 := s12.trans s3
 have hpn3 := s3 _ _ (s2 _ _ hpn)
 have hpw3 := s3 _ _ hpw
 refine ⟨_, rfl, _, rfl, _, rfl, a, _, rfl, s13.seq hS, fun pc hpc => ?_⟩
 obtain ⟨ms, em, hm, hml⟩ := cutV_map V.int ns (some 7) (some 71)
 rw [em]
 have sc := zG hpc (.lst (ms.map V.int))
 refine ⟨_, rfl, _, rfl, _, rfl, (by show 3 ≤ sizeLine; decide), fun pt hpt => ?_⟩
 have st := zG hpt (.tup [.ref pn, .ref pk, .ref pw])
 have sct := sc.trans st
 refine ⟨pc, ms, .ref pt, zs, rfl, SqL.of (st _ _ zB), fun n hn => hbits n (hm n hn), by omega, ⟨pt, pn, pk, pw, F, ws, rfl, SqT.of zB, sct _ _ hpn3, hzl, hzn, ⟨kvs, .inl (sct _ _ hpk), hK.same sct⟩, sct _ _ hpw3, hW⟩, fun yt t H4 s4 htr hok hdp hsz => ?_⟩
 dsimp only [gName, List.set_cons_succ, List.set_cons_zero]
 have s34 := sct.trans s4
 have hd9 : t.depth < 9 := by omega
 have hbd := bnd hdp hsz
 have hpk4 := s34 _ _ hpk
 have hpw4 := s34 _ _ hpw3
 have hK4 := hK.same s34
 refine ⟨_, rfl, yt, t, rfl, htr, hd9, fun ys H5 s5 hsy => ?_⟩
 dsimp only [gName, List.set_cons_succ, List.set_cons_zero]
 refine ⟨_, rfl, pk, kvs, rfl, .inl (s5 _ _ hpk4), fun ph hph => ?_⟩
 dsimp only [gName, List.set_cons_succ, List.set_cons_zero]
 have s6 := zG hph (.dK kvs)
 have s56 := s5.trans s6
 have hph6 : (upd H5 ph (.dK kvs)) ph = some (.dK kvs) := zB
 have hpk6 := s56 _ _ hpk4
 have hpw6 := s56 _ _ hpw4
 have hK6 := hK4.same s56
 have hsy6 := SyF.same s6 hsy
 have htr6 := (KT.of s56).tr htr
 have npk : ph ≠ pk := fun e => by rw [e] at hph; rw [s5 _ _ hpk4] at hph; cases hph
 generalize upd H5 ph (.dK kvs) = H6 at hph6 hpk6 hpw6 hK6 hsy6 htr6
 have hsP : ∀ {H : Hp}, SyR A H t ys → SyP A H t ys := fun {H} h => SyF.imp (fun _ _ _ _ => trivial) h
 refine ⟨_, rfl, yt, t, rfl, htr6, hd9, by omega, fun la as H7 s7 hla has => ⟨la, rfl, ⟨_, SqL.of hla⟩, ?_⟩⟩
 have hal : as.length = (atT t).length := paired_len has
 have hsz' := atT_len t
 refine comp_listF (xs := as) (yL (m := 100) (by omega)) (fun i us H8 => Same H7 H8 ∧ us = (wrs F ws ((atT t).take i)).map V.str) ⟨Same.refl _, rfl⟩ (fun i us H8 hw => SqL.of (hw.1 _ _ hla)) (fun i y us H8 hy hul hw8 => ?_) (fun us H8 hw8 pl hpl => ?_)
 · obtain ⟨s8, rfl⟩ := hw8
   obtain ⟨at_, hat, hty⟩ := paired_at has hy
   have hmem := atT_mem hok at_ (List.mem_of_getElem? hat)
   have htk : wrs F ws ((atT t).take (i + 1)) = wrs F ws ((atT t).take i) ++ wrs F ws [at_] := by unfold wrs; rw [List.take_add_one, hat, List.filterMap_append]; rfl
   rw [htk, List.map_append]
   have s78 := s7.trans s8
   refine ⟨_, rfl, _, rfl, _, rfl, y, at_, zs, pk, pw, F, ws, rfl, (KT.of s8).tr hty, hmem.1, hmem.2.1, ⟨kvs, .inl (s78 _ _ hpk6), hK6.same s78⟩, s78 _ _ hpw6, fun H9 s9 => ⟨_, rfl, ?_⟩⟩
   cases hwr : wrong F ws at_ with
   | none =>
     refine iteF ⟨s8.trans s9, ?_⟩
     unfold wrs; rw [List.filterMap_cons, hwr]; simp
   | some z =>
     have ez := wrong_nm hmem.1 hwr
     refine iteT ?_
     have fin : (wrs F ws [at_]).map V.str = [V.str z] := by unfold wrs; rw [List.filterMap_cons, hwr]; rfl
     rw [fin]
     have htyA := (KT.of (s8.trans s9)).tr hty
     cases at_ with
     | is nm v =>
       obtain ⟨a', rfl, ha⟩ := htyA
       have b1 : atI [V.str "is", V.str nm, v] ((1 : Nat) : Int) = some (.str nm) := zH rfl
       exact ⟨_, rfl, a', _, _, _, rfl, rfl, ha, b1, s8.trans s9, by rw [ez]; rfl⟩
     | cmp nm h m =>
       obtain ⟨a', rfl, ha⟩ := htyA
       have b1 : atI [V.str "compare", V.str nm, .str h, .int m] ((1 : Nat) : Int) = some (.str nm) := zH rfl
       exact ⟨_, rfl, a', _, _, _, rfl, rfl, ha, b1, s8.trans s9, by rw [ez]; rfl⟩
     | neg _ => exact hmem.1.elim
     | two _ _ _ => exact hmem.1.elim
 obtain ⟨s8, rfl⟩ := hw8
 rw [hal, List.take_length]
 have hhd := wrs_head F ws t
 have s9 := zG hpl (.lst ((wrs F ws (atT t)).map V.str))
 have s79 := s7.trans (s8.trans s9)
 have hplx : (upd H8 pl (.lst ((wrs F ws (atT t)).map V.str))) pl = some (.lst ((wrs F ws (atT t)).map V.str)) := zB
 generalize upd H8 pl (.lst ((wrs F ws (atT t)).map V.str)) = H9 at s79 hplx
 generalize wrs F ws (atT t) = wl at hhd hplx
 dsimp only [gName, List.set_cons_succ, List.set_cons_zero]
 refine ⟨_, rfl, (by show 0 ≤ sizeLine; decide), fun p0 hp0 => ?_⟩
 have s10 := zG hp0 (.lst [])
 have sX := s79.trans s10
 have hplX := s10 _ _ hplx
 have hp0X : (upd H9 p0 (.lst [])) p0 = some (.lst []) := zB
 generalize upd H9 p0 (.lst []) = HX at sX hplX hp0X
 have hsyX := SyF.same sX hsy6
 have htrX := (KT.of sX).tr htr6
 have hKX := hK6.same sX
 have hphX := sX _ _ hph6
 have hpkX := sX _ _ hpk6
 have hpwX := sX _ _ hpw6
 cases wl with
 | cons z rest =>
   have hwz : wrong F ws t = some z := hhd.symm
   have hxl : ((z :: rest).map V.str).length ≠ ([] : List V).length := by simp
   refine ⟨_, eqj_lists_len (n := 19) (SqL.of hplX) (SqL.of hp0X) hxl, _, rfl, iteT ?_⟩
   have at0 : atI ((z :: rest).map V.str) ((0 : Nat) : Int) = some (.str z) := zH rfl
   refine ⟨_, rfl, _, rfl, _, rfl, pl, _, _, _, rfl, rfl, SqL.of hplX, at0, ys, t, zs, ph, z, F, ws, rfl, hsP hsyX, hd9, hok, ⟨kvs, .inl hphX, hKX⟩, hwz, fun H11 s11 => ⟨_, rfl, iteT ?_⟩⟩
   refine ⟨_, rfl, _, rfl, ys, yt, t, zs, rfl, SyF.same s11 hsyX, (KT.of s11).tr htrX, hd9, hok, _, rfl, iteT ?_⟩
   exact ⟨_, rfl, _, rfl, ph, pk, kvs, rfl, rfl, .inl (s11 _ _ hphX), .inl (s11 _ _ hpkX), hK.1.ref, q _⟩
 | nil =>
   have hwz : wrong F ws t = none := hhd.symm
   refine ⟨_, eqj_lists (n := 19) (e := fun _ => true) (SqL.of hplX) (SqL.of hp0X) rfl (fun j x y hx => by simp at hx), _, rfl, iteF ?_⟩
   obtain ⟨a1, C1, dx1, fs1, M1, ey1, h1, hl1, hdv1, hsp1⟩ := yP T G_T (hsP hsyX)
   refine ⟨_, rfl, a1, C1, dx1, fs1, M1, ey1, h1, hl1, _, rfl, ?_⟩
   rw [hdv1, hsp1]
   refine ⟨ys, t, zs, ph, F, ws, rfl, hsP hsyX, hd9, rfl, hok, ⟨kvs, .inl hphX, hKX⟩, fun w0 yf HF sF rF => ?_, fun z0 w0 => (by rw [hwz] at w0; cases w0)⟩
   dsimp only [gName, List.set_cons_succ, List.set_cons_zero]
   have fP : ∀ {H : Hp}, SyF A (plF F ws) H t yf → SyP A H t yf := fun {H} h => SyF.imp (fun _ _ _ _ => trivial) h
   have hsyF := SyF.same sF hsyX
   have htrF := (KT.of sF).tr htrX
   have hKF := hKX.same sF
   have hphF := sF _ _ hphX
   have hpkF := sF _ _ hpkX
   have hpwF := sF _ _ hpwX
   obtain ⟨a2, C2, dx2, fs2, M2, ey2, h2, hl2, hdv2, hsp2⟩ := shown_of T G_S (fP rF)
   refine ⟨_, rfl, a2, C2, dx2, fs2, M2, ey2, h2, hl2, ?_⟩
   dsimp only [tNil]
   rw [hdv2, hsp2]
   refine ⟨yf, t, zs, rfl, fP rF, hd9, rfl, hok, hbd, ?_⟩
   obtain ⟨a3, C3, dx3, fs3, M3, ey3, h3, hl3, hdv3, hsp3⟩ := shown_of T G_S (hsP hsyF)
   refine ⟨_, rfl, a3, C3, dx3, fs3, M3, ey3, h3, hl3, ?_⟩
   dsimp only [tNil]
   rw [hdv3, hsp3]
   refine ⟨ys, t, zs, rfl, hsP hsyF, hd9, rfl, hok, hbd, _, rfl, _, rfl, iteF ?_⟩
   refine ⟨_, rfl, _, rfl, _, rfl, _, rfl, yf, yt, t, zs, pk, pw, F, ws, rfl, rF, htrF, hd9, hok, hwz, ⟨kvs, .inl hpkF, hKF⟩, hpwF, fun H1a s1a => ⟨_, rfl, iteF ?_⟩⟩
   refine ⟨_, rfl, _, rfl, ys, yt, t, zs, rfl, SyF.same s1a hsyF, (KT.of s1a).tr htrF, hd9, hok, _, rfl, iteF ?_⟩
   refine ⟨_, rfl, _, rfl, ph, pk, kvs, rfl, rfl, .inl (s1a _ _ hphF), .inl (s1a _ _ hpkF), hK.1.ref, _, rfl, iteF ?_⟩
   refine ⟨_, rfl, _, rfl, _, rfl, _, rfl, ys, yt, t, zs, pk, pw, F, ws, kvs, rfl, hsP (SyF.same s1a hsyF), (KT.of s1a).tr htrF, hd9, hsz, hok, s1a _ _ hpkF, h5, hKF.same s1a, s1a _ _ hpwF, hwz, fun H2a ob sB hfr => ⟨_, rfl, iteF ?_⟩⟩
   have hpk1 := s1a _ _ hpkF
   have hsyB : SyR A H2a t ys := SyF.sb sB hpk1 (fun _ _ _ e => nomatch e) (SyF.same s1a hsyF)
   have htrB := tr_b sB hpk1 ((KT.of s1a).tr htrF)
   have rFB : SyF A (plF F ws) H2a t yf := SyF.sb sB hpk1 (fun _ _ _ e => nomatch e) (SyF.same s1a rF)
   have hphB := sB _ _ npk (s1a _ _ hphF)
   have hpwB : H2a pw = some (.lst (ws.map V.str)) := sB _ _ (fun e => by have := s1a _ _ hpwF; rw [e, hpk1] at this; cases this) (s1a _ _ hpwF)
   have hKB : KdP A H2a F ws kvs := (hKF.same s1a).sb sB hpk1
   refine ⟨_, rfl, _, rfl, ys, yt, t, zs, rfl, hsyB, htrB, hd9, hok, _, rfl, iteF ?_⟩
   obtain ⟨a4, C4, dx4, fs4, M4, ey4, h4, hl4, hdv4, hsp4⟩ := yP T G_T (fP rFB)
   refine ⟨_, rfl, a4, C4, dx4, fs4, M4, ey4, h4, hl4, _, rfl, ?_⟩
   rw [hdv4, hsp4]
   refine ⟨yf, t, zs, ph, F, ws, rfl, fP rFB, hd9, rfl, hok, ⟨kvs, .inl hphB, hKB⟩, fun w0 yg HG sG rG => ?_, fun z0 w0 => (by rw [hwz] at w0; cases w0)⟩
   refine ⟨_, rfl, _, rfl, _, rfl, yg, yt, t, zs, pk, pw, F, ws, rfl, rG, (KT.of sG).tr htrB, hd9, hok, hwz, ⟨kvs, .inr ⟨ob, sG _ _ hfr⟩, hKB.same sG⟩, sG _ _ hpwB, fun H3a s3a => ⟨_, rfl, iteT ?_⟩⟩
   have sZ := sG.trans s3a
   exact ⟨_, rfl, _, rfl, _, rfl, _, rfl, yf, yt, t, zs, pk, pw, F, ws, rfl, SyF.same sZ rFB, (KT.of sZ).tr htrB, hd9, hok, hwz, ⟨kvs, .inr ⟨ob, sZ _ _ hfr⟩, hKB.same sZ⟩, sZ _ _ hpwB, fun H4a s4a => q _⟩
end
end K16
set_option maxHeartbeats 4000000
namespace K16
open PySem L2
theorem txt_mk {K : W.Frag} {h : Heap} {mg : Str → Option Value} (X : K.In h) (G : h.Ns mainGlobals mg)
{f0 f1 f2 f3 f4 f5 f6 f7 f8 f9 f10 dT10 f11 dT11 f12 f13 f14 f15 f16 f17 f18 f19 f20 f21 f22 f23 f24 f25 f26 f27 f28 f29 f30 f31 f32 f33 f34 f35 f36 f37 f38 f39 f40 f41 f42 f43 f44 f45 : Addr} {od0 an0 od1 an1 od2 an2 od3 an3 od4 an4 od5 an5 od6 an6 od7 an7 od8 an8 od9 an9 od10 an10 dD10 od11 an11 dD11 od12 an12 od13 an13 od14 an14 od15 an15 od16 an16 od17 an17 od18 an18 od19 an19 od20 an20 od21 an21 od22 an22 od23 an23 od24 an24 od25 an25 od26 an26 od27 an27 od28 an28 od29 an29 od30 an30 od31 an31 od32 an32 od33 an33 od34 an34 od35 an35 od36 an36 od37 an37 od38 an38 od39 an39 od40 an40 od41 an41 od42 an42 od43 an43 od44 an44 od45 an45 : Option Addr} {sl0 sl1 sl2 sl3 sl4 sl5 sl6 sl7 sl8 sl9 sl10 dS10 sl11 dS11 sl12 sl13 sl14 sl15 sl16 sl17 sl18 sl19 sl20 sl21 sl22 sl23 sl24 sl25 sl26 sl27 sl28 sl29 sl30 sl31 sl32 sl33 sl34 sl35 sl36 sl37 sl38 sl39 sl40 sl41 sl42 sl43 sl44 sl45 : Array (Option Value)} {oc0 kV0 dc0 pm0 cd0 ct0 oc1 kV1 dc1 pm1 cd1 ct1 oc2 kV2 dc2 pm2 cd2 ct2 oc3 kV3 dc3 pm3 cd3 ct3 oc4 kV4 dc4 pm4 cd4 ct4 oc5 kV5 dc5 pm5 cd5 ct5 oc6 kV6 dc6 pm6 cd6 ct6 oc7 kV7 dc7 pm7 cd7 ct7 oc8 kV8 dc8 pm8 cd8 ct8 oc9 kV9 dc9 pm9 cd9 ct9 oc10 kV10 dc10 pm10 cd10 ct10 oc11 kV11 dc11 pm11 cd11 ct11 oc12 kV12 dc12 pm12 cd12 ct12 oc13 kV13 dc13 pm13 cd13 ct13 oc14 kV14 dc14 pm14 cd14 ct14 oc15 kV15 dc15 pm15 cd15 ct15 oc16 kV16 dc16 pm16 cd16 ct16 oc17 kV17 dc17 pm17 cd17 ct17 oc18 kV18 dc18 pm18 cd18 ct18 oc19 kV19 dc19 pm19 cd19 ct19 oc20 kV20 dc20 pm20 cd20 ct20 oc21 kV21 dc21 pm21 cd21 ct21 oc22 kV22 dc22 pm22 cd22 ct22 oc23 kV23 dc23 pm23 cd23 ct23 oc24 kV24 dc24 pm24 cd24 ct24 oc25 kV25 dc25 pm25 cd25 ct25 oc26 kV26 dc26 pm26 cd26 ct26 oc27 kV27 dc27 pm27 cd27 ct27 oc28 kV28 dc28 pm28 cd28 ct28 oc29 kV29 dc29 pm29 cd29 ct29 oc30 kV30 dc30 pm30 cd30 ct30 oc31 kV31 dc31 pm31 cd31 ct31 oc32 kV32 dc32 pm32 cd32 ct32 oc33 kV33 dc33 pm33 cd33 ct33 oc34 kV34 dc34 pm34 cd34 ct34 oc35 kV35 dc35 pm35 cd35 ct35 oc36 kV36 dc36 pm36 cd36 ct36 oc37 kV37 dc37 pm37 cd37 ct37 oc38 kV38 dc38 pm38 cd38 ct38 oc39 kV39 dc39 pm39 cd39 ct39 oc40 kV40 dc40 pm40 cd40 ct40 oc41 kV41 dc41 pm41 cd41 ct41 oc42 kV42 dc42 pm42 cd42 ct42 oc43 kV43 dc43 pm43 cd43 ct43 oc44 kV44 dc44 pm44 cd44 ct44 oc45 kV45 dc45 pm45 cd45 ct45 : Value} {dN10 dN11 : Nat} {dt10_0 : Tok}
 {ga0 : Addr} {go0 : Value} {gd0 : Option Addr} {gn0 : Nat} {ge0 : Array DictEntry} {gs0 : Array (Option Value)}
{k_AskError k_Both k_Compare k_Either k_Is k_Kind k_Money k_Names k_NoAnswer k_NoKind k_NoNumber k_NoRow k_NoSaying k_NoSum k_NoWay k_Not k_OutOfReach k_Pair k_Pick k_Saying k_Twice k_Unknown k_Whole k_WrongKind k_YesNo : Addr} {kd_AskError kd_Names kd_NoAnswer kd_NoKind kd_NoNumber kd_NoRow kd_NoSaying kd_NoSum kd_NoWay kd_OutOfReach kd_Pick kd_Twice kd_Unknown kd_Whole kd_YesNo xk_WrongKind kd_WrongKind : ClassData} {xo_WrongKind : Value} {xd_WrongKind : Option Addr} {xs_WrongKind : Array (Option Value)}
 (h5n : W.nsIn K mainGlobals "AskError" = some (some (.ref k_AskError)))
 (h5o : W.nsIn K mainGlobals "Both" = some (some (.ref k_Both)))
 (h5p : W.nsIn K mainGlobals "Compare" = some (some (.ref k_Compare)))
 (h5q : W.nsIn K mainGlobals "Either" = some (some (.ref k_Either)))
 (h5r : W.nsIn K mainGlobals "Is" = some (some (.ref k_Is)))
 (h5s : W.nsIn K mainGlobals "Kind" = some (some (.ref k_Kind)))
 (h5t : W.nsIn K mainGlobals "Money" = some (some (.ref k_Money)))
 (h5u : W.nsIn K mainGlobals "Names" = some (some (.ref k_Names)))
 (h5v : W.nsIn K mainGlobals "NoAnswer" = some (some (.ref k_NoAnswer)))
 (h5w : W.nsIn K mainGlobals "NoKind" = some (some (.ref k_NoKind)))
 (h5x : W.nsIn K mainGlobals "NoNumber" = some (some (.ref k_NoNumber)))
 (h5y : W.nsIn K mainGlobals "NoRow" = some (some (.ref k_NoRow)))
 (h5z : W.nsIn K mainGlobals "NoSaying" = some (some (.ref k_NoSaying)))
 (h60 : W.nsIn K mainGlobals "NoSum" = some (some (.ref k_NoSum)))
 (h61 : W.nsIn K mainGlobals "NoWay" = some (some (.ref k_NoWay)))
 (h62 : W.nsIn K mainGlobals "Not" = some (some (.ref k_Not)))
 (h63 : W.nsIn K mainGlobals "OutOfReach" = some (some (.ref k_OutOfReach)))
 (h64 : W.nsIn K mainGlobals "Pair" = some (some (.ref k_Pair)))
 (h65 : W.nsIn K mainGlobals "Pick" = some (some (.ref k_Pick)))
 (h66 : W.nsIn K mainGlobals "Saying" = some (some (.ref k_Saying)))
 (h67 : W.nsIn K mainGlobals "Twice" = some (some (.ref k_Twice)))
 (h68 : W.nsIn K mainGlobals "Unknown" = some (some (.ref k_Unknown)))
 (h69 : W.nsIn K mainGlobals "Whole" = some (some (.ref k_Whole)))
 (h6a : W.nsIn K mainGlobals "WrongKind" = some (some (.ref k_WrongKind)))
 (h6b : W.nsIn K mainGlobals "YesNo" = some (some (.ref k_YesNo)))
 (h00 : W.findIn K (.ref k_WrongKind) "__init__" = some (some (.ref f0)))
 (h01 : K.lookup f0 = some ⟨oc0, od0, .func (W.fnOf "__init__" "WrongKind.__init__" (defArgs s_c_WrongKind___init) (defBody s_c_WrongKind___init) (defScope s_c_WrongKind___init) .none kV0 dc0 pm0 an0 cd0 ct0), sl0⟩)
 (h02 : W.codeIn K cd0 "WrongKind.__init__" = true)
 (h03 : W.keepIn K (.ref f0) = true)
 (h04 : W.findIn K (.ref k_Kind) "__init__" = some (some (.ref f1)))
 (h05 : K.lookup f1 = some ⟨oc1, od1, .func (W.fnOf "__init__" "Kind.__init__" (defArgs s_c_Kind___init) (defBody s_c_Kind___init) (defScope s_c_Kind___init) .none kV1 dc1 pm1 an1 cd1 ct1), sl1⟩)
 (h06 : W.codeIn K cd1 "Kind.__init__" = true)
 (h07 : W.keepIn K (.ref f1) = true)
 (h08 : W.findIn K (.ref k_YesNo) "__init__" = some (some (.ref f2)))
 (h09 : K.lookup f2 = some ⟨oc2, od2, .func (W.fnOf "__init__" "YesNo.__init__" (defArgs s_c_YesNo___init) (defBody s_c_YesNo___init) (defScope s_c_YesNo___init) .none kV2 dc2 pm2 an2 cd2 ct2), sl2⟩)
 (h0a : W.codeIn K cd2 "YesNo.__init__" = true)
 (h0b : W.keepIn K (.ref f2) = true)
 (h0c : W.findIn K (.ref k_YesNo) "fits" = some (some (.ref f3)))
 (h0d : K.lookup f3 = some ⟨oc3, od3, .func (W.fnOf "fits" "YesNo.fits" (defArgs s_c_YesNo_fits) (defBody s_c_YesNo_fits) (defScope s_c_YesNo_fits) .none kV3 dc3 pm3 an3 cd3 ct3), sl3⟩)
 (h0e : W.codeIn K cd3 "YesNo.fits" = true)
 (h0f : W.keepIn K (.ref f3) = true)
 (h0g : W.findIn K (.ref k_YesNo) "answer_of" = some (some (.ref f4)))
 (h0h : K.lookup f4 = some ⟨oc4, od4, .func (W.fnOf "answer_of" "YesNo.answer_of" (defArgs s_c_YesNo_answer_of) (defBody s_c_YesNo_answer_of) (defScope s_c_YesNo_answer_of) .none kV4 dc4 pm4 an4 cd4 ct4), sl4⟩)
 (h0i : W.codeIn K cd4 "YesNo.answer_of" = true)
 (h0j : W.keepIn K (.ref f4) = true)
 (h0k : W.findIn K (.ref k_YesNo) "rank" = some (some (.ref f5)))
 (h0l : K.lookup f5 = some ⟨oc5, od5, .func (W.fnOf "rank" "YesNo.rank" (defArgs s_c_YesNo_rank) (defBody s_c_YesNo_rank) (defScope s_c_YesNo_rank) .none kV5 dc5 pm5 an5 cd5 ct5), sl5⟩)
 (h0m : W.codeIn K cd5 "YesNo.rank" = true)
 (h0n : W.keepIn K (.ref f5) = true)
 (h0o : W.findIn K (.ref k_Pick) "__init__" = some (some (.ref f6)))
 (h0p : K.lookup f6 = some ⟨oc6, od6, .func (W.fnOf "__init__" "Pick.__init__" (defArgs s_c_Pick___init) (defBody s_c_Pick___init) (defScope s_c_Pick___init) .none kV6 dc6 pm6 an6 cd6 ct6), sl6⟩)
 (h0q : W.codeIn K cd6 "Pick.__init__" = true)
 (h0r : W.keepIn K (.ref f6) = true)
 (h0s : W.findIn K (.ref k_Pick) "fits" = some (some (.ref f7)))
 (h0t : K.lookup f7 = some ⟨oc7, od7, .func (W.fnOf "fits" "Pick.fits" (defArgs s_c_Pick_fits) (defBody s_c_Pick_fits) (defScope s_c_Pick_fits) .none kV7 dc7 pm7 an7 cd7 ct7), sl7⟩)
 (h0u : W.codeIn K cd7 "Pick.fits" = true)
 (h0v : W.keepIn K (.ref f7) = true)
 (h0w : W.findIn K (.ref k_Pick) "answer_of" = some (some (.ref f8)))
 (h0x : K.lookup f8 = some ⟨oc8, od8, .func (W.fnOf "answer_of" "Pick.answer_of" (defArgs s_c_Pick_answer_of) (defBody s_c_Pick_answer_of) (defScope s_c_Pick_answer_of) .none kV8 dc8 pm8 an8 cd8 ct8), sl8⟩)
 (h0y : W.codeIn K cd8 "Pick.answer_of" = true)
 (h0z : W.keepIn K (.ref f8) = true)
 (h10 : W.findIn K (.ref k_Pick) "rank" = some (some (.ref f9)))
 (h11 : K.lookup f9 = some ⟨oc9, od9, .func (W.fnOf "rank" "Pick.rank" (defArgs s_c_Pick_rank) (defBody s_c_Pick_rank) (defScope s_c_Pick_rank) .none kV9 dc9 pm9 an9 cd9 ct9), sl9⟩)
 (h12 : W.codeIn K cd9 "Pick.rank" = true)
 (h13 : W.keepIn K (.ref f9) = true)
 (h14 : W.findIn K (.ref k_Names) "__init__" = some (some (.ref f10)))
 (h15 : K.lookup f10 = some ⟨oc10, od10, .func (W.fnOf "__init__" "Names.__init__" (defArgs s_c_Names___init) (defBody s_c_Names___init) (defScope s_c_Names___init) (.ref dT10) kV10 dc10 pm10 an10 cd10 ct10), sl10⟩)
 (h16 : W.codeIn K cd10 "Names.__init__" = true)
 (h17 : W.keepIn K (.ref f10) = true)
 (h18 : K.lookup dT10 = some ⟨.type "tuple", dD10, .seq ([(.int 3 dt10_0)] : List Value).toArray dN10, dS10⟩)
 (h19 : W.findIn K (.ref k_Is) "__init__" = some (some (.ref f11)))
 (h1a : K.lookup f11 = some ⟨oc11, od11, .func (W.fnOf "__init__" "Is.__init__" (defArgs s_c_Is___init) (defBody s_c_Is___init) (defScope s_c_Is___init) (.ref dT11) kV11 dc11 pm11 an11 cd11 ct11), sl11⟩)
 (h1b : W.codeIn K cd11 "Is.__init__" = true)
 (h1c : W.keepIn K (.ref f11) = true)
 (h1d : K.lookup dT11 = some ⟨.type "tuple", dD11, .seq ([.none] : List Value).toArray dN11, dS11⟩)
 (h1e : W.findIn K (.ref k_Is) "shown" = some (some (.ref f12)))
 (h1f : K.lookup f12 = some ⟨oc12, od12, .func (W.fnOf "shown" "Is.shown" (defArgs s_c_Is_shown) (defBody s_c_Is_shown) (defScope s_c_Is_shown) .none kV12 dc12 pm12 an12 cd12 ct12), sl12⟩)
 (h1g : W.codeIn K cd12 "Is.shown" = true)
 (h1h : W.keepIn K (.ref f12) = true)
 (h1i : W.findIn K (.ref k_Is) "settled" = some (some (.ref f13)))
 (h1j : K.lookup f13 = some ⟨oc13, od13, .func (W.fnOf "settled" "Is.settled" (defArgs s_c_Is_settled) (defBody s_c_Is_settled) (defScope s_c_Is_settled) .none kV13 dc13 pm13 an13 cd13 ct13), sl13⟩)
 (h1k : W.codeIn K cd13 "Is.settled" = true)
 (h1l : W.keepIn K (.ref f13) = true)
 (h1m : W.findIn K (.ref k_Compare) "__init__" = some (some (.ref f14)))
 (h1n : K.lookup f14 = some ⟨oc14, od14, .func (W.fnOf "__init__" "Compare.__init__" (defArgs s_c_Compare___init) (defBody s_c_Compare___init) (defScope s_c_Compare___init) .none kV14 dc14 pm14 an14 cd14 ct14), sl14⟩)
 (h1o : W.codeIn K cd14 "Compare.__init__" = true)
 (h1p : W.keepIn K (.ref f14) = true)
 (h1q : W.findIn K (.ref k_Compare) "shown" = some (some (.ref f15)))
 (h1r : K.lookup f15 = some ⟨oc15, od15, .func (W.fnOf "shown" "Compare.shown" (defArgs s_c_Compare_shown) (defBody s_c_Compare_shown) (defScope s_c_Compare_shown) .none kV15 dc15 pm15 an15 cd15 ct15), sl15⟩)
 (h1s : W.codeIn K cd15 "Compare.shown" = true)
 (h1t : W.keepIn K (.ref f15) = true)
 (h1u : W.findIn K (.ref k_Compare) "settled" = some (some (.ref f16)))
 (h1v : K.lookup f16 = some ⟨oc16, od16, .func (W.fnOf "settled" "Compare.settled" (defArgs s_c_Compare_settled) (defBody s_c_Compare_settled) (defScope s_c_Compare_settled) .none kV16 dc16 pm16 an16 cd16 ct16), sl16⟩)
 (h1w : W.codeIn K cd16 "Compare.settled" = true)
 (h1x : W.keepIn K (.ref f16) = true)
 (h1y : W.findIn K (.ref k_Not) "__init__" = some (some (.ref f17)))
 (h1z : K.lookup f17 = some ⟨oc17, od17, .func (W.fnOf "__init__" "Not.__init__" (defArgs s_c_Not___init) (defBody s_c_Not___init) (defScope s_c_Not___init) .none kV17 dc17 pm17 an17 cd17 ct17), sl17⟩)
 (h20 : W.codeIn K cd17 "Not.__init__" = true)
 (h21 : W.keepIn K (.ref f17) = true)
 (h22 : W.findIn K (.ref k_Not) "shown" = some (some (.ref f18)))
 (h23 : K.lookup f18 = some ⟨oc18, od18, .func (W.fnOf "shown" "Not.shown" (defArgs s_c_Not_shown) (defBody s_c_Not_shown) (defScope s_c_Not_shown) .none kV18 dc18 pm18 an18 cd18 ct18), sl18⟩)
 (h24 : W.codeIn K cd18 "Not.shown" = true)
 (h25 : W.keepIn K (.ref f18) = true)
 (h26 : W.findIn K (.ref k_Not) "settled" = some (some (.ref f19)))
 (h27 : K.lookup f19 = some ⟨oc19, od19, .func (W.fnOf "settled" "Not.settled" (defArgs s_c_Not_settled) (defBody s_c_Not_settled) (defScope s_c_Not_settled) .none kV19 dc19 pm19 an19 cd19 ct19), sl19⟩)
 (h28 : W.codeIn K cd19 "Not.settled" = true)
 (h29 : W.keepIn K (.ref f19) = true)
 (h2a : W.findIn K (.ref k_Pair) "__init__" = some (some (.ref f20)))
 (h2b : K.lookup f20 = some ⟨oc20, od20, .func (W.fnOf "__init__" "Pair.__init__" (defArgs s_c_Pair___init) (defBody s_c_Pair___init) (defScope s_c_Pair___init) .none kV20 dc20 pm20 an20 cd20 ct20), sl20⟩)
 (h2c : W.codeIn K cd20 "Pair.__init__" = true)
 (h2d : W.keepIn K (.ref f20) = true)
 (h2e : W.findIn K (.ref k_Pair) "shown_with" = some (some (.ref f21)))
 (h2f : K.lookup f21 = some ⟨oc21, od21, .func (W.fnOf "shown_with" "Pair.shown_with" (defArgs s_c_Pair_shown_with) (defBody s_c_Pair_shown_with) (defScope s_c_Pair_shown_with) .none kV21 dc21 pm21 an21 cd21 ct21), sl21⟩)
 (h2g : W.codeIn K cd21 "Pair.shown_with" = true)
 (h2h : W.keepIn K (.ref f21) = true)
 (h2i : W.findIn K (.ref k_Both) "shown" = some (some (.ref f22)))
 (h2j : K.lookup f22 = some ⟨oc22, od22, .func (W.fnOf "shown" "Both.shown" (defArgs s_c_Both_shown) (defBody s_c_Both_shown) (defScope s_c_Both_shown) .none kV22 dc22 pm22 an22 cd22 ct22), sl22⟩)
 (h2k : W.codeIn K cd22 "Both.shown" = true)
 (h2l : W.keepIn K (.ref f22) = true)
 (h2m : W.findIn K (.ref k_Both) "settled" = some (some (.ref f23)))
 (h2n : K.lookup f23 = some ⟨oc23, od23, .func (W.fnOf "settled" "Both.settled" (defArgs s_c_Both_settled) (defBody s_c_Both_settled) (defScope s_c_Both_settled) .none kV23 dc23 pm23 an23 cd23 ct23), sl23⟩)
 (h2o : W.codeIn K cd23 "Both.settled" = true)
 (h2p : W.keepIn K (.ref f23) = true)
 (h2q : W.findIn K (.ref k_Either) "shown" = some (some (.ref f24)))
 (h2r : K.lookup f24 = some ⟨oc24, od24, .func (W.fnOf "shown" "Either.shown" (defArgs s_c_Either_shown) (defBody s_c_Either_shown) (defScope s_c_Either_shown) .none kV24 dc24 pm24 an24 cd24 ct24), sl24⟩)
 (h2s : W.codeIn K cd24 "Either.shown" = true)
 (h2t : W.keepIn K (.ref f24) = true)
 (h2u : W.findIn K (.ref k_Either) "settled" = some (some (.ref f25)))
 (h2v : K.lookup f25 = some ⟨oc25, od25, .func (W.fnOf "settled" "Either.settled" (defArgs s_c_Either_settled) (defBody s_c_Either_settled) (defScope s_c_Either_settled) .none kV25 dc25 pm25 an25 cd25 ct25), sl25⟩)
 (h2w : W.codeIn K cd25 "Either.settled" = true)
 (h2x : W.keepIn K (.ref f25) = true)
 (h2y : W.nsIn K mainGlobals "_law_cell_at" = some (some (.ref f26)))
 (h2z : K.lookup f26 = some ⟨oc26, od26, .func (W.fnOf "_law_cell_at" "_law_cell_at" (defArgs s_law_cell_at) (defBody s_law_cell_at) (defScope s_law_cell_at) .none kV26 dc26 pm26 an26 cd26 ct26), sl26⟩)
 (h30 : W.codeIn K cd26 "_law_cell_at" = true)
 (h31 : W.keepIn K (.ref f26) = true)
 (h32 : W.nsIn K mainGlobals "_law_whole" = some (some (.ref f27)))
 (h33 : K.lookup f27 = some ⟨oc27, od27, .func (W.fnOf "_law_whole" "_law_whole" (defArgs s_law_whole) (defBody s_law_whole) (defScope s_law_whole) .none kV27 dc27 pm27 an27 cd27 ct27), sl27⟩)
 (h34 : W.codeIn K cd27 "_law_whole" = true)
 (h35 : W.keepIn K (.ref f27) = true)
 (h36 : W.nsIn K mainGlobals "_law_names" = some (some (.ref f28)))
 (h37 : K.lookup f28 = some ⟨oc28, od28, .func (W.fnOf "_law_names" "_law_names" (defArgs s_law_names) (defBody s_law_names) (defScope s_law_names) .none kV28 dc28 pm28 an28 cd28 ct28), sl28⟩)
 (h38 : W.codeIn K cd28 "_law_names" = true)
 (h39 : W.keepIn K (.ref f28) = true)
 (h3a : W.nsIn K mainGlobals "_law_number" = some (some (.ref f29)))
 (h3b : K.lookup f29 = some ⟨oc29, od29, .func (W.fnOf "_law_number" "_law_number" (defArgs s_law_number) (defBody s_law_number) (defScope s_law_number) .none kV29 dc29 pm29 an29 cd29 ct29), sl29⟩)
 (h3c : W.codeIn K cd29 "_law_number" = true)
 (h3d : W.keepIn K (.ref f29) = true)
 (h3e : W.nsIn K mainGlobals "_law_words" = some (some (.ref f30)))
 (h3f : K.lookup f30 = some ⟨oc30, od30, .func (W.fnOf "_law_words" "_law_words" (defArgs s_law_words) (defBody s_law_words) (defScope s_law_words) .none kV30 dc30 pm30 an30 cd30 ct30), sl30⟩)
 (h3g : W.codeIn K cd30 "_law_words" = true)
 (h3h : W.keepIn K (.ref f30) = true)
 (h3i : W.nsIn K mainGlobals "_law_kind" = some (some (.ref f31)))
 (h3j : K.lookup f31 = some ⟨oc31, od31, .func (W.fnOf "_law_kind" "_law_kind" (defArgs s_law_kind) (defBody s_law_kind) (defScope s_law_kind) .none kV31 dc31 pm31 an31 cd31 ct31), sl31⟩)
 (h3k : W.codeIn K cd31 "_law_kind" = true)
 (h3l : W.keepIn K (.ref f31) = true)
 (h3m : W.nsIn K mainGlobals "_law_kinds" = some (some (.ref f32)))
 (h3n : K.lookup f32 = some ⟨oc32, od32, .func (W.fnOf "_law_kinds" "_law_kinds" (defArgs s_law_kinds) (defBody s_law_kinds) (defScope s_law_kinds) .none kV32 dc32 pm32 an32 cd32 ct32), sl32⟩)
 (h3o : W.codeIn K cd32 "_law_kinds" = true)
 (h3p : W.keepIn K (.ref f32) = true)
 (h3q : W.nsIn K mainGlobals "_law_atom" = some (some (.ref f33)))
 (h3r : K.lookup f33 = some ⟨oc33, od33, .func (W.fnOf "_law_atom" "_law_atom" (defArgs s_law_atom) (defBody s_law_atom) (defScope s_law_atom) .none kV33 dc33 pm33 an33 cd33 ct33), sl33⟩)
 (h3s : W.codeIn K cd33 "_law_atom" = true)
 (h3t : W.keepIn K (.ref f33) = true)
 (h3u : W.nsIn K mainGlobals "_law_joined" = some (some (.ref f34)))
 (h3v : K.lookup f34 = some ⟨oc34, od34, .func (W.fnOf "_law_joined" "_law_joined" (defArgs s_law_joined) (defBody s_law_joined) (defScope s_law_joined) .none kV34 dc34 pm34 an34 cd34 ct34), sl34⟩)
 (h3w : W.codeIn K cd34 "_law_joined" = true)
 (h3x : W.keepIn K (.ref f34) = true)
 (h3y : W.nsIn K mainGlobals "_law_tree" = some (some (.ref f35)))
 (h3z : K.lookup f35 = some ⟨oc35, od35, .func (W.fnOf "_law_tree" "_law_tree" (defArgs s_law_tree) (defBody s_law_tree) (defScope s_law_tree) .none kV35 dc35 pm35 an35 cd35 ct35), sl35⟩)
 (h40 : W.codeIn K cd35 "_law_tree" = true)
 (h41 : W.keepIn K (.ref f35) = true)
 (h42 : W.nsIn K mainGlobals "_law_made" = some (some (.ref f36)))
 (h43 : K.lookup f36 = some ⟨oc36, od36, .func (W.fnOf "_law_made" "_law_made" (defArgs s_law_made) (defBody s_law_made) (defScope s_law_made) .none kV36 dc36 pm36 an36 cd36 ct36), sl36⟩)
 (h44 : W.codeIn K cd36 "_law_made" = true)
 (h45 : W.keepIn K (.ref f36) = true)
 (h46 : W.nsIn K mainGlobals "_law_atoms" = some (some (.ref f37)))
 (h47 : K.lookup f37 = some ⟨oc37, od37, .func (W.fnOf "_law_atoms" "_law_atoms" (defArgs s_law_atoms) (defBody s_law_atoms) (defScope s_law_atoms) .none kV37 dc37 pm37 an37 cd37 ct37), sl37⟩)
 (h48 : W.codeIn K cd37 "_law_atoms" = true)
 (h49 : W.keepIn K (.ref f37) = true)
 (h4a : W.nsIn K mainGlobals "_law_word" = some (some (.ref f38)))
 (h4b : K.lookup f38 = some ⟨oc38, od38, .func (W.fnOf "_law_word" "_law_word" (defArgs s_law_word) (defBody s_law_word) (defScope s_law_word) .none kV38 dc38 pm38 an38 cd38 ct38), sl38⟩)
 (h4c : W.codeIn K cd38 "_law_word" = true)
 (h4d : W.keepIn K (.ref f38) = true)
 (h4e : W.nsIn K mainGlobals "_law_same" = some (some (.ref f39)))
 (h4f : K.lookup f39 = some ⟨oc39, od39, .func (W.fnOf "_law_same" "_law_same" (defArgs s_law_same) (defBody s_law_same) (defScope s_law_same) .none kV39 dc39 pm39 an39 cd39 ct39), sl39⟩)
 (h4g : W.codeIn K cd39 "_law_same" = true)
 (h4h : W.keepIn K (.ref f39) = true)
 (h4i : W.nsIn K mainGlobals "_law_suits" = some (some (.ref f40)))
 (h4j : K.lookup f40 = some ⟨oc40, od40, .func (W.fnOf "_law_suits" "_law_suits" (defArgs s_law_suits) (defBody s_law_suits) (defScope s_law_suits) .none kV40 dc40 pm40 an40 cd40 ct40), sl40⟩)
 (h4k : W.codeIn K cd40 "_law_suits" = true)
 (h4l : W.keepIn K (.ref f40) = true)
 (h4m : W.nsIn K mainGlobals "_law_place" = some (some (.ref f41)))
 (h4n : K.lookup f41 = some ⟨oc41, od41, .func (W.fnOf "_law_place" "_law_place" (defArgs s_law_place) (defBody s_law_place) (defScope s_law_place) .none kV41 dc41 pm41 an41 cd41 ct41), sl41⟩)
 (h4o : W.codeIn K cd41 "_law_place" = true)
 (h4p : W.keepIn K (.ref f41) = true)
 (h4q : W.nsIn K mainGlobals "_law_known" = some (some (.ref f42)))
 (h4r : K.lookup f42 = some ⟨oc42, od42, .func (W.fnOf "_law_known" "_law_known" (defArgs s_law_known) (defBody s_law_known) (defScope s_law_known) .none kV42 dc42 pm42 an42 cd42 ct42), sl42⟩)
 (h4s : W.codeIn K cd42 "_law_known" = true)
 (h4t : W.keepIn K (.ref f42) = true)
 (h4u : W.nsIn K mainGlobals "_law_wrong" = some (some (.ref f43)))
 (h4v : K.lookup f43 = some ⟨oc43, od43, .func (W.fnOf "_law_wrong" "_law_wrong" (defArgs s_law_wrong) (defBody s_law_wrong) (defScope s_law_wrong) .none kV43 dc43 pm43 an43 cd43 ct43), sl43⟩)
 (h4w : W.codeIn K cd43 "_law_wrong" = true)
 (h4x : W.keepIn K (.ref f43) = true)
 (h4y : W.nsIn K mainGlobals "_law_otherwise" = some (some (.ref f44)))
 (h4z : K.lookup f44 = some ⟨oc44, od44, .func (W.fnOf "_law_otherwise" "_law_otherwise" (defArgs s_law_otherwise) (defBody s_law_otherwise) (defScope s_law_otherwise) .none kV44 dc44 pm44 an44 cd44 ct44), sl44⟩)
 (h50 : W.codeIn K cd44 "_law_otherwise" = true)
 (h51 : W.keepIn K (.ref f44) = true)
 (h52 : W.nsIn K mainGlobals "law" = some (some (.ref f45)))
 (h53 : K.lookup f45 = some ⟨oc45, od45, .func (W.fnOf "law" "law" (defArgs s_law) (defBody s_law) (defScope s_law) .none kV45 dc45 pm45 an45 cd45 ct45), sl45⟩)
 (h54 : W.codeIn K cd45 "law" = true)
 (h55 : W.keepIn K (.ref f45) = true)
 (h56 : W.nsIn K mainGlobals "WRITTEN_TRUTHS" = some (some (.ref ga0)))
 (h57 : K.lookup ga0 = some ⟨go0, gd0, .dict ge0 gn0, gs0⟩)
 (h58 : (ga0 == sysModules) = false)
 (h59 : go0 = .type "dict")
 (h5a : gd0 = none)
 (h5b : gs0 = #[])
 (h5c : PyProof.Rows.KTD.Rows (fun (b : Bool) (v : Value) => v = .bool b) ge0.toList [("yes", true), ("no", false)])
 (h5d : W.nsIn K mainGlobals "ValueError" = some none)
 (h5e : W.nsIn K mainGlobals "bool" = some none)
 (h5f : W.nsIn K mainGlobals "dict" = some none)
 (h5g : W.nsIn K mainGlobals "int" = some none)
 (h5h : W.nsIn K mainGlobals "isinstance" = some none)
 (h5i : W.nsIn K mainGlobals "len" = some none)
 (h5j : W.nsIn K mainGlobals "list" = some none)
 (h5k : W.nsIn K mainGlobals "max" = some none)
 (h5l : W.nsIn K mainGlobals "range" = some none)
 (h5m : W.nsIn K mainGlobals "str" = some none)
 (h6c : W.clsIn K k_AskError = some kd_AskError)
 (h6d : W.typeIn K (.ref k_AskError) = some (.type "type"))
 (h6e : W.clsIn K k_Names = some kd_Names)
 (h6f : W.typeIn K (.ref k_Names) = some (.type "type"))
 (h6g : W.clsIn K k_NoAnswer = some kd_NoAnswer)
 (h6h : W.typeIn K (.ref k_NoAnswer) = some (.type "type"))
 (h6i : W.clsIn K k_NoKind = some kd_NoKind)
 (h6j : W.typeIn K (.ref k_NoKind) = some (.type "type"))
 (h6k : W.clsIn K k_NoNumber = some kd_NoNumber)
 (h6l : W.typeIn K (.ref k_NoNumber) = some (.type "type"))
 (h6m : W.clsIn K k_NoRow = some kd_NoRow)
 (h6n : W.typeIn K (.ref k_NoRow) = some (.type "type"))
 (h6o : W.clsIn K k_NoSaying = some kd_NoSaying)
 (h6p : W.typeIn K (.ref k_NoSaying) = some (.type "type"))
 (h6q : W.clsIn K k_NoSum = some kd_NoSum)
 (h6r : W.typeIn K (.ref k_NoSum) = some (.type "type"))
 (h6s : W.clsIn K k_NoWay = some kd_NoWay)
 (h6t : W.typeIn K (.ref k_NoWay) = some (.type "type"))
 (h6u : W.clsIn K k_OutOfReach = some kd_OutOfReach)
 (h6v : W.typeIn K (.ref k_OutOfReach) = some (.type "type"))
 (h6w : W.clsIn K k_Pick = some kd_Pick)
 (h6x : W.typeIn K (.ref k_Pick) = some (.type "type"))
 (h6y : W.clsIn K k_Twice = some kd_Twice)
 (h6z : W.typeIn K (.ref k_Twice) = some (.type "type"))
 (h70 : W.clsIn K k_Unknown = some kd_Unknown)
 (h71 : W.typeIn K (.ref k_Unknown) = some (.type "type"))
 (h72 : W.clsIn K k_Whole = some kd_Whole)
 (h73 : W.typeIn K (.ref k_Whole) = some (.type "type"))
 (h74 : W.clsIn K k_YesNo = some kd_YesNo)
 (h75 : W.typeIn K (.ref k_YesNo) = some (.type "type"))
 (h76 : W.excIn K k_AskError mroVE "ValueError.__new__" = true)
 (h77 : K.lookup k_WrongKind = some ⟨xo_WrongKind, xd_WrongKind, .cls xk_WrongKind, xs_WrongKind⟩)
 (h78 : xo_WrongKind = .type "type")
 (h79 : xk_WrongKind.mro = .ref k_WrongKind :: .ref k_AskError :: mroVE)
 (h7a : xs_WrongKind.size = 6 ∧ xs_WrongKind[4]? = some (some (.builtin "ValueError.__new__")))
 (h7b : xk_WrongKind.hasDel = false)
 (h7c : kd_AskError.mro = .ref k_AskError :: mroVE)
 (h7d : W.findIn K (.ref k_WrongKind) "__init__" = some (some (.ref f0)))
 (h7e : W.isFn K (.ref f0) = true)
 (h7f : W.keepIn K (.ref k_WrongKind) = true)
 (h7g : W.clsIn K k_WrongKind = some kd_WrongKind)
 (h7h : W.findIn K (.ref k_WrongKind) "__getattribute__" = some (some (.builtin "BaseException.__getattribute__")))
 (h7i : W.findIn K (.ref k_WrongKind) "__getattr__" = some none)
 (h7j : W.findIn K (.ref k_WrongKind) "__class__" = some (some (.builtin "object.__class__")))
 (h7k : W.specialIn K (.builtin "object.__class__") "__get__" = some (some (.builtin "getset_descriptor.__get__")))
 (h7l : W.takesIn K (.builtin "object.__class__") = some true)
 (h7m : W.mroIn K k_WrongKind (.type "object") = some true)
 (h7n : W.mroIn K k_WrongKind (.type "BaseException") = some true)
 (h7o : W.findIn K (.ref k_WrongKind) "__setattr__" = some (some (.builtin "object.__setattr__")))
 (h7p : W.hasDictIn K k_WrongKind = true)
 (h7q : W.findIn K (.ref k_WrongKind) "name" = some none)
 (h7r : W.readsIn K k_AskError (.type "type") = true)
 (h7s : W.findCls K (.ref k_AskError) (.type "type") "__init__" = some (.val (.builtin "ValueError.__init__")))
 (h7t : W.specialIn K (.ref k_AskError) "__getattribute__" = some (some (.builtin "type.__getattribute__")))
 (h7u : W.subIn K (.ref k_AskError) (.type "BaseException") = some true)
 (h7v : W.mroIn K k_WrongKind (.ref k_AskError) = some true)
 (h7w : W.mroIn K k_YesNo (.ref k_Pick) = some false)
 (h7x : (Value.ref k_YesNo == Value.ref k_Pick) = false)
 (h7y : W.mroIn K k_YesNo (.ref k_Whole) = some false)
 (h7z : (Value.ref k_YesNo == Value.ref k_Whole) = false)
 (h80 : W.mroIn K k_YesNo (.ref k_Names) = some false)
 (h81 : (Value.ref k_YesNo == Value.ref k_Names) = false)
 (h82 : W.mroIn K k_Whole (.ref k_YesNo) = some false)
 (h83 : (Value.ref k_Whole == Value.ref k_YesNo) = false)
 (h84 : W.mroIn K k_Whole (.ref k_Pick) = some false)
 (h85 : (Value.ref k_Whole == Value.ref k_Pick) = false)
 (h86 : W.mroIn K k_Whole (.ref k_Names) = some false)
 (h87 : (Value.ref k_Whole == Value.ref k_Names) = false)
 (h88 : W.mroIn K k_Money (.ref k_YesNo) = some false)
 (h89 : (Value.ref k_Money == Value.ref k_YesNo) = false)
 (h8a : W.mroIn K k_Money (.ref k_Pick) = some false)
 (h8b : (Value.ref k_Money == Value.ref k_Pick) = false)
 (h8c : W.mroIn K k_Money (.ref k_Whole) = some true)
 (h8d : (Value.ref k_Money == Value.ref k_Whole) = false)
 (h8e : W.mroIn K k_Money (.ref k_Names) = some false)
 (h8f : (Value.ref k_Money == Value.ref k_Names) = false)
 (h8g : W.mroIn K k_Pick (.ref k_YesNo) = some false)
 (h8h : (Value.ref k_Pick == Value.ref k_YesNo) = false)
 (h8i : W.mroIn K k_Pick (.ref k_Whole) = some false)
 (h8j : (Value.ref k_Pick == Value.ref k_Whole) = false)
 (h8k : W.mroIn K k_Pick (.ref k_Names) = some false)
 (h8l : (Value.ref k_Pick == Value.ref k_Names) = false)
 (h8m : W.mroIn K k_Names (.ref k_YesNo) = some false)
 (h8n : (Value.ref k_Names == Value.ref k_YesNo) = false)
 (h8o : W.mroIn K k_Names (.ref k_Pick) = some false)
 (h8p : (Value.ref k_Names == Value.ref k_Pick) = false)
 (h8q : W.mroIn K k_Names (.ref k_Whole) = some false)
 (h8r : (Value.ref k_Names == Value.ref k_Whole) = false)
 (h8s : W.mroIn K k_WrongKind (.ref k_NoKind) = some false)
 (h8t : (Value.ref k_WrongKind == Value.ref k_NoKind) = false)
 (h8u : W.mroIn K k_WrongKind (.ref k_NoSaying) = some false)
 (h8v : (Value.ref k_WrongKind == Value.ref k_NoSaying) = false)
 (h8w : W.mroIn K k_WrongKind (.ref k_NoWay) = some false)
 (h8x : (Value.ref k_WrongKind == Value.ref k_NoWay) = false)
 (h8y : W.mroIn K k_WrongKind (.ref k_OutOfReach) = some false)
 (h8z : (Value.ref k_WrongKind == Value.ref k_OutOfReach) = false)
 (h90 : W.mroIn K k_WrongKind (.ref k_Twice) = some false)
 (h91 : (Value.ref k_WrongKind == Value.ref k_Twice) = false)
 (h92 : W.mroIn K k_WrongKind (.ref k_Unknown) = some false)
 (h93 : (Value.ref k_WrongKind == Value.ref k_Unknown) = false)
 (h94 : W.mroIn K k_WrongKind (.ref k_NoAnswer) = some false)
 (h95 : (Value.ref k_WrongKind == Value.ref k_NoAnswer) = false)
 (h96 : W.mroIn K k_WrongKind (.ref k_NoNumber) = some false)
 (h97 : (Value.ref k_WrongKind == Value.ref k_NoNumber) = false)
 (h98 : W.mroIn K k_WrongKind (.ref k_NoRow) = some false)
 (h99 : (Value.ref k_WrongKind == Value.ref k_NoRow) = false)
 (h9a : W.mroIn K k_WrongKind (.ref k_NoSum) = some false)
 (h9b : (Value.ref k_WrongKind == Value.ref k_NoSum) = false)
 (h9c : W.subIn K (.type "NoneType") (.ref k_YesNo) = some false)
 (h9d : W.subIn K (.type "NoneType") (.ref k_Pick) = some false)
 (h9e : W.mroIn K k_WrongKind (.type "ValueError") = some true)
 (h9f : W.plainGet K k_Is Str.empty = true)
 (h9g : W.hasDictIn K k_Is = true)
 (h9h : W.plainOver K k_Is = true)
 (h9i : W.findIn K (.ref k_Is) "__setattr__" = some (some (.builtin "object.__setattr__")))
 (h9j : W.findIn K (.ref k_Is) "__class__" = some (some (.builtin "object.__class__")))
 (h9k : W.specialIn K (.builtin "object.__class__") "__get__" = some (some (.builtin "getset_descriptor.__get__")))
 (h9l : W.takesIn K (.builtin "object.__class__") = some true)
 (h9m : W.mroIn K k_Is (.type "object") = some true)
 (h9n : W.makesIn K k_Is = true)
 (h9o : W.findIn K (.ref k_Is) "__init__" = some (some (.ref f11)))
 (h9p : W.isFn K (.ref f11) = true)
 (h9q : W.keepIn K (.ref k_Is) = true)
 (h9r : W.findIn K (.ref k_Is) "shown" = some (some (.ref f12)))
 (h9s : W.isFn K (.ref f12) = true)
 (h9t : W.findIn K (.ref k_Is) "settled" = some (some (.ref f13)))
 (h9u : W.isFn K (.ref f13) = true)
 (h9v : W.findIn K (.ref k_Is) "name" = some none)
 (h9w : W.findIn K (.ref k_Is) "word" = some none)
 (h9x : W.findIn K (.ref k_Is) "place" = some none)
 (h9y : W.plainGet K k_Compare Str.empty = true)
 (h9z : W.hasDictIn K k_Compare = true)
 (ha0 : W.plainOver K k_Compare = true)
 (ha1 : W.findIn K (.ref k_Compare) "__setattr__" = some (some (.builtin "object.__setattr__")))
 (ha2 : W.findIn K (.ref k_Compare) "__class__" = some (some (.builtin "object.__class__")))
 (ha3 : W.specialIn K (.builtin "object.__class__") "__get__" = some (some (.builtin "getset_descriptor.__get__")))
 (ha4 : W.takesIn K (.builtin "object.__class__") = some true)
 (ha5 : W.mroIn K k_Compare (.type "object") = some true)
 (ha6 : W.makesIn K k_Compare = true)
 (ha7 : W.findIn K (.ref k_Compare) "__init__" = some (some (.ref f14)))
 (ha8 : W.isFn K (.ref f14) = true)
 (ha9 : W.keepIn K (.ref k_Compare) = true)
 (haa : W.findIn K (.ref k_Compare) "shown" = some (some (.ref f15)))
 (hab : W.isFn K (.ref f15) = true)
 (hac : W.findIn K (.ref k_Compare) "settled" = some (some (.ref f16)))
 (had : W.isFn K (.ref f16) = true)
 (hae : W.findIn K (.ref k_Compare) "name" = some none)
 (haf : W.findIn K (.ref k_Compare) "how" = some none)
 (hag : W.findIn K (.ref k_Compare) "number" = some none)
 (hah : W.plainGet K k_Not Str.empty = true)
 (hai : W.hasDictIn K k_Not = true)
 (haj : W.plainOver K k_Not = true)
 (hak : W.findIn K (.ref k_Not) "__setattr__" = some (some (.builtin "object.__setattr__")))
 (hal : W.findIn K (.ref k_Not) "__class__" = some (some (.builtin "object.__class__")))
 (ham : W.specialIn K (.builtin "object.__class__") "__get__" = some (some (.builtin "getset_descriptor.__get__")))
 (han : W.takesIn K (.builtin "object.__class__") = some true)
 (hao : W.mroIn K k_Not (.type "object") = some true)
 (hap : W.makesIn K k_Not = true)
 (haq : W.findIn K (.ref k_Not) "__init__" = some (some (.ref f17)))
 (har : W.isFn K (.ref f17) = true)
 (has : W.keepIn K (.ref k_Not) = true)
 (hat : W.findIn K (.ref k_Not) "shown" = some (some (.ref f18)))
 (hau : W.isFn K (.ref f18) = true)
 (hav : W.findIn K (.ref k_Not) "settled" = some (some (.ref f19)))
 (haw : W.isFn K (.ref f19) = true)
 (hax : W.findIn K (.ref k_Not) "test" = some none)
 (hay : W.plainGet K k_Both Str.empty = true)
 (haz : W.hasDictIn K k_Both = true)
 (hb0 : W.plainOver K k_Both = true)
 (hb1 : W.findIn K (.ref k_Both) "__setattr__" = some (some (.builtin "object.__setattr__")))
 (hb2 : W.findIn K (.ref k_Both) "__class__" = some (some (.builtin "object.__class__")))
 (hb3 : W.specialIn K (.builtin "object.__class__") "__get__" = some (some (.builtin "getset_descriptor.__get__")))
 (hb4 : W.takesIn K (.builtin "object.__class__") = some true)
 (hb5 : W.mroIn K k_Both (.type "object") = some true)
 (hb6 : W.makesIn K k_Both = true)
 (hb7 : W.findIn K (.ref k_Both) "__init__" = some (some (.ref f20)))
 (hb8 : W.isFn K (.ref f20) = true)
 (hb9 : W.keepIn K (.ref k_Both) = true)
 (hba : W.findIn K (.ref k_Both) "shown" = some (some (.ref f22)))
 (hbb : W.isFn K (.ref f22) = true)
 (hbc : W.findIn K (.ref k_Both) "settled" = some (some (.ref f23)))
 (hbd : W.isFn K (.ref f23) = true)
 (hbe : W.findIn K (.ref k_Both) "shown_with" = some (some (.ref f21)))
 (hbf : W.isFn K (.ref f21) = true)
 (hbg : W.findIn K (.ref k_Both) "one" = some none)
 (hbh : W.findIn K (.ref k_Both) "other" = some none)
 (hbi : W.plainGet K k_Either Str.empty = true)
 (hbj : W.hasDictIn K k_Either = true)
 (hbk : W.plainOver K k_Either = true)
 (hbl : W.findIn K (.ref k_Either) "__setattr__" = some (some (.builtin "object.__setattr__")))
 (hbm : W.findIn K (.ref k_Either) "__class__" = some (some (.builtin "object.__class__")))
 (hbn : W.specialIn K (.builtin "object.__class__") "__get__" = some (some (.builtin "getset_descriptor.__get__")))
 (hbo : W.takesIn K (.builtin "object.__class__") = some true)
 (hbp : W.mroIn K k_Either (.type "object") = some true)
 (hbq : W.makesIn K k_Either = true)
 (hbr : W.findIn K (.ref k_Either) "__init__" = some (some (.ref f20)))
 (hbs : W.isFn K (.ref f20) = true)
 (hbt : W.keepIn K (.ref k_Either) = true)
 (hbu : W.findIn K (.ref k_Either) "shown" = some (some (.ref f24)))
 (hbv : W.isFn K (.ref f24) = true)
 (hbw : W.findIn K (.ref k_Either) "settled" = some (some (.ref f25)))
 (hbx : W.isFn K (.ref f25) = true)
 (hby : W.findIn K (.ref k_Either) "shown_with" = some (some (.ref f21)))
 (hbz : W.isFn K (.ref f21) = true)
 (hc0 : W.findIn K (.ref k_Either) "one" = some none)
 (hc1 : W.findIn K (.ref k_Either) "other" = some none)
 (hc2 : W.plainGet K k_YesNo Str.empty = true)
 (hc3 : W.hasDictIn K k_YesNo = true)
 (hc4 : W.plainOver K k_YesNo = true)
 (hc5 : W.findIn K (.ref k_YesNo) "__setattr__" = some (some (.builtin "object.__setattr__")))
 (hc6 : W.findIn K (.ref k_YesNo) "__class__" = some (some (.builtin "object.__class__")))
 (hc7 : W.specialIn K (.builtin "object.__class__") "__get__" = some (some (.builtin "getset_descriptor.__get__")))
 (hc8 : W.takesIn K (.builtin "object.__class__") = some true)
 (hc9 : W.mroIn K k_YesNo (.type "object") = some true)
 (hca : W.makesIn K k_YesNo = true)
 (hcb : W.findIn K (.ref k_YesNo) "__init__" = some (some (.ref f2)))
 (hcc : W.isFn K (.ref f2) = true)
 (hcd : W.keepIn K (.ref k_YesNo) = true)
 (hce : W.findIn K (.ref k_YesNo) "fits" = some (some (.ref f3)))
 (hcf : W.isFn K (.ref f3) = true)
 (hcg : W.findIn K (.ref k_YesNo) "answer_of" = some (some (.ref f4)))
 (hch : W.isFn K (.ref f4) = true)
 (hci : W.findIn K (.ref k_YesNo) "rank" = some (some (.ref f5)))
 (hcj : W.isFn K (.ref f5) = true)
 (hck : W.findIn K (.ref k_YesNo) "low" = some none)
 (hcl : W.findIn K (.ref k_YesNo) "high" = some none)
 (hcm : W.plainGet K k_Whole Str.empty = true)
 (hcn : W.hasDictIn K k_Whole = true)
 (hco : W.plainOver K k_Whole = true)
 (hcp : W.findIn K (.ref k_Whole) "__setattr__" = some (some (.builtin "object.__setattr__")))
 (hcq : W.findIn K (.ref k_Whole) "__class__" = some (some (.builtin "object.__class__")))
 (hcr : W.specialIn K (.builtin "object.__class__") "__get__" = some (some (.builtin "getset_descriptor.__get__")))
 (hcs : W.takesIn K (.builtin "object.__class__") = some true)
 (hct : W.mroIn K k_Whole (.type "object") = some true)
 (hcu : W.makesIn K k_Whole = true)
 (hcv : W.findIn K (.ref k_Whole) "__init__" = some (some (.ref f1)))
 (hcw : W.isFn K (.ref f1) = true)
 (hcx : W.keepIn K (.ref k_Whole) = true)
 (hcy : W.findIn K (.ref k_Whole) "low" = some none)
 (hcz : W.findIn K (.ref k_Whole) "high" = some none)
 (hd0 : W.plainGet K k_Money Str.empty = true)
 (hd1 : W.hasDictIn K k_Money = true)
 (hd2 : W.plainOver K k_Money = true)
 (hd3 : W.findIn K (.ref k_Money) "__setattr__" = some (some (.builtin "object.__setattr__")))
 (hd4 : W.findIn K (.ref k_Money) "__class__" = some (some (.builtin "object.__class__")))
 (hd5 : W.specialIn K (.builtin "object.__class__") "__get__" = some (some (.builtin "getset_descriptor.__get__")))
 (hd6 : W.takesIn K (.builtin "object.__class__") = some true)
 (hd7 : W.mroIn K k_Money (.type "object") = some true)
 (hd8 : W.makesIn K k_Money = true)
 (hd9 : W.findIn K (.ref k_Money) "__init__" = some (some (.ref f1)))
 (hda : W.isFn K (.ref f1) = true)
 (hdb : W.keepIn K (.ref k_Money) = true)
 (hdc : W.findIn K (.ref k_Money) "low" = some none)
 (hdd : W.findIn K (.ref k_Money) "high" = some none)
 (hde : W.plainGet K k_Pick Str.empty = true)
 (hdf : W.hasDictIn K k_Pick = true)
 (hdg : W.plainOver K k_Pick = true)
 (hdh : W.findIn K (.ref k_Pick) "__setattr__" = some (some (.builtin "object.__setattr__")))
 (hdi : W.findIn K (.ref k_Pick) "__class__" = some (some (.builtin "object.__class__")))
 (hdj : W.specialIn K (.builtin "object.__class__") "__get__" = some (some (.builtin "getset_descriptor.__get__")))
 (hdk : W.takesIn K (.builtin "object.__class__") = some true)
 (hdl : W.mroIn K k_Pick (.type "object") = some true)
 (hdm : W.makesIn K k_Pick = true)
 (hdn : W.findIn K (.ref k_Pick) "__init__" = some (some (.ref f6)))
 (hdo : W.isFn K (.ref f6) = true)
 (hdp : W.keepIn K (.ref k_Pick) = true)
 (hdq : W.findIn K (.ref k_Pick) "fits" = some (some (.ref f7)))
 (hdr : W.isFn K (.ref f7) = true)
 (hds : W.findIn K (.ref k_Pick) "answer_of" = some (some (.ref f8)))
 (hdt : W.isFn K (.ref f8) = true)
 (hdu : W.findIn K (.ref k_Pick) "rank" = some (some (.ref f9)))
 (hdv : W.isFn K (.ref f9) = true)
 (hdw : W.findIn K (.ref k_Pick) "low" = some none)
 (hdx : W.findIn K (.ref k_Pick) "high" = some none)
 (hdy : W.findIn K (.ref k_Pick) "words" = some none)
 (hdz : W.plainGet K k_Names Str.empty = true)
 (he0 : W.hasDictIn K k_Names = true)
 (he1 : W.plainOver K k_Names = true)
 (he2 : W.findIn K (.ref k_Names) "__setattr__" = some (some (.builtin "object.__setattr__")))
 (he3 : W.findIn K (.ref k_Names) "__class__" = some (some (.builtin "object.__class__")))
 (he4 : W.specialIn K (.builtin "object.__class__") "__get__" = some (some (.builtin "getset_descriptor.__get__")))
 (he5 : W.takesIn K (.builtin "object.__class__") = some true)
 (he6 : W.mroIn K k_Names (.type "object") = some true)
 (he7 : W.makesIn K k_Names = true)
 (he8 : W.findIn K (.ref k_Names) "__init__" = some (some (.ref f10)))
 (he9 : W.isFn K (.ref f10) = true)
 (hea : W.keepIn K (.ref k_Names) = true)
 (heb : W.findIn K (.ref k_Names) "low" = some none)
 (hec : W.findIn K (.ref k_Names) "high" = some none)
 (hed : W.readsIn K k_Kind (.type "type") = true)
 (hee : W.findCls K (.ref k_Kind) (.type "type") "__init__" = some (.val (.ref f1)))
 (hef : W.specialIn K (.ref k_Kind) "__getattribute__" = some (some (.builtin "type.__getattribute__"))) :
 ∃ A : Adr, Txt K mg A :=
 ⟨⟨f0,
   W.fnOf "__init__" "WrongKind.__init__" (defArgs s_c_WrongKind___init) (defBody s_c_WrongKind___init) (defScope s_c_WrongKind___init) .none kV0 dc0 pm0 an0 cd0 ct0,
   f1,
   W.fnOf "__init__" "Kind.__init__" (defArgs s_c_Kind___init) (defBody s_c_Kind___init) (defScope s_c_Kind___init) .none kV1 dc1 pm1 an1 cd1 ct1,
   f2,
   W.fnOf "__init__" "YesNo.__init__" (defArgs s_c_YesNo___init) (defBody s_c_YesNo___init) (defScope s_c_YesNo___init) .none kV2 dc2 pm2 an2 cd2 ct2,
   f3,
   W.fnOf "fits" "YesNo.fits" (defArgs s_c_YesNo_fits) (defBody s_c_YesNo_fits) (defScope s_c_YesNo_fits) .none kV3 dc3 pm3 an3 cd3 ct3,
   f4,
   W.fnOf "answer_of" "YesNo.answer_of" (defArgs s_c_YesNo_answer_of) (defBody s_c_YesNo_answer_of) (defScope s_c_YesNo_answer_of) .none kV4 dc4 pm4 an4 cd4 ct4,
   f5,
   W.fnOf "rank" "YesNo.rank" (defArgs s_c_YesNo_rank) (defBody s_c_YesNo_rank) (defScope s_c_YesNo_rank) .none kV5 dc5 pm5 an5 cd5 ct5,
   f6,
   W.fnOf "__init__" "Pick.__init__" (defArgs s_c_Pick___init) (defBody s_c_Pick___init) (defScope s_c_Pick___init) .none kV6 dc6 pm6 an6 cd6 ct6,
   f7,
   W.fnOf "fits" "Pick.fits" (defArgs s_c_Pick_fits) (defBody s_c_Pick_fits) (defScope s_c_Pick_fits) .none kV7 dc7 pm7 an7 cd7 ct7,
   f8,
   W.fnOf "answer_of" "Pick.answer_of" (defArgs s_c_Pick_answer_of) (defBody s_c_Pick_answer_of) (defScope s_c_Pick_answer_of) .none kV8 dc8 pm8 an8 cd8 ct8,
   f9,
   W.fnOf "rank" "Pick.rank" (defArgs s_c_Pick_rank) (defBody s_c_Pick_rank) (defScope s_c_Pick_rank) .none kV9 dc9 pm9 an9 cd9 ct9,
   f10,
   W.fnOf "__init__" "Names.__init__" (defArgs s_c_Names___init) (defBody s_c_Names___init) (defScope s_c_Names___init) (.ref dT10) kV10 dc10 pm10 an10 cd10 ct10,
   [(.int 3 dt10_0)],
   f11,
   W.fnOf "__init__" "Is.__init__" (defArgs s_c_Is___init) (defBody s_c_Is___init) (defScope s_c_Is___init) (.ref dT11) kV11 dc11 pm11 an11 cd11 ct11,
   [.none],
   f12,
   W.fnOf "shown" "Is.shown" (defArgs s_c_Is_shown) (defBody s_c_Is_shown) (defScope s_c_Is_shown) .none kV12 dc12 pm12 an12 cd12 ct12,
   f13,
   W.fnOf "settled" "Is.settled" (defArgs s_c_Is_settled) (defBody s_c_Is_settled) (defScope s_c_Is_settled) .none kV13 dc13 pm13 an13 cd13 ct13,
   f14,
   W.fnOf "__init__" "Compare.__init__" (defArgs s_c_Compare___init) (defBody s_c_Compare___init) (defScope s_c_Compare___init) .none kV14 dc14 pm14 an14 cd14 ct14,
   f15,
   W.fnOf "shown" "Compare.shown" (defArgs s_c_Compare_shown) (defBody s_c_Compare_shown) (defScope s_c_Compare_shown) .none kV15 dc15 pm15 an15 cd15 ct15,
   f16,
   W.fnOf "settled" "Compare.settled" (defArgs s_c_Compare_settled) (defBody s_c_Compare_settled) (defScope s_c_Compare_settled) .none kV16 dc16 pm16 an16 cd16 ct16,
   f17,
   W.fnOf "__init__" "Not.__init__" (defArgs s_c_Not___init) (defBody s_c_Not___init) (defScope s_c_Not___init) .none kV17 dc17 pm17 an17 cd17 ct17,
   f18,
   W.fnOf "shown" "Not.shown" (defArgs s_c_Not_shown) (defBody s_c_Not_shown) (defScope s_c_Not_shown) .none kV18 dc18 pm18 an18 cd18 ct18,
   f19,
   W.fnOf "settled" "Not.settled" (defArgs s_c_Not_settled) (defBody s_c_Not_settled) (defScope s_c_Not_settled) .none kV19 dc19 pm19 an19 cd19 ct19,
   f20,
   W.fnOf "__init__" "Pair.__init__" (defArgs s_c_Pair___init) (defBody s_c_Pair___init) (defScope s_c_Pair___init) .none kV20 dc20 pm20 an20 cd20 ct20,
   f21,
   W.fnOf "shown_with" "Pair.shown_with" (defArgs s_c_Pair_shown_with) (defBody s_c_Pair_shown_with) (defScope s_c_Pair_shown_with) .none kV21 dc21 pm21 an21 cd21 ct21,
   f22,
   W.fnOf "shown" "Both.shown" (defArgs s_c_Both_shown) (defBody s_c_Both_shown) (defScope s_c_Both_shown) .none kV22 dc22 pm22 an22 cd22 ct22,
   f23,
   W.fnOf "settled" "Both.settled" (defArgs s_c_Both_settled) (defBody s_c_Both_settled) (defScope s_c_Both_settled) .none kV23 dc23 pm23 an23 cd23 ct23,
   f24,
   W.fnOf "shown" "Either.shown" (defArgs s_c_Either_shown) (defBody s_c_Either_shown) (defScope s_c_Either_shown) .none kV24 dc24 pm24 an24 cd24 ct24,
   f25,
   W.fnOf "settled" "Either.settled" (defArgs s_c_Either_settled) (defBody s_c_Either_settled) (defScope s_c_Either_settled) .none kV25 dc25 pm25 an25 cd25 ct25,
   f26,
   W.fnOf "_law_cell_at" "_law_cell_at" (defArgs s_law_cell_at) (defBody s_law_cell_at) (defScope s_law_cell_at) .none kV26 dc26 pm26 an26 cd26 ct26,
   f27,
   W.fnOf "_law_whole" "_law_whole" (defArgs s_law_whole) (defBody s_law_whole) (defScope s_law_whole) .none kV27 dc27 pm27 an27 cd27 ct27,
   f28,
   W.fnOf "_law_names" "_law_names" (defArgs s_law_names) (defBody s_law_names) (defScope s_law_names) .none kV28 dc28 pm28 an28 cd28 ct28,
   f29,
   W.fnOf "_law_number" "_law_number" (defArgs s_law_number) (defBody s_law_number) (defScope s_law_number) .none kV29 dc29 pm29 an29 cd29 ct29,
   f30,
   W.fnOf "_law_words" "_law_words" (defArgs s_law_words) (defBody s_law_words) (defScope s_law_words) .none kV30 dc30 pm30 an30 cd30 ct30,
   f31,
   W.fnOf "_law_kind" "_law_kind" (defArgs s_law_kind) (defBody s_law_kind) (defScope s_law_kind) .none kV31 dc31 pm31 an31 cd31 ct31,
   f32,
   W.fnOf "_law_kinds" "_law_kinds" (defArgs s_law_kinds) (defBody s_law_kinds) (defScope s_law_kinds) .none kV32 dc32 pm32 an32 cd32 ct32,
   f33,
   W.fnOf "_law_atom" "_law_atom" (defArgs s_law_atom) (defBody s_law_atom) (defScope s_law_atom) .none kV33 dc33 pm33 an33 cd33 ct33,
   f34,
   W.fnOf "_law_joined" "_law_joined" (defArgs s_law_joined) (defBody s_law_joined) (defScope s_law_joined) .none kV34 dc34 pm34 an34 cd34 ct34,
   f35,
   W.fnOf "_law_tree" "_law_tree" (defArgs s_law_tree) (defBody s_law_tree) (defScope s_law_tree) .none kV35 dc35 pm35 an35 cd35 ct35,
   f36,
   W.fnOf "_law_made" "_law_made" (defArgs s_law_made) (defBody s_law_made) (defScope s_law_made) .none kV36 dc36 pm36 an36 cd36 ct36,
   f37,
   W.fnOf "_law_atoms" "_law_atoms" (defArgs s_law_atoms) (defBody s_law_atoms) (defScope s_law_atoms) .none kV37 dc37 pm37 an37 cd37 ct37,
   f38,
   W.fnOf "_law_word" "_law_word" (defArgs s_law_word) (defBody s_law_word) (defScope s_law_word) .none kV38 dc38 pm38 an38 cd38 ct38,
   f39,
   W.fnOf "_law_same" "_law_same" (defArgs s_law_same) (defBody s_law_same) (defScope s_law_same) .none kV39 dc39 pm39 an39 cd39 ct39,
   f40,
   W.fnOf "_law_suits" "_law_suits" (defArgs s_law_suits) (defBody s_law_suits) (defScope s_law_suits) .none kV40 dc40 pm40 an40 cd40 ct40,
   f41,
   W.fnOf "_law_place" "_law_place" (defArgs s_law_place) (defBody s_law_place) (defScope s_law_place) .none kV41 dc41 pm41 an41 cd41 ct41,
   f42,
   W.fnOf "_law_known" "_law_known" (defArgs s_law_known) (defBody s_law_known) (defScope s_law_known) .none kV42 dc42 pm42 an42 cd42 ct42,
   f43,
   W.fnOf "_law_wrong" "_law_wrong" (defArgs s_law_wrong) (defBody s_law_wrong) (defScope s_law_wrong) .none kV43 dc43 pm43 an43 cd43 ct43,
   f44,
   W.fnOf "_law_otherwise" "_law_otherwise" (defArgs s_law_otherwise) (defBody s_law_otherwise) (defScope s_law_otherwise) .none kV44 dc44 pm44 an44 cd44 ct44,
   f45,
   W.fnOf "law" "law" (defArgs s_law) (defBody s_law) (defScope s_law) .none kV45 dc45 pm45 an45 cd45 ct45,
   ga0,
   k_AskError,
   k_Both,
   k_Compare,
   k_Either,
   k_Is,
   k_Kind,
   k_Money,
   k_Names,
   k_NoAnswer,
   k_NoKind,
   k_NoNumber,
   k_NoRow,
   k_NoSaying,
   k_NoSum,
   k_NoWay,
   k_Not,
   k_OutOfReach,
   k_Pair,
   k_Pick,
   k_Saying,
   k_Twice,
   k_Unknown,
   k_Whole,
   k_WrongKind,
   k_YesNo⟩, ⟨fun_mk (st := s_c_WrongKind___init) h01 h02 h03,
   (fun_mk (st := s_c_WrongKind___init) h01 h02 h03).binds (ps := ["self", "name"]) (fun _ _ _ _ _ _ us hl => match us, hl with | [_, _], _ => rfl),
   fun_mk (st := s_c_Kind___init) h05 h06 h07,
   (fun_mk (st := s_c_Kind___init) h05 h06 h07).binds (ps := ["self", "low", "high"]) (fun _ _ _ _ _ _ us hl => match us, hl with | [_, _, _], _ => rfl),
   fun_mk (st := s_c_YesNo___init) h09 h0a h0b,
   (fun_mk (st := s_c_YesNo___init) h09 h0a h0b).binds (ps := ["self"]) (fun _ _ _ _ _ _ us hl => match us, hl with | [_], _ => rfl),
   fun_mk (st := s_c_YesNo_fits) h0d h0e h0f,
   (fun_mk (st := s_c_YesNo_fits) h0d h0e h0f).binds (ps := ["self", "thing"]) (fun _ _ _ _ _ _ us hl => match us, hl with | [_, _], _ => rfl),
   fun_mk (st := s_c_YesNo_answer_of) h0h h0i h0j,
   (fun_mk (st := s_c_YesNo_answer_of) h0h h0i h0j).binds (ps := ["self", "text"]) (fun _ _ _ _ _ _ us hl => match us, hl with | [_, _], _ => rfl),
   fun_mk (st := s_c_YesNo_rank) h0l h0m h0n,
   (fun_mk (st := s_c_YesNo_rank) h0l h0m h0n).binds (ps := ["self", "answer"]) (fun _ _ _ _ _ _ us hl => match us, hl with | [_, _], _ => rfl),
   fun_mk (st := s_c_Pick___init) h0p h0q h0r,
   (fun_mk (st := s_c_Pick___init) h0p h0q h0r).binds (ps := ["self", "words"]) (fun _ _ _ _ _ _ us hl => match us, hl with | [_, _], _ => rfl),
   fun_mk (st := s_c_Pick_fits) h0t h0u h0v,
   (fun_mk (st := s_c_Pick_fits) h0t h0u h0v).binds (ps := ["self", "thing"]) (fun _ _ _ _ _ _ us hl => match us, hl with | [_, _], _ => rfl),
   fun_mk (st := s_c_Pick_answer_of) h0x h0y h0z,
   (fun_mk (st := s_c_Pick_answer_of) h0x h0y h0z).binds (ps := ["self", "text"]) (fun _ _ _ _ _ _ us hl => match us, hl with | [_, _], _ => rfl),
   fun_mk (st := s_c_Pick_rank) h11 h12 h13,
   (fun_mk (st := s_c_Pick_rank) h11 h12 h13).binds (ps := ["self", "answer"]) (fun _ _ _ _ _ _ us hl => match us, hl with | [_, _], _ => rfl),
   (funD_mk (st := s_c_Names___init) h15 h16 h17 h18),
   (funD_mk (st := s_c_Names___init) h15 h16 h17 h18).binds (es := []) (fun T _ _ _ _ _ _ us M A E Q s to n ht hc hd hl hq => match us, hl with | [_, _], _ => BindsTo.of_defaults rfl ht hd rfl rfl M A E Q hq),
   (funD_mk (st := s_c_Is___init) h1a h1b h1c h1d),
   (funD_mk (st := s_c_Is___init) h1a h1b h1c h1d).binds (es := []) (fun T _ _ _ _ _ _ us M A E Q s to n ht hc hd hl hq => match us, hl with | [_, _, _, _], _ => BindsTo.of_defaults rfl ht hd rfl rfl M A E Q hq),
   (funD_mk (st := s_c_Is___init) h1a h1b h1c h1d).binds (fun T _ _ _ _ _ _ us M A E Q s to n ht hc hd hl hq => match us, app_len (m := 3) hl rfl with | [_, _, _], _ => BindsTo.of_defaults rfl ht hd rfl rfl M A E Q hq),
   .cons rfl (.nil),
   fun_mk (st := s_c_Is_shown) h1f h1g h1h,
   (fun_mk (st := s_c_Is_shown) h1f h1g h1h).binds (ps := ["self"]) (fun _ _ _ _ _ _ us hl => match us, hl with | [_], _ => rfl),
   fun_mk (st := s_c_Is_settled) h1j h1k h1l,
   (fun_mk (st := s_c_Is_settled) h1j h1k h1l).binds (ps := ["self", "kinds"]) (fun _ _ _ _ _ _ us hl => match us, hl with | [_, _], _ => rfl),
   fun_mk (st := s_c_Compare___init) h1n h1o h1p,
   (fun_mk (st := s_c_Compare___init) h1n h1o h1p).binds (ps := ["self", "name", "how", "number"]) (fun _ _ _ _ _ _ us hl => match us, hl with | [_, _, _, _], _ => rfl),
   fun_mk (st := s_c_Compare_shown) h1r h1s h1t,
   (fun_mk (st := s_c_Compare_shown) h1r h1s h1t).binds (ps := ["self"]) (fun _ _ _ _ _ _ us hl => match us, hl with | [_], _ => rfl),
   fun_mk (st := s_c_Compare_settled) h1v h1w h1x,
   (fun_mk (st := s_c_Compare_settled) h1v h1w h1x).binds (ps := ["self", "kinds"]) (fun _ _ _ _ _ _ us hl => match us, hl with | [_, _], _ => rfl),
   fun_mk (st := s_c_Not___init) h1z h20 h21,
   (fun_mk (st := s_c_Not___init) h1z h20 h21).binds (ps := ["self", "test"]) (fun _ _ _ _ _ _ us hl => match us, hl with | [_, _], _ => rfl),
   fun_mk (st := s_c_Not_shown) h23 h24 h25,
   (fun_mk (st := s_c_Not_shown) h23 h24 h25).binds (ps := ["self"]) (fun _ _ _ _ _ _ us hl => match us, hl with | [_], _ => rfl),
   fun_mk (st := s_c_Not_settled) h27 h28 h29,
   (fun_mk (st := s_c_Not_settled) h27 h28 h29).binds (ps := ["self", "kinds"]) (fun _ _ _ _ _ _ us hl => match us, hl with | [_, _], _ => rfl),
   fun_mk (st := s_c_Pair___init) h2b h2c h2d,
   (fun_mk (st := s_c_Pair___init) h2b h2c h2d).binds (ps := ["self", "one", "other"]) (fun _ _ _ _ _ _ us hl => match us, hl with | [_, _, _], _ => rfl),
   fun_mk (st := s_c_Pair_shown_with) h2f h2g h2h,
   (fun_mk (st := s_c_Pair_shown_with) h2f h2g h2h).binds (ps := ["self", "word"]) (fun _ _ _ _ _ _ us hl => match us, hl with | [_, _], _ => rfl),
   fun_mk (st := s_c_Both_shown) h2j h2k h2l,
   (fun_mk (st := s_c_Both_shown) h2j h2k h2l).binds (ps := ["self"]) (fun _ _ _ _ _ _ us hl => match us, hl with | [_], _ => rfl),
   fun_mk (st := s_c_Both_settled) h2n h2o h2p,
   (fun_mk (st := s_c_Both_settled) h2n h2o h2p).binds (ps := ["self", "kinds"]) (fun _ _ _ _ _ _ us hl => match us, hl with | [_, _], _ => rfl),
   fun_mk (st := s_c_Either_shown) h2r h2s h2t,
   (fun_mk (st := s_c_Either_shown) h2r h2s h2t).binds (ps := ["self"]) (fun _ _ _ _ _ _ us hl => match us, hl with | [_], _ => rfl),
   fun_mk (st := s_c_Either_settled) h2v h2w h2x,
   (fun_mk (st := s_c_Either_settled) h2v h2w h2x).binds (ps := ["self", "kinds"]) (fun _ _ _ _ _ _ us hl => match us, hl with | [_, _], _ => rfl),
   fun_mk (st := s_law_cell_at) h2z h30 h31,
   (fun_mk (st := s_law_cell_at) h2z h30 h31).binds (ps := ["_law_script", "_law_k"]) (fun _ _ _ _ _ _ us hl => match us, hl with | [_, _], _ => rfl),
   h31,
   W.mg_of X G h2y,
   fun_mk (st := s_law_whole) h33 h34 h35,
   (fun_mk (st := s_law_whole) h33 h34 h35).binds (ps := ["_law_found"]) (fun _ _ _ _ _ _ us hl => match us, hl with | [_], _ => rfl),
   h35,
   W.mg_of X G h32,
   fun_mk (st := s_law_names) h37 h38 h39,
   (fun_mk (st := s_law_names) h37 h38 h39).binds (ps := ["_law_script"]) (fun _ _ _ _ _ _ us hl => match us, hl with | [_], _ => rfl),
   h39,
   W.mg_of X G h36,
   fun_mk (st := s_law_number) h3b h3c h3d,
   (fun_mk (st := s_law_number) h3b h3c h3d).binds (ps := ["_law_cell"]) (fun _ _ _ _ _ _ us hl => match us, hl with | [_], _ => rfl),
   h3d,
   W.mg_of X G h3a,
   fun_mk (st := s_law_words) h3f h3g h3h,
   (fun_mk (st := s_law_words) h3f h3g h3h).binds (ps := ["_law_script", "_law_names_here"]) (fun _ _ _ _ _ _ us hl => match us, hl with | [_, _], _ => rfl),
   h3h,
   W.mg_of X G h3e,
   fun_mk (st := s_law_kind) h3j h3k h3l,
   (fun_mk (st := s_law_kind) h3j h3k h3l).binds (ps := ["_law_cell", "_law_words_here"]) (fun _ _ _ _ _ _ us hl => match us, hl with | [_, _], _ => rfl),
   h3l,
   W.mg_of X G h3i,
   fun_mk (st := s_law_kinds) h3n h3o h3p,
   (fun_mk (st := s_law_kinds) h3n h3o h3p).binds (ps := ["_law_script", "_law_names_here", "_law_words_here"]) (fun _ _ _ _ _ _ us hl => match us, hl with | [_, _, _], _ => rfl),
   h3p,
   W.mg_of X G h3m,
   fun_mk (st := s_law_atom) h3r h3s h3t,
   (fun_mk (st := s_law_atom) h3r h3s h3t).binds (ps := ["_law_cell", "_law_told"]) (fun _ _ _ _ _ _ us hl => match us, hl with | [_, _], _ => rfl),
   h3t,
   W.mg_of X G h3q,
   fun_mk (st := s_law_joined) h3v h3w h3x,
   (fun_mk (st := s_law_joined) h3v h3w h3x).binds (ps := ["_law_stack", "_law_how"]) (fun _ _ _ _ _ _ us hl => match us, hl with | [_, _], _ => rfl),
   h3x,
   W.mg_of X G h3u,
   fun_mk (st := s_law_tree) h3z h40 h41,
   (fun_mk (st := s_law_tree) h3z h40 h41).binds (ps := ["_law_cells", "_law_names_here"]) (fun _ _ _ _ _ _ us hl => match us, hl with | [_, _], _ => rfl),
   h41,
   W.mg_of X G h3y,
   fun_mk (st := s_law_made) h43 h44 h45,
   (fun_mk (st := s_law_made) h43 h44 h45).binds (ps := ["_law_tree_here"]) (fun _ _ _ _ _ _ us hl => match us, hl with | [_], _ => rfl),
   h45,
   W.mg_of X G h42,
   fun_mk (st := s_law_atoms) h47 h48 h49,
   (fun_mk (st := s_law_atoms) h47 h48 h49).binds (ps := ["_law_tree_here"]) (fun _ _ _ _ _ _ us hl => match us, hl with | [_], _ => rfl),
   h49,
   W.mg_of X G h46,
   fun_mk (st := s_law_word) h4b h4c h4d,
   (fun_mk (st := s_law_word) h4b h4c h4d).binds (ps := ["_law_found", "_law_due"]) (fun _ _ _ _ _ _ us hl => match us, hl with | [_, _], _ => rfl),
   h4d,
   W.mg_of X G h4a,
   fun_mk (st := s_law_same) h4f h4g h4h,
   (fun_mk (st := s_law_same) h4f h4g h4h).binds (ps := ["_law_found", "_law_tree_here"]) (fun _ _ _ _ _ _ us hl => match us, hl with | [_, _], _ => rfl),
   h4h,
   W.mg_of X G h4e,
   fun_mk (st := s_law_suits) h4j h4k h4l,
   (fun_mk (st := s_law_suits) h4j h4k h4l).binds (ps := ["_law_atom_here", "_law_kinds_here", "_law_words_here"]) (fun _ _ _ _ _ _ us hl => match us, hl with | [_, _, _], _ => rfl),
   h4l,
   W.mg_of X G h4i,
   fun_mk (st := s_law_place) h4n h4o h4p,
   (fun_mk (st := s_law_place) h4n h4o h4p).binds (ps := ["_law_atom_here", "_law_kinds_here", "_law_words_here"]) (fun _ _ _ _ _ _ us hl => match us, hl with | [_, _, _], _ => rfl),
   h4p,
   W.mg_of X G h4m,
   fun_mk (st := s_law_known) h4r h4s h4t,
   (fun_mk (st := s_law_known) h4r h4s h4t).binds (ps := ["_law_found", "_law_tree_here", "_law_kinds_here", "_law_words_here"]) (fun _ _ _ _ _ _ us hl => match us, hl with | [_, _, _, _], _ => rfl),
   h4t,
   W.mg_of X G h4q,
   fun_mk (st := s_law_wrong) h4v h4w h4x,
   (fun_mk (st := s_law_wrong) h4v h4w h4x).binds (ps := ["_law_saying", "_law_kinds_here", "_law_name"]) (fun _ _ _ _ _ _ us hl => match us, hl with | [_, _, _], _ => rfl),
   h4x,
   W.mg_of X G h4u,
   fun_mk (st := s_law_otherwise) h4z h50 h51,
   (fun_mk (st := s_law_otherwise) h4z h50 h51).binds (ps := ["_law_saying", "_law_tree_here", "_law_kinds_here", "_law_words_here"]) (fun _ _ _ _ _ _ us hl => match us, hl with | [_, _, _, _], _ => rfl),
   h51,
   W.mg_of X G h4y,
   fun_mk (st := s_law) h53 h54 h55,
   W.mg_of X G h52,
   W.mg_of X G h56,
   tabK_mk h57 h58 h59 h5a h5b h5c,
   W.mg_none_of X G h5d,
   W.mg_none_of X G h5e,
   W.mg_none_of X G h5f,
   W.mg_none_of X G h5g,
   W.mg_none_of X G h5h,
   W.mg_none_of X G h5i,
   W.mg_none_of X G h5j,
   W.mg_none_of X G h5k,
   W.mg_none_of X G h5l,
   W.mg_none_of X G h5m,
   L2.kit_ty (by symm),
   L2.kit_ty (by symm),
   L2.kit_ty (by symm),
   L2.kit_ty (by symm),
   L2.kit_ty (by symm),
   W.mg_of X G h5n,
   W.mg_of X G h5o,
   ⟨_, W.mg_of X G h5o, rfl⟩,
   W.mg_of X G h5p,
   ⟨_, W.mg_of X G h5p, rfl⟩,
   W.mg_of X G h5q,
   ⟨_, W.mg_of X G h5q, rfl⟩,
   W.mg_of X G h5r,
   ⟨_, W.mg_of X G h5r, rfl⟩,
   W.mg_of X G h5s,
   W.mg_of X G h5t,
   W.mg_of X G h5u,
   ⟨_, W.mg_of X G h5u, rfl⟩,
   ⟨_, W.mg_of X G h5v, rfl⟩,
   ⟨_, W.mg_of X G h5w, rfl⟩,
   ⟨_, W.mg_of X G h5x, rfl⟩,
   ⟨_, W.mg_of X G h5y, rfl⟩,
   ⟨_, W.mg_of X G h5z, rfl⟩,
   ⟨_, W.mg_of X G h60, rfl⟩,
   ⟨_, W.mg_of X G h61, rfl⟩,
   W.mg_of X G h62,
   ⟨_, W.mg_of X G h62, rfl⟩,
   ⟨_, W.mg_of X G h63, rfl⟩,
   W.mg_of X G h65,
   ⟨_, W.mg_of X G h65, rfl⟩,
   ⟨_, W.mg_of X G h67, rfl⟩,
   ⟨_, W.mg_of X G h68, rfl⟩,
   W.mg_of X G h69,
   ⟨_, W.mg_of X G h69, rfl⟩,
   W.mg_of X G h6a,
   ⟨_, W.mg_of X G h6a, rfl⟩,
   W.mg_of X G h6b,
   ⟨_, W.mg_of X G h6b, rfl⟩,
   ⟨excInI_mk h77 h78 h79 h7a h7b h76 h6c h7c, h7d, h7e, h7f⟩,
   excCls_mk h7h h7i h7g h7j h7k h7l h7m h7n,
   ⟨h7o, h7p, h7q, excMro_mk h77 h79, h7m⟩,
   ⟨h7h, h7i, h7p, h7q, h7n⟩,
   ⟨h7r, h7s, h7t⟩,
   exm_ref h7u h6c h6d h7v,
   xC,
   xC,
   xC,
   xC,
   xC,
   xC,
   yB h6w h6x h7w h7x,
   yB h72 h73 h7y h7z,
   yB h6e h6f h80 h81,
   yB h74 h75 h82 h83,
   yB h6w h6x h84 h85,
   xC,
   yB h6e h6f h86 h87,
   yB h74 h75 h88 h89,
   yB h6w h6x h8a h8b,
   yB h72 h73 h8c h8d,
   yB h6e h6f h8e h8f,
   yB h74 h75 h8g h8h,
   xC,
   yB h72 h73 h8i h8j,
   yB h6e h6f h8k h8l,
   yB h74 h75 h8m h8n,
   yB h6w h6x h8o h8p,
   yB h72 h73 h8q h8r,
   xC,
   xC,
   yB h6i h6j h8s h8t,
   yB h6o h6p h8u h8v,
   yB h6s h6t h8w h8x,
   yB h6u h6v h8y h8z,
   yB h6y h6z h90 h91,
   yB h70 h71 h92 h93,
   yB h6g h6h h94 h95,
   yB h6k h6l h96 h97,
   yB h6m h6n h98 h99,
   yB h6q h6r h9a h9b,
   kit_tyr h74 h75 h9c,
   kit_tyr h6w h6x h9d,
   kit_rty (by symm) h9e,
   ⟨h9f, h9g, h9h, h9i⟩,
   fun _ _ _ _ e => .ins e ⟨h9f, h9g, h9h, h9i⟩ h9j h9k h9l h9m,
   ⟨h9n, h9o, h9p, h9q⟩,
   ⟨h9r, h9s, h1h⟩,
   ⟨h9t, h9u, h1l⟩,
   h9v,
   h9w,
   h9x,
   ⟨h9y, h9z, ha0, ha1⟩,
   fun _ _ _ _ e => .ins e ⟨h9y, h9z, ha0, ha1⟩ ha2 ha3 ha4 ha5,
   ⟨ha6, ha7, ha8, ha9⟩,
   ⟨haa, hab, h1t⟩,
   ⟨hac, had, h1x⟩,
   hae,
   haf,
   hag,
   ⟨hah, hai, haj, hak⟩,
   fun _ _ _ _ e => .ins e ⟨hah, hai, haj, hak⟩ hal ham han hao,
   ⟨hap, haq, har, has⟩,
   ⟨hat, hau, h25⟩,
   ⟨hav, haw, h29⟩,
   hax,
   ⟨hay, haz, hb0, hb1⟩,
   fun _ _ _ _ e => .ins e ⟨hay, haz, hb0, hb1⟩ hb2 hb3 hb4 hb5,
   ⟨hb6, hb7, hb8, hb9⟩,
   ⟨hba, hbb, h2l⟩,
   ⟨hbc, hbd, h2p⟩,
   ⟨hbe, hbf, h2h⟩,
   hbg,
   hbh,
   ⟨hbi, hbj, hbk, hbl⟩,
   fun _ _ _ _ e => .ins e ⟨hbi, hbj, hbk, hbl⟩ hbm hbn hbo hbp,
   ⟨hbq, hbr, hbs, hbt⟩,
   ⟨hbu, hbv, h2t⟩,
   ⟨hbw, hbx, h2x⟩,
   ⟨hby, hbz, h2h⟩,
   hc0,
   hc1,
   ⟨hc2, hc3, hc4, hc5⟩,
   fun _ _ _ _ e => .ins e ⟨hc2, hc3, hc4, hc5⟩ hc6 hc7 hc8 hc9,
   ⟨hca, hcb, hcc, hcd⟩,
   ⟨hce, hcf, h0f⟩,
   ⟨hcg, hch, h0j⟩,
   ⟨hci, hcj, h0n⟩,
   hck,
   hcl,
   ⟨hcm, hcn, hco, hcp⟩,
   fun _ _ _ _ e => .ins e ⟨hcm, hcn, hco, hcp⟩ hcq hcr hcs hct,
   ⟨hcu, hcv, hcw, hcx⟩,
   hcy,
   hcz,
   ⟨hd0, hd1, hd2, hd3⟩,
   fun _ _ _ _ e => .ins e ⟨hd0, hd1, hd2, hd3⟩ hd4 hd5 hd6 hd7,
   ⟨hd8, hd9, hda, hdb⟩,
   hdc,
   hdd,
   ⟨hde, hdf, hdg, hdh⟩,
   fun _ _ _ _ e => .ins e ⟨hde, hdf, hdg, hdh⟩ hdi hdj hdk hdl,
   ⟨hdm, hdn, hdo, hdp⟩,
   ⟨hdq, hdr, h0v⟩,
   ⟨hds, hdt, h0z⟩,
   ⟨hdu, hdv, h13⟩,
   hdw,
   hdx,
   hdy,
   ⟨hdz, he0, he1, he2⟩,
   fun _ _ _ _ e => .ins e ⟨hdz, he0, he1, he2⟩ he3 he4 he5 he6,
   ⟨he7, he8, he9, hea⟩,
   heb,
   hec,
   ⟨hed, hee, hef, h07⟩⟩⟩
theorem walk {l : W.OpenLaw} {q : Program} {loose : List Str} {XP : (Str → Option Value) → Heap → Prop} {YP : World → Heap → Prop} {d : DefRec} {K : Params → W.Frag} (hn : l.most = some 63) (hdf : d.params.defaults = []) (hnm : d.name = "law")
   (hY : ∀ (w : World) (h : Heap), YP w h → (K w.params).In h)
   (F : ∀ (w : World) (mg : Str → Option Value) (h : Heap), (K w.params).In h → h.Ns mainGlobals mg → ∃ A : Adr, Txt (K w.params) mg A) :
   W.WalkO q loose XP YP l.row.toRowW d [] (fun f vs => PySem.call f vs) := by
 refine L2.walk_ofB (n := 63) (k := 60) (x := "_law_script") (CX := fun _ => CX0) (sp := fun w => sp_law (K w.params)) hn (by decide) hdf ⟨rfl, by decide, by decide⟩ hY (fun w mg fa h KX G hmg => ?_) (fun w H a ns hl hb _ hS => ⟨a, ns, rfl, hS, hl, hb, fun _ => rfl⟩) fun _ _ _ _ _ z => z
 obtain ⟨A, T⟩ := F w mg h KX G
 rw [hnm] at hmg
 have e := hmg.symm.trans T.m_law
 cases e
 obtain ⟨oc, od, kV, doc, pm, an, cdv, ct, osl, efd, lk, hcd⟩ := id T.F_law.ex
 exact ⟨A.d_law, fun s v => by rw [efd]; exact .of_eq rfl, fun base _ _ => ok_law T⟩
end K16
open PySem PySem.W PyProof.Rows
set_option maxRecDepth 100000 in
set_option maxHeartbeats 0 in
theorem PySem.Challenge.cw_askpaper_k16_settled_holds : PySem.Challenge.rw_askpaper_k16_settled.Holds := by
 refine PySem.Challenge.hd16 ?_
 k_fill
 refine K16.walk (l := PySem.Challenge.rw_askpaper_k16_settled) rfl rfl rfl (fun w h Y => W.kIn_of Y) ?F
 case F =>
   intro w mg h KX G
   have T : ∃ A : K16.Adr, K16.Txt (L2.KOf KX) mg A := by
     dsimp only [L2.KOf]
     refine' K16.txt_mk KX G ?h5n ?h5o ?h5p ?h5q ?h5r ?h5s ?h5t ?h5u ?h5v ?h5w ?h5x ?h5y ?h5z ?h60 ?h61 ?h62 ?h63 ?h64 ?h65 ?h66 ?h67 ?h68 ?h69 ?h6a ?h6b ?h00 ?h01 ?h02 ?h03 ?h04 ?h05 ?h06 ?h07 ?h08 ?h09 ?h0a ?h0b ?h0c ?h0d ?h0e ?h0f ?h0g ?h0h ?h0i ?h0j ?h0k ?h0l ?h0m ?h0n ?h0o ?h0p ?h0q ?h0r ?h0s ?h0t ?h0u ?h0v ?h0w ?h0x ?h0y ?h0z ?h10 ?h11 ?h12 ?h13 ?h14 ?h15 ?h16 ?h17 ?h18 ?h19 ?h1a ?h1b ?h1c ?h1d ?h1e ?h1f ?h1g ?h1h ?h1i ?h1j ?h1k ?h1l ?h1m ?h1n ?h1o ?h1p ?h1q ?h1r ?h1s ?h1t ?h1u ?h1v ?h1w ?h1x ?h1y ?h1z ?h20 ?h21 ?h22 ?h23 ?h24 ?h25 ?h26 ?h27 ?h28 ?h29 ?h2a ?h2b ?h2c ?h2d ?h2e ?h2f ?h2g ?h2h ?h2i ?h2j ?h2k ?h2l ?h2m ?h2n ?h2o ?h2p ?h2q ?h2r ?h2s ?h2t ?h2u ?h2v ?h2w ?h2x ?h2y ?h2z ?h30 ?h31 ?h32 ?h33 ?h34 ?h35 ?h36 ?h37 ?h38 ?h39 ?h3a ?h3b ?h3c ?h3d ?h3e ?h3f ?h3g ?h3h ?h3i ?h3j ?h3k ?h3l ?h3m ?h3n ?h3o ?h3p ?h3q ?h3r ?h3s ?h3t ?h3u ?h3v ?h3w ?h3x ?h3y ?h3z ?h40 ?h41 ?h42 ?h43 ?h44 ?h45 ?h46 ?h47 ?h48 ?h49 ?h4a ?h4b ?h4c ?h4d ?h4e ?h4f ?h4g ?h4h ?h4i ?h4j ?h4k ?h4l ?h4m ?h4n ?h4o ?h4p ?h4q ?h4r ?h4s ?h4t ?h4u ?h4v ?h4w ?h4x ?h4y ?h4z ?h50 ?h51 ?h52 ?h53 ?h54 ?h55 ?h56 ?h57 ?h58 ?h59 ?h5a ?h5b ?h5c ?h5d ?h5e ?h5f ?h5g ?h5h ?h5i ?h5j ?h5k ?h5l ?h5m ?h6c ?h6d ?h6e ?h6f ?h6g ?h6h ?h6i ?h6j ?h6k ?h6l ?h6m ?h6n ?h6o ?h6p ?h6q ?h6r ?h6s ?h6t ?h6u ?h6v ?h6w ?h6x ?h6y ?h6z ?h70 ?h71 ?h72 ?h73 ?h74 ?h75 ?h76 ?h77 ?h78 ?h79 ?h7a ?h7b ?h7c ?h7d ?h7e ?h7f ?h7g ?h7h ?h7i ?h7j ?h7k ?h7l ?h7m ?h7n ?h7o ?h7p ?h7q ?h7r ?h7s ?h7t ?h7u ?h7v ?h7w ?h7x ?h7y ?h7z ?h80 ?h81 ?h82 ?h83 ?h84 ?h85 ?h86 ?h87 ?h88 ?h89 ?h8a ?h8b ?h8c ?h8d ?h8e ?h8f ?h8g ?h8h ?h8i ?h8j ?h8k ?h8l ?h8m ?h8n ?h8o ?h8p ?h8q ?h8r ?h8s ?h8t ?h8u ?h8v ?h8w ?h8x ?h8y ?h8z ?h90 ?h91 ?h92 ?h93 ?h94 ?h95 ?h96 ?h97 ?h98 ?h99 ?h9a ?h9b ?h9c ?h9d ?h9e ?h9f ?h9g ?h9h ?h9i ?h9j ?h9k ?h9l ?h9m ?h9n ?h9o ?h9p ?h9q ?h9r ?h9s ?h9t ?h9u ?h9v ?h9w ?h9x ?h9y ?h9z ?ha0 ?ha1 ?ha2 ?ha3 ?ha4 ?ha5 ?ha6 ?ha7 ?ha8 ?ha9 ?haa ?hab ?hac ?had ?hae ?haf ?hag ?hah ?hai ?haj ?hak ?hal ?ham ?han ?hao ?hap ?haq ?har ?has ?hat ?hau ?hav ?haw ?hax ?hay ?haz ?hb0 ?hb1 ?hb2 ?hb3 ?hb4 ?hb5 ?hb6 ?hb7 ?hb8 ?hb9 ?hba ?hbb ?hbc ?hbd ?hbe ?hbf ?hbg ?hbh ?hbi ?hbj ?hbk ?hbl ?hbm ?hbn ?hbo ?hbp ?hbq ?hbr ?hbs ?hbt ?hbu ?hbv ?hbw ?hbx ?hby ?hbz ?hc0 ?hc1 ?hc2 ?hc3 ?hc4 ?hc5 ?hc6 ?hc7 ?hc8 ?hc9 ?hca ?hcb ?hcc ?hcd ?hce ?hcf ?hcg ?hch ?hci ?hcj ?hck ?hcl ?hcm ?hcn ?hco ?hcp ?hcq ?hcr ?hcs ?hct ?hcu ?hcv ?hcw ?hcx ?hcy ?hcz ?hd0 ?hd1 ?hd2 ?hd3 ?hd4 ?hd5 ?hd6 ?hd7 ?hd8 ?hd9 ?hda ?hdb ?hdc ?hdd ?hde ?hdf ?hdg ?hdh ?hdi ?hdj ?hdk ?hdl ?hdm ?hdn ?hdo ?hdp ?hdq ?hdr ?hds ?hdt ?hdu ?hdv ?hdw ?hdx ?hdy ?hdz ?he0 ?he1 ?he2 ?he3 ?he4 ?he5 ?he6 ?he7 ?he8 ?he9 ?hea ?heb ?hec ?hed ?hee ?hef
     (case h5n|h5o|h5p|h5q|h5r|h5s|h5t|h5u|h5v|h5w|h5x|h5y|h5z|h60|h61|h62|h63|h64|h65|h66|h67|h68|h69|h6a|h6b|h00|h01|h02|h03|h04|h05|h06|h07|h08|h09|h0a|h0b|h0c|h0d|h0e|h0f|h0g|h0h|h0i|h0j|h0k|h0l|h0m|h0n|h0o|h0p|h0q|h0r|h0s|h0t|h0u|h0v|h0w|h0x|h0y|h0z|h10|h11|h12|h13|h14|h15|h16|h17|h18|h19|h1a|h1b|h1c|h1d|h1e|h1f|h1g|h1h|h1i|h1j|h1k|h1l|h1m|h1n|h1o|h1p|h1q|h1r|h1s|h1t|h1u|h1v|h1w|h1x|h1y|h1z|h20|h21|h22|h23|h24|h25|h26|h27|h28|h29|h2a|h2b|h2c|h2d|h2e|h2f|h2g|h2h|h2i|h2j|h2k|h2l|h2m|h2n|h2o|h2p|h2q|h2r|h2s|h2t|h2u|h2v|h2w|h2x|h2y|h2z|h30|h31|h32|h33|h34|h35|h36|h37|h38|h39|h3a|h3b|h3c|h3d|h3e|h3f|h3g|h3h|h3i|h3j|h3k|h3l|h3m|h3n|h3o|h3p|h3q|h3r|h3s|h3t|h3u|h3v|h3w|h3x|h3y|h3z|h40|h41|h42|h43|h44|h45|h46|h47|h48|h49|h4a|h4b|h4c|h4d|h4e|h4f|h4g|h4h|h4i|h4j|h4k|h4l|h4m|h4n|h4o|h4p|h4q|h4r|h4s|h4t|h4u|h4v|h4w|h4x|h4y|h4z|h50|h51|h52|h53|h54|h55|h56|h57 => k_is)
     (case h58 => rfl)
     (case h59 => rfl)
     (case h5a => rfl)
     (case h5b => rfl)
     (case h5c => exact .cons rfl rfl (.cons rfl rfl (.nil)))
     (case h5d|h5e|h5f|h5g|h5h|h5i|h5j|h5k|h5l|h5m|h6c|h6d|h6e|h6f|h6g|h6h|h6i|h6j|h6k|h6l|h6m|h6n|h6o|h6p|h6q|h6r|h6s|h6t|h6u|h6v|h6w|h6x|h6y|h6z|h70|h71|h72|h73|h74|h75 => k_is)
     (case h76 => k_exc)
     (case h77 => k_is)
     (case h78 => rfl)
     (case h79 => rfl)
     (case h7a => exact ⟨rfl, rfl⟩)
     (case h7b => rfl)
     (case h7c => rfl)
     (case h7d|h7e|h7f|h7g|h7h|h7i|h7j|h7k|h7l|h7m|h7n|h7o|h7p|h7q|h7r|h7s|h7t|h7u|h7v|h7w => k_is)
     (case h7x => rfl)
     (case h7y => k_is)
     (case h7z => rfl)
     (case h80 => k_is)
     (case h81 => rfl)
     (case h82 => k_is)
     (case h83 => rfl)
     (case h84 => k_is)
     (case h85 => rfl)
     (case h86 => k_is)
     (case h87 => rfl)
     (case h88 => k_is)
     (case h89 => rfl)
     (case h8a => k_is)
     (case h8b => rfl)
     (case h8c => k_is)
     (case h8d => rfl)
     (case h8e => k_is)
     (case h8f => rfl)
     (case h8g => k_is)
     (case h8h => rfl)
     (case h8i => k_is)
     (case h8j => rfl)
     (case h8k => k_is)
     (case h8l => rfl)
     (case h8m => k_is)
     (case h8n => rfl)
     (case h8o => k_is)
     (case h8p => rfl)
     (case h8q => k_is)
     (case h8r => rfl)
     (case h8s => k_is)
     (case h8t => rfl)
     (case h8u => k_is)
     (case h8v => rfl)
     (case h8w => k_is)
     (case h8x => rfl)
     (case h8y => k_is)
     (case h8z => rfl)
     (case h90 => k_is)
     (case h91 => rfl)
     (case h92 => k_is)
     (case h93 => rfl)
     (case h94 => k_is)
     (case h95 => rfl)
     (case h96 => k_is)
     (case h97 => rfl)
     (case h98 => k_is)
     (case h99 => rfl)
     (case h9a => k_is)
     (case h9b => rfl)
     (case h9c|h9d|h9e|h9f|h9g|h9h|h9i|h9j|h9k|h9l|h9m|h9n|h9o|h9p|h9q|h9r|h9s|h9t|h9u|h9v|h9w|h9x|h9y|h9z|ha0|ha1|ha2|ha3|ha4|ha5|ha6|ha7|ha8|ha9|haa|hab|hac|had|hae|haf|hag|hah|hai|haj|hak|hal|ham|han|hao|hap|haq|har|has|hat|hau|hav|haw|hax|hay|haz|hb0|hb1|hb2|hb3|hb4|hb5|hb6|hb7|hb8|hb9|hba|hbb|hbc|hbd|hbe|hbf|hbg|hbh|hbi|hbj|hbk|hbl|hbm|hbn|hbo|hbp|hbq|hbr|hbs|hbt|hbu|hbv|hbw|hbx|hby|hbz|hc0|hc1|hc2|hc3|hc4|hc5|hc6|hc7|hc8|hc9|hca|hcb|hcc|hcd|hce|hcf|hcg|hch|hci|hcj|hck|hcl|hcm|hcn|hco|hcp|hcq|hcr|hcs|hct|hcu|hcv|hcw|hcx|hcy|hcz|hd0|hd1|hd2|hd3|hd4|hd5|hd6|hd7|hd8|hd9|hda|hdb|hdc|hdd|hde|hdf|hdg|hdh|hdi|hdj|hdk|hdl|hdm|hdn|hdo|hdp|hdq|hdr|hds|hdt|hdu|hdv|hdw|hdx|hdy|hdz|he0|he1|he2|he3|he4|he5|he6|he7|he8|he9|hea|heb|hec|hed|hee|hef => k_is)
   exact T
